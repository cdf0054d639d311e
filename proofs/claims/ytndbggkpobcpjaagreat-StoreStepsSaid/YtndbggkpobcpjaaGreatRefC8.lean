/- A row at a place, and all rows, told by the reference: each with room for itself. -/
import Derived.Test.YtndbggkpobcpjaaGreatRefAll
namespace Go.Proofs.YtndbggkpobcpjaaGreat
open Go.RowKit Mem Be
set_option maxRecDepth 100000
set_option maxHeartbeats 4000000
set_option linter.unusedVariables false
def AtRowC (B : Nat) (r : List UInt8 × Nat × Int) (at_ : Nat) (w : World) (e : Ending) (w' : World) : Prop :=
  ∃ A c, e = .returned (.tuple #[.slice A r.1.length c, .int .i64 ((at_ + r.2.1 : Nat) : Int), .int .i64 r.2.2]) ∧ Row w B A (r.1.map byteV) ∧ r.1.length ≤ c ∧ w = w'
theorem atrowC_nil {B : Nat} {r : List UInt8 × Nat × Int} {k : Nat} {e : Int} (hr : r = ([], k, e)) {at_ : Nat} {k' : Int} (h2 : k' = ((at_ + k : Nat) : Int)) (w : World) :
    AtRowC B r at_ w (.returned (.tuple #[.slice none 0 0, .int .i64 k', .int .i64 e])) w := by
  subst hr
  exact ⟨none, 0, by rw [h2]; rfl, Row.nil _ _ _, Nat.le_refl _, rfl⟩
def Rows2C (r : List (List UInt8) × Int) (w : World) (e : Ending) (w' : World) : Prop :=
  ∃ (A : Option Addr) (c : Nat) (rs : List RowV), e = .returned (.tuple #[.slice A rs.length c, .int .i64 r.2]) ∧ rs.map (fun x => x.2.1) = r.1 ∧ w'.ownsRow w.heap.size 27 1 (.slice A rs.length c) rs.length (rs.map rowV) ∧ Below w.heap.size w w' ∧
    (∀ x ∈ rs, Row w' w'.heap.size x.1 (x.2.1.map byteV)) ∧ ∀ x ∈ rs, x.2.1.length ≤ x.2.2
theorem rowsC_of {r : List (List UInt8) × Int} {rs : List RowV} {e : Int} (hr : (rs.map (fun x => x.2.1), e) = r) {w w1 : World} {v : Value} {n : Nat} {B : Nat} (hB : w.heap.size ≤ B) (ho : w1.ownsRow B 27 1 v n (rs.map rowV)) (hb : Below w.heap.size w w1)
    (hx : ∀ x ∈ rs, Row w1 w1.heap.size x.1 (x.2.1.map byteV)) (hc : ∀ x ∈ rs, x.2.1.length ≤ x.2.2) : Rows2C r w (.returned (.tuple #[v, .int .i64 e])) w1 := by
  have hn : n = rs.length := by have := ho.1; simp at this; exact this.symm
  subst hn
  rcases ho.2 with ⟨e1, hn⟩ | ⟨g, cap, cur, e1, hg, rest⟩
  · have : rs = [] := List.eq_nil_of_length_eq_zero hn
    subst this
    subst hr
    subst e1
    exact ⟨none, 0, [], rfl, rfl, World.ownsRow_nil _ _ _ _, hb, by simp, by simp⟩
  · subst hr
    subst e1
    exact ⟨_, cap, rs, rfl, rfl, ⟨ho.1, Or.inr ⟨g, cap, cur, rfl, by omega, rest⟩⟩, hb, hx, hc⟩
set_option maxRecDepth 100000 in
theorem refgetrowC_any (B c n at_ : Nat) (A : Option Addr) (bs : List UInt8) (w : World) (h : Row w B A (bs.map byteV)) (hn : n = bs.length) (hl : n ≤ 1073741824) (hc : n ≤ c) (ha : at_ ≤ n) :
    Calls Tryz.prog 112 #[.slice A n c, .int .i64 at_] w (AtRowC B (getR (bs.drop at_)) at_ w) := by
  have HR := Lib.hid h
  have HNN := Lib.hid hn
  have he := getB_err 65537 (bs.drop at_)
  have hen := getN_err (bs.drop at_)
  obtain ⟨x, k, e, hg⟩ : ∃ x k e, getN (bs.drop at_) = (x, k, e) := ⟨_, _, _, rfl⟩
  have hdef : getR (bs.drop at_) = if ¬ e = 0 then ([], 0, e) else if x < 0 ∨ 65537 ≤ x then ([], 0, 11) else if ((bs.drop at_).length : Int) - k < x then ([], 0, 12) else (((bs.drop at_).drop k).take x.toNat, k + x.toNat, 0) := by
    unfold getR; rw [hg]
  have hdl : (bs.drop at_).length = n - at_ := by rw [List.length_drop, hn]
  rw [hdl] at hdef
  rw [hg, hdl] at hen
  have HC : Hid (Calls Tryz.prog 130 #[.slice A n c, .int .i64 at_] w (At3 (x, k, e) at_ w)) := Lib.hid (by rw [← hg]; exact refget_any B c n at_ A bs w h hn hl)
  simp only at hen
  clear h hg hn hdl he
  by_cases h0 : e = 0
  · subst h0
    rw [if_neg (by simp)] at hdef
    obtain ⟨b1, b2⟩ : 1 ≤ k ∧ k ≤ n - at_ := by rcases hen with ⟨_, h1, h2⟩ | ⟨_, _, h⟩ <;> omega
    clear hen
    by_cases hx : x < 0
    · rw [if_pos (Or.inl hx)] at hdef
      have HX := Lib.hid hdef
      clear hdef
      go_enter Tryz.func112, Tryz.ntmps112
      go_wp2_with (go_at_call 130; refine HC.out.mono ?_; rintro e w' ⟨rfl, rfl⟩; unfold three)
      go_ret3
      exact atrowC_nil HX.out (by omega) w
    by_cases hx2 : 65537 ≤ x
    · rw [if_pos (Or.inr hx2)] at hdef
      have HX := Lib.hid hdef
      have hx3 : 65536 < x := by omega
      clear hdef hx2
      go_enter Tryz.func112, Tryz.ntmps112
      go_wp2_with (go_at_call 130; refine HC.out.mono ?_; rintro e w' ⟨rfl, rfl⟩; unfold three)
      go_ret3
      exact atrowC_nil HX.out (by omega) w
    have hx3 : ¬ 65536 < x := by omega
    have hx0 : 0 ≤ x := by omega
    rw [if_neg (by omega)] at hdef
    have hnl : (n : Int) ≤ 1073741824 := by omega
    have hs : ((n - at_ : Nat) : Int) - k = (n : Int) - (at_ + k : Nat) := by omega
    rw [hs] at hdef
    by_cases h2 : (n : Int) - (at_ + k : Nat) < x
    · rw [if_pos h2] at hdef
      have HX := Lib.hid hdef
      have h2' : (n : Int) - ((at_ : Int) + (k : Int)) < x := by omega
      clear hdef hx2 hs h2
      go_enter Tryz.func112, Tryz.ntmps112
      go_wp2_with (go_at_call 130; refine HC.out.mono ?_; rintro e w' ⟨rfl, rfl⟩; unfold three)
      go_ret3
      exact atrowC_nil HX.out (by omega) w
    · rw [if_neg h2] at hdef
      have hxx := Int.toNat_of_nonneg hx0
      obtain ⟨m, hm'⟩ : ∃ m, x.toNat = m := ⟨_, rfl⟩
      rw [hm'] at hxx hdef
      subst hxx
      obtain ⟨to, hto⟩ : ∃ to, at_ + k = to := ⟨_, rfl⟩
      rw [hto] at h2
      obtain ⟨ys, hys⟩ : ∃ ys, ((bs.drop at_).drop k).take m = ys := ⟨_, rfl⟩
      rw [hys] at hdef
      have HX := Lib.hid hdef
      have hle : to + m ≤ n := by omega
      have hle2 : (m : Int) ≤ (n : Int) - (to : Int) := by omega
      have hcut := fun W => run_cut_lh (P := Tryz.prog) (w := W) 27 5 _ _ Tryz.underlying27 info_b A n c to (to + m) (by omega) (by omega)
      rw [Nat.add_sub_cancel_left, Int.natCast_add] at hcut
      have HY : Hid (Row w B (cutA A to c) (ys.map byteV)) := Lib.hid (by
        rw [← hys, List.drop_drop, hto]
        have := take_row (cut_row HR.out to c (by rw [List.length_map, ← HNN.out]; exact hc)) m
        rw [List.map_take, List.map_drop]; exact this)
      have HL : Hid (ys.length = m) := Lib.hid (by rw [← hys, List.length_take, List.length_drop, List.length_drop, ← HNN.out]; omega)
      have HTO := Lib.hid hto
      have HC2 : Hid (Calls Tryz.prog 130 #[.slice A n c, .int .i64 at_] w (fun e w' => e = three (m : Int) (to : Int) 0 ∧ w = w')) := Lib.hid (HC.out.mono fun _ _ ⟨h1, h2⟩ => ⟨by rw [h1, ← hto], h2⟩)
      have hmx : (m : Int) ≤ 65536 := by omega
      have HCP : Hid (m ≤ c - to) := Lib.hid (by omega)
      clear hdef hx2 hs h2 hx hx0 hx3 hm' hys hto HC hle
      go_enter Tryz.func112, Tryz.ntmps112
      go_wp2_with (go_at_call 130; refine HC2.out.mono ?_; rintro e w' ⟨rfl, rfl⟩; unfold three)
      go_ret3
      rw [HX.out]
      refine ⟨cutA A to c, c - to, ?_, HY.out, (by rw [HL.out]; exact HCP.out), rfl⟩
      have e1 : ((at_ + (k + m) : Nat) : Int) = (to : Int) + (m : Int) := by have := HTO.out; omega
      simp only [HL.out, e1]
      rfl
  · rw [if_pos h0] at hdef
    have HX := Lib.hid hdef
    have hne : (e != 0) = true := by simpa using h0
    have hk0 : k = 0 := by omega
    subst hk0
    clear hdef hen h0
    go_enter Tryz.func112, Tryz.ntmps112
    go_wp2_with (go_at_call 130; refine HC.out.mono ?_; rintro e w' ⟨rfl, rfl⟩; unfold three)
    go_ret3
    exact atrowC_nil HX.out (by omega) w
theorem refrowsC_any (B c n : Nat) (A : Option Addr) (bs : List UInt8) (hn : n = bs.length) (w : World) (h : Row w B A (bs.map byteV)) (hB : B ≤ w.heap.size) (hl : n ≤ 1000000) (hc : n ≤ c) :
    Calls Tryz.prog 83 #[.slice A n c] w (Rows2C (allA getR bs) w) := by
  obtain ⟨i0, hi0, hz0, hz1, hz2⟩ := info_parts info_s
  have HR := Lib.hid h
  have HN := Lib.hid hn
  have HL := Lib.hid hl
  have HCC := Lib.hid hc
  have hnl : (n : Int) ≤ 1000000 := by omega
  clear h hn hc
  go_enter Tryz.func83, Tryz.ntmps83
  go_wp2
  go_loopw [4, 5] (fun v i wr => ∃ (k : Nat) (acc : List RowV), k ≤ n ∧ acc.length ≤ k ∧ i = .int .i64 k ∧ Hid (join (acc.map (fun x => x.2.1)) (allA getR (bs.drop k)) = allA getR bs) ∧ wr.ownsRow w.heap.size 27 1 v acc.length (acc.map rowV) ∧ Below w.heap.size w wr ∧ Hid (∀ x ∈ acc, Row wr B x.1 (x.2.1.map byteV)) ∧ Hid (∀ x ∈ acc, x.2.1.length ≤ x.2.2)) (fun _ i _ => n - (intOf i).toNat)
  case atStart => exact ⟨0, [], by omega, by simp, rfl, Lib.hid (by rw [List.drop_zero]; exact (join_start good_row bs).symm), World.ownsRow_nil _ _ _ _, Below.refl _ _, Lib.hid (by simp), Lib.hid (by simp)⟩
  case round =>
    obtain ⟨k, acc, hk, ha, rfl, HJ, hown, hbl, HX, HCA⟩ := hrel
    have HO := Lib.hid hown
    have HB := Lib.hid hbl
    have HA := Lib.hid ha
    clear hown hbl ha
    by_cases hlt : k < n
    · have hlen : (bs.drop k).length ≠ 0 := by rw [List.length_drop, ← HN.out]; omega
      have he := getR_err (bs.drop k)
      have hj := join_step good_row (acc.map (fun x => x.2.1)) (bs.drop k) hlen
      have hj2 := join_err (get := getR) (acc.map (fun x => x.2.1)) (bs.drop k) hlen
      rw [List.drop_drop] at hj
      obtain ⟨ys, k2, er, hg⟩ : ∃ x k2 er, getR (bs.drop k) = (x, k2, er) := ⟨_, _, _, rfl⟩
      have hdl : (bs.drop k).length = n - k := by rw [List.length_drop, HN.out]
      rw [hg] at he hj hj2
      rw [hdl] at he
      simp only at he hj hj2
      have HC : Hid (∀ wr, Below w.heap.size w wr → Calls Tryz.prog 112 #[.slice A n c, .int .i64 k] wr (AtRowC B (ys, k2, er) k wr)) := Lib.hid (fun wr hb => by
        rw [← hg]; exact refgetrowC_any B c n k A bs wr (HR.out.below (hb.mono hB)) HN.out (by have := HL.out; omega) HCC.out hk)
      by_cases h0 : er = 0
      · subst h0
        have HJ2 : Hid (join (acc.map (fun x => x.2.1) ++ [ys]) (allA getR (bs.drop (k + k2))) = allA getR bs) := Lib.hid (by rw [← hj rfl]; exact HJ.out)
        obtain ⟨b1, b2⟩ : 1 ≤ k2 ∧ k2 ≤ n - k := by rcases he with ⟨_, h1, h2⟩ | ⟨_, _, h⟩ <;> omega
        clear hj hj2 he hg hlen hdl
        go_wp2_with fail
        refine (HC.out _ HB.out).mono ?_
        rintro e w' ⟨A2, c2, rfl, hry, hcy, rfl⟩
        have HY := Lib.hid hry
        have HCA1 : Hid (∀ x ∈ acc ++ [(A2, ys, c2)], x.2.1.length ≤ x.2.2) := Lib.hid (by
          intro x hx
          rcases List.mem_append.1 hx with hx | hx
          · exact HCA.out x hx
          · simp only [List.mem_singleton] at hx
            subst hx
            exact hcy)
        clear hry hcy
        go_wp2_with (at_builtin; refine wpList_app _ rfl _ _ 107 rfl w.heap.size 27 i0 (.slice none 0 0) 24 Tryz.underlying107 hi0 hz0 hz1 hz2 rfl _ _ _ rfl (HO.out.alloc _) (wr.heap.size + 1) _ 1 1 [.slice A2 ys.length c2] rfl rfl (row_one wr _ _) (one_oneR (A2, ys, c2)) (by have := HA.out; unfold maxLen; omega) (by have := HA.out; omega) (by have := HB.out.size; simp; omega) ?_)
        intro v' w1 hown hgr _
        have HO1 : Hid (w1.ownsRow w.heap.size 27 1 v' (acc ++ [(A2, ys, c2)]).length ((acc ++ [(A2, ys, c2)]).map rowV)) := Lib.hid (by rw [List.map_append, List.length_append]; exact hown)
        have HB1 : Hid (Below w.heap.size w w1) := Lib.hid ((HB.out.alloc HB.out.size _).grown hgr (by have := HB.out.size; simp; omega) fun g hg => (HO.out.lt g hg).1)
        have HA1 : Hid ((acc ++ [(A2, ys, c2)]).length ≤ k + k2) := Lib.hid (by rw [List.length_append]; have := HA.out; simp; omega)
        have HX1 : Hid (∀ x ∈ acc ++ [(A2, ys, c2)], Row w1 B x.1 (x.2.1.map byteV)) := Lib.hid (by
          have hs := HB.out.size
          have keep : ∀ A' xs, Row wr B A' xs → Row w1 B A' xs := fun A' xs hr => (hr.alloc (by omega) _).grownBy hgr (by simp; omega) fun g hg => by have := (HO.out.lt g hg).1; omega
          intro x hx
          rcases List.mem_append.1 hx with hx | hx
          · exact keep _ _ (HX.out x hx)
          · simp only [List.mem_singleton] at hx
            subst hx
            exact keep _ _ HY.out)
        have HJ3 : Hid (join ((acc ++ [(A2, ys, c2)]).map (fun x => x.2.1)) (allA getR (bs.drop (k + k2))) = allA getR bs) := Lib.hid (by rw [List.map_append]; exact HJ2.out)
        clear hown hgr
        go_wp2
        go_roundw
        case rel => exact ⟨k + k2, acc ++ [(A2, ys, c2)], by omega, HA1.out, by go_num, HJ3, HO1.out, HB1.out, HX1, HCA1⟩
        case measure => simp [intOf]; omega
      · have HXX : Hid (([], er) = allA getR bs) := Lib.hid (by rw [← HJ.out]; exact (hj2 h0).symm)
        have hne : (er != 0) = true := by simpa using h0
        clear hj hj2 he hg hlen hdl h0
        go_wp2_with (go_at_call 112; refine (HC.out _ HB.out).mono ?_; rintro e w' ⟨A2, c2, rfl, _, _, rfl⟩)
        go_ret2
        exact rowsC_of (rs := []) HXX.out (Nat.le_refl _) (World.ownsRow_nil _ _ _ _) HB.out (by simp) (by simp)
    · have HXX : Hid ((acc.map (fun x => x.2.1), 0) = allA getR bs) := Lib.hid (by rw [← HJ.out]; exact (join_end _ _ (by rw [List.length_drop, ← HN.out]; omega)).symm)
      have HX3 : Hid (∀ x ∈ acc, Row wr wr.heap.size x.1 (x.2.1.map byteV)) := Lib.hid (fun x hx => (HX.out x hx).more (Nat.le_trans hB HB.out.size))
      go_wp2
      go_ret2
      exact rowsC_of HXX.out (Nat.le_refl _) HO.out HB.out HX3.out HCA.out
end Go.Proofs.YtndbggkpobcpjaaGreat
