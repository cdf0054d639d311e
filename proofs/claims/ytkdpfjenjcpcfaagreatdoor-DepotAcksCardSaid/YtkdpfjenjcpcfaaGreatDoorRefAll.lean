/- All numbers, and all rows, that bytes are, by the document; whether two lists of numbers, or of rows, are the same. -/
import Derived.Test.YtkdpfjenjcpcfaaGreatDoorPk
import Derived.Test.YtkdpfjenjcpcfaaGreatDoorSeq
import Derived.Test.YtkdpfjenjcpcfaaGreatDoorSames
namespace Go.Proofs.YtkdpfjenjcpcfaaGreatDoor
open Go.RowKit Mem Be
set_option maxRecDepth 10000
set_option maxHeartbeats 1000000
theorem info_i : (Tryz.prog.info? 3).map (fun i => (i.zero, i.size, i.bytes)) = some (some (.int .i64 0), 1, 8) := by kernel_rfl
theorem info_s : (Tryz.prog.info? 27).map (fun i => (i.zero, i.size, i.bytes)) = some (some (.slice none 0 0), 1, 24) := by kernel_rfl
theorem good_row : Be.Good getR := fun bs he => by
  rcases getR_err bs with ⟨_, h1, h2⟩ | ⟨_, _, h⟩
  · exact ⟨h1, h2⟩
  · omega
/-- Numbers in new memory, and what is wrong. -/
def Ints (r : List Int × Int) (w : World) (e : Ending) (w' : World) : Prop :=
  ∃ A c, e = .returned (.tuple #[.slice A r.1.length c, .int .i64 r.2]) ∧ w'.ownsRow w.heap.size 3 1 (.slice A r.1.length c) r.1.length (r.1.map iV) ∧ Below w.heap.size w w'
theorem ints_of {r : List Int × Int} {acc : List Int} {e : Int} (hr : (acc, e) = r) {w w1 : World} {v : Value} {n : Nat} (ho : w1.ownsRow w.heap.size 3 1 v n (acc.map iV)) (hb : Below w.heap.size w w1) :
    Ints r w (.returned (.tuple #[v, .int .i64 e])) w1 := by
  subst hr
  have hn : n = acc.length := by have := ho.1; simp at this; exact this.symm
  subst hn
  rcases ho.2 with ⟨rfl, hn⟩ | ⟨g, cap, cur, rfl, _⟩
  · refine ⟨none, 0, by simp only [hn], ?_, hb⟩
    simp only
    rw [hn] at ho ⊢
    exact ho
  · exact ⟨_, cap, rfl, ho, hb⟩
theorem one_oneI (x : Int) : ∀ u ∈ [iV x], u.oneCell' = true := by intro u hu; simp at hu; subst hu; rfl
theorem row_one (w : World) (t : TypeId) (v : Value) : Row (w.alloc (.cells #[v] t)) (w.heap.size + 1) (some ⟨w.heap.size, 0, none⟩) [v] := by
  refine Or.inr ⟨w.heap.size, 0, rfl, by omega, fun j hj => ?_⟩
  have := cell_of_row (w.alloc (.cells #[v] t)) w.heap.size j #[v] t (0, 0) (heap_alloc_new w _)
  rw [Nat.zero_add, this]
  have : j = 0 := by simpa using hj
  subst this
  rfl
/-- Rows of bytes in a new list, and what is wrong; each row lies below the heap's end. -/
def Rows2 (r : List (List UInt8) × Int) (w : World) (e : Ending) (w' : World) : Prop :=
  ∃ (A : Option Addr) (c : Nat) (rs : List RowV), e = .returned (.tuple #[.slice A rs.length c, .int .i64 r.2]) ∧ rs.map (fun x => x.2.1) = r.1 ∧ w'.ownsRow w.heap.size 27 1 (.slice A rs.length c) rs.length (rs.map rowV) ∧ Below w.heap.size w w' ∧
    ∀ x ∈ rs, Row w' w'.heap.size x.1 (x.2.1.map byteV)
theorem rows_of {r : List (List UInt8) × Int} {rs : List RowV} {e : Int} (hr : (rs.map (fun x => x.2.1), e) = r) {w w1 : World} {v : Value} {n : Nat} {B : Nat} (hB : w.heap.size ≤ B) (ho : w1.ownsRow B 27 1 v n (rs.map rowV)) (hb : Below w.heap.size w w1)
    (hx : ∀ x ∈ rs, Row w1 w1.heap.size x.1 (x.2.1.map byteV)) : Rows2 r w (.returned (.tuple #[v, .int .i64 e])) w1 := by
  subst hr
  have hn : n = rs.length := by have := ho.1; simp at this; exact this.symm
  subst hn
  rcases ho.2 with ⟨rfl, hn⟩ | ⟨g, cap, cur, rfl, hg, rest⟩
  · have : rs = [] := List.eq_nil_of_length_eq_zero hn
    subst this
    exact ⟨none, 0, [], rfl, rfl, World.ownsRow_nil _ _ _ _, hb, by simp⟩
  · exact ⟨_, cap, rs, rfl, rfl, ⟨ho.1, Or.inr ⟨g, cap, cur, rfl, by omega, rest⟩⟩, hb, hx⟩
theorem one_oneR (x : RowV) : ∀ u ∈ [rowV x], u.oneCell' = true := by intro u hu; simp at hu; subst hu; rfl
theorem refrows_any (B c n : Nat) (A : Option Addr) (bs : List UInt8) (hn : n = bs.length) (w : World) (h : Row w B A (bs.map byteV)) (hB : B ≤ w.heap.size) (hl : n ≤ 1000000) (hc : n ≤ c) :
    Calls Tryz.prog 104 #[.slice A n c] w (Rows2 (allA getR bs) w) := by
  obtain ⟨i0, hi0, hz0, hz1, hz2⟩ := info_parts info_s
  have HR := Lib.hid h
  have HN := Lib.hid hn
  have HL := Lib.hid hl
  have HCC := Lib.hid hc
  have hnl : (n : Int) ≤ 1000000 := by omega
  clear h hn hc
  go_enter Tryz.func104, Tryz.ntmps104
  go_wp2
  go_loopw [4, 5] (fun v i wr => ∃ (k : Nat) (acc : List RowV), k ≤ n ∧ acc.length ≤ k ∧ i = .int .i64 k ∧ Hid (join (acc.map (fun x => x.2.1)) (allA getR (bs.drop k)) = allA getR bs) ∧ wr.ownsRow w.heap.size 27 1 v acc.length (acc.map rowV) ∧ Below w.heap.size w wr ∧ Hid (∀ x ∈ acc, Row wr B x.1 (x.2.1.map byteV))) (fun _ i _ => n - (intOf i).toNat)
  case atStart => exact ⟨0, [], by omega, by simp, rfl, Lib.hid (by rw [List.drop_zero]; exact (join_start good_row bs).symm), World.ownsRow_nil _ _ _ _, Below.refl _ _, Lib.hid (by simp)⟩
  case round =>
    obtain ⟨k, acc, hk, ha, rfl, HJ, hown, hbl, HX⟩ := hrel
    have HO := Lib.hid hown
    have HB := Lib.hid hbl
    have HA := Lib.hid ha
    clear hown hbl ha
    by_cases hlt : k < n
    · have hlen : (bs.drop k).length ≠ 0 := by rw [List.length_drop, ← HN.out]; omega
      have he := getR_err (bs.drop k)
      have hj := join_step good_row (acc.map (fun x => x.2.1)) (bs.drop k) hlen
      have hj2 := join_err (get := getR) (acc.map (fun x => x.2.1)) (bs.drop k) hlen
      rw [List.drop_drop] at hj
      obtain ⟨ys, k2, er, hg⟩ : ∃ x k2 er, getR (bs.drop k) = (x, k2, er) := ⟨_, _, _, rfl⟩
      have hdl : (bs.drop k).length = n - k := by rw [List.length_drop, HN.out]
      rw [hg] at he hj hj2
      rw [hdl] at he
      simp only at he hj hj2
      have HC : Hid (∀ wr, Below w.heap.size w wr → Calls Tryz.prog 134 #[.slice A n c, .int .i64 k] wr (AtRow B (ys, k2, er) k wr)) := Lib.hid (fun wr hb => by
        rw [← hg]; exact refgetrow_any B c n k A bs wr (HR.out.below (hb.mono hB)) HN.out (by have := HL.out; omega) HCC.out hk)
      by_cases h0 : er = 0
      · subst h0
        have HJ2 : Hid (join (acc.map (fun x => x.2.1) ++ [ys]) (allA getR (bs.drop (k + k2))) = allA getR bs) := Lib.hid (by rw [← hj rfl]; exact HJ.out)
        obtain ⟨b1, b2⟩ : 1 ≤ k2 ∧ k2 ≤ n - k := by rcases he with ⟨_, h1, h2⟩ | ⟨_, _, h⟩ <;> omega
        clear hj hj2 he hg hlen hdl
        go_wp2_with fail
        refine (HC.out _ HB.out).mono ?_
        rintro e w' ⟨A2, c2, rfl, hry, rfl⟩
        have HY := Lib.hid hry
        clear hry
        go_wp2_with (at_builtin; refine wpList_app _ rfl _ _ 147 rfl w.heap.size 27 i0 (.slice none 0 0) 24 Tryz.underlying147 hi0 hz0 hz1 hz2 rfl _ _ _ rfl (HO.out.alloc _) (wr.heap.size + 1) _ 1 1 [.slice A2 ys.length c2] rfl rfl (row_one wr _ _) (one_oneR (A2, ys, c2)) (by have := HA.out; unfold maxLen; omega) (by have := HA.out; omega) (by have := HB.out.size; simp; omega) ?_)
        intro v' w1 hown hgr _
        have HO1 : Hid (w1.ownsRow w.heap.size 27 1 v' (acc ++ [(A2, ys, c2)]).length ((acc ++ [(A2, ys, c2)]).map rowV)) := Lib.hid (by rw [List.map_append, List.length_append]; exact hown)
        have HB1 : Hid (Below w.heap.size w w1) := Lib.hid ((HB.out.alloc HB.out.size _).grown hgr (by have := HB.out.size; simp; omega) fun g hg => (HO.out.lt g hg).1)
        have HA1 : Hid ((acc ++ [(A2, ys, c2)]).length ≤ k + k2) := Lib.hid (by rw [List.length_append]; have := HA.out; simp; omega)
        have HX1 : Hid (∀ x ∈ acc ++ [(A2, ys, c2)], Row w1 B x.1 (x.2.1.map byteV)) := Lib.hid (by
          have hs := HB.out.size
          have keep : ∀ A' xs, Row wr B A' xs → Row w1 B A' xs := fun A' xs hr => (hr.alloc (by omega) _).grownBy hgr (by simp; omega) fun g hg => by have := (HO.out.lt g hg).1; omega
          intro x hx
          rcases List.mem_append.1 hx with hx | hx
          · exact keep _ _ (HX.out x hx)
          · simp only [List.mem_singleton] at hx
            subst hx
            exact keep _ _ HY.out)
        have HJ3 : Hid (join ((acc ++ [(A2, ys, c2)]).map (fun x => x.2.1)) (allA getR (bs.drop (k + k2))) = allA getR bs) := Lib.hid (by rw [List.map_append]; exact HJ2.out)
        clear hown hgr
        go_wp2
        go_roundw
        case rel => exact ⟨k + k2, acc ++ [(A2, ys, c2)], by omega, HA1.out, by go_num, HJ3, HO1.out, HB1.out, HX1⟩
        case measure => simp [intOf]; omega
      · have HXX : Hid (([], er) = allA getR bs) := Lib.hid (by rw [← HJ.out]; exact (hj2 h0).symm)
        have hne : (er != 0) = true := by simpa using h0
        clear hj hj2 he hg hlen hdl h0
        go_wp2_with (go_at_call 134; refine (HC.out _ HB.out).mono ?_; rintro e w' ⟨A2, c2, rfl, _, rfl⟩)
        go_ret2
        exact rows_of (rs := []) HXX.out (Nat.le_refl _) (World.ownsRow_nil _ _ _ _) HB.out (by simp)
    · have HXX : Hid ((acc.map (fun x => x.2.1), 0) = allA getR bs) := Lib.hid (by rw [← HJ.out]; exact (join_end _ _ (by rw [List.length_drop, ← HN.out]; omega)).symm)
      have HX3 : Hid (∀ x ∈ acc, Row wr wr.heap.size x.1 (x.2.1.map byteV)) := Lib.hid (fun x hx => (HX.out x hx).more (Nat.le_trans hB HB.out.size))
      go_wp2
      go_ret2
      exact rows_of HXX.out (Nat.le_refl _) HO.out HB.out HX3.out
end Go.Proofs.YtkdpfjenjcpcfaaGreatDoor
