/- What the document reads of a number and of a row, at a place in bytes. -/
import Derived.Test.YtnljljfopelopaaReader2
namespace Go.Proofs.Ytnljljfopelopaa
open Go.RowKit Mem Be
set_option maxRecDepth 10000
set_option maxHeartbeats 1000000
def At3 (r : Int × Nat × Int) (at_ : Nat) (w : World) (e : Ending) (w' : World) : Prop := e = three r.1 ((at_ + r.2.1 : Nat) : Int) r.2.2 ∧ w = w'
theorem at3_end {r : Int × Nat × Int} {x : Int} {k : Nat} {e : Int} (hr : r = (x, k, e)) {at_ : Nat} {x' k' : Int} (h1 : x' = x) (h2 : k' = ((at_ + k : Nat) : Int)) (w : World) :
    At3 r at_ w (.returned (.tuple #[.int .i64 x', .int .i64 k', .int .i64 e])) w := by
  subst hr
  exact ⟨three_eq h1 h2 rfl, rfl⟩
theorem refget_none (c n at_ : Nat) (A : Option Addr) (hn : n ≤ at_) (w : World) : Calls Try.prog 72 #[.slice A n c, .int .i64 at_] w (At3 (getN []) at_ w) := by
  have h : (n : Int) ≤ (at_ : Int) := by omega
  go_enter Try.func72, Try.ntmps72
  go_wp2
  go_ret3
  exact at3_end (show getN [] = (0, 0, 12) from rfl) rfl (by omega) w
theorem refget_some (c n at_ : Nat) (b o : Nat) (b0 : UInt8) (rest : List UInt8) (hn : n = at_ + (rest.length + 1)) (hl : n ≤ 1073741824) (w : World) (h : ∀ j (h : j < (b0 :: rest).length), w.cell? ⟨b, o + (at_ + j), none⟩ = some (byteV (b0 :: rest)[j])) :
    Calls Try.prog 72 #[.slice (some ⟨b, o, none⟩) n c, .int .i64 at_] w (At3 (getN (b0 :: rest)) at_ w) := by
  have h0 : w.cell? ⟨b, o + at_, none⟩ = some (.int .u8 (b0.toNat : Int)) := h 0 (by simp)
  have hb := b0.toNat_lt
  have ha : (at_ : Int) < (n : Int) := by omega
  have ha2 : at_ < n := by omega
  have hnl : (n : Int) ≤ 1073741824 := by omega
  have HN := Lib.hid hn
  by_cases h8 : 8 < b0.toNat
  · have hl8 : (8 : Int) < (b0.toNat : Int) := by omega
    have HG := Lib.hid (getN_1 b0 rest h8)
    clear h hn
    go_enter Try.func72, Try.ntmps72
    go_wp2
    go_ret3
    exact at3_end HG.out rfl (by omega) w
  have hl8 : (b0.toNat : Int) ≤ 8 := by omega
  by_cases h2 : rest.length < b0.toNat
  · have hl2 : (n : Int) < (at_ : Int) + 1 + (b0.toNat : Int) := by omega
    have HG := Lib.hid (getN_2 b0 rest h8 h2)
    clear h hn
    go_enter Try.func72, Try.ntmps72
    go_wp2
    go_ret3
    exact at3_end HG.out rfl (by omega) w
  have hl2 : (at_ : Int) + 1 + (b0.toNat : Int) ≤ (n : Int) := by omega
  have HC : Hid (∀ j (h : j < rest.length), w.cell? ⟨b, o + (at_ + 1 + j), none⟩ = some (.int .u8 (rest[j].toNat : Int))) := Lib.hid (fun j hj => by
    have := h (j + 1) (by simpa using hj)
    rw [show at_ + 1 + j = at_ + (j + 1) by omega, this, List.getElem_cons_succ]; rfl)
  have hlr : b0.toNat ≤ rest.length := by omega
  have HH : Hid (getN (b0 :: rest) = if 0 < b0.toNat ∧ (rest.headD 0).toNat = 0 then (0, 0, 11) else (iZ (rd (rest.take b0.toNat)), 1 + b0.toNat, 0)) := Lib.hid (by
    by_cases h3 : 0 < b0.toNat ∧ (rest.headD 0).toNat = 0
    · rw [if_pos h3]
      match rest, h2, h3 with
      | [], h2, h3 => exact absurd h3.1 (by simp at h2; omega)
      | r0 :: more, h2, h3 => exact getN_3 b0 r0 more h8 h2 h3.1 h3.2
    · rw [if_neg h3]; exact getN_4 b0 rest h8 h2 h3)
  have H1 : Hid (0 < rest.length → w.cell? ⟨b, o + (at_ + 1), none⟩ = some (.int .u8 ((rest.headD 0).toNat : Int))) := Lib.hid (fun hp => by
    have := HC.out 0 hp
    rw [Nat.add_zero] at this
    rw [this]
    match rest, hp with
    | r0 :: more, _ => rfl)
  clear h h8 h2 hn
  go_enter Try.func72, Try.ntmps72
  go_wp2
  go_loop [8, 9] (fun u i => ∃ k : Nat, k ≤ b0.toNat ∧ i = .int .i64 k ∧ u = .int .u64 (rd (rest.take k))) (fun _ i => b0.toNat - (intOf i).toNat)
  case atStart => exact ⟨0, by omega, rfl, rfl⟩
  case round =>
    obtain ⟨k, hk, rfl, rfl⟩ := hrel
    by_cases hlt : k < b0.toNat
    · have hcell := HC.out k (by omega)
      have r0 := rd_nonneg (rest.take k)
      have r1 := rd_small rest k (by omega)
      have r2 := (rest[k]'(by omega)).toNat_lt
      have hidx : at_ + 1 + k < n := by omega
      go_wp2
      go_round
      case rel => exact ⟨k + 1, by omega, by go_num, by rw [rd_snoc rest k (by omega)]⟩
      case measure => simp [intOf]; omega
    · have e8 : k = b0.toNat := by omega
      subst e8
      have HG := HH.out
      by_cases hz : b0.toNat = 0
      · rw [if_neg (by omega)] at HG
        have HG2 := Lib.hid HG
        have hz1 : (b0.toNat : Int) ≤ 0 := by omega
        clear HG hlt hz
        go_wp2
        go_ret3
        exact at3_end HG2.out (wrap_iZ _) (by omega) w
      · have hz1 : (0 : Int) < (b0.toNat : Int) := by omega
        have h1 := H1.out (by omega)
        have hidx : at_ + 1 < n := by omega
        by_cases hr : (rest.headD 0).toNat = 0
        · rw [if_pos ⟨by omega, hr⟩] at HG
          have HG2 := Lib.hid HG
          rw [hr] at h1
          have h1' : w.cell? ⟨b, o + (at_ + 1), none⟩ = some (.int .u8 0) := h1
          clear HG hlt h1 hr hz
          go_wp2
          go_ret3
          exact at3_end HG2.out rfl (by omega) w
        · rw [if_neg (fun h => hr h.2)] at HG
          have HG2 := Lib.hid HG
          obtain ⟨r, hrr⟩ : ∃ r, (rest.headD 0).toNat = r := ⟨_, rfl⟩
          rw [hrr] at h1 hr
          have hrn : ((r : Int) == 0) = false := by simpa using hr
          clear HG hlt hr hz hrr
          go_wp2
          go_ret3
          exact at3_end HG2.out (wrap_iZ _) (by omega) w
theorem refget_any (B c n at_ : Nat) (A : Option Addr) (bs : List UInt8) (w : World) (h : Row w B A (bs.map byteV)) (hn : n = bs.length) (hl : n ≤ 1073741824) :
    Calls Try.prog 72 #[.slice A n c, .int .i64 at_] w (At3 (getN (bs.drop at_)) at_ w) := by
  subst hn
  rcases Nat.lt_or_ge at_ bs.length with ha | ha
  · obtain ⟨b, o, rfl, _, hcell⟩ := h.open_ (by simp; omega)
    obtain ⟨b0, rest, hd⟩ : ∃ b0 rest, bs.drop at_ = b0 :: rest := ⟨_, _, List.drop_eq_getElem_cons ha⟩
    rw [hd]
    have hlen : (bs.drop at_).length = rest.length + 1 := by rw [hd]; rfl
    rw [List.length_drop] at hlen
    refine refget_some c _ at_ b o b0 rest (by omega) hl w fun j hj => ?_
    have hj' : j < (bs.drop at_).length := by rw [hd]; exact hj
    have hlt : at_ + j < bs.length := by rw [List.length_drop] at hj'; omega
    have := hcell (at_ + j) (by simpa using hlt)
    rw [this, List.getElem_map]
    congr 2
    have : (bs.drop at_)[j]'hj' = bs[at_ + j] := List.getElem_drop ..
    rw [← this]
    congr 1
  · rw [List.drop_of_length_le ha]
    exact refget_none c _ at_ A ha w
/-- A row at a place: where its bytes lie is not said but that they lie below B. -/
def AtRow (B : Nat) (r : List UInt8 × Nat × Int) (at_ : Nat) (w : World) (e : Ending) (w' : World) : Prop :=
  ∃ A c, e = .returned (.tuple #[.slice A r.1.length c, .int .i64 ((at_ + r.2.1 : Nat) : Int), .int .i64 r.2.2]) ∧ Row w B A (r.1.map byteV) ∧ w = w'
theorem atrow_nil {B : Nat} {r : List UInt8 × Nat × Int} {k : Nat} {e : Int} (hr : r = ([], k, e)) {at_ : Nat} {k' : Int} (h2 : k' = ((at_ + k : Nat) : Int)) (w : World) :
    AtRow B r at_ w (.returned (.tuple #[.slice none 0 0, .int .i64 k', .int .i64 e])) w := by
  subst hr
  exact ⟨none, 0, by rw [h2]; rfl, Row.nil _ _ _, rfl⟩
set_option maxRecDepth 100000 in
theorem refgetrow_any (B c n at_ : Nat) (A : Option Addr) (bs : List UInt8) (w : World) (h : Row w B A (bs.map byteV)) (hn : n = bs.length) (hl : n ≤ 1073741824) (hc : n ≤ c) (ha : at_ ≤ n) :
    Calls Try.prog 61 #[.slice A n c, .int .i64 at_] w (AtRow B (getR (bs.drop at_)) at_ w) := by
  have HR := Lib.hid h
  have HNN := Lib.hid hn
  have he := getB_err 65537 (bs.drop at_)
  have hen := getN_err (bs.drop at_)
  obtain ⟨x, k, e, hg⟩ : ∃ x k e, getN (bs.drop at_) = (x, k, e) := ⟨_, _, _, rfl⟩
  have hdef : getR (bs.drop at_) = if ¬ e = 0 then ([], 0, e) else if x < 0 ∨ 65537 ≤ x then ([], 0, 11) else if ((bs.drop at_).length : Int) - k < x then ([], 0, 12) else (((bs.drop at_).drop k).take x.toNat, k + x.toNat, 0) := by
    unfold getR; rw [hg]
  have hdl : (bs.drop at_).length = n - at_ := by rw [List.length_drop, hn]
  rw [hdl] at hdef
  rw [hg, hdl] at hen
  have HC : Hid (Calls Try.prog 72 #[.slice A n c, .int .i64 at_] w (At3 (x, k, e) at_ w)) := Lib.hid (by rw [← hg]; exact refget_any B c n at_ A bs w h hn hl)
  simp only at hen
  clear h hg hn hdl he
  by_cases h0 : e = 0
  · subst h0
    rw [if_neg (by simp)] at hdef
    obtain ⟨b1, b2⟩ : 1 ≤ k ∧ k ≤ n - at_ := by rcases hen with ⟨_, h1, h2⟩ | ⟨_, _, h⟩ <;> omega
    clear hen
    by_cases hx : x < 0
    · rw [if_pos (Or.inl hx)] at hdef
      have HX := Lib.hid hdef
      clear hdef
      go_enter Try.func61, Try.ntmps61
      go_wp2_with (go_at_call 72; refine HC.out.mono ?_; rintro e w' ⟨rfl, rfl⟩; unfold three)
      go_ret3
      exact atrow_nil HX.out (by omega) w
    by_cases hx2 : 65537 ≤ x
    · rw [if_pos (Or.inr hx2)] at hdef
      have HX := Lib.hid hdef
      have hx3 : 65536 < x := by omega
      clear hdef hx2
      go_enter Try.func61, Try.ntmps61
      go_wp2_with (go_at_call 72; refine HC.out.mono ?_; rintro e w' ⟨rfl, rfl⟩; unfold three)
      go_ret3
      exact atrow_nil HX.out (by omega) w
    have hx3 : ¬ 65536 < x := by omega
    have hx0 : 0 ≤ x := by omega
    rw [if_neg (by omega)] at hdef
    have hnl : (n : Int) ≤ 1073741824 := by omega
    have hs : ((n - at_ : Nat) : Int) - k = (n : Int) - (at_ + k : Nat) := by omega
    rw [hs] at hdef
    by_cases h2 : (n : Int) - (at_ + k : Nat) < x
    · rw [if_pos h2] at hdef
      have HX := Lib.hid hdef
      have h2' : (n : Int) - ((at_ : Int) + (k : Int)) < x := by omega
      clear hdef hx2 hs h2
      go_enter Try.func61, Try.ntmps61
      go_wp2_with (go_at_call 72; refine HC.out.mono ?_; rintro e w' ⟨rfl, rfl⟩; unfold three)
      go_ret3
      exact atrow_nil HX.out (by omega) w
    · rw [if_neg h2] at hdef
      have hxx := Int.toNat_of_nonneg hx0
      obtain ⟨m, hm'⟩ : ∃ m, x.toNat = m := ⟨_, rfl⟩
      rw [hm'] at hxx hdef
      subst hxx
      obtain ⟨to, hto⟩ : ∃ to, at_ + k = to := ⟨_, rfl⟩
      rw [hto] at h2
      obtain ⟨ys, hys⟩ : ∃ ys, ((bs.drop at_).drop k).take m = ys := ⟨_, rfl⟩
      rw [hys] at hdef
      have HX := Lib.hid hdef
      have hle : to + m ≤ n := by omega
      have hle2 : (m : Int) ≤ (n : Int) - (to : Int) := by omega
      have hcut := fun W => run_cut_lh (P := Try.prog) (w := W) 39 5 _ _ Try.underlying39 info_b A n c to (to + m) (by omega) (by omega)
      rw [Nat.add_sub_cancel_left, Int.natCast_add] at hcut
      have HY : Hid (Row w B (cutA A to c) (ys.map byteV)) := Lib.hid (by
        rw [← hys, List.drop_drop, hto]
        have := take_row (cut_row HR.out to c (by rw [List.length_map, ← HNN.out]; exact hc)) m
        rw [List.map_take, List.map_drop]; exact this)
      have HL : Hid (ys.length = m) := Lib.hid (by rw [← hys, List.length_take, List.length_drop, List.length_drop, ← HNN.out]; omega)
      have HTO := Lib.hid hto
      have HC2 : Hid (Calls Try.prog 72 #[.slice A n c, .int .i64 at_] w (fun e w' => e = three (m : Int) (to : Int) 0 ∧ w = w')) := Lib.hid (HC.out.mono fun _ _ ⟨h1, h2⟩ => ⟨by rw [h1, ← hto], h2⟩)
      have hmx : (m : Int) ≤ 65536 := by omega
      clear hdef hx2 hs h2 hx hx0 hx3 hm' hys hto HC hle
      go_enter Try.func61, Try.ntmps61
      go_wp2_with (go_at_call 72; refine HC2.out.mono ?_; rintro e w' ⟨rfl, rfl⟩; unfold three)
      go_ret3
      rw [HX.out]
      refine ⟨cutA A to c, c - to, ?_, HY.out, rfl⟩
      have e1 : ((at_ + (k + m) : Nat) : Int) = (to : Int) + (m : Int) := by have := HTO.out; omega
      simp only [HL.out, e1]
      rfl
  · rw [if_pos h0] at hdef
    have HX := Lib.hid hdef
    have hne : (e != 0) = true := by simpa using h0
    have hk0 : k = 0 := by omega
    subst hk0
    clear hdef hen h0
    go_enter Try.func61, Try.ntmps61
    go_wp2_with (go_at_call 72; refine HC.out.mono ?_; rintro e w' ⟨rfl, rfl⟩; unfold three)
    go_ret3
    exact atrow_nil HX.out (by omega) w
end Go.Proofs.Ytnljljfopelopaa
