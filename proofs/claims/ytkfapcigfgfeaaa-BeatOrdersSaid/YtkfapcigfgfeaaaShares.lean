/- RealShares returns true, whatever the two words; nothing that was there is changed. -/
import Derived.Test.YtkfapcigfgfeaaaKnown
import Derived.Test.YtkfapcigfgfeaaaFlo2
namespace Go.Proofs.Ytkfapcigfgfeaaa
open Go.RowKit Flo
set_option maxRecDepth 10000
set_option maxHeartbeats 400000
theorem word_top : Word 9218868437227405311 := ⟨by decide, by decide⟩
theorem abs_any (n : Int) (h : Word n) (w : World) :
    Calls Try.prog 52 #[.float .f64 (fnat n)] w fun e w' => e = .returned (.float .f64 (fnat (n % 9223372036854775808))) ∧ w = w' := by
  have hb := run_bits n h
  have hf := run_frombits
  have H := Lib.hid h; clear h
  go_enter Try.func52, Try.ntmps52
  go_wp2
  go_ret
  exact ⟨ret_float (andNot_top H.out), rfl⟩
theorem gt_top {a : Int} (h : Word a) : (FloatKind.f64.format.order (fnat (a % 9223372036854775808)) 9218868437227405311 == some .gt) = decide (kindZ a = 2) := by
  have hm := word_mod h
  have hc := kind_cases h
  have hc' := kind_cases hm
  have e0 : (9218868437227405311 : Nat) = fnat 9218868437227405311 := rfl
  have e1 : a % 9223372036854775808 % 9223372036854775808 = a % 9223372036854775808 := by omega
  rw [e1] at hc'
  by_cases h3 : kindZ a = 3
  · have h3' : kindZ (a % 9223372036854775808) = 3 := by omega
    rw [order_nan _ hm h3', h3]; rfl
  · have h3' : kindZ (a % 9223372036854775808) ≠ 3 := by omega
    rw [e0, gt_num hm word_top h3' (by decide)]
    have e2 : plZ 9218868437227405311 = 9218868437227405311 := by decide
    have e3 : plZ (a % 9223372036854775808) = a % 9223372036854775808 := by unfold plZ; rw [if_neg (by omega)]
    rw [e2, e3]
    by_cases h2 : kindZ a = 2
    · rw [decide_eq_true (by omega), decide_eq_true h2]
    · rw [decide_eq_false (by omega), decide_eq_false h2]
theorem isinf_zero (n : Int) (h : Word n) (w : World) :
    Calls Try.prog 40 #[.float .f64 (fnat n), .int .i64 0] w fun e w' => e = .returned (.bool (decide (kindZ n = 2))) ∧ w = w' := by
  have H := Lib.hid h; clear h
  go_enter Try.func40, Try.ntmps40
  go_wp2_with (go_at_call 52; refine (abs_any _ H.out _).mono ?_; rintro e w' ⟨rfl, rfl⟩)
  go_ret
  exact ⟨ret_bool (gt_top H.out), rfl⟩
def badB (a b : Int) : Bool := decide (kindZ a = 3) || (decide (kindZ b = 3) || (decide (kindZ b = 0) || (decide (kindZ a = 2) && decide (kindZ b = 2))))
def quoZ (a b : Int) : Int := ((Ieee.double.div (fnat a) (fnat b)).getD 0 : Nat)
theorem fnat_nat (r : Nat) : fnat (r : Int) = r := rfl
theorem quo_good {a b : Int} (ha : Word a) (hb : Word b) (h : badB a b = false) : floatBits .quo .f64 (fnat a) (fnat b) = some (fnat (quoZ a b)) ∧ Word (quoZ a b) ∧ kindZ (quoZ a b) ≠ 3 := by
  unfold badB at h
  simp only [Bool.or_eq_false_iff, Bool.and_eq_false_iff, decide_eq_false_iff_not] at h
  obtain ⟨h1, h2, h3, h4⟩ := h
  have ca := kind_cases ha; have cb := kind_cases hb
  have ma := fnat_mod ha; have mb := fnat_mod hb
  obtain ⟨r, hr, hl, hm⟩ := div_some (a := fnat a) (b := fnat b) (rung_le ha h1) (rung_le hb h2) (by omega) (by omega)
  have hq : quoZ a b = (r : Int) := by unfold quoZ; rw [hr]; rfl
  have hw : Word (quoZ a b) := by rw [hq]; unfold Word; omega
  refine ⟨by rw [hq]; exact hr, hw, ?_⟩
  have := kind_cases hw
  rw [hq] at this ⊢
  omega
theorem share_bad (a b : Int) (ha : Word a) (hb : Word b) (h : badB a b = true) (w : World) :
    Calls Try.prog 33 #[.float .f64 (fnat a), .float .f64 (fnat b)] w fun e w' => e = .returned (.tuple #[.float .f64 0, .int .i64 10]) ∧ w = w' := by
  have HA := Lib.hid ha; have HB := Lib.hid hb
  have hz := eq_nought hb
  clear ha hb
  have hcs : decide (kindZ a = 3) = true ∨ (decide (kindZ a = 3) = false ∧ decide (kindZ b = 3) = true) ∨ (decide (kindZ a = 3) = false ∧ decide (kindZ b = 3) = false ∧ decide (kindZ b = 0) = true) ∨
      (decide (kindZ a = 3) = false ∧ decide (kindZ b = 3) = false ∧ decide (kindZ b = 0) = false ∧ decide (kindZ a = 2) = true ∧ decide (kindZ b = 2) = true) := by
    unfold badB at h
    revert h
    cases decide (kindZ a = 3) <;> cases decide (kindZ b = 3) <;> cases decide (kindZ b = 0) <;> cases decide (kindZ a = 2) <;> cases decide (kindZ b = 2) <;> simp
  clear h
  rcases hcs with h1 | ⟨h1, h2⟩ | ⟨h1, h2, h3⟩ | ⟨h1, h2, h3, h4, h5⟩
  all_goals
    go_enter Try.func33, Try.ntmps33
    go_wp2_with (first
      | (go_at_call 37; refine (isnan_any _ (by first | exact HA.out | exact HB.out) _).mono ?_; rintro e w' ⟨rfl, rfl⟩)
      | (go_at_call 40; refine (isinf_zero _ (by first | exact HA.out | exact HB.out) _).mono ?_; rintro e w' ⟨rfl, rfl⟩))
    go_ret2
    exact ⟨rfl, rfl⟩
theorem share_good (a b : Int) (ha : Word a) (hb : Word b) (h : badB a b = false) (w : World) :
    Calls Try.prog 33 #[.float .f64 (fnat a), .float .f64 (fnat b)] w fun e w' => e = .returned (.tuple #[.float .f64 (fnat (canZ (quoZ a b))), .int .i64 0]) ∧ w = w' := by
  obtain ⟨hq, hw, _⟩ := quo_good ha hb h
  have HA := Lib.hid ha; have HB := Lib.hid hb
  have HQ := Lib.hid hw
  have hz := eq_nought hb
  have hr := fun w => run_float_arith (P := Try.prog) w .quo 29 .f64 (fnat a) (fnat b) (fnat (quoZ a b)) hq
  clear ha hb hq hw
  have hcs : decide (kindZ a = 3) = false ∧ decide (kindZ b = 3) = false ∧ decide (kindZ b = 0) = false ∧ (decide (kindZ a = 2) = false ∨ (decide (kindZ a = 2) = true ∧ decide (kindZ b = 2) = false)) := by
    unfold badB at h
    revert h
    cases decide (kindZ a = 3) <;> cases decide (kindZ b = 3) <;> cases decide (kindZ b = 0) <;> cases decide (kindZ a = 2) <;> cases decide (kindZ b = 2) <;> simp
  clear h
  obtain ⟨h1, h2, h3, h4 | ⟨h4, h5⟩⟩ := hcs
  all_goals
    go_enter Try.func33, Try.ntmps33
    go_wp2_with (first
      | (go_at_call 37; refine (isnan_any _ (by first | exact HA.out | exact HB.out) _).mono ?_; rintro e w' ⟨rfl, rfl⟩)
      | (go_at_call 40; refine (isinf_zero _ (by first | exact HA.out | exact HB.out) _).mono ?_; rintro e w' ⟨rfl, rfl⟩)
      | (go_at_call 49; refine (canon_any _ HQ.out _).mono ?_; rintro e w' ⟨rfl, rfl⟩))
    go_ret2
    exact ⟨rfl, rfl⟩
theorem eq3 (a k : Int) : (kindZ a == k) = decide (kindZ a = k) := rfl
theorem refshare_bad (a b : Int) (ha : Word a) (hb : Word b) (h : badB a b = true) (w : World) :
    Calls Try.prog 36 #[.float .f64 (fnat a), .float .f64 (fnat b)] w fun e w' => e = .returned (.tuple #[.float .f64 0, .int .i64 10]) ∧ w = w' := by
  have h6 := run_bits a ha; have h7 := run_bits b hb
  clear ha hb
  have hcs : (kindZ a == 3) = true ∨ ((kindZ a == 3) = false ∧ (kindZ b == 3) = true) ∨ ((kindZ a == 3) = false ∧ (kindZ b == 3) = false ∧ (kindZ b == 0) = true) ∨
      ((kindZ a == 3) = false ∧ (kindZ b == 3) = false ∧ (kindZ b == 0) = false ∧ (kindZ a == 2) = true ∧ (kindZ b == 2) = true) := by
    unfold badB at h
    simp only [eq3]
    revert h
    cases decide (kindZ a = 3) <;> cases decide (kindZ b = 3) <;> cases decide (kindZ b = 0) <;> cases decide (kindZ a = 2) <;> cases decide (kindZ b = 2) <;> simp
  clear h
  rcases hcs with h1 | ⟨h1, h2⟩ | ⟨h1, h2, h3⟩ | ⟨h1, h2, h3, h4, h5⟩
  all_goals
    go_enter Try.func36, Try.ntmps36
    go_wp2_with (go_at_call 20; refine (kind_any _ _).mono ?_; rintro e w' ⟨rfl, rfl⟩)
    go_ret2
    exact ⟨rfl, rfl⟩
theorem ret_pair {a b : Int} {n : Int} (h : a = b) : Ending.returned (.tuple #[.float .f64 (fnat a), .int .i64 n]) = .returned (.tuple #[.float .f64 (fnat b), .int .i64 n]) := by rw [h]
theorem ret_pair0 {a : Int} {n : Int} (h : a = 0) : Ending.returned (.tuple #[.float .f64 0, .int .i64 n]) = .returned (.tuple #[.float .f64 (fnat a), .int .i64 n]) := by rw [h]; rfl
theorem refshare_good (a b : Int) (ha : Word a) (hb : Word b) (h : badB a b = false) (w : World) :
    Calls Try.prog 36 #[.float .f64 (fnat a), .float .f64 (fnat b)] w fun e w' => e = .returned (.tuple #[.float .f64 (fnat (canZ (quoZ a b))), .int .i64 0]) ∧ w = w' := by
  obtain ⟨hq, hw, hn⟩ := quo_good ha hb h
  have HN := Lib.hid hn
  have h6 := run_bits a ha; have h7 := run_bits b hb
  have h8 := run_bits (quoZ a b) hw
  have hr := fun w => run_float_arith (P := Try.prog) w .quo 29 .f64 (fnat a) (fnat b) (fnat (quoZ a b)) hq
  clear ha hb hq hw hn
  have hcs : (kindZ a == 3) = false ∧ (kindZ b == 3) = false ∧ (kindZ b == 0) = false ∧ ((kindZ a == 2) = false ∨ ((kindZ a == 2) = true ∧ (kindZ b == 2) = false)) := by
    unfold badB at h
    simp only [eq3]
    revert h
    cases decide (kindZ a = 3) <;> cases decide (kindZ b = 3) <;> cases decide (kindZ b = 0) <;> cases decide (kindZ a = 2) <;> cases decide (kindZ b = 2) <;> simp
  clear h
  obtain ⟨h1, h2, h3, h4 | ⟨h4, h5⟩⟩ := hcs
  all_goals
    by_cases hk : (kindZ (quoZ a b) == 0) = true
  all_goals
    go_enter Try.func36, Try.ntmps36
    go_wp2_with (go_at_call 20; refine (kind_any _ _).mono ?_; rintro e w' ⟨rfl, rfl⟩)
    go_ret2
    first
      | exact ⟨ret_pair0 (by unfold canZ; rw [if_pos (by simpa using hk)]), rfl⟩
      | exact ⟨ret_pair (by have := HN.out; unfold canZ; rw [if_neg (by simpa using hk), if_neg this]), rfl⟩
theorem can_can (a : Int) : canZ (canZ a) = canZ a := by
  unfold canZ
  by_cases h0 : kindZ a = 0
  · simp only [if_pos h0]; decide
  · by_cases h3 : kindZ a = 3
    · simp only [if_neg h0, if_pos h3]; decide
    · simp only [if_neg h0, if_neg h3]
theorem kind_can {a : Int} (h : kindZ a ≠ 3) : kindZ (canZ a) ≠ 3 := by
  unfold canZ
  by_cases h0 : kindZ a = 0
  · rw [if_pos h0]; decide
  · rw [if_neg h0, if_neg h]; exact h
theorem kind_low (a : Int) (h : kindZ a ≠ 3) : kindZ a < 3 := by
  revert h; unfold kindZ; split
  · intro _; decide
  · split
    · intro _; decide
    · split
      · intro _; decide
      · intro h; exact absurd rfl h
theorem can_zero : canZ 0 = 0 := by decide
end Go.Proofs.Ytkfapcigfgfeaaa
