/- LnA: Sets of small numbers, by the program: one contract each. -/
import Derived.Test.YtlecbhnopokmnaaLnQ
import Derived.Laws.BitsAll
namespace Go.Proofs.Ytlecbhnopokmnaa
open Go.RowKit Mem
set_option maxRecDepth 10000
set_option maxHeartbeats 1000000
set_option linter.unusedVariables false
open Ln
theorem has_bit (d i : Nat) (hd : d < 1048576) : (bits .and .u32 ((d : Int) / 2 ^ i) 1 == 1) = d.testBit i := by
  have e1 : (d : Int) / 2 ^ i = ((d / 2 ^ i : Nat) : Int) := by simp
  have hlt : d / 2 ^ i ≤ d := Nat.div_le_self _ _
  have e2 := u32_and_nat (d / 2 ^ i) 1 (by omega) (by omega)
  rw [e1, show (1 : Int) = ((1 : Nat) : Int) from rfl, e2, nat_mask1, Nat.testBit_eq_decide_div_mod_eq]
  rcases (show d / 2 ^ i % 2 = 0 ∨ d / 2 ^ i % 2 = 1 by omega) with h | h <;> rw [h] <;> rfl
theorem has_any (d i : Nat) (hd : d < 1048576) (hi : i < 20) (w : World) : Calls Try.prog 66 #[.int .u32 (d : Int), .int .i64 (i : Int)] w fun e w' => e = .returned (.bool (d.testBit i)) ∧ w = w' := by
  have hi2 : (i : Int) < 20 := by omega
  have hi3 : (0 : Int) ≤ (i : Int) := by omega
  have HD := Lib.hid (has_bit d i hd)
  clear hd
  go_enter Try.func66, Try.ntmps66
  go_wp2
  go_ret
  exact ⟨by rw [← HD.out]; rfl, rfl⟩
theorem pow_le20 {i : Nat} (hi : i < 20) : 2 ^ i < 1048576 := Nat.pow_lt_pow_right (a := 2) (m := i) (n := 20) (by omega) hi
theorem with_bit (d i : Nat) (hd : d < 1048576) (hi : i < 20) : bits .or .u32 (d : Int) (IntKind.u32.wrap (2 ^ i)) = ((ins d i : Nat) : Int) := by
  have h := pow_le20 hi
  have e1 : IntKind.u32.wrap ((2 : Int) ^ i) = ((2 ^ i : Nat) : Int) := by
    rw [show ((2 : Int) ^ i) = ((2 ^ i : Nat) : Int) by simp, IntKind.wrap_u32']
    obtain ⟨q, hq⟩ : ∃ q, 2 ^ i = q := ⟨_, rfl⟩
    rw [hq] at h ⊢
    omega
  rw [e1, u32_or_nat _ _ (by omega) (by omega)]
  rfl
theorem with_any (d i : Nat) (hd : d < 1048576) (hi : i < 20) (w : World) : Calls Try.prog 62 #[.int .u32 (d : Int), .int .i64 (i : Int)] w fun e w' => e = .returned (.int .u32 ((ins d i : Nat) : Int)) ∧ w = w' := by
  have hi2 : (i : Int) < 20 := by omega
  have hi3 : (0 : Int) ≤ (i : Int) := by omega
  have HD := Lib.hid (with_bit d i hd hi)
  clear hd
  go_enter Try.func62, Try.ntmps62
  go_wp2
  go_ret
  exact ⟨by rw [← HD.out]; rfl, rfl⟩
theorem within_bit (a b : Nat) (ha : a < 1048576) (hb : b < 1048576) : (bits .andNot .u32 (a : Int) (b : Int) == 0) = decide (Sub a b) := by
  have e2 := u32_andNot_nat a b (by omega) (by omega)
  rw [e2]
  have key : a &&& (4294967295 - b) = 0 ↔ Sub a b := by
    have hbit : ∀ j, (4294967295 - b).testBit j = (decide (j < 32) && !b.testBit j) := fun j => by
      have := Nat.testBit_two_pow_sub_succ (x := b) (n := 32) (by omega) j
      rw [← this, show 2 ^ 32 - (b + 1) = 4294967295 - b by omega]
    have hlow : ∀ j, a.testBit j = true → j < 32 := fun j hj => by
      rcases Nat.lt_or_ge j 32 with h | h
      · exact h
      · have : a < 2 ^ j := Nat.lt_of_lt_of_le (show a < 2 ^ 32 by omega) (Nat.pow_le_pow_right (by omega) h)
        rw [Nat.testBit_lt_two_pow this] at hj; cases hj
    constructor
    · intro h j hj
      have h1 : (a &&& (4294967295 - b)).testBit j = false := by rw [h, Nat.zero_testBit]
      rw [Nat.testBit_and, hj, hbit, decide_eq_true (hlow j hj)] at h1
      simpa using h1
    · intro h
      apply Nat.eq_of_testBit_eq
      intro j
      rw [Nat.testBit_and, hbit, Nat.zero_testBit]
      cases hj : a.testBit j with
      | false => rfl
      | true => rw [h j hj]; simp
  by_cases h : Sub a b
  · rw [decide_eq_true h, key.2 h]; rfl
  · rw [decide_eq_false h]
    have : a &&& (4294967295 - b) ≠ 0 := fun e => h (key.1 e)
    obtain ⟨q, hq⟩ : ∃ q, a &&& (4294967295 - b) = q := ⟨_, rfl⟩
    rw [hq] at this ⊢
    simpa using this
theorem within_any18 (a b : Nat) (ha : a < 1048576) (hb : b < 1048576) (w : World) : Calls Try.prog 43 #[.int .u32 (a : Int), .int .u32 (b : Int)] w fun e w' => e = .returned (.bool (decide (Sub a b))) ∧ w = w' := by
  have HD := Lib.hid (within_bit a b ha hb)
  clear ha hb
  go_enter Try.func43, Try.ntmps43
  go_wp2
  go_ret
  exact ⟨by rw [← HD.out]; rfl, rfl⟩
end Go.Proofs.Ytlecbhnopokmnaa
