/- Binary floating-point words of 64 bits: sums with nought, quotients by one, and a number by itself, to the bit. No dump is imported here. -/
import Derived.Test.YtkfapcigfgfeaaaFlo
namespace Go.Proofs.Ytkfapcigfgfeaaa
namespace Flo
open Ieee

theorem cut_zero (neg : Bool) (n : Nat) : Toward.even.cut neg n 0 = n := by
  simp [Toward.cut, Nat.mod_one]

theorem log2_of {n k : Nat} (h1 : 2 ^ k ≤ n) (h2 : n < 2 ^ (k + 1)) : n.log2 = k := by
  have hn : n ≠ 0 := by have := Nat.two_pow_pos k; omega
  exact (Nat.log2_eq_iff hn).2 ⟨h1, h2⟩
theorem log2_spec {n : Nat} (hn : n ≠ 0) : 2 ^ n.log2 ≤ n ∧ n < 2 ^ (n.log2 + 1) := (Nat.log2_eq_iff hn).1 rfl
theorem log2_scale {n : Nat} (hn : n ≠ 0) (k : Nat) : (n * 2 ^ k).log2 = n.log2 + k := by
  obtain ⟨h1, h2⟩ := log2_spec hn
  refine log2_of ?_ ?_
  · rw [Nat.pow_add]; exact Nat.mul_le_mul_right _ h1
  · rw [show n.log2 + k + 1 = n.log2 + 1 + k by omega, Nat.pow_add]; exact Nat.mul_lt_mul_of_pos_right h2 (Nat.two_pow_pos _)

theorem cut_exact (neg : Bool) {m : Nat} (hm : m ≠ 0) {d k : Nat} (h : d ≤ k) : Toward.even.cut neg (m * 2 ^ k) d = m * 2 ^ (k - d) := by
  have hl : min d ((m * 2 ^ k).log2 + 2) = d := by rw [log2_scale hm]; omega
  have e : m * 2 ^ k = m * 2 ^ (k - d) * 2 ^ d := by rw [Nat.mul_assoc, ← Nat.pow_add]; congr 2; omega
  have hp := Nat.two_pow_pos d
  have e1 : m * 2 ^ k / 2 ^ d = m * 2 ^ (k - d) := by rw [e, Nat.mul_div_cancel _ hp]
  have e2 : m * 2 ^ k % 2 ^ d = 0 := by rw [e, Nat.mul_mod_left]
  unfold Toward.cut
  simp only [hl, Nat.shiftLeft_eq, Nat.one_mul, e1, e2]
  simp

theorem mg_pos {r : Nat} (h : 0 < r) : mg r ≠ 0 := by unfold mg; split <;> omega
theorem mg_log2 (r : Nat) : (mg r).log2 ≤ 52 := by
  by_cases h : mg r = 0
  · rw [h]; decide
  · have h2 : mg r < 2 ^ 53 := by unfold mg; split <;> omega
    obtain ⟨h1, _⟩ := log2_spec h
    rcases Nat.lt_or_ge 52 (mg r).log2 with hlt | hge
    · have := Nat.pow_le_pow_right (n := 2) (by omega) hlt
      have h3 : 2 ^ 53 ≤ mg r := Nat.le_trans this h1
      omega
    · exact hge

theorem pl_mg (r : Nat) : pl r * 4503599627370496 + mg r = r := by
  unfold pl mg
  by_cases h : r < 4503599627370496
  · rw [if_pos h, if_pos h, Nat.zero_mul, Nat.zero_add]
  · rw [if_neg h, if_neg h]
    have h1 : 1 ≤ r / 4503599627370496 := (Nat.le_div_iff_mul_le (by decide)).2 (by omega)
    have h2 := Nat.div_add_mod r 4503599627370496
    obtain ⟨q, hq⟩ : ∃ q, r / 4503599627370496 = q + 1 := ⟨r / 4503599627370496 - 1, by omega⟩
    rw [hq] at h2 ⊢
    generalize r % 4503599627370496 = m at *
    omega

/-- A number that is a word's is written as that word, however its digits are laid out. -/
theorem nearest_mg (neg : Bool) {r : Nat} (h0 : 0 < r) (hr : r < 9218868437227405312) (k : Nat) :
    double.nearest neg (mg r * 2 ^ k) (-1074 + (pl r : Int) - k) = double.word neg r := by
  have hm := mg_pos h0
  have hp := Nat.two_pow_pos k
  have hmk : mg r * 2 ^ k ≠ 0 := Nat.mul_ne_zero hm (by omega)
  have e2 : double.binade = 4503599627370496 := by decide +kernel
  have e3 : double.infRung = 9218868437227405312 := by decide +kernel
  have e4 : double.leastPlace = -1074 := by decide +kernel
  have e5 : double.fractionBits = 52 := rfl
  have hl := mg_log2 r
  unfold Format.nearest
  rw [if_neg hmk, log2_scale hm, e2, e3, e4, e5]
  have hlast : max (-1074 + (pl r : Int) - k + ((mg r).log2 + k : Nat) - (52 : Nat)) (-1074) = -1074 + (pl r : Int) := by
    by_cases h : r < 4503599627370496
    · have : pl r = 0 := by unfold pl; rw [if_pos h]
      omega
    · have hlg : (mg r).log2 = 52 := by
        have e : mg r = 4503599627370496 + r % 4503599627370496 := by unfold mg; rw [if_neg h]
        exact log2_of (by omega) (by omega)
      omega
  rw [hlast]
  have f1 : (-1074 + (pl r : Int) - k - (-1074 + (pl r : Int))).toNat = 0 := by omega
  have f2 : (-1074 + (pl r : Int) - (-1074 + (pl r : Int) - k)).toNat = k := by omega
  have f3 : (-1074 + (pl r : Int) - -1074).toNat = pl r := by omega
  simp only [f1, f2, f3, Nat.shiftLeft_zero]
  rw [cut_exact neg hm (Nat.le_refl k), Nat.sub_self, Nat.pow_zero, Nat.mul_one]
  rw [pl_mg, Nat.min_eq_left (Nat.le_of_lt hr)]

theorem word_bits {b : Nat} (hb : b < 18446744073709551616) : double.word (b / 9223372036854775808 % 2 == 1) (b % 9223372036854775808) = b := by
  have e1 : double.signWeight = 9223372036854775808 := by decide +kernel
  unfold Format.word
  rw [e1]
  by_cases h : b / 9223372036854775808 % 2 = 1
  · simp only [h, beq_self_eq_true, if_true]; omega
  · have : (b / 9223372036854775808 % 2 == 1) = false := by simpa using h
    simp only [this, Bool.false_eq_true, if_false]; omega

theorem write_inf (neg : Bool) : double.write (.infinity neg) = double.word neg 9218868437227405312 := by
  have e3 : double.infRung = 9218868437227405312 := by decide +kernel
  simp only [Format.write, e3]

theorem signed_abs (s : Bool) (m p : Nat) : (signed s m p).natAbs = m <<< p := by
  unfold signed; generalize m <<< p = x; cases s <;> simp
theorem signed_ne (s : Bool) {m p : Nat} (h : 0 < m <<< p) : signed s m p ≠ 0 := by
  unfold signed; generalize m <<< p = x at *; cases s <;> simp <;> omega
theorem signed_neg (s : Bool) {m p : Nat} (h : 0 < m <<< p) : decide (signed s m p < 0) = s := by
  unfold signed; generalize m <<< p = x at *; cases s <;> simp <;> omega
theorem nearest_nought (neg : Bool) (p : Int) : double.nearest neg 0 p = double.word neg 0 := by simp [Format.nearest]

theorem read_zero : double.read 0 = .number false 0 (-1074) := by rw [read_eq]; rfl

/-- Nought and a number that is no NaN: that number; of the noughts the one without a sign. -/
theorem add_zero {b : Nat} (hb : b < 18446744073709551616) (hn : b % 9223372036854775808 ≤ 9218868437227405312) :
    double.add 0 b = some (if b % 9223372036854775808 = 0 then 0 else b) := by
  unfold Format.add
  rw [read_zero]
  rcases Nat.lt_or_ge (b % 9223372036854775808) 9218868437227405312 with h1 | h1
  · rw [read_num h1]
    simp only [Datum.sum, Option.map_some, Format.write]
    have f0 : min (-1074 : Int) (-1074 + (pl (b % 9223372036854775808) : Int)) = -1074 := by omega
    have f1 : ((-1074 : Int) - -1074).toNat = 0 := by omega
    have f2 : (-1074 + (pl (b % 9223372036854775808) : Int) - -1074).toNat = pl (b % 9223372036854775808) := by omega
    rw [f0, f1, f2]
    have s0 : signed false 0 0 = 0 := rfl
    rw [s0, Int.zero_add]
    by_cases hz : b % 9223372036854775808 = 0
    · rw [if_pos hz, hz]
      have : signed (b / 9223372036854775808 % 2 == 1) (mg 0) (pl 0) = 0 := by cases (b / 9223372036854775808 % 2 == 1) <;> rfl
      rw [this]
      rfl
    · rw [if_neg hz]
      have hpos : 0 < mg (b % 9223372036854775808) <<< pl (b % 9223372036854775808) := by
        rw [Nat.shiftLeft_eq]; exact V_pos (by omega)
      have ht := signed_ne (b / 9223372036854775808 % 2 == 1) hpos
      have hs := signed_neg (b / 9223372036854775808 % 2 == 1) hpos
      have ha : (signed (b / 9223372036854775808 % 2 == 1) (mg (b % 9223372036854775808)) (pl (b % 9223372036854775808))).natAbs = mg (b % 9223372036854775808) * 2 ^ pl (b % 9223372036854775808) := by
        rw [← Nat.shiftLeft_eq]; exact signed_abs _ _ _
      rw [if_neg ht, hs, ha]
      have := nearest_mg (b / 9223372036854775808 % 2 == 1) (r := b % 9223372036854775808) (by omega) h1 (pl (b % 9223372036854775808))
      rw [show (-1074 + (pl (b % 9223372036854775808) : Int) - (pl (b % 9223372036854775808) : Int)) = -1074 by omega] at this
      rw [this, word_bits hb]
  · have e1 : b % 9223372036854775808 = 9218868437227405312 := by omega
    rw [read_inf e1, if_neg (by omega)]
    simp only [Datum.sum, Option.map_some, write_inf]
    rw [← e1, word_bits hb]

def one : Nat := 4607182418800017408
theorem of_one : floatOfInt .f64 1 = one := by decide +kernel
theorem read_one : double.read one = .number false 4503599627370496 (-52) := by decide +kernel

/-- By one: the number itself, with its sign. -/
theorem div_one {b : Nat} (hb : b < 18446744073709551616) (hn : b % 9223372036854775808 ≤ 9218868437227405312) : double.div b one = some b := by
  unfold Format.div
  rw [read_one]
  rcases Nat.lt_or_ge (b % 9223372036854775808) 9218868437227405312 with h1 | h1
  · rw [read_num h1]
    have hl := mg_log2 (b % 9223372036854775808)
    have e5 : double.fractionBits = 52 := rfl
    have e6 : Nat.log2 4503599627370496 = 52 := by decide +kernel
    simp only [Datum.quotient, e5, e6]
    rw [if_neg (by omega)]
    simp only [Option.map_some, Format.write, Bool.xor_false]
    by_cases hz : b % 9223372036854775808 = 0
    · have hm : mg (b % 9223372036854775808) = 0 := by rw [hz]; rfl
      rw [hm]
      simp only [Nat.zero_shiftLeft, Nat.zero_div, Nat.zero_mod, Nat.mul_zero, bne_self_eq_false, Bool.toNat_false, Nat.add_zero, nearest_nought]
      rw [← hz, word_bits hb]
    · have hd : mg (b % 9223372036854775808) <<< (52 + 2 + 52 - (mg (b % 9223372036854775808)).log2) = mg (b % 9223372036854775808) * 2 ^ (54 - (mg (b % 9223372036854775808)).log2) * 4503599627370496 := by
        rw [Nat.shiftLeft_eq, show (4503599627370496 : Nat) = 2 ^ 52 by rfl, Nat.mul_assoc, ← Nat.pow_add]; congr 2; omega
      rw [hd, Nat.mul_div_cancel _ (by omega), Nat.mul_mod_left]
      simp only [bne_self_eq_false, Bool.toNat_false, Nat.add_zero]
      have hk : 2 * (mg (b % 9223372036854775808) * 2 ^ (54 - (mg (b % 9223372036854775808)).log2)) = mg (b % 9223372036854775808) * 2 ^ (55 - (mg (b % 9223372036854775808)).log2) := by
        rw [show 55 - (mg (b % 9223372036854775808)).log2 = 54 - (mg (b % 9223372036854775808)).log2 + 1 by omega, Nat.pow_succ]
        rw [← Nat.mul_assoc, Nat.mul_comm 2, Nat.mul_assoc, Nat.mul_comm 2]
      rw [hk]
      have := nearest_mg (b / 9223372036854775808 % 2 == 1) (r := b % 9223372036854775808) (by omega) h1 (55 - (mg (b % 9223372036854775808)).log2)
      rw [show (-1074 + (pl (b % 9223372036854775808) : Int) - ((55 - (mg (b % 9223372036854775808)).log2 : Nat) : Int)) = (-1074 + (pl (b % 9223372036854775808) : Int) - -52 - ((52 + 2 + 52 - (mg (b % 9223372036854775808)).log2 : Nat) : Int) - 1) by omega] at this
      rw [this, word_bits hb]
  · have e1 : b % 9223372036854775808 = 9218868437227405312 := by omega
    rw [read_inf e1]
    simp only [Datum.quotient, Option.map_some, write_inf, Bool.xor_false]
    rw [← e1, word_bits hb]

/-- A number that is no nought and no infinity, by itself: one. -/
theorem div_self {b : Nat} (h0 : 0 < b % 9223372036854775808) (h1 : b % 9223372036854775808 < 9218868437227405312) : double.div b b = some one := by
  unfold Format.div
  rw [read_num h1]
  have hm := mg_pos h0
  have e5 : double.fractionBits = 52 := rfl
  simp only [Datum.quotient, if_neg hm, e5]
  have hl : 52 + 2 + (mg (b % 9223372036854775808)).log2 - (mg (b % 9223372036854775808)).log2 = 54 := by omega
  simp only [hl, Option.map_some, Format.write, Bool.xor_self]
  have hd : mg (b % 9223372036854775808) <<< 54 = 2 ^ 54 * mg (b % 9223372036854775808) := by rw [Nat.shiftLeft_eq, Nat.mul_comm]
  rw [hd, Nat.mul_div_cancel _ (by omega), Nat.mul_mod_left]
  rw [show (-1074 + (pl (b % 9223372036854775808) : Int) - (-1074 + (pl (b % 9223372036854775808) : Int)) - ((54 : Nat) : Int) - 1) = -55 by omega]
  decide +kernel

/-- When a quotient is no number: a NaN in it, both infinite, or both noughts; else it is one, and no NaN. -/
theorem div_some {a b : Nat} (ha : a % 9223372036854775808 ≤ 9218868437227405312) (hb : b % 9223372036854775808 ≤ 9218868437227405312) (hz : b % 9223372036854775808 ≠ 0)
    (hi : ¬ (a % 9223372036854775808 = 9218868437227405312 ∧ b % 9223372036854775808 = 9218868437227405312)) : ∃ r, double.div a b = some r ∧ r < 18446744073709551616 ∧ r % 9223372036854775808 ≤ 9218868437227405312 := by
  have e1 : double.signWeight = 9223372036854775808 := by decide +kernel
  have e3 : double.infRung = 9218868437227405312 := by decide +kernel
  have hw : ∀ (neg : Bool) (r : Nat), r ≤ 9218868437227405312 → double.word neg r < 18446744073709551616 ∧ double.word neg r % 9223372036854775808 ≤ 9218868437227405312 := by
    intro neg r hr
    unfold Format.word
    rw [e1]
    split <;> omega
  have hn : ∀ (neg : Bool) (m : Nat) (p : Int), double.nearest neg m p < 18446744073709551616 ∧ double.nearest neg m p % 9223372036854775808 ≤ 9218868437227405312 := by
    intro neg m p
    unfold Format.nearest
    dsimp only
    split
    · exact hw _ _ (by omega)
    · refine hw _ _ ?_
      rw [e3]; exact Nat.min_le_right _ _
  unfold Format.div
  rcases Nat.lt_or_ge (a % 9223372036854775808) 9218868437227405312 with h1 | h1 <;> rcases Nat.lt_or_ge (b % 9223372036854775808) 9218868437227405312 with h2 | h2
  · rw [read_num h1, read_num h2]
    simp only [Datum.quotient, if_neg (mg_pos (r := b % 9223372036854775808) (by omega)), Option.map_some, Format.write]
    exact ⟨_, rfl, hn _ _ _⟩
  · rw [read_num h1, read_inf (by omega)]
    simp only [Datum.quotient, Option.map_some, Format.write]
    exact ⟨_, rfl, hn _ _ _⟩
  · rw [read_inf (by omega), read_num h2]
    simp only [Datum.quotient, Option.map_some, write_inf]
    exact ⟨_, rfl, hw _ _ (by omega)⟩
  · exact absurd ⟨by omega, by omega⟩ hi
end Flo
end Go.Proofs.Ytkfapcigfgfeaaa
