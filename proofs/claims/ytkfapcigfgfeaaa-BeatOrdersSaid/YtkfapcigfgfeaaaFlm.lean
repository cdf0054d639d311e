/- Binary floating-point words of 64 bits: what rounding to nearest gives, said without its digits; that quotients by one number rise as what is divided does; whole numbers, their sums, and quotients that come out even, to the bit. No dump is imported here. -/
import Derived.Test.YtkfapcigfgfeaaaSum
namespace Go.Proofs.Ytkfapcigfgfeaaa
namespace Flo
open Ieee

theorem shl1 (d : Nat) : 1 <<< d = 2 ^ d := by rw [Nat.shiftLeft_eq, Nat.one_mul]
/-- A cut that drops more digits than there are drops as many as there are, and two. -/
theorem cut_min (neg : Bool) (n d : Nat) : Toward.even.cut neg n d = (n / 2 ^ d) + (decide (2 ^ d < 2 * (n % 2 ^ d)) || (decide (2 ^ d = 2 * (n % 2 ^ d)) && decide (n / 2 ^ d % 2 = 1))).toNat := by
  unfold Toward.cut
  have hb : ∀ a b : Nat, (a == b) = decide (a = b) := fun a b => rfl
  simp only [shl1]
  by_cases h : d ≤ n.log2 + 2
  · rw [Nat.min_eq_left h]
    rfl
  · have hlt : n < 2 ^ (n.log2 + 1) := Nat.lt_log2_self
    have p1 : (2 : Nat) ^ (n.log2 + 2) = 2 * 2 ^ (n.log2 + 1) := by rw [Nat.pow_succ]; omega
    have hd : (2 : Nat) ^ (n.log2 + 2) ≤ 2 ^ d := Nat.pow_le_pow_right (by omega) (by omega)
    rw [Nat.min_eq_right (by omega)]
    have e1 : n / 2 ^ (n.log2 + 2) = 0 := Nat.div_eq_of_lt (by omega)
    have e2 : n % 2 ^ (n.log2 + 2) = n := Nat.mod_eq_of_lt (by omega)
    have e3 : n / 2 ^ d = 0 := Nat.div_eq_of_lt (by omega)
    have e4 : n % 2 ^ d = n := Nat.mod_eq_of_lt (by omega)
    rw [e1, e2, e3, e4]
    have g1 : ¬ 2 ^ (n.log2 + 2) < 2 * n := by omega
    have g2 : ¬ 2 ^ (n.log2 + 2) = 2 * n := by omega
    have g3 : ¬ 2 ^ d < 2 * n := by omega
    have g4 : ¬ 2 ^ d = 2 * n := by omega
    simp only [hb, decide_eq_false g1, decide_eq_false g2, decide_eq_false g3, decide_eq_false g4, Bool.false_and, Bool.or_false]

/-- Digits that are nought behind a number, and its place so much lower: the same cut. -/
theorem cut_shift (neg : Bool) (n c d : Nat) : Toward.even.cut neg (n * 2 ^ c) (d + c) = Toward.even.cut neg n d := by
  rw [cut_min, cut_min]
  have hp := Nat.two_pow_pos c
  have e1 : n * 2 ^ c / 2 ^ (d + c) = n / 2 ^ d := by rw [Nat.pow_add, Nat.mul_div_mul_right _ _ hp]
  have e2 : n * 2 ^ c % 2 ^ (d + c) = n % 2 ^ d * 2 ^ c := by rw [Nat.pow_add, Nat.mul_mod_mul_right]
  rw [e1, e2, Nat.pow_add]
  have e3 : (2 ^ d * 2 ^ c < 2 * (n % 2 ^ d * 2 ^ c)) ↔ (2 ^ d < 2 * (n % 2 ^ d)) := by
    rw [← Nat.mul_assoc]; exact Nat.mul_lt_mul_right hp
  have e4 : (2 ^ d * 2 ^ c = 2 * (n % 2 ^ d * 2 ^ c)) ↔ (2 ^ d = 2 * (n % 2 ^ d)) := by
    rw [← Nat.mul_assoc]; exact Nat.mul_left_inj (by omega)
  simp only [e3, e4]

theorem nearest_shift (neg : Bool) (m c : Nat) (p : Int) : double.nearest neg (m * 2 ^ c) (p - c) = double.nearest neg m p := by
  by_cases hm : m = 0
  · subst hm; simp [Format.nearest]
  have hp := Nat.two_pow_pos c
  have hmc : m * 2 ^ c ≠ 0 := Nat.mul_ne_zero hm (by omega)
  unfold Format.nearest
  rw [if_neg hmc, if_neg hm, log2_scale hm]
  have hlast : p - (c : Int) + ((m.log2 + c : Nat) : Int) - (double.fractionBits : Int) = p + (m.log2 : Int) - (double.fractionBits : Int) := by omega
  rw [hlast]
  generalize max (p + (m.log2 : Int) - (double.fractionBits : Int)) double.leastPlace = last
  have key : Toward.even.cut neg ((m * 2 ^ c) <<< (p - ↑c - last).toNat) (last - (p - ↑c)).toNat = Toward.even.cut neg (m <<< (p - last).toNat) (last - p).toNat := by
    simp only [Nat.shiftLeft_eq]
    by_cases h1 : last ≤ p - c
    · obtain ⟨k, hk⟩ : ∃ k : Nat, p - c - last = k := ⟨(p - c - last).toNat, by omega⟩
      have f1 : (p - ↑c - last).toNat = k := by omega
      have f2 : (last - (p - ↑c)).toNat = 0 := by omega
      have f3 : (p - last).toNat = c + k := by omega
      have f4 : (last - p).toNat = 0 := by omega
      rw [f1, f2, f3, f4, Nat.pow_add, ← Nat.mul_assoc]
    · by_cases h2 : last ≤ p
      · obtain ⟨k, hk⟩ : ∃ k : Nat, p - last = k := ⟨(p - last).toNat, by omega⟩
        have f1 : (p - ↑c - last).toNat = 0 := by omega
        have f2 : (last - (p - ↑c)).toNat = c - k := by omega
        have f3 : (p - last).toNat = k := by omega
        have f4 : (last - p).toNat = 0 := by omega
        have hkc : k ≤ c := by omega
        rw [f1, f2, f3, f4, Nat.pow_zero, Nat.mul_one, cut_zero, cut_exact neg hm (by omega), show c - (c - k) = k by omega]
      · obtain ⟨d, hd⟩ : ∃ d : Nat, last - p = d := ⟨(last - p).toNat, by omega⟩
        have f1 : (p - ↑c - last).toNat = 0 := by omega
        have f2 : (last - (p - ↑c)).toNat = d + c := by omega
        have f3 : (p - last).toNat = 0 := by omega
        have f4 : (last - p).toNat = d := by omega
        rw [f1, f2, f3, f4, Nat.pow_zero, Nat.mul_one, Nat.mul_one, cut_shift]
  exact congrArg (fun k => double.word neg (min ((last - double.leastPlace).toNat * double.binade + k) double.infRung)) key

/-! Whole numbers. -/
/-- The rung of a whole number below 2^53. -/
def rungN (n : Nat) : Nat := if n = 0 then 0 else (1022 + n.log2) * 4503599627370496 + n * 2 ^ (52 - n.log2)
theorem log_lt {n k : Nat} (hn : n ≠ 0) (h : n < 2 ^ (k + 1)) : n.log2 ≤ k := by
  have := (Nat.log2_lt hn).2 h
  omega
theorem rungN_facts {n : Nat} (hn : n ≠ 0) (h : n < 9007199254740992) : mg (rungN n) = n * 2 ^ (52 - n.log2) ∧ pl (rungN n) = 1022 + n.log2 ∧ 0 < rungN n ∧ rungN n < 9218868437227405312 ∧ (n * 2 ^ (52 - n.log2)).log2 = 52 := by
  have hl : n.log2 ≤ 52 := log_lt hn (by simpa using h)
  obtain ⟨h1, h2⟩ := log2_spec hn
  have e : n.log2 + (52 - n.log2) = 52 := by omega
  have a1 : 4503599627370496 ≤ n * 2 ^ (52 - n.log2) := by
    have := Nat.mul_le_mul_right (2 ^ (52 - n.log2)) h1
    rw [← Nat.pow_add, e] at this; exact this
  have a2 : n * 2 ^ (52 - n.log2) < 9007199254740992 := by
    have := Nat.mul_lt_mul_of_pos_right h2 (Nat.two_pow_pos (52 - n.log2))
    rw [← Nat.pow_add, show n.log2 + 1 + (52 - n.log2) = 53 by omega] at this; exact this
  have hr : rungN n = (1022 + n.log2) * 4503599627370496 + n * 2 ^ (52 - n.log2) := by unfold rungN; rw [if_neg hn]
  have hlog : (n * 2 ^ (52 - n.log2)).log2 = 52 := log2_of (by simpa using a1) (by simpa using a2)
  generalize n * 2 ^ (52 - n.log2) = m at *
  rw [hr]
  have q1 : ((1022 + n.log2) * 4503599627370496 + m) / 4503599627370496 = 1023 + n.log2 := by omega
  have q2 : ((1022 + n.log2) * 4503599627370496 + m) % 4503599627370496 = m - 4503599627370496 := by omega
  refine ⟨?_, ?_, by omega, by omega, hlog⟩
  · unfold mg; rw [if_neg (by omega), q2]; omega
  · unfold pl; rw [if_neg (by omega), q1]; omega
theorem rungN_lt {n : Nat} (h : n < 9007199254740992) : rungN n < 9218868437227405312 := by
  by_cases hn : n = 0
  · subst hn; decide
  · exact (rungN_facts hn h).2.2.2.1
theorem nearestN {n : Nat} (h : n < 9007199254740992) (c : Nat) : double.nearest false (n * 2 ^ c) (-(c : Int)) = rungN n := by
  have e := nearest_shift false n c 0
  rw [Int.zero_sub] at e
  rw [e]
  by_cases hn : n = 0
  · subst hn; simp [nearest_nought, Format.word, rungN]
  · obtain ⟨f1, f2, f3, f4, _⟩ := rungN_facts hn h
    have hl : n.log2 ≤ 52 := log_lt hn (by simpa using h)
    have e2 := nearest_mg false f3 f4 0
    rw [f1, f2, Nat.pow_zero, Nat.mul_one] at e2
    have e3 := nearest_shift false n (52 - n.log2) 0
    rw [← e3]
    rw [show (0 : Int) - ((52 - n.log2 : Nat) : Int) = -1074 + ((1022 + n.log2 : Nat) : Int) - ((0 : Nat) : Int) by omega, e2]
    simp [Format.word]
theorem float_nat {n : Nat} (h : n < 9007199254740992) : floatOfInt .f64 (n : Int) = rungN n := by
  have := nearestN h 0
  rw [Nat.pow_zero, Nat.mul_one] at this
  have e : floatOfInt .f64 (n : Int) = double.nearest (decide ((n : Int) < 0)) (n : Int).natAbs 0 := rfl
  rw [e, decide_eq_false (by omega), Int.natAbs_natCast]
  exact this
/-- How a whole number's word is read. -/
theorem readN {n : Nat} (hn : n ≠ 0) (h : n < 9007199254740992) : double.read (rungN n) = .number false (n * 2 ^ (52 - n.log2)) (-((52 - n.log2 : Nat) : Int)) := by
  obtain ⟨f1, f2, f3, f4, _⟩ := rungN_facts hn h
  have hl : n.log2 ≤ 52 := log_lt hn (by simpa using h)
  have m1 : rungN n % 9223372036854775808 = rungN n := Nat.mod_eq_of_lt (by omega)
  have := read_num (w := rungN n) (by rw [m1]; exact f4)
  rw [this, m1, f1, f2]
  have d1 : rungN n / 9223372036854775808 = 0 := Nat.div_eq_of_lt (by omega)
  rw [d1]
  congr 1
  omega
theorem readN0 : double.read (rungN 0) = .number false 0 (-1074) := read_zero
/-- A sum of two whole numbers. -/
theorem addN {a b : Nat} (h : a + b < 9007199254740992) : double.add (rungN a) (rungN b) = some (rungN (a + b)) := by
  by_cases ha : a = 0
  · subst ha
    have hb := rungN_lt (n := b) (by omega)
    have := add_zero (b := rungN b) (by omega) (by omega)
    rw [show rungN 0 = 0 from rfl, this, Nat.zero_add]
    by_cases hz : b = 0
    · subst hz; rfl
    · have := (rungN_facts hz (by omega)).2.2.1
      rw [if_neg (by omega)]
  · by_cases hb : b = 0
    · subst hb
      unfold Format.add
      rw [readN ha (by omega), readN0]
      simp only [Datum.sum, Option.map_some, Format.write, Nat.add_zero]
      have f0 : min (-((52 - a.log2 : Nat) : Int)) (-1074 : Int) = -1074 := by omega
      rw [f0]
      have hl : a.log2 ≤ 52 := log_lt ha (by simpa using h)
      have f1 : (-((52 - a.log2 : Nat) : Int) - -1074).toNat = 1022 + a.log2 := by omega
      have s0 : signed false 0 ((-1074 : Int) - -1074).toNat = 0 := rfl
      rw [f1, s0, Int.add_zero]
      have hpos : 0 < (a * 2 ^ (52 - a.log2)) <<< (1022 + a.log2) := by
        rw [Nat.shiftLeft_eq]; exact Nat.mul_pos (Nat.mul_pos (by omega) (Nat.two_pow_pos _)) (Nat.two_pow_pos _)
      have ht := signed_ne false hpos
      have hs := signed_neg false hpos
      rw [if_neg ht, hs, signed_abs, Nat.shiftLeft_eq, Nat.mul_assoc, ← Nat.pow_add, show 52 - a.log2 + (1022 + a.log2) = 1074 by omega]
      exact congrArg some (nearestN (n := a) (by omega) 1074)
    · unfold Format.add
      rw [readN ha (by omega), readN hb (by omega)]
      have la : a.log2 ≤ 52 := log_lt ha (by simp; omega)
      have lb : b.log2 ≤ 52 := log_lt hb (by simp; omega)
      simp only [Datum.sum, Option.map_some, Format.write]
      obtain ⟨c, hc⟩ : ∃ c : Nat, min (-((52 - a.log2 : Nat) : Int)) (-((52 - b.log2 : Nat) : Int)) = -(c : Int) := ⟨(max (52 - a.log2) (52 - b.log2)), by omega⟩
      rw [hc]
      have f1 : 52 - a.log2 + (-((52 - a.log2 : Nat) : Int) - -(c : Int)).toNat = c := by omega
      have f2 : 52 - b.log2 + (-((52 - b.log2 : Nat) : Int) - -(c : Int)).toNat = c := by omega
      have g1 : signed false (a * 2 ^ (52 - a.log2)) (-((52 - a.log2 : Nat) : Int) - -(c : Int)).toNat = ((a * 2 ^ c : Nat) : Int) := by
        unfold signed; simp only [Bool.false_eq_true, if_false]
        rw [Nat.shiftLeft_eq, Nat.mul_assoc, ← Nat.pow_add, f1]
      have g2 : signed false (b * 2 ^ (52 - b.log2)) (-((52 - b.log2 : Nat) : Int) - -(c : Int)).toNat = ((b * 2 ^ c : Nat) : Int) := by
        unfold signed; simp only [Bool.false_eq_true, if_false]
        rw [Nat.shiftLeft_eq, Nat.mul_assoc, ← Nat.pow_add, f2]
      rw [g1, g2, ← Int.natCast_add, ← Nat.add_mul]
      have hpos : 0 < (a + b) * 2 ^ c := Nat.mul_pos (by omega) (Nat.two_pow_pos _)
      generalize hx : (a + b) * 2 ^ c = x at *
      rw [if_neg (by omega), decide_eq_false (by omega), Int.natAbs_natCast, ← hx]
      exact congrArg some (nearestN h c)
/-- Nought by a number above nought, or the infinity: nought. -/
theorem div_nought {b : Nat} (h0 : 0 < b) (hb : b ≤ 9218868437227405312) : double.div 0 b = some 0 := by
  have m1 : b % 9223372036854775808 = b := Nat.mod_eq_of_lt (by omega)
  have d1 : b / 9223372036854775808 = 0 := Nat.div_eq_of_lt (by omega)
  unfold Format.div
  rw [read_zero]
  rcases Nat.lt_or_ge b 9218868437227405312 with h | h
  · rw [read_num (by rw [m1]; exact h), m1, d1]
    simp only [Datum.quotient, if_neg (mg_pos h0), Option.map_some, Format.write, Nat.zero_shiftLeft, Nat.zero_div, Nat.zero_mod, bne_self_eq_false, Bool.toNat_false, Nat.mul_zero, Nat.add_zero, nearest_nought]
    rfl
  · rw [read_inf (by omega), d1]
    simp only [Datum.quotient, Option.map_some, Format.write, nearest_nought]
    rfl
/-- A number by the infinity: nought. -/
theorem div_infinity {a : Nat} (ha : a < 9218868437227405312) : double.div a 9218868437227405312 = some 0 := by
  have m1 : a % 9223372036854775808 = a := Nat.mod_eq_of_lt (by omega)
  have d1 : a / 9223372036854775808 = 0 := Nat.div_eq_of_lt (by omega)
  unfold Format.div
  rw [read_num (by rw [m1]; exact ha), read_inf (by decide), d1]
  simp only [Datum.quotient, Option.map_some, Format.write, nearest_nought]
  rfl
/-- A whole number's quotient that comes out even. -/
theorem divN {s k : Nat} (hk : k ≠ 0) (hk2 : k < 9007199254740992) (h : s * k < 9007199254740992) : double.div (rungN (s * k)) (rungN k) = some (rungN s) := by
  by_cases hs : s = 0
  · subst hs
    rw [Nat.zero_mul]
    obtain ⟨_, _, f3, f4, _⟩ := rungN_facts hk hk2
    exact div_nought f3 (by omega)
  · have hk1 : k ≤ s * k := Nat.le_mul_of_pos_left k (by omega)
    have hs1 : s ≤ s * k := Nat.le_mul_of_pos_right s (by omega)
    have hsk : s * k ≠ 0 := by omega
    unfold Format.div
    rw [readN hsk h, readN hk (by omega)]
    have lk : k.log2 ≤ 52 := log_lt hk (by simp; omega)
    have e5 : double.fractionBits = 52 := rfl
    have m1 := (rungN_facts hsk h).2.2.2.2
    have m2 := (rungN_facts hk (by omega)).2.2.2.2
    have hne : k * 2 ^ (52 - k.log2) ≠ 0 := Nat.mul_ne_zero hk (by have := Nat.two_pow_pos (52 - k.log2); omega)
    simp only [Datum.quotient, e5, if_neg hne, m1, m2, Option.map_some, Format.write, Bool.xor_self]
    have hd : (s * k * 2 ^ (52 - (s * k).log2)) <<< (52 + 2 + 52 - 52) = s * 2 ^ (52 - (s * k).log2 + 54 - (52 - k.log2)) * (k * 2 ^ (52 - k.log2)) := by
      rw [Nat.shiftLeft_eq]
      have e : 52 - (s * k).log2 + 54 = 52 - (s * k).log2 + 54 - (52 - k.log2) + (52 - k.log2) := by omega
      rw [Nat.mul_assoc, ← Nat.pow_add, show 52 - (s * k).log2 + (52 + 2 + 52 - 52) = 52 - (s * k).log2 + 54 - (52 - k.log2) + (52 - k.log2) by omega, Nat.pow_add]
      rw [Nat.add_sub_cancel]
      generalize 2 ^ (52 - (s * k).log2 + 54 - (52 - k.log2)) = x
      generalize 2 ^ (52 - k.log2) = y
      rw [Nat.mul_assoc s k, Nat.mul_assoc s x, Nat.mul_left_comm k x y]
    rw [hd, Nat.mul_div_cancel _ (Nat.pos_of_ne_zero hne), Nat.mul_mod_left]
    simp only [bne_self_eq_false, Bool.toNat_false, Nat.add_zero]
    have hx : (-((52 - (s * k).log2 : Nat) : Int) - -((52 - k.log2 : Nat) : Int) - ((52 + 2 + 52 - 52 : Nat) : Int) - 1) = -((52 - (s * k).log2 + 54 - (52 - k.log2) + 1 : Nat) : Int) := by omega
    have := nearestN (n := s) (by omega) (52 - (s * k).log2 + 54 - (52 - k.log2) + 1)
    rw [hx, ← this, Nat.pow_succ, Nat.mul_left_comm, Nat.mul_comm 2]
end Flo
end Go.Proofs.Ytkfapcigfgfeaaa
