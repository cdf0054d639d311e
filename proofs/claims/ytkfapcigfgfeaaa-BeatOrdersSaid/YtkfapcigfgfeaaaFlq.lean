/- Binary floating-point words of 64 bits: a quotient is the word nearest to it, said by what lies between words; so quotients by one number rise as what is divided does; sums and quotients of words without a sign. No dump is imported here. -/
import Derived.Test.YtkfapcigfgfeaaaFlm
namespace Go.Proofs.Ytkfapcigfgfeaaa
namespace Flo
open Ieee

theorem word_false (r : Nat) : double.word false r = r := by simp [Format.word]
theorem V_le {r s : Nat} (h : r ≤ s) : V r ≤ V s := by
  rcases Nat.lt_or_ge r s with h1 | h1
  · exact Nat.le_of_lt (V_lt h1)
  · rw [show r = s by omega]; exact Nat.le_refl _
/-- R is the rung nearest to num / den (in units of the least number), of two as near the even one. -/
def IsR (num den R : Nat) : Prop :=
  (R ≠ 0 → (V (R - 1) + V R) * den < 2 * num ∨ ((V (R - 1) + V R) * den = 2 * num ∧ R % 2 = 0)) ∧
  (2 * num < (V R + V (R + 1)) * den ∨ (2 * num = (V R + V (R + 1)) * den ∧ R % 2 = 0))
theorem isR_mono {n1 n2 d R1 R2 : Nat} (hd : 0 < d) (h : n1 ≤ n2) (h1 : IsR n1 d R1) (h2 : IsR n2 d R2) : R1 ≤ R2 := by
  rcases Nat.lt_or_ge R2 R1 with hlt | hge
  · exfalso
    have a := h1.1 (by omega)
    have b := h2.2
    rcases Nat.lt_or_ge (R2 + 1) R1 with hs | hs
    · have m : V R2 + V (R2 + 1) < V (R1 - 1) + V R1 := by
        have := V_le (r := R2) (s := R1 - 1) (by omega)
        have := V_lt hs
        omega
      have mm := Nat.mul_lt_mul_of_pos_right m hd
      generalize (V R2 + V (R2 + 1)) * d = x at *
      generalize (V (R1 - 1) + V R1) * d = y at *
      omega
    · obtain rfl : R1 = R2 + 1 := by omega
      rw [Nat.add_sub_cancel] at a
      generalize (V R2 + V (R2 + 1)) * d = x at *
      omega
  · exact hge
theorem isR_scale {num den R k : Nat} (hk : 0 < k) (h : IsR (num * k) (den * k) R) : IsR num den R := by
  unfold IsR at *
  simp only [← Nat.mul_assoc] at h
  refine ⟨fun h0 => ?_, ?_⟩
  · rcases h.1 h0 with h1 | ⟨h1, h2⟩
    · exact Or.inl (Nat.lt_of_mul_lt_mul_right h1)
    · exact Or.inr ⟨Nat.eq_of_mul_eq_mul_right hk h1, h2⟩
  · rcases h.2 with h1 | ⟨h1, h2⟩
    · exact Or.inl (Nat.lt_of_mul_lt_mul_right h1)
    · exact Or.inr ⟨Nat.eq_of_mul_eq_mul_right hk h1, h2⟩
theorem isR_scale' {num den R k : Nat} (hk : 0 < k) (h : IsR num den R) : IsR (num * k) (den * k) R := by
  unfold IsR at *
  simp only [← Nat.mul_assoc]
  refine ⟨fun h0 => ?_, ?_⟩
  · rcases h.1 h0 with h1 | ⟨h1, h2⟩
    · exact Or.inl (Nat.mul_lt_mul_of_pos_right h1 hk)
    · exact Or.inr ⟨by rw [h1], h2⟩
  · rcases h.2 with h1 | ⟨h1, h2⟩
    · exact Or.inl (Nat.mul_lt_mul_of_pos_right h1 hk)
    · exact Or.inr ⟨by rw [h1], h2⟩
theorem V_at {l low : Nat} (h : l = 0 ∨ 4503599627370496 ≤ low) (h2 : low ≤ 9007199254740992) : V (l * 4503599627370496 + low) = low * 2 ^ l := by
  unfold V
  rcases Nat.lt_or_ge low 4503599627370496 with h1 | h1
  · have : l = 0 := by omega
    subst this
    unfold mg pl
    rw [if_pos (by omega), if_pos (by omega)]; simp
  · rcases Nat.lt_or_ge low 9007199254740992 with h3 | h3
    · have q1 : (l * 4503599627370496 + low) / 4503599627370496 = l + 1 := by omega
      have q2 : (l * 4503599627370496 + low) % 4503599627370496 = low - 4503599627370496 := by omega
      unfold mg pl
      rw [if_neg (by omega), if_neg (by omega), q1, q2, Nat.add_sub_cancel, show 4503599627370496 + (low - 4503599627370496) = low by omega]
    · have e : low = 9007199254740992 := by omega
      subst e
      have q1 : (l * 4503599627370496 + 9007199254740992) / 4503599627370496 = l + 2 := by omega
      have q2 : (l * 4503599627370496 + 9007199254740992) % 4503599627370496 = 0 := by omega
      unfold mg pl
      rw [if_neg (by omega), if_neg (by omega), q1, q2, show l + 2 - 1 = l + 1 by omega, Nat.pow_succ]
      omega
/-- The digits of a quotient, of which some are dropped, and the last one tells whether anything was left over: the nearest rung. -/
theorem cut_isR (M n l low g rest f s : Nat) (hn : 0 < n) (hg : 0 < g) (hf : f = M / n) (hs : s = (M % n != 0).toNat) (hq : 2 * f + s = low * (4 * g) + rest) (hr : rest < 4 * g)
    (hl : l = 0 ∨ 4503599627370496 ≤ low) (hl2 : low < 9007199254740992) :
    IsR (M * 2 ^ l) (n * (2 * g)) (l * 4503599627370496 + (low + (decide (4 * g < 2 * rest) || (decide (4 * g = 2 * rest) && decide (low % 2 = 1))).toNat)) := by
  have v0 := V_at hl (by omega)
  have v1 := V_at (low := low + 1) (l := l) (by omega) (by omega)
  have hX := Nat.two_pow_pos l
  obtain ⟨R0, hR0⟩ : ∃ R0, l * 4503599627370496 + low = R0 := ⟨_, rfl⟩
  rw [hR0] at v0
  rw [← Nat.add_assoc, hR0] at v1
  rw [← Nat.add_assoc, hR0]
  have hpar : R0 % 2 = low % 2 := by omega
  generalize 2 ^ l = X at *
  -- the middle of the two
  have hmid : (V R0 + V (R0 + 1)) * (n * (2 * g)) = (2 * low + 1) * g * n * (2 * X) := by
    rw [v0, v1, ← Nat.add_mul, show low + (low + 1) = 2 * low + 1 by omega]; ac_rfl
  have hnum : 2 * (M * X) = M * (2 * X) := by ac_rfl
  have hdm := Nat.div_add_mod M n
  have hml := Nat.mod_lt M hn
  rw [← hf] at hdm
  have hs1 : s = 0 ∧ M % n = 0 ∨ s = 1 ∧ 0 < M % n := by
    by_cases h : M % n = 0
    · left; rw [hs, h]; exact ⟨rfl, rfl⟩
    · right; rw [hs, bne_iff_ne.2 h]; exact ⟨rfl, by omega⟩
  obtain ⟨t, ht⟩ : ∃ t, low * g = t := ⟨_, rfl⟩
  have e1 : low * (4 * g) = 4 * t := by rw [← ht]; ac_rfl
  have e2 : (2 * low + 1) * g = 2 * t + g := by rw [Nat.add_mul, Nat.mul_assoc, ht, Nat.one_mul]
  have e3 : (low + 1) * X * (n * (2 * g)) = n * (2 * t + 2 * g) * X := by
    have : (low + 1) * (2 * g) = 2 * t + 2 * g := by rw [Nat.add_mul, ← ht, Nat.one_mul]; congr 1; ac_rfl
    rw [← this]; ac_rfl
  have e4 : low * X * (n * (2 * g)) = n * (2 * t) * X := by rw [← ht]; ac_rfl
  rw [e1] at hq
  rw [e2] at hmid
  have b1 : 2 * t ≤ f := by omega
  have b2 : f + 1 ≤ 2 * t + 2 * g := by omega
  have hX2 : 0 < 2 * X := by omega
  have hden : 0 < n * (2 * g) := Nat.mul_pos hn (by omega)
  -- what lies below, and above
  have m1 := Nat.mul_le_mul_left n b1
  have m2 := Nat.mul_le_mul_left n b2
  rw [Nat.mul_add n f 1, Nat.mul_one] at m2
  have low_ : V R0 * (n * (2 * g)) ≤ M * X := by
    rw [v0, e4]; exact Nat.mul_le_mul_right X (by omega)
  have high : M * X < V (R0 + 1) * (n * (2 * g)) := by
    rw [v1, e3]; exact Nat.mul_lt_mul_of_pos_right (by omega) hX
  have lower : R0 ≠ 0 → (V (R0 - 1) + V R0) * (n * (2 * g)) < 2 * (M * X) := by
    intro h0
    have := V_lt (r := R0 - 1) (s := R0) (by omega)
    have := Nat.mul_lt_mul_of_pos_right this hden
    rw [Nat.add_mul]; omega
  have upper : 2 * (M * X) < (V (R0 + 1) + V (R0 + 1 + 1)) * (n * (2 * g)) := by
    have := V_lt (r := R0 + 1) (s := R0 + 1 + 1) (by omega)
    have := Nat.mul_lt_mul_of_pos_right this hden
    rw [Nat.add_mul]; omega
  have hKn : (2 * t + g) * n = n * (2 * t + g) := Nat.mul_comm _ _
  rcases Nat.lt_trichotomy (2 * (2 * t + g)) (2 * f + s) with h | h | h
  · have c1 : 4 * g < 2 * rest := by omega
    have hlt : (2 * t + g) * n < M := by
      have hk : 2 * t + g < f ∨ (2 * t + g = f ∧ s = 1) := by omega
      rcases hk with hk | ⟨hk, hk1⟩
      · have := Nat.mul_le_mul_left n (show 2 * t + g + 1 ≤ f by omega)
        rw [Nat.mul_add, Nat.mul_one] at this
        omega
      · rw [hKn, hk]; omega
    have hlt2 := Nat.mul_lt_mul_of_pos_right hlt hX2
    rw [decide_eq_true c1, Bool.true_or]
    refine ⟨fun _ => Or.inl ?_, Or.inl upper⟩
    show (V (R0 + 1 - 1) + V (R0 + 1)) * (n * (2 * g)) < 2 * (M * X)
    rw [Nat.add_sub_cancel, hmid, hnum]
    exact hlt2
  · have c1 : ¬ 4 * g < 2 * rest := by omega
    have c2 : 4 * g = 2 * rest := by omega
    have heq : (2 * t + g) * n = M := by
      have hk : 2 * t + g = f ∧ s = 0 := by omega
      rw [hKn, hk.1]; omega
    have heq2 : (V R0 + V (R0 + 1)) * (n * (2 * g)) = 2 * (M * X) := by rw [hmid, hnum, heq]
    rw [decide_eq_false c1, decide_eq_true c2, Bool.false_or, Bool.true_and]
    by_cases ho : low % 2 = 1
    · rw [decide_eq_true ho]
      refine ⟨fun _ => Or.inr ⟨heq2, ?_⟩, Or.inl upper⟩
      show (R0 + 1) % 2 = 0
      omega
    · rw [decide_eq_false ho]
      exact ⟨fun h0 => Or.inl (lower h0), Or.inr ⟨heq2.symm, by show R0 % 2 = 0; omega⟩⟩
  · have c1 : ¬ 4 * g < 2 * rest := by omega
    have c2 : ¬ 4 * g = 2 * rest := by omega
    have hlt : M < (2 * t + g) * n := by
      have hk : f < 2 * t + g := by omega
      have := Nat.mul_le_mul_left n (show f + 1 ≤ 2 * t + g by omega)
      rw [Nat.mul_add, Nat.mul_one] at this
      omega
    have hlt2 := Nat.mul_lt_mul_of_pos_right hlt hX2
    rw [decide_eq_false c1, decide_eq_false c2, Bool.false_or, Bool.false_and]
    refine ⟨fun h0 => Or.inl (lower h0), Or.inl ?_⟩
    show 2 * (M * X) < (V R0 + V (R0 + 1)) * (n * (2 * g))
    rw [hmid, hnum]; exact hlt2
/-- The rung that is nearest to a quotient. -/
theorem quo_isR (m n : Nat) (hm : m ≠ 0) (hn : n ≠ 0) (hm2 : m.log2 ≤ 54) (P e : Int) (S E : Nat) (he : P + ((54 + n.log2 - m.log2 : Nat) : Int) + 1 = e) (hE : (E : Int) = S + e + 1074) :
    ∃ R, double.nearest false (2 * ((m <<< (54 + n.log2 - m.log2)) / n) + ((m <<< (54 + n.log2 - m.log2)) % n != 0).toNat) P = min R 9218868437227405312 ∧ IsR (m * 2 ^ E) (n * 2 ^ S) R := by
  obtain ⟨more, hmore⟩ : ∃ more, 54 + n.log2 - m.log2 = more := ⟨_, rfl⟩
  rw [hmore] at he ⊢
  obtain ⟨M, hM⟩ : ∃ M, m <<< more = M := ⟨_, rfl⟩
  have hM2 : M = m * 2 ^ more := by rw [← hM, Nat.shiftLeft_eq]
  rw [hM]
  obtain ⟨f, hf⟩ : ∃ f, f = M / n := ⟨_, rfl⟩
  obtain ⟨s, hs⟩ : ∃ s, s = (M % n != 0).toNat := ⟨_, rfl⟩
  rw [← hf, ← hs]
  -- there are digits enough
  have hfbig : 9007199254740992 ≤ f := by
    rw [hf, Nat.le_div_iff_mul_le (by omega)]
    obtain ⟨a1, a2⟩ := log2_spec hm
    obtain ⟨b1, b2⟩ := log2_spec hn
    have h1 : 2 ^ (m.log2 + more) ≤ M := by rw [hM2, Nat.pow_add]; exact Nat.mul_le_mul_right _ a1
    have h2 : m.log2 + more = 53 + (n.log2 + 1) := by omega
    rw [h2, Nat.pow_add] at h1
    have h3 : 2 ^ 53 * n ≤ 2 ^ 53 * 2 ^ (n.log2 + 1) := Nat.mul_le_mul_left _ (by omega)
    have h4 : (2 : Nat) ^ 53 = 9007199254740992 := by decide
    rw [h4] at h1 h3
    omega
  obtain ⟨q, hq⟩ : ∃ q, 2 * f + s = q := ⟨_, rfl⟩
  rw [hq]
  have hq0 : q ≠ 0 := by omega
  obtain ⟨c1, c2⟩ := log2_spec hq0
  have hlog : 54 ≤ q.log2 := by
    rcases Nat.lt_or_ge q.log2 54 with h | h
    · have := Nat.pow_le_pow_right (n := 2) (by omega) (show q.log2 + 1 ≤ 54 by omega)
      have h4 : (2 : Nat) ^ 54 = 18014398509481984 := by decide
      omega
    · exact h
  have e2 : double.binade = 4503599627370496 := by decide +kernel
  have e3 : double.infRung = 9218868437227405312 := by decide +kernel
  have e4 : double.leastPlace = -1074 := by decide +kernel
  have e5 : double.fractionBits = 52 := rfl
  unfold Format.nearest
  rw [if_neg hq0, e2, e3, e4, e5]
  obtain ⟨last, hlast⟩ : ∃ last, max (P + (q.log2 : Int) - ((52 : Nat) : Int)) (-1074) = last := ⟨_, rfl⟩
  obtain ⟨l, hl⟩ : ∃ l : Nat, last = -1074 + (l : Int) := ⟨(last + 1074).toNat, by omega⟩
  obtain ⟨d, hd⟩ : ∃ d : Nat, last - P = ((d + 2 : Nat) : Int) := ⟨(last - P - 2).toNat, by omega⟩
  rw [hlast]
  have f1 : (P - last).toNat = 0 := by omega
  have f2 : (last - P).toNat = d + 2 := by omega
  have f3 : (last - -1074).toNat = l := by omega
  simp only [f1, f2, f3, Nat.shiftLeft_zero]
  rw [cut_min]
  have g4 : (2 : Nat) ^ (d + 2) = 4 * 2 ^ d := by rw [Nat.pow_add]; omega
  have hg := Nat.two_pow_pos d
  have hlow2 : q / 2 ^ (d + 2) < 9007199254740992 := by
    rw [Nat.div_lt_iff_lt_mul (Nat.two_pow_pos _)]
    have h1 := Nat.pow_le_pow_right (n := 2) (by omega) (show q.log2 + 1 ≤ 53 + (d + 2) by omega)
    rw [Nat.pow_add 2 53] at h1
    have h4 : (2 : Nat) ^ 53 = 9007199254740992 := by decide
    rw [h4] at h1
    omega
  have hlow : l = 0 ∨ 4503599627370496 ≤ q / 2 ^ (d + 2) := by
    rcases Nat.eq_zero_or_pos l with h | h
    · exact Or.inl h
    · right
      rw [Nat.le_div_iff_mul_le (Nat.two_pow_pos _)]
      have hd2 : q.log2 = 52 + (d + 2) := by omega
      rw [hd2, Nat.pow_add 2 52] at c1
      have h4 : (2 : Nat) ^ 52 = 4503599627370496 := by decide
      rw [h4] at c1
      exact c1
  have hdm := Nat.div_add_mod q (2 ^ (d + 2))
  have hrl := Nat.mod_lt q (Nat.two_pow_pos (d + 2))
  have key := cut_isR M n l (q / 2 ^ (d + 2)) (2 ^ d) (q % 2 ^ (d + 2)) f s (by omega) hg hf hs (by rw [← g4, hq, Nat.mul_comm]; exact hdm.symm) (by rw [← g4]; exact hrl) hlow hlow2
  rw [← g4] at key
  refine ⟨_, word_false _, ?_⟩
  refine isR_scale (k := 2 * 2 ^ d) (by omega) ?_
  have k2 := isR_scale' (k := 2 ^ S) (Nat.two_pow_pos S) key
  have x1 : M * 2 ^ l * 2 ^ S = m * 2 ^ E * (2 * 2 ^ d) := by
    have y1 : m * 2 ^ E * (2 * 2 ^ d) = m * 2 ^ (E + (d + 1)) := by rw [Nat.pow_add, Nat.pow_succ, Nat.mul_assoc, Nat.mul_comm 2 (2 ^ d)]
    rw [y1, hM2, Nat.mul_assoc, Nat.mul_assoc, ← Nat.pow_add, ← Nat.pow_add]
    congr 2
    omega
  have x2 : n * (2 * 2 ^ d) * 2 ^ S = n * 2 ^ S * (2 * 2 ^ d) := by ac_rfl
  rw [x1, x2] at k2
  exact k2
/-- A number by a number, neither of them nought: the nearest. -/
theorem div_isR {a u : Nat} (ha : 0 < a) (ha2 : a < 9218868437227405312) (hu : 0 < u) (hu2 : u < 9218868437227405312) (k z : Nat) (hk : k = 1074) (hz : z = 2 ^ k) :
    ∃ R, double.div a u = some (min R 9218868437227405312) ∧ IsR (V a * z) (V u) R := by
  have a1 : a % 9223372036854775808 = a := Nat.mod_eq_of_lt (by omega)
  have u1 : u % 9223372036854775808 = u := Nat.mod_eq_of_lt (by omega)
  have a2 : a / 9223372036854775808 = 0 := Nat.div_eq_of_lt (by omega)
  have u2 : u / 9223372036854775808 = 0 := Nat.div_eq_of_lt (by omega)
  have la := mg_log2 a
  obtain ⟨R, hR, hi⟩ := quo_isR (mg a) (mg u) (mg_pos ha) (mg_pos hu) (by omega) (-1074 + (pl a : Int) - (-1074 + (pl u : Int)) - ((54 + (mg u).log2 - (mg a).log2 : Nat) : Int) - 1) ((pl a : Int) - (pl u : Int)) (pl u) (pl a + k) (by omega) (by omega)
  refine ⟨R, ?_, ?_⟩
  · unfold Format.div
    rw [read_num (by rw [a1]; exact ha2), read_num (by rw [u1]; exact hu2), a1, u1, a2, u2]
    have e5 : double.fractionBits = 52 := rfl
    simp only [Datum.quotient, e5, if_neg (mg_pos hu), Option.map_some, Format.write]
    exact congrArg some hR
  · unfold V
    rw [hz, Nat.mul_assoc, ← Nat.pow_add]
    exact hi
/-- Quotients by one number rise as what is divided does. -/
theorem div_mono {a b u : Nat} (hab : a ≤ b) (hb : b < 9218868437227405312) (hu : 0 < u) (hu2 : u ≤ 9218868437227405312) :
    ∃ r s, double.div a u = some r ∧ double.div b u = some s ∧ r ≤ s ∧ s ≤ 9218868437227405312 := by
  rcases Nat.lt_or_ge u 9218868437227405312 with h | h
  · rcases Nat.eq_zero_or_pos b with hb0 | hb0
    · obtain rfl : b = 0 := hb0
      obtain rfl : a = 0 := by omega
      exact ⟨0, 0, div_nought hu hu2, div_nought hu hu2, by omega, by omega⟩
    · obtain ⟨k, hk⟩ : ∃ k : Nat, k = 1074 := ⟨_, rfl⟩
      obtain ⟨z, hz⟩ : ∃ z : Nat, z = 2 ^ k := ⟨_, rfl⟩
      obtain ⟨R2, d2, i2⟩ := div_isR hb0 hb hu h k z hk hz
      rcases Nat.eq_zero_or_pos a with ha0 | ha0
      · obtain rfl : a = 0 := ha0
        exact ⟨0, _, div_nought hu hu2, d2, by omega, by omega⟩
      · obtain ⟨R1, d1, i1⟩ := div_isR ha0 (by omega) hu h k z hk hz
        have := isR_mono (V_pos hu) (Nat.mul_le_mul_right z (V_le hab)) i1 i2
        exact ⟨_, _, d1, d2, by omega, by omega⟩
  · obtain rfl : u = 9218868437227405312 := by omega
    exact ⟨0, 0, div_infinity (by omega), div_infinity hb, by omega, by omega⟩
theorem div_plain {a u : Nat} (ha : a < 9218868437227405312) (hu : 0 < u) (hu2 : u ≤ 9218868437227405312) : ∃ r, double.div a u = some r ∧ r ≤ 9218868437227405312 := by
  obtain ⟨r, s, h1, h2, _, h4⟩ := div_mono (Nat.le_refl a) ha hu hu2
  exact ⟨s, h2, h4⟩
theorem div_inf_plain {u : Nat} (hu : u < 9218868437227405312) : double.div 9218868437227405312 u = some 9218868437227405312 := by
  have u1 : u % 9223372036854775808 = u := Nat.mod_eq_of_lt (by omega)
  have u2 : u / 9223372036854775808 = 0 := Nat.div_eq_of_lt (by omega)
  unfold Format.div
  rw [read_inf (by decide), read_num (by rw [u1]; exact hu), u1, u2]
  simp only [Datum.quotient, Option.map_some, write_inf]
  rfl
theorem nearest_plain (m : Nat) (p : Int) : double.nearest false m p ≤ 9218868437227405312 := by
  have e3 : double.infRung = 9218868437227405312 := by decide +kernel
  unfold Format.nearest
  dsimp only
  split
  · rw [word_false]; omega
  · rw [word_false, e3]; exact Nat.min_le_right _ _
/-- A sum of two words without a sign is one. -/
theorem add_plain {a b : Nat} (ha : a ≤ 9218868437227405312) (hb : b ≤ 9218868437227405312) : ∃ r, double.add a b = some r ∧ r ≤ 9218868437227405312 := by
  have a1 : a % 9223372036854775808 = a := Nat.mod_eq_of_lt (by omega)
  have b1 : b % 9223372036854775808 = b := Nat.mod_eq_of_lt (by omega)
  have a2 : a / 9223372036854775808 = 0 := Nat.div_eq_of_lt (by omega)
  have b2 : b / 9223372036854775808 = 0 := Nat.div_eq_of_lt (by omega)
  unfold Format.add
  rcases Nat.lt_or_ge a 9218868437227405312 with h1 | h1 <;> rcases Nat.lt_or_ge b 9218868437227405312 with h2 | h2
  · rw [read_num (by rw [a1]; exact h1), read_num (by rw [b1]; exact h2), a1, b1, a2, b2]
    simp only [Datum.sum, Option.map_some, Format.write]
    refine ⟨_, rfl, ?_⟩
    have e : ∀ x y : Nat, ¬ ((signed false (mg a) x + signed false (mg b) y) < 0) := by
      intro x y
      unfold signed
      simp only [Bool.false_eq_true, if_false]
      generalize mg a <<< x = p
      generalize mg b <<< y = q
      omega
    have ef : ((0 % 2 : Nat) == 1) = false := rfl
    rw [ef]
    split
    · exact nearest_plain _ _
    · rw [decide_eq_false (e _ _)]; exact nearest_plain _ _
  · rw [read_num (by rw [a1]; exact h1), read_inf (by omega), b2]
    simp only [Datum.sum, Option.map_some, write_inf]
    exact ⟨_, rfl, by show double.word false _ ≤ _; rw [word_false]; omega⟩
  · rw [read_inf (by omega), read_num (by rw [b1]; exact h2), a2]
    simp only [Datum.sum, Option.map_some, write_inf]
    exact ⟨_, rfl, by show double.word false _ ≤ _; rw [word_false]; omega⟩
  · rw [read_inf (by omega), read_inf (by omega), a2, b2]
    simp only [Datum.sum, if_true, Option.map_some, write_inf]
    exact ⟨_, rfl, by show double.word false _ ≤ _; rw [word_false]; omega⟩
end Flo
end Go.Proofs.Ytkfapcigfgfeaaa
