/- Words of 64 bits as whole numbers, and what floating-point comparisons say of them. No dump is imported here. -/
import Derived.Test.YtkfapcigfgfeaaaFlb
import Derived.Laws.BitsAllLaws
namespace Go.Proofs.Ytkfapcigfgfeaaa
namespace Flo
open Ieee
def fnat (a : Int) : Nat := a.toNat
def Word (a : Int) : Prop := 0 ≤ a ∧ a ≤ 18446744073709551615
/-- What a word is: 0 a nought, 1 a number, 2 an infinity, 3 a NaN. -/
def kindZ (a : Int) : Int := if a.tmod 9223372036854775808 = 0 then 0 else if a.tmod 9223372036854775808 < 9218868437227405312 then 1 else if a.tmod 9223372036854775808 = 9218868437227405312 then 2 else 3
def canZ (a : Int) : Int := if kindZ a = 0 then 0 else if kindZ a = 3 then 9221120237041090561 else a
def keyZ (a : Int) : Int := if 9223372036854775808 ≤ a then 18446744073709551615 - a else a + 9223372036854775808
def ofZ (k : Int) : Int := if 9223372036854775808 ≤ k then k - 9223372036854775808 else 18446744073709551615 - k
def cmp3 (x y : Int) : Int := if x < y then -1 else if y < x then 1 else 0
def cmpZ (a b : Int) : Int := cmp3 (keyZ (canZ a)) (keyZ (canZ b))
theorem cmp3_lt {x y : Int} (h : x < y) : cmp3 x y = -1 := by unfold cmp3; rw [if_pos h]
theorem cmp3_gt {x y : Int} (h : y < x) : cmp3 x y = 1 := by unfold cmp3; rw [if_neg (by omega), if_pos h]
theorem cmp3_eq {x y : Int} (h : x ≤ y) (h' : y ≤ x) : cmp3 x y = 0 := by unfold cmp3; rw [if_neg (by omega), if_neg (by omega)]

theorem tmod_eq {a : Int} (h : Word a) : a.tmod 9223372036854775808 = a % 9223372036854775808 := Int.tmod_eq_emod_of_nonneg h.1
theorem kind_cases {a : Int} (h : Word a) :
    (kindZ a = 0 ∧ a % 9223372036854775808 = 0) ∨ (kindZ a = 1 ∧ 0 < a % 9223372036854775808 ∧ a % 9223372036854775808 < 9218868437227405312) ∨
    (kindZ a = 2 ∧ a % 9223372036854775808 = 9218868437227405312) ∨ (kindZ a = 3 ∧ 9218868437227405312 < a % 9223372036854775808) := by
  unfold kindZ
  rw [tmod_eq h]
  have := Int.emod_nonneg a (b := 9223372036854775808) (by decide)
  split
  · exact Or.inl ⟨rfl, by assumption⟩
  · split
    · exact Or.inr (Or.inl ⟨rfl, by omega, by assumption⟩)
    · split
      · exact Or.inr (Or.inr (Or.inl ⟨rfl, by assumption⟩))
      · exact Or.inr (Or.inr (Or.inr ⟨rfl, by omega⟩))
theorem fnat_mod {a : Int} (h : Word a) : ((fnat a % 9223372036854775808 : Nat) : Int) = a % 9223372036854775808 := by
  unfold fnat; have := h.1; omega
theorem fnat_lt {a : Int} (h : Word a) : fnat a < 18446744073709551616 := by
  unfold fnat; have := h.2; omega
theorem fnat_cast {a : Int} (h : Word a) : ((fnat a : Nat) : Int) = a := by
  unfold fnat; have := h.1; omega
theorem rung_le {a : Int} (h : Word a) (hk : kindZ a ≠ 3) : fnat a % 9223372036854775808 ≤ 9218868437227405312 := by
  have := fnat_mod h
  rcases kind_cases h with ⟨e, h1⟩ | ⟨e, h1⟩ | ⟨e, h1⟩ | ⟨e, h1⟩
  · omega
  · omega
  · omega
  · exact absurd e hk
theorem rung_nan {a : Int} (h : Word a) (hk : kindZ a = 3) : 9218868437227405312 < fnat a % 9223372036854775808 := by
  have := fnat_mod h
  rcases kind_cases h with ⟨e, h1⟩ | ⟨e, h1⟩ | ⟨e, h1⟩ | ⟨e, h1⟩ <;> omega

/-- The place in the order, of a word that is no NaN. -/
def plZ (a : Int) : Int := if 9223372036854775808 ≤ a then 9223372036854775808 - a else a
theorem zk_fnat {a : Int} (h : Word a) : zk (fnat a) = plZ a := by
  have h1 := h.1; have h2 := h.2
  unfold zk plZ fnat
  by_cases hs : 9223372036854775808 ≤ a
  · rw [if_pos hs, if_pos (by omega)]; omega
  · rw [if_neg hs, if_neg (by omega)]; omega

theorem order_num {a b : Int} (ha : Word a) (hb : Word b) (h1 : kindZ a ≠ 3) (h2 : kindZ b ≠ 3) : FloatKind.f64.format.order (fnat a) (fnat b) = some (compare (plZ a) (plZ b)) := by
  have := order_key (rung_le ha h1) (rung_le hb h2)
  rw [zk_fnat ha, zk_fnat hb] at this
  exact this
theorem order_nan {a : Int} (b : Nat) (ha : Word a) (h1 : kindZ a = 3) : FloatKind.f64.format.order (fnat a) b = none := order_nan_l b (rung_nan ha h1)
theorem order_nan' {b : Int} (a : Nat) (hb : Word b) (h1 : kindZ b = 3) : FloatKind.f64.format.order a (fnat b) = none := order_nan_r a (rung_nan hb h1)

theorem ne_self {a : Int} (ha : Word a) : (FloatKind.f64.format.order (fnat a) (fnat a) != some .eq) = decide (kindZ a = 3) := by
  by_cases h : kindZ a = 3
  · rw [order_nan _ ha h, h]; rfl
  · rw [order_num ha ha h h, cmp_int, if_neg (by omega), if_pos rfl]; simp [h]
theorem word_zero : Word 0 := ⟨by decide, by decide⟩
theorem kind_zero : kindZ 0 = 0 := by decide
theorem pl_zero : plZ 0 = 0 := by decide
theorem plZ_zero {a : Int} (ha : Word a) (_h : kindZ a ≠ 3) : plZ a = 0 ↔ kindZ a = 0 := by
  have h1 := ha.1; have h2 := ha.2
  have hc := kind_cases ha
  unfold plZ
  split <;> omega
theorem eq_nought {a : Int} (ha : Word a) : (FloatKind.f64.format.order (fnat a) 0 == some .eq) = decide (kindZ a = 0) := by
  by_cases h : kindZ a = 3
  · rw [order_nan _ ha h, h]; rfl
  · have e : (0 : Nat) = fnat 0 := rfl
    rw [e, order_num ha word_zero h (by decide), cmp_int, pl_zero]
    have := plZ_zero ha h
    by_cases h0 : kindZ a = 0
    · rw [if_neg (by omega), if_pos (by omega)]; simp [h0]
    · by_cases hl : plZ a < 0
      · rw [if_pos hl]; simp [h0]
      · rw [if_neg hl, if_neg (by omega)]; simp [h0]

theorem word_can {a : Int} (ha : Word a) : Word (canZ a) := by
  unfold canZ; split
  · exact ⟨by decide, by decide⟩
  · split
    · exact ⟨by decide, by decide⟩
    · exact ha
theorem word_key {a : Int} (ha : Word a) : Word (keyZ a) := by
  have h1 := ha.1; have h2 := ha.2
  unfold keyZ Word; split <;> omega
theorem word_of {a : Int} (ha : Word a) : Word (ofZ a) := by
  have h1 := ha.1; have h2 := ha.2
  unfold ofZ Word; split <;> omega

/-! bits of words: the highest one -/
def sgnZ (a : Int) : Bool := decide (9223372036854775808 ≤ a)
theorem word_max : (IntKind.u64.max : Int) = 18446744073709551615 := by decide
theorem toNat_div {a : Int} (h : Word a) : (a.toNat / 9223372036854775808 % 2 = 1) ↔ 9223372036854775808 ≤ a := by
  have h1 := h.1; have h2 := h.2
  omega
theorem and_top {a : Int} (h : Word a) : bits .and .u64 a 9223372036854775808 = if 9223372036854775808 ≤ a then 9223372036854775808 else 0 := by
  have h1 := h.1; have h2 := h.2
  rw [u64_and a _ h1 (by omega) (by decide) (by decide)]
  have e : (Int.toNat 9223372036854775808) = 2 ^ 63 := by decide
  rw [e, nat_bit]
  have := toNat_div h
  by_cases hs : 9223372036854775808 ≤ a
  · rw [if_pos hs, show a.toNat / 2 ^ 63 % 2 = 1 from this.2 hs]; rfl
  · rw [if_neg hs]
    have h0 : a.toNat / 2 ^ 63 % 2 = 0 := by
      have h3 : ¬ (a.toNat / 9223372036854775808 % 2 = 1) := fun hc => hs (this.1 hc)
      show a.toNat / 9223372036854775808 % 2 = 0
      omega
    rw [h0]; rfl
theorem and_top_ne {a : Int} (h : Word a) : (bits .and .u64 a 9223372036854775808 != 0) = sgnZ a := by
  rw [and_top h]; unfold sgnZ
  by_cases hs : 9223372036854775808 ≤ a
  · rw [if_pos hs, decide_eq_true hs]; rfl
  · rw [if_neg hs, decide_eq_false hs]; rfl
theorem xor_max {a : Int} (h : Word a) : bits .xor .u64 IntKind.u64.max a = 18446744073709551615 - a := by
  have h1 := h.1; have h2 := h.2
  rw [word_max, u64_xor _ a (by decide) (by decide) h1 (by omega)]
  have e : (Int.toNat 18446744073709551615) ^^^ a.toNat = 18446744073709551615 - a.toNat := by
    have hb : a.toNat < 2 ^ 64 := by omega
    have hx : (BitVec.allOnes 64 ^^^ BitVec.ofNat 64 a.toNat).toNat = (~~~ BitVec.ofNat 64 a.toNat).toNat := by rw [BitVec.allOnes_xor]
    rw [BitVec.toNat_xor, BitVec.toNat_not, BitVec.toNat_ofNat, Nat.mod_eq_of_lt hb] at hx
    exact hx
  rw [e]; omega
theorem or_top {a : Int} (h : Word a) : bits .or .u64 a 9223372036854775808 = if 9223372036854775808 ≤ a then a else a + 9223372036854775808 := by
  have h1 := h.1; have h2 := h.2
  rw [u64_or a _ h1 (by omega) (by decide) (by decide)]
  have e0 : (Int.toNat 9223372036854775808) = 2 ^ 63 := by decide
  rw [e0]
  by_cases hs : 9223372036854775808 ≤ a
  · rw [if_pos hs]
    have e1 : a.toNat = 2 ^ 63 * 1 + (a.toNat - 2 ^ 63) := by omega
    have e2 : (2 ^ 63 * 1 + (a.toNat - 2 ^ 63)) = 2 ^ 63 * 1 ||| (a.toNat - 2 ^ 63) := Nat.two_pow_add_eq_or_of_lt (by omega) 1
    have e3 : a.toNat ||| 2 ^ 63 = a.toNat := by
      rw [e1, e2, Nat.mul_one, Nat.or_assoc, Nat.or_comm (a.toNat - 2 ^ 63), ← Nat.or_assoc, Nat.or_self]
    rw [e3]; omega
  · rw [if_neg hs]
    have e2 : (2 ^ 63 * 1 + a.toNat) = 2 ^ 63 * 1 ||| a.toNat := Nat.two_pow_add_eq_or_of_lt (by omega) 1
    rw [Nat.mul_one] at e2
    rw [Nat.or_comm, ← e2]; omega
theorem andNot_top {a : Int} (h : Word a) : bits .andNot .u64 a 9223372036854775808 = a % 9223372036854775808 := by
  have h1 := h.1; have h2 := h.2
  rw [u64_andNot a _ h1 (by omega) (by decide) (by decide)]
  have e0 : 18446744073709551615 - (Int.toNat 9223372036854775808) = 2 ^ 63 - 1 := by decide
  rw [e0, Nat.and_two_pow_sub_one_eq_mod]
  omega
theorem word_mod {a : Int} (h : Word a) : Word (a % 9223372036854775808) := by
  have h1 := h.1; have h2 := h.2
  unfold Word; omega
theorem key_yes {a : Int} (h : Word a) (hs : (bits .and .u64 a 9223372036854775808 != 0) = true) : bits .xor .u64 IntKind.u64.max a = keyZ a := by
  rw [and_top_ne h] at hs
  rw [xor_max h]; unfold keyZ; rw [if_pos (of_decide_eq_true hs)]
theorem key_no {a : Int} (h : Word a) (hs : (bits .and .u64 a 9223372036854775808 != 0) = false) : bits .or .u64 a 9223372036854775808 = keyZ a := by
  rw [and_top_ne h] at hs
  have hs := of_decide_eq_false hs
  rw [or_top h]; unfold keyZ; rw [if_neg hs, if_neg hs]
theorem of_yes {a : Int} (h : Word a) (hs : (bits .and .u64 a 9223372036854775808 != 0) = true) : bits .andNot .u64 a 9223372036854775808 = ofZ a := by
  rw [and_top_ne h] at hs
  have hs := of_decide_eq_true hs
  have h1 := h.1; have h2 := h.2
  rw [andNot_top h]; unfold ofZ; rw [if_pos hs]; omega
theorem of_no {a : Int} (h : Word a) (hs : (bits .and .u64 a 9223372036854775808 != 0) = false) : bits .xor .u64 IntKind.u64.max a = ofZ a := by
  rw [and_top_ne h] at hs
  have hs := of_decide_eq_false hs
  rw [xor_max h]; unfold ofZ; rw [if_neg hs]
theorem can_nan {a : Int} (h : Word a) (hs : (FloatKind.f64.format.order (fnat a) (fnat a) != some .eq) = true) : canZ a = 9221120237041090561 := by
  rw [ne_self h] at hs
  have hs := of_decide_eq_true hs
  unfold canZ; rw [if_neg (by omega), if_pos hs]
theorem can_nought {a : Int} (h : Word a) (hs : (FloatKind.f64.format.order (fnat a) 0 == some .eq) = true) : canZ a = 0 := by
  rw [eq_nought h] at hs
  have hs := of_decide_eq_true hs
  unfold canZ; rw [if_pos hs]
theorem can_else {a : Int} (h : Word a) (hs : (FloatKind.f64.format.order (fnat a) (fnat a) != some .eq) = false) (hz : (FloatKind.f64.format.order (fnat a) 0 == some .eq) = false) : canZ a = a := by
  rw [ne_self h] at hs
  rw [eq_nought h] at hz
  unfold canZ; rw [if_neg (of_decide_eq_false hz), if_neg (of_decide_eq_false hs)]
theorem kind0 {a : Int} (h : (a.tmod 9223372036854775808 == 0) = true) : kindZ a = 0 := by
  unfold kindZ; rw [if_pos (by simpa using h)]
theorem kind1 {a : Int} (h : (a.tmod 9223372036854775808 == 0) = false) (h1 : a.tmod 9223372036854775808 < 9218868437227405312) : kindZ a = 1 := by
  unfold kindZ; rw [if_neg (by simpa using h), if_pos h1]
theorem kind2 {a : Int} (h : (a.tmod 9223372036854775808 == 0) = false) (h1 : 9218868437227405312 ≤ a.tmod 9223372036854775808) (h2 : (a.tmod 9223372036854775808 == 9218868437227405312) = true) : kindZ a = 2 := by
  unfold kindZ; rw [if_neg (by simpa using h), if_neg (by omega), if_pos (by simpa using h2)]
theorem kind3 {a : Int} (h : (a.tmod 9223372036854775808 == 0) = false) (h1 : 9218868437227405312 ≤ a.tmod 9223372036854775808) (h2 : (a.tmod 9223372036854775808 == 9218868437227405312) = false) : kindZ a = 3 := by
  unfold kindZ; rw [if_neg (by simpa using h), if_neg (by omega), if_neg (by simpa using h2)]
theorem refkey_yes {a : Int} (h : Word a) (h1 : 9223372036854775808 ≤ a) : IntKind.u64.wrap (18446744073709551615 - a) = keyZ a := by
  have := h.1; have := h.2
  rw [IntKind.wrap_u64]; unfold keyZ; rw [if_pos h1]; omega
theorem refkey_no {a : Int} (h : Word a) (h1 : a < 9223372036854775808) : IntKind.u64.wrap (a + 9223372036854775808) = keyZ a := by
  have := h.1; have := h.2
  rw [IntKind.wrap_u64]; unfold keyZ; rw [if_neg (by omega)]; omega
theorem refof_yes {a : Int} (h : Word a) (h1 : 9223372036854775808 ≤ a) : IntKind.u64.wrap (a - 9223372036854775808) = ofZ a := by
  have := h.1; have := h.2
  rw [IntKind.wrap_u64]; unfold ofZ; rw [if_pos h1]; omega
theorem refof_no {a : Int} (h : Word a) (h1 : a < 9223372036854775808) : IntKind.u64.wrap (18446744073709551615 - a) = ofZ a := by
  have := h.1; have := h.2
  rw [IntKind.wrap_u64]; unfold ofZ; rw [if_neg (by omega)]; omega
end Flo
end Go.Proofs.Ytkfapcigfgfeaaa
