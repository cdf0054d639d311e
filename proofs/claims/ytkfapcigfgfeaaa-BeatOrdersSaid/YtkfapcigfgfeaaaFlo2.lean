/- How keys stand to each other where words do, and what the comparisons of two words say, case by case. No dump is imported here. -/
import Derived.Test.YtkfapcigfgfeaaaFlz
namespace Go.Proofs.Ytkfapcigfgfeaaa
namespace Flo
def ltB (a b : Int) : Bool := FloatKind.f64.format.order (fnat a) (fnat b) == some .lt
def eqB (a b : Int) : Bool := FloatKind.f64.format.order (fnat a) (fnat b) == some .eq
theorem can_same {a : Int} (h0 : kindZ a ≠ 0) (h3 : kindZ a ≠ 3) : canZ a = a := by
  unfold canZ; rw [if_neg h0, if_neg h3]
theorem can_key {a : Int} (h : Word a) (hk : kindZ a ≠ 3) : keyZ (canZ a) = if plZ a < 0 then plZ a + 9223372036854775807 else plZ a + 9223372036854775808 := by
  have h1 := h.1; have h2 := h.2
  have hc := kind_cases h
  by_cases h0 : kindZ a = 0
  · have : a = 0 ∨ a = 9223372036854775808 := by omega
    rcases this with rfl | rfl <;> decide
  · have hm : a % 9223372036854775808 ≠ 0 := by omega
    rw [can_same h0 hk]
    unfold keyZ plZ
    by_cases hs : 9223372036854775808 ≤ a
    · simp only [if_pos hs]; rw [if_pos (by omega)]; omega
    · simp only [if_neg hs]; rw [if_neg (by omega)]
theorem pl_le {a : Int} (h : Word a) (hk : kindZ a ≠ 3) : plZ a ≤ 9218868437227405312 := by
  have h1 := h.1; have h2 := h.2
  unfold plZ
  rcases kind_cases h with ⟨e, h3⟩ | ⟨e, h3⟩ | ⟨e, h3⟩ | ⟨e, h3⟩
  · split <;> omega
  · split <;> omega
  · split <;> omega
  · exact absurd e hk
theorem can_nan_key {a : Int} (hk : kindZ a = 3) : keyZ (canZ a) = 18444492273895866369 := by
  unfold canZ; rw [if_neg (by omega), if_pos hk]; decide
theorem key_le_num {a : Int} (h : Word a) (hk : kindZ a ≠ 3) : keyZ (canZ a) < 18444492273895866369 := by
  have := pl_le h hk
  rw [can_key h hk]; split <;> omega
theorem cmp_num {a b : Int} (ha : Word a) (hb : Word b) (h1 : kindZ a ≠ 3) (h2 : kindZ b ≠ 3) : cmpZ a b = cmp3 (plZ a) (plZ b) := by
  unfold cmpZ cmp3
  rw [can_key ha h1, can_key hb h2]
  have e1 : ((if plZ a < 0 then plZ a + 9223372036854775807 else plZ a + 9223372036854775808) < (if plZ b < 0 then plZ b + 9223372036854775807 else plZ b + 9223372036854775808)) ↔ plZ a < plZ b := by
    split <;> split <;> omega
  have e2 : ((if plZ b < 0 then plZ b + 9223372036854775807 else plZ b + 9223372036854775808) < (if plZ a < 0 then plZ a + 9223372036854775807 else plZ a + 9223372036854775808)) ↔ plZ b < plZ a := by
    split <;> split <;> omega
  simp only [e1, e2]
theorem cmp3_swap (x y : Int) : cmp3 y x = -cmp3 x y := by
  unfold cmp3
  by_cases h : x < y
  · rw [if_pos h, if_neg (by omega), if_pos h]; rfl
  · by_cases h' : y < x
    · rw [if_pos h', if_neg h, if_pos h']
    · rw [if_neg h', if_neg h, if_neg h, if_neg h']; rfl
theorem cmp3_range (x y : Int) : (cmp3 x y = -1 ∧ x < y) ∨ (cmp3 x y = 0 ∧ x = y) ∨ (cmp3 x y = 1 ∧ y < x) := by
  unfold cmp3
  by_cases h : x < y
  · rw [if_pos h]; exact Or.inl ⟨rfl, h⟩
  · by_cases h' : y < x
    · rw [if_neg h, if_pos h']; exact Or.inr (Or.inr ⟨rfl, h'⟩)
    · rw [if_neg h, if_neg h']; exact Or.inr (Or.inl ⟨rfl, by omega⟩)
theorem cmp_trans {a b c : Int} (h1 : cmpZ a b = -1) (h2 : cmpZ b c = -1) : cmpZ a c = -1 := by
  unfold cmpZ at *
  have := cmp3_range (keyZ (canZ a)) (keyZ (canZ b))
  have := cmp3_range (keyZ (canZ b)) (keyZ (canZ c))
  have := cmp3_range (keyZ (canZ a)) (keyZ (canZ c))
  omega
theorem cmp_cases (a b : Int) : cmpZ a b = -1 ∨ cmpZ a b = 0 ∨ cmpZ a b = 1 := by
  unfold cmpZ
  have := cmp3_range (keyZ (canZ a)) (keyZ (canZ b))
  omega
theorem lt_num {a b : Int} (ha : Word a) (hb : Word b) (h1 : kindZ a ≠ 3) (h2 : kindZ b ≠ 3) : ltB a b = decide (plZ a < plZ b) := by
  unfold ltB
  rw [order_num ha hb h1 h2, cmp_int]
  by_cases h : plZ a < plZ b
  · rw [if_pos h]; simp [h]
  · rw [if_neg h]; split <;> simp [h]
theorem eq_num {a b : Int} (ha : Word a) (hb : Word b) (h1 : kindZ a ≠ 3) (h2 : kindZ b ≠ 3) : eqB a b = decide (plZ a = plZ b) := by
  unfold eqB
  rw [order_num ha hb h1 h2, cmp_int]
  by_cases h : plZ a < plZ b
  · have : ¬ plZ a = plZ b := by omega
    rw [if_pos h]; simp [this]
  · rw [if_neg h]
    by_cases h' : plZ a = plZ b
    · rw [if_pos h']; simp [h']
    · rw [if_neg h']; simp [h']
theorem gt_num {a b : Int} (ha : Word a) (hb : Word b) (h1 : kindZ a ≠ 3) (h2 : kindZ b ≠ 3) : (FloatKind.f64.format.order (fnat a) (fnat b) == some .gt) = decide (plZ b < plZ a) := by
  rw [order_num ha hb h1 h2, cmp_int]
  by_cases h : plZ a < plZ b
  · have : ¬ plZ b < plZ a := by omega
    rw [if_pos h]; simp [this]
  · rw [if_neg h]
    by_cases h' : plZ a = plZ b
    · rw [if_pos h']; simp [h']
    · have : plZ b < plZ a := by omega
      rw [if_neg h']; simp [this]
theorem lt_nan {a b : Int} (ha : Word a) (hb : Word b) (h : kindZ a = 3 ∨ kindZ b = 3) : ltB a b = false := by
  unfold ltB
  rcases h with h | h
  · rw [order_nan _ ha h]; rfl
  · rw [order_nan' _ hb h]; rfl
theorem eq_nan {a b : Int} (ha : Word a) (hb : Word b) (h : kindZ a = 3 ∨ kindZ b = 3) : eqB a b = false := by
  unfold eqB
  rcases h with h | h
  · rw [order_nan _ ha h]; rfl
  · rw [order_nan' _ hb h]; rfl
theorem self_num {a : Int} (ha : Word a) (h1 : kindZ a ≠ 3) : eqB a a = true := by
  rw [eq_num ha ha h1 h1]; simp
theorem key_lt {a b : Int} (ha : Word a) (hb : Word b) (h : plZ a < plZ b) : keyZ a < keyZ b := by
  have h1 := ha.1; have h2 := ha.2; have h3 := hb.1; have h4 := hb.2
  unfold plZ at h; unfold keyZ
  by_cases c1 : 9223372036854775808 ≤ a <;> by_cases c2 : 9223372036854775808 ≤ b <;> simp only [c1, c2, if_true, if_false] at h ⊢ <;> omega
theorem key_inj {a b : Int} (ha : Word a) (hb : Word b) (h : keyZ a = keyZ b) : a = b := by
  have h1 := ha.1; have h2 := ha.2; have h3 := hb.1; have h4 := hb.2
  unfold keyZ at h
  by_cases c1 : 9223372036854775808 ≤ a <;> by_cases c2 : 9223372036854775808 ≤ b <;> simp only [c1, c2, if_true, if_false] at h <;> omega
theorem of_key {a : Int} (ha : Word a) : ofZ (keyZ a) = a := by
  have h1 := ha.1; have h2 := ha.2
  unfold ofZ keyZ
  split <;> split <;> omega
theorem key_of {a : Int} (ha : Word a) : keyZ (ofZ a) = a := by
  have h1 := ha.1; have h2 := ha.2
  unfold ofZ keyZ
  split <;> split <;> omega

/-- How two words may stand: less; the first a number and the second a NaN; equal; greater; both NaNs; the first a NaN alone. -/
theorem order_facts {a b : Int} (ha : Word a) (hb : Word b) :
    (ltB a b = true ∧ decide (keyZ b ≤ keyZ a) = false ∧ eqB a b = false ∧ eqB a a = true ∧ cmpZ a b = -1) ∨
    (ltB a b = false ∧ eqB a b = false ∧ eqB a a = true ∧ cmpZ a b = -1) ∨ (ltB a b = false ∧ eqB a b = true ∧ eqB a a = true ∧ cmpZ a b = 0) ∨
    (ltB a b = false ∧ eqB a b = false ∧ eqB a a = true ∧ cmpZ a b = 1) ∨ (ltB a b = false ∧ eqB a b = false ∧ eqB a a = false ∧ cmpZ a b = 0) ∨
    (ltB a b = false ∧ eqB a b = false ∧ eqB a a = false ∧ cmpZ a b = 1) := by
  by_cases h1 : kindZ a = 3
  · have e1 := lt_nan ha hb (Or.inl h1)
    have e2 := eq_nan ha hb (Or.inl h1)
    have e3 := eq_nan ha ha (Or.inl h1)
    by_cases h2 : kindZ b = 3
    · have : cmpZ a b = 0 := by unfold cmpZ; rw [can_nan_key h1, can_nan_key h2]; decide
      exact Or.inr (Or.inr (Or.inr (Or.inr (Or.inl ⟨e1, e2, e3, this⟩))))
    · have : cmpZ a b = 1 := by unfold cmpZ; exact cmp3_gt (by rw [can_nan_key h1]; exact key_le_num hb h2)
      exact Or.inr (Or.inr (Or.inr (Or.inr (Or.inr ⟨e1, e2, e3, this⟩))))
  · have e3 := self_num ha h1
    by_cases h2 : kindZ b = 3
    · have e1 := lt_nan ha hb (Or.inr h2)
      have e2 := eq_nan ha hb (Or.inr h2)
      have : cmpZ a b = -1 := by unfold cmpZ; exact cmp3_lt (by rw [can_nan_key h2]; exact key_le_num ha h1)
      exact Or.inr (Or.inl ⟨e1, e2, e3, this⟩)
    · have e1 := lt_num ha hb h1 h2
      have e2 := eq_num ha hb h1 h2
      have e4 := cmp_num ha hb h1 h2
      rcases cmp3_range (plZ a) (plZ b) with ⟨f1, f2⟩ | ⟨f1, f2⟩ | ⟨f1, f2⟩
      · have hk := key_lt ha hb f2
        exact Or.inl ⟨by rw [e1]; exact decide_eq_true f2, decide_eq_false (by omega), by rw [e2]; exact decide_eq_false (by omega), e3, by rw [e4, f1]⟩
      · exact Or.inr (Or.inr (Or.inl ⟨by rw [e1]; exact decide_eq_false (by omega), by rw [e2]; exact decide_eq_true f2, e3, by rw [e4, f1]⟩))
      · exact Or.inr (Or.inr (Or.inr (Or.inl ⟨by rw [e1]; exact decide_eq_false (by omega), by rw [e2]; exact decide_eq_false (by omega), e3, by rw [e4, f1]⟩)))
end Flo
end Go.Proofs.Ytkfapcigfgfeaaa
