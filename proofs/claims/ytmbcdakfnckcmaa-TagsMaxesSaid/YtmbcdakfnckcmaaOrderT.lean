/- The law TagsOrder, walked. -/
import Derived.Test.YtmbcdakfnckcmaaValsLaw
import Derived.Deep.DeepCutAuto
namespace Go.Proofs.Ytmbcdakfnckcmaa
open Go.RowKit Mem Be
set_option maxRecDepth 100000
set_option maxHeartbeats 8000000
theorem cmpI_anti (a x : Int) : cmpI x a = - cmpI a x := by
  rcases cmpI_cases a x with ⟨h, h2⟩ | ⟨h, h2⟩ | ⟨h, h2⟩
  · rw [h2, cmpI_gt h]; rfl
  · rw [h2, cmpI_lt h]
  · subst h; rw [h2]; rfl
theorem cmpT_anti (a b c x y z : Int) : cmpT x y z a b c = - cmpT a b c x y z := by
  unfold cmpT
  rw [cmpI_anti a x, cmpI_anti b y, cmpI_anti c z]
  rcases cmpI_cases a x with ⟨_, h⟩ | ⟨_, h⟩ | ⟨_, h⟩ <;> rcases cmpI_cases b y with ⟨_, h'⟩ | ⟨_, h'⟩ | ⟨_, h'⟩ <;> rw [h, h'] <;> simp
theorem cmpT_zero (a b c x y z : Int) : cmpT a b c x y z = 0 ↔ eqT a b c x y z = true := by
  have e : eqT a b c x y z = true ↔ a = x ∧ b = y ∧ c = z := by unfold eqT; simp [and_assoc]
  rw [e]
  unfold cmpT
  rcases cmpI_cases a x with ⟨g, h⟩ | ⟨g, h⟩ | ⟨g, h⟩ <;> rcases cmpI_cases b y with ⟨g', h'⟩ | ⟨g', h'⟩ | ⟨g', h'⟩ <;> rcases cmpI_cases c z with ⟨g'', h''⟩ | ⟨g'', h''⟩ | ⟨g'', h''⟩ <;> rw [h, h', h''] <;> simp <;> omega
theorem cmpT_ge (a b c x y z : Int) : 0 ≤ cmpT a b c x y z ↔ (x < a ∨ (a = x ∧ (y < b ∨ (b = y ∧ z ≤ c)))) := by
  unfold cmpT
  rcases cmpI_cases a x with ⟨g, h⟩ | ⟨g, h⟩ | ⟨g, h⟩ <;> rcases cmpI_cases b y with ⟨g', h'⟩ | ⟨g', h'⟩ | ⟨g', h'⟩ <;> rcases cmpI_cases c z with ⟨g'', h''⟩ | ⟨g'', h''⟩ | ⟨g'', h''⟩ <;> rw [h, h', h''] <;> simp <;> omega
theorem cmpT_trans {a b c x y z p q r : Int} (h1 : 0 ≤ cmpT a b c x y z) (h2 : 0 ≤ cmpT x y z p q r) : 0 ≤ cmpT a b c p q r := by
  rw [cmpT_ge] at *; omega
theorem next_ways (s u o who op : Int) : (∃ e, e ≠ 0 ∧ nextT s u o who op = (0, 0, 0, e)) ∨ (nextT s u o who op = (s + 1, who, op, 0) ∧ checkT (s + 1) who op = 0) := by
  unfold nextT
  by_cases h1 : checkT s u o = 0
  · rw [if_neg (by rw [h1]; simp)]
    cases h2 : inR who 1048575
    · left; exact ⟨2, by decide, by simp⟩
    cases h3 : inR op 1048575
    · left; exact ⟨2, by decide, by simp⟩
    rw [if_neg (by simp)]
    by_cases h4 : s = 1099511627775
    · left; exact ⟨3, by decide, if_pos h4⟩
    · right
      refine ⟨if_neg h4, ?_⟩
      have hs := check_seq h1
      have hi : inR (s + 1) 1099511627775 = true := decide_eq_true (by omega)
      have hz : ((s + 1) == 0) = false := by simp; omega
      unfold checkT okT
      rw [hi, h2, h3, hz]; rfl
  · left; exact ⟨2, by decide, if_pos h1⟩
theorem cmpT_big {s w0 p x y z : Int} (h : x < s) : cmpT s w0 p x y z = 1 := by rw [cmpT_1 (by omega)]; exact cmpI_gt h
end Go.Proofs.Ytmbcdakfnckcmaa
