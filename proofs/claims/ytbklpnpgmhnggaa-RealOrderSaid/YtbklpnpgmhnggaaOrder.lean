/- RealOrder returns true, whatever the three words; nothing that was there is changed. -/
import Derived.Test.YtbklpnpgmhnggaaKnown
import Derived.Test.YtbklpnpgmhnggaaFlo2
namespace Go.Proofs.Ytbklpnpgmhnggaa
open Go.RowKit Flo
set_option maxRecDepth 10000
set_option maxHeartbeats 400000
theorem order_k {a b : Int} (ha : Word a) (hb : Word b) : ((keyZ a == keyZ b) = true ∧ (a != b) = false) ∨ (keyZ a == keyZ b) = false := by
  by_cases h : a = b
  · left; subst h; simp
  · right; simpa using fun hk => h (key_inj ha hb hk)
theorem order_c (a b c : Int) : (cmpZ b c = -1 ∧ (cmpZ a b = -1 → cmpZ a c = -1)) ∨ cmpZ b c = 0 ∨ cmpZ b c = 1 := by
  rcases cmp_cases b c with h | h | h
  · exact Or.inl ⟨h, fun h1 => cmp_trans h1 h⟩
  · exact Or.inr (Or.inl h)
  · exact Or.inr (Or.inr h)
theorem of_key_any (a : Int) (ha : Word a) (w : World) : Calls Try.prog 18 #[.int .u64 (keyZ a)] w fun e w' => e = .returned (.float .f64 (fnat a)) ∧ w = w' :=
  (of_any _ (word_key ha) w).mono fun _ _ ⟨h1, h2⟩ => ⟨by rw [h1, of_key ha], h2⟩
theorem swap_less {a b : Int} (h : cmpZ a b = -1) : cmpZ b a = 1 := by unfold cmpZ at *; rw [cmp3_swap, h]; rfl
theorem swap_same {a b : Int} (h : cmpZ a b = 0) : cmpZ b a = 0 := by unfold cmpZ at *; rw [cmp3_swap, h]; rfl
theorem swap_more {a b : Int} (h : cmpZ a b = 1) : cmpZ b a = -1 := by unfold cmpZ at *; rw [cmp3_swap, h]
theorem order_walk (a b c : Int) (wa : Word a) (wb : Word b) (wc : Word c) (w : World) :
    Calls Try.prog 7 #[.int .u64 a, .int .u64 b, .int .u64 c] w fun e w' => e = .returned (.bool true) ∧ w = w' := by
  have HA := Lib.hid wa
  have HB := Lib.hid wb
  have HC := Lib.hid wc
  have hf := run_frombits
  have h1 := run_bits a wa
  have hk := order_k wa wb
  have ho := order_facts wa wb
  have hc := order_c a b c
  clear wa wb wc
  unfold ltB eqB at ho
  rcases ho with ⟨f1, f2, f3, f4, f5⟩ | ⟨f1, f3, f4, f5⟩ | ⟨f1, f3, f4, f5⟩ | ⟨f1, f3, f4, f5⟩ | ⟨f1, f3, f4, f5⟩ | ⟨f1, f3, f4, f5⟩
  all_goals
    first | have f6 := swap_less f5 | have f6 := swap_same f5 | have f6 := swap_more f5
    rcases hk with ⟨k1, k2⟩ | k1
  all_goals
    rcases hc with ⟨c1, c2⟩ | c1 | c1
  all_goals
    try (have c3 := c2 f5; clear c2)
    try clear c2
    go_enter Try.func7, Try.ntmps7
    go_wp2_with (first
      | (go_at_call 16; refine (key_any _ (by first | exact HA.out | exact HB.out) _).mono ?_; rintro e w' ⟨rfl, rfl⟩)
      | (go_at_call 18; refine (of_key_any _ HA.out _).mono ?_; rintro e w' ⟨rfl, rfl⟩)
      | (go_at_call 20; refine (compare_any _ _ (by first | exact HA.out | exact HB.out | exact HC.out) (by first | exact HA.out | exact HB.out | exact HC.out) _).mono ?_; rintro e w' ⟨rfl, rfl⟩)
      | (go_at_call 23; refine (known_any _).mono ?_; rintro e w' ⟨rfl, rfl⟩))
    go_ret
    exact ⟨rfl, rfl⟩
end Go.Proofs.Ytbklpnpgmhnggaa
