/- RealNext returns true, whatever the two words; nothing that was there is changed. -/
import Derived.Test.YtbklpnpgmhnggaaKnown
import Derived.Test.YtbklpnpgmhnggaaFlo2
namespace Go.Proofs.Ytbklpnpgmhnggaa
open Go.RowKit Flo
set_option maxRecDepth 10000
set_option maxHeartbeats 400000
def gtB (a b : Int) : Bool := FloatKind.f64.format.order (fnat a) (fnat b) == some .gt
def neB (a : Int) : Bool := FloatKind.f64.format.order (fnat a) (fnat a) != some .eq
theorem key_step {a y : Int} (ha : Word a) (hy : Word y) (h : keyZ y = keyZ a + 1) : plZ y ≤ plZ a + 1 := by
  have h1 := ha.1; have h2 := ha.2; have h3 := hy.1; have h4 := hy.2
  unfold keyZ at h; unfold plZ
  by_cases c1 : 9223372036854775808 ≤ a <;> by_cases c2 : 9223372036854775808 ≤ y <;> simp only [c1, c2, if_true, if_false] at h ⊢ <;> omega
theorem next_last {a b y : Int} (ha : Word a) (hb : Word b) (hy : Word y) (h : keyZ y = keyZ a + 1)
    (h1 : ltB b a = false) (h2 : eqB b a = false) (h3 : gtB b y = false) (h4 : eqB b y = false) (h5 : neB b = false) (h6 : neB a = false) (h7 : neB y = false) : False := by
  unfold neB at h5 h6 h7
  rw [ne_self hb] at h5; rw [ne_self ha] at h6; rw [ne_self hy] at h7
  have kb := of_decide_eq_false h5; have ka := of_decide_eq_false h6; have ky := of_decide_eq_false h7
  rw [lt_num hb ha kb ka] at h1; rw [eq_num hb ha kb ka] at h2; rw [eq_num hb hy kb ky] at h4
  unfold gtB at h3; rw [gt_num hb hy kb ky] at h3
  have e1 := of_decide_eq_false h1; have e2 := of_decide_eq_false h2; have e3 := of_decide_eq_false h3; have e4 := of_decide_eq_false h4
  have := key_step ha hy h
  omega
theorem next_facts {a b y : Int} (ha : Word a) (hb : Word b) (hy : Word y) (h : keyZ y = keyZ a + 1) :
    ltB b a = true ∨ (ltB b a = false ∧ eqB b a = true) ∨ (ltB b a = false ∧ eqB b a = false ∧ gtB b y = true) ∨
    (ltB b a = false ∧ eqB b a = false ∧ gtB b y = false ∧ eqB b y = true) ∨
    (ltB b a = false ∧ eqB b a = false ∧ gtB b y = false ∧ eqB b y = false ∧ neB b = true) ∨
    (ltB b a = false ∧ eqB b a = false ∧ gtB b y = false ∧ eqB b y = false ∧ neB b = false ∧ neB a = true) ∨
    (ltB b a = false ∧ eqB b a = false ∧ gtB b y = false ∧ eqB b y = false ∧ neB b = false ∧ neB a = false ∧ neB y = true) := by
  have hl := next_last ha hb hy h
  revert hl
  cases ltB b a <;> cases eqB b a <;> cases gtB b y <;> cases eqB b y <;> cases neB b <;> cases neB a <;> cases neB y <;> simp
theorem next_walk (a b : Int) (wa : Word a) (wb : Word b) (w : World) :
    Calls Try.prog 11 #[.int .u64 a, .int .u64 b] w fun e w' => e = .returned (.bool true) ∧ w = w' := by
  have hf := run_frombits
  by_cases hmax : (keyZ a == 18446744073709551615) = true
  · have HA := Lib.hid wa
    clear wa wb
    go_enter Try.func11, Try.ntmps11
    go_wp2_with (first
      | (go_at_call 16; refine (key_any _ HA.out _).mono ?_; rintro e w' ⟨rfl, rfl⟩)
      | (go_at_call 23; refine (known_any _).mono ?_; rintro e w' ⟨rfl, rfl⟩))
    go_ret
    exact ⟨rfl, rfl⟩
  · have hmax : (keyZ a == 18446744073709551615) = false := by simpa using hmax
    have hne : ¬ keyZ a = 18446744073709551615 := by simpa using hmax
    have wk := word_key wa
    have k1 := wk.1; have k2 := wk.2
    have wk1 : Word (keyZ a + 1) := by unfold Word; omega
    have hwrap : IntKind.u64.wrap (keyZ a + 1) = keyZ a + 1 := by rw [IntKind.wrap_u64]; omega
    obtain ⟨y, wy, hy, ey⟩ : ∃ y, Word y ∧ keyZ y = keyZ a + 1 ∧ ofZ (keyZ a + 1) = y := ⟨ofZ (keyZ a + 1), word_of wk1, key_of wk1, rfl⟩
    have hof : ∀ w, Calls Try.prog 18 #[.int .u64 (keyZ a + 1)] w fun e w' => e = .returned (.float .f64 (fnat y)) ∧ w = w' :=
      fun w => (of_any _ wk1 w).mono fun _ _ ⟨h1, h2⟩ => ⟨by rw [h1, ey], h2⟩
    have hky : ∀ w, Calls Try.prog 16 #[.float .f64 (fnat y)] w fun e w' => e = .returned (.int .u64 (keyZ a + 1)) ∧ w = w' :=
      fun w => (key_any _ wy w).mono fun _ _ ⟨h1, h2⟩ => ⟨by rw [h1, hy], h2⟩
    have hn := next_facts wa wb wy hy
    have HA := Lib.hid wa; have HB := Lib.hid wb
    have HO := Lib.hid hof; have HK := Lib.hid hky
    have hkk : decide (keyZ b ≤ keyZ a) = true ∨ (decide (keyZ b ≤ keyZ a) = false ∧ decide (keyZ a + 1 ≤ keyZ b) = true) := by
      by_cases h : keyZ b ≤ keyZ a
      · exact Or.inl (decide_eq_true h)
      · exact Or.inr ⟨decide_eq_false h, decide_eq_true (by omega)⟩
    clear hy ey hof hky wa wb wy wk wk1 k1 k2 hne
    unfold ltB eqB gtB neB at hn
    rcases hkk with g1 | ⟨g1, g2⟩
    all_goals
      rcases hn with h1 | ⟨h1, h2⟩ | ⟨h1, h2, h3⟩ | ⟨h1, h2, h3, h4⟩ | ⟨h1, h2, h3, h4, h5⟩ | ⟨h1, h2, h3, h4, h5, h6⟩ | ⟨h1, h2, h3, h4, h5, h6, h7⟩
    all_goals
      go_enter Try.func11, Try.ntmps11
      go_wp2_with (first
        | (go_at_call 16; ((with_reducible refine (HK.out _).mono ?_); rintro e w' ⟨rfl, rfl⟩))
        | (go_at_call 16; ((with_reducible refine (key_any a HA.out _).mono ?_); rintro e w' ⟨rfl, rfl⟩))
        | (go_at_call 16; ((with_reducible refine (key_any b HB.out _).mono ?_); rintro e w' ⟨rfl, rfl⟩))
        | (go_at_call 18; refine (HO.out _).mono ?_; rintro e w' ⟨rfl, rfl⟩)
        | (go_at_call 32; refine (kind_any _ _).mono ?_; rintro e w' ⟨rfl, rfl⟩)
        | (go_at_call 23; refine (known_any _).mono ?_; rintro e w' ⟨rfl, rfl⟩))
      go_ret
      exact ⟨rfl, rfl⟩
end Go.Proofs.Ytbklpnpgmhnggaa
