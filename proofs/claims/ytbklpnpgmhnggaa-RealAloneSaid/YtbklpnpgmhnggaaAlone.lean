/- RealAlone returns true, whatever the word; nothing that was there is changed. -/
import Derived.Test.YtbklpnpgmhnggaaMean
import Derived.Test.YtbklpnpgmhnggaaShares
namespace Go.Proofs.Ytbklpnpgmhnggaa
open Go.RowKit Flo Mem
set_option maxRecDepth 10000
set_option maxHeartbeats 800000
def OneZ : Int := 4607182418800017408
theorem word_OneZ : Word OneZ := ⟨by decide, by decide⟩
theorem kind_OneZ : kindZ OneZ = 1 := by decide
theorem sum_alone {a : Int} (h : Word a) (hk : kindZ a ≠ 3) : sumO [a] = some (canZ a) := by
  have hm := fnat_mod h
  have hc := kind_cases h
  show addO (some 0) a = _
  have e := add_zero (b := fnat a) (fnat_lt h) (rung_le h hk)
  have e' : Ieee.double.add (fnat 0) (fnat a) = some (fnat (canZ a)) := by
    show Ieee.double.add 0 (fnat a) = _
    rw [e]
    congr 1
    by_cases h0 : kindZ a = 0
    · rw [if_pos (by omega)]; unfold canZ; rw [if_pos h0]; rfl
    · rw [if_neg (by omega), can_same h0 hk]
  rw [addO_some e', fnat_cast (word_can h)]
theorem sum_alone_nan {a : Int} (h : Word a) (hk : kindZ a = 3) : sumO [a] = none := sum_nan [a] a (by simp) h hk
theorem mean_alone {a : Int} (h : Word a) (hk : kindZ a ≠ 3) : meanV [a] = canZ a ∧ meanE [a] = 0 := by
  have hs := sum_alone h hk
  refine ⟨?_, mean_some hs⟩
  unfold meanV; rw [hs]
  have e : floatOfInt .f64 (([a] : List Int).length : Int) = one := of_one
  simp only [e]
  have hc := div_one (b := fnat (canZ a)) (fnat_lt (word_can h)) (rung_le (word_can h) (kind_can hk))
  rw [hc]
  exact fnat_cast (word_can h)
theorem quo_one {a : Int} (h : Word a) (hk : kindZ a ≠ 3) : quoZ a OneZ = a := by
  unfold quoZ
  have e : fnat OneZ = one := rfl
  rw [e, div_one (fnat_lt h) (rung_le h hk)]
  exact fnat_cast h
theorem quo_self {a : Int} (h : Word a) (hk : kindZ a = 1) : quoZ a a = OneZ := by
  unfold quoZ
  have hm := fnat_mod h
  have hc := kind_cases h
  rw [div_self (b := fnat a) (by omega) (by omega)]
  rfl
theorem bad_one {a : Int} (hk : kindZ a ≠ 3) : badB a OneZ = false := by
  unfold badB; rw [kind_OneZ, decide_eq_false hk]; simp
theorem bad_one_nan {a : Int} (hk : kindZ a = 3) : badB a OneZ = true ∧ badB a a = true := by
  unfold badB; rw [decide_eq_true hk]; simp
theorem bad_self {a : Int} (hk : kindZ a = 1) : badB a a = false := by unfold badB; rw [hk]; decide
theorem bad_self' {a : Int} (hk : kindZ a ≠ 3) (h1 : kindZ a ≠ 1) (h : Word a) : badB a a = true := by
  have hc := kind_cases h
  unfold badB
  have : kindZ a = 0 ∨ kindZ a = 2 := by omega
  rcases this with e | e <;> rw [e] <;> decide
theorem row_one (a : Int) (w : World) : Row (w.alloc (.cells #[.float .f64 (fnat a)] 23)) (w.heap.size + 1) (some ⟨w.heap.size, 0, none⟩) (([a] : List Int).map fv) := by
  refine Or.inr ⟨w.heap.size, 0, rfl, by omega, fun j hj => ?_⟩
  have hj0 : j = 0 := by simp at hj; omega
  subst hj0
  exact cell_of_row _ w.heap.size 0 #[.float .f64 (fnat a)] 23 (0, 0) (heap_alloc_new w _)
theorem one_is_one : (FloatKind.f64.format.order (fnat OneZ) 4607182418800017408 == some .eq) = true := by
  have h := eq_num word_OneZ word_OneZ (by decide) (by decide)
  have e : plZ OneZ = plZ OneZ := rfl
  rw [decide_eq_true e] at h
  exact h
theorem alone_mean (a : Int) (m n : Int) (hm : meanV [a] = m) (hn : meanE [a] = n) (W : World) (B : Nat) (h : Row W B (some ⟨B - 1, 0, none⟩) (([a] : List Int).map fv)) :
    Calls Try.prog 26 #[.slice (some ⟨B - 1, 0, none⟩) 1 1] W fun e w' => e = .returned (.tuple #[.float .f64 (fnat m), .int .i64 n]) ∧ ∃ q, w' = W.drewN q := by
  have := mean_any B 1 (some ⟨B - 1, 0, none⟩) [a] W h (by simp) (by simp)
  rw [hm, hn] at this
  exact this
theorem grown_one (w : World) (c : Array Value) (t : TypeId) (q : Nat) : Grown w ((w.alloc (.cells c t)).drewN q) := (Grown.refl w).alloc c t
theorem alone_walk (a : Int) (wa : Word a) (w : World) :
    Calls Try.prog 10 #[.int .u64 a] w fun e w' => e = .returned (.bool true) ∧ Grown w w' := by
  have hf := run_frombits
  have HA := Lib.hid wa
  have H1 := Lib.hid (row_one a w)
  by_cases h3 : kindZ a = 3
  · have HM : Hid (∀ W, Row W (w.heap.size + 1) (some ⟨w.heap.size, 0, none⟩) (([a] : List Int).map fv) → Calls Try.prog 26 #[.slice (some ⟨w.heap.size, 0, none⟩) 1 1] W fun e w' => e = .returned (.tuple #[.float .f64 (fnat 0), .int .i64 10]) ∧ ∃ q, w' = W.drewN q) :=
      fun W hW => alone_mean a 0 10 (mean_none (sum_alone_nan wa h3)).1 (mean_none (sum_alone_nan wa h3)).2 W (w.heap.size + 1) hW
    have HS1 : Hid (∀ W, Calls Try.prog 30 #[.float .f64 (fnat a), .float .f64 4607182418800017408] W fun e w' => e = .returned (.tuple #[.float .f64 0, .int .i64 10]) ∧ W = w') :=
      fun W => share_bad a OneZ wa word_OneZ (bad_one_nan h3).1 W
    have HS2 := Lib.hid (bad_one_nan h3).2
    have g3 : (kindZ a == 3) = true := beq_iff_eq.2 h3
    clear wa h3
    go_enter Try.func10, Try.ntmps10
    go_wp2_with (first
      | (go_at_call 26; refine (HM.out _ H1.out).mono ?_; rintro e w' ⟨rfl, q, rfl⟩)
      | (go_at_call 30; ((with_reducible refine (HS1.out _).mono ?_); rintro e w' ⟨rfl, rfl⟩))
      | (go_at_call 30; ((with_reducible refine (share_bad a a HA.out HA.out HS2.out _).mono ?_); rintro e w' ⟨rfl, rfl⟩))
      | (go_at_call 32; refine (kind_any _ _).mono ?_; rintro e w' ⟨rfl, rfl⟩)
      | (go_at_call 23; refine (known_any _).mono ?_; rintro e w' ⟨rfl, rfl⟩))
    go_ret
    exact ⟨rfl, grown_one _ _ _ _⟩
  · have HC := Lib.hid (word_can wa)
    have HM : Hid (∀ W, Row W (w.heap.size + 1) (some ⟨w.heap.size, 0, none⟩) (([a] : List Int).map fv) → Calls Try.prog 26 #[.slice (some ⟨w.heap.size, 0, none⟩) 1 1] W fun e w' => e = .returned (.tuple #[.float .f64 (fnat (canZ a)), .int .i64 0]) ∧ ∃ q, w' = W.drewN q) :=
      fun W hW => alone_mean a (canZ a) 0 (mean_alone wa h3).1 (mean_alone wa h3).2 W (w.heap.size + 1) hW
    have HS1 : Hid (∀ W, Calls Try.prog 30 #[.float .f64 (fnat a), .float .f64 4607182418800017408] W fun e w' => e = .returned (.tuple #[.float .f64 (fnat (canZ a)), .int .i64 0]) ∧ W = w') := by
      intro W
      have := share_good a OneZ wa word_OneZ (bad_one h3) W
      rw [quo_one wa h3] at this
      exact this
    have g3 : (kindZ a == 3) = false := beq_false_of_ne h3
    by_cases h1 : kindZ a = 1
    · have HS2 : Hid (∀ W, Calls Try.prog 30 #[.float .f64 (fnat a), .float .f64 (fnat a)] W fun e w' => e = .returned (.tuple #[.float .f64 (fnat OneZ), .int .i64 0]) ∧ W = w') := by
        intro W
        have := share_good a a wa wa (bad_self h1) W
        rw [quo_self wa h1] at this
        exact this
      have g1 : (kindZ a == 1) = true := beq_iff_eq.2 h1
      have ho := one_is_one
      clear wa h3 h1
      go_enter Try.func10, Try.ntmps10
      go_wp2_with (first
        | (go_at_call 26; refine (HM.out _ H1.out).mono ?_; rintro e w' ⟨rfl, q, rfl⟩)
        | (go_at_call 30; ((with_reducible refine (HS1.out _).mono ?_); rintro e w' ⟨rfl, rfl⟩))
        | (go_at_call 30; ((with_reducible refine (HS2.out _).mono ?_); rintro e w' ⟨rfl, rfl⟩))
        | (go_at_call 14; refine (canon_any _ HA.out _).mono ?_; rintro e w' ⟨rfl, rfl⟩)
        | (go_at_call 22; refine (same_any _ _ HC.out HC.out _).mono ?_; rintro e w' ⟨rfl, rfl⟩)
        | (go_at_call 32; refine (kind_any _ _).mono ?_; rintro e w' ⟨rfl, rfl⟩)
        | (go_at_call 23; refine (known_any _).mono ?_; rintro e w' ⟨rfl, rfl⟩))
      go_ret
      exact ⟨rfl, grown_one _ _ _ _⟩
    · have HS2 := Lib.hid (bad_self' h3 h1 wa)
      have g1 : (kindZ a == 1) = false := beq_false_of_ne h1
      clear wa h3 h1
      go_enter Try.func10, Try.ntmps10
      go_wp2_with (first
        | (go_at_call 26; refine (HM.out _ H1.out).mono ?_; rintro e w' ⟨rfl, q, rfl⟩)
        | (go_at_call 30; ((with_reducible refine (HS1.out _).mono ?_); rintro e w' ⟨rfl, rfl⟩))
        | (go_at_call 30; ((with_reducible refine (share_bad a a HA.out HA.out HS2.out _).mono ?_); rintro e w' ⟨rfl, rfl⟩))
        | (go_at_call 14; refine (canon_any _ HA.out _).mono ?_; rintro e w' ⟨rfl, rfl⟩)
        | (go_at_call 22; refine (same_any _ _ HC.out HC.out _).mono ?_; rintro e w' ⟨rfl, rfl⟩)
        | (go_at_call 32; refine (kind_any _ _).mono ?_; rintro e w' ⟨rfl, rfl⟩)
        | (go_at_call 23; refine (known_any _).mono ?_; rintro e w' ⟨rfl, rfl⟩))
      go_ret
      exact ⟨rfl, grown_one _ _ _ _⟩
end Go.Proofs.Ytbklpnpgmhnggaa
