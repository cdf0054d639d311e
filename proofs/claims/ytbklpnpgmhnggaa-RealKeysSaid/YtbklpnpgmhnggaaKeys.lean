/- RealKeys returns true, whatever the two words; nothing that was there is changed. -/
import Derived.Test.YtbklpnpgmhnggaaKnown
namespace Go.Proofs.Ytbklpnpgmhnggaa
open Go.RowKit Flo
set_option maxRecDepth 10000
set_option maxHeartbeats 400000
theorem keys_walk (a b : Int) (wa : Word a) (wb : Word b) (w : World) :
    Calls Try.prog 3 #[.int .u64 a, .int .u64 b] w fun e w' => e = .returned (.bool true) ∧ w = w' := by
  have HA := Lib.hid wa
  have HB := Lib.hid wb
  have hf := run_frombits
  have h1 := run_bits (canZ a) (word_can wa)
  have h2 := run_bits (ofZ a) (word_of wa)
  clear wa wb
  go_enter Try.func3, Try.ntmps3
  go_wp2_with (first
    | (go_at_call 14; refine (canon_any _ HA.out _).mono ?_; rintro e w' ⟨rfl, rfl⟩)
    | (go_at_call 15; refine (refcanon_any _ _).mono ?_; rintro e w' ⟨rfl, rfl⟩)
    | (go_at_call 16; refine (key_any _ HA.out _).mono ?_; rintro e w' ⟨rfl, rfl⟩)
    | (go_at_call 17; refine (refkey_any _ HA.out _).mono ?_; rintro e w' ⟨rfl, rfl⟩)
    | (go_at_call 18; refine (of_any _ HA.out _).mono ?_; rintro e w' ⟨rfl, rfl⟩)
    | (go_at_call 19; refine (refof_any _ HA.out _).mono ?_; rintro e w' ⟨rfl, rfl⟩)
    | (go_at_call 20; refine (compare_any _ _ HA.out HB.out _).mono ?_; rintro e w' ⟨rfl, rfl⟩)
    | (go_at_call 21; refine (refcompare_any _ _ HA.out HB.out _).mono ?_; rintro e w' ⟨rfl, rfl⟩)
    | (go_at_call 22; refine (same_any _ _ HA.out HB.out _).mono ?_; rintro e w' ⟨rfl, rfl⟩)
    | (go_at_call 23; refine (known_any _).mono ?_; rintro e w' ⟨rfl, rfl⟩))
  go_ret
  exact ⟨rfl, rfl⟩
end Go.Proofs.Ytbklpnpgmhnggaa
