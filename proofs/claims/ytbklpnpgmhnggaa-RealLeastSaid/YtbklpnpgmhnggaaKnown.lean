/- What the chapter's examples fix is true. -/
import Derived.Test.YtbklpnpgmhnggaaLeaf
import Derived.OpenShut
namespace Go.Proofs.Ytbklpnpgmhnggaa
open Go.RowKit Flo
set_option maxRecDepth 10000
set_option maxHeartbeats 400000
theorem word_wf {a : Int} (h : (Lit.int .u64 a).wf = true) : Word a := bounds_u64 h
theorem key_nought (w : World) : Calls Try.prog 16 #[.float .f64 0] w fun e w' => e = .returned (.int .u64 9223372036854775808) ∧ w = w' :=
  (key_any 0 word_zero w).mono fun _ _ ⟨h1, h2⟩ => ⟨h1.trans (ret_int (by decide)), h2⟩
theorem inf_one (w : World) : Calls Try.prog 40 #[.int .i64 1] w fun e w' => e = .returned (.float .f64 (fnat 9218868437227405312)) ∧ w = w' := by
  have hf := run_frombits
  go_enter Try.func40, Try.ntmps40
  go_wp2
  go_ret
  exact ⟨rfl, rfl⟩
theorem nan_any (w : World) : Calls Try.prog 41 #[] w fun e w' => e = .returned (.float .f64 (fnat 9221120237041090561)) ∧ w = w' := by
  have hf := run_frombits
  go_enter Try.func41, Try.ntmps41
  go_wp2
  go_ret
  exact ⟨rfl, rfl⟩
theorem run_bits_m1 (w : World) : (callFunc 13 #[.float .f64 13830554455654793216]).run Try.prog w = Result.ok (Next.value (.int .u64 13830554455654793216)) w := run_bits 13830554455654793216 ⟨by decide, by decide⟩ w
theorem word_inf : Word 9218868437227405312 := ⟨by decide, by decide⟩
theorem word_nan : Word 9221120237041090561 := ⟨by decide, by decide⟩
theorem word_neg : Word 9223372036854775808 := ⟨by decide, by decide⟩
theorem bits_c1 : bits .andNot .u64 0 9223372036854775808 = 0 := by decide +kernel
theorem bits_c2 : bits .and .u64 13830554455654793216 9223372036854775808 = 9223372036854775808 := by decide +kernel
theorem bits_c3 : bits .or .u64 0 9223372036854775808 = 9223372036854775808 := by decide +kernel
theorem copysign_c (w : World) : Calls Try.prog 42 #[.float .f64 0, .float .f64 13830554455654793216] w fun e w' => e = .returned (.float .f64 (fnat 9223372036854775808)) ∧ w = w' := by
  have hf := run_frombits
  have h0 := run_bits0
  have h1 := run_bits_m1
  have c1 := bits_c1
  have c2 := bits_c2
  have c3 := bits_c3
  go_enter Try.func42, Try.ntmps42
  go_wp2
  go_ret
  exact ⟨rfl, rfl⟩
theorem cmp_inf_nan : cmpZ 9218868437227405312 9221120237041090561 = -1 := by decide
theorem can_neg : canZ 9223372036854775808 = 0 := by decide
theorem compare_c (w : World) : Calls Try.prog 20 #[.float .f64 (fnat 9218868437227405312), .float .f64 (fnat 9221120237041090561)] w fun e w' => e = .returned (.int .i64 (-1)) ∧ w = w' :=
  (compare_any _ _ word_inf word_nan w).mono fun _ _ ⟨h1, h2⟩ => ⟨h1.trans (ret_int cmp_inf_nan), h2⟩
theorem canon_c (w : World) : Calls Try.prog 14 #[.float .f64 (fnat 9223372036854775808)] w fun e w' => e = .returned (.float .f64 0) ∧ w = w' :=
  (canon_any _ word_neg w).mono fun _ _ ⟨h1, h2⟩ => ⟨by rw [h1, can_neg]; rfl, h2⟩
theorem same_c (w : World) : Calls Try.prog 22 #[.float .f64 0, .float .f64 0] w fun e w' => e = .returned (.bool true) ∧ w = w' :=
  same_any 0 0 word_zero word_zero w
theorem known_any (w : World) : Calls Try.prog 23 #[] w fun e w' => e = .returned (.bool true) ∧ w = w' := by
  go_enter Try.func23, Try.ntmps23
  go_wp2_with (first | (go_at_call 16; refine (key_nought _).mono ?_; rintro e w' ⟨rfl, rfl⟩) | (go_at_call 40; refine (inf_one _).mono ?_; rintro e w' ⟨rfl, rfl⟩) | (go_at_call 41; refine (nan_any _).mono ?_; rintro e w' ⟨rfl, rfl⟩) | (go_at_call 20; refine (compare_c _).mono ?_; rintro e w' ⟨rfl, rfl⟩) | (go_at_call 42; refine (copysign_c _).mono ?_; rintro e w' ⟨rfl, rfl⟩) | (go_at_call 14; refine (canon_c _).mono ?_; rintro e w' ⟨rfl, rfl⟩) | (go_at_call 22; refine (same_c _).mono ?_; rintro e w' ⟨rfl, rfl⟩))
  go_ret
  exact ⟨rfl, rfl⟩
end Go.Proofs.Ytbklpnpgmhnggaa
