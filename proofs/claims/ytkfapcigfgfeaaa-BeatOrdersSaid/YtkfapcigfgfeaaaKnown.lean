/- What the chapter's examples fix is true. -/
import Derived.Test.YtkfapcigfgfeaaaLeaf
import Derived.OpenShut
namespace Go.Proofs.Ytkfapcigfgfeaaa
open Go.RowKit Flo
set_option maxRecDepth 10000
set_option maxHeartbeats 400000
theorem word_wf {a : Int} (h : (Lit.int .u64 a).wf = true) : Word a := bounds_u64 h
theorem key_nought (w : World) : Calls Try.prog 51 #[.float .f64 0] w fun e w' => e = .returned (.int .u64 9223372036854775808) ∧ w = w' :=
  (key_any 0 word_zero w).mono fun _ _ ⟨h1, h2⟩ => ⟨h1.trans (ret_int (by decide)), h2⟩
theorem inf_one (w : World) : Calls Try.prog 34 #[.int .i64 1] w fun e w' => e = .returned (.float .f64 (fnat 9218868437227405312)) ∧ w = w' := by
  have hf := run_frombits
  go_enter Try.func34, Try.ntmps34
  go_wp2
  go_ret
  exact ⟨rfl, rfl⟩
theorem run_bits_m1 (w : World) : (callFunc 17 #[.float .f64 13830554455654793216]).run Try.prog w = Result.ok (Next.value (.int .u64 13830554455654793216)) w := run_bits 13830554455654793216 ⟨by decide, by decide⟩ w
theorem word_inf : Word 9218868437227405312 := ⟨by decide, by decide⟩
theorem word_nan : Word 9221120237041090561 := ⟨by decide, by decide⟩
theorem word_neg : Word 9223372036854775808 := ⟨by decide, by decide⟩
theorem bits_c1 : bits .andNot .u64 0 9223372036854775808 = 0 := by decide +kernel
theorem bits_c2 : bits .and .u64 13830554455654793216 9223372036854775808 = 9223372036854775808 := by decide +kernel
theorem bits_c3 : bits .or .u64 0 9223372036854775808 = 9223372036854775808 := by decide +kernel
theorem cmp_inf_nan : cmpZ 9218868437227405312 9221120237041090561 = -1 := by decide
theorem can_neg : canZ 9223372036854775808 = 0 := by decide
theorem compare_c (w : World) : Calls Try.prog 38 #[.float .f64 (fnat 9218868437227405312), .float .f64 (fnat 9221120237041090561)] w fun e w' => e = .returned (.int .i64 (-1)) ∧ w = w' :=
  (compare_any _ _ word_inf word_nan w).mono fun _ _ ⟨h1, h2⟩ => ⟨h1.trans (ret_int cmp_inf_nan), h2⟩
theorem canon_c (w : World) : Calls Try.prog 49 #[.float .f64 (fnat 9223372036854775808)] w fun e w' => e = .returned (.float .f64 0) ∧ w = w' :=
  (canon_any _ word_neg w).mono fun _ _ ⟨h1, h2⟩ => ⟨by rw [h1, can_neg]; rfl, h2⟩
theorem same_c (w : World) : Calls Try.prog 45 #[.float .f64 0, .float .f64 0] w fun e w' => e = .returned (.bool true) ∧ w = w' :=
  same_any 0 0 word_zero word_zero w
end Go.Proofs.Ytkfapcigfgfeaaa
