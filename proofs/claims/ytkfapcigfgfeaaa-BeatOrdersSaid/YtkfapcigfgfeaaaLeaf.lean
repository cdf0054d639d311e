/- What layer 1's small functions answer, one contract each: the one form of a word, its key, back, how two stand, what is known. -/
import Derived.Test.YtkfapcigfgfeaaaRows
import Derived.Test.YtkfapcigfgfeaaaFlz
import Derived.WalkKit
import Derived.WalkSpells
import Derived.WalkLawsBesides
import Derived.Lib.Hide
namespace Go.Proofs.Ytkfapcigfgfeaaa
open Go.RowKit Flo

theorem run_frombits (a : Int) (w : World) : (callFunc 16 #[.int .u64 a]).run Try.prog w = Result.ok (Next.value (.float .f64 (fnat a))) w := by
  rw [run_callFunc_extern Try.func16 (by kernel_rfl) (by kernel_rfl) (by kernel_rfl) (e := Extern.MathFloatBits.float64frombits) (by kernel_rfl)]; rfl
theorem run_bits (a : Int) (h : Word a) (w : World) : (callFunc 17 #[.float .f64 (fnat a)]).run Try.prog w = Result.ok (Next.value (.int .u64 a)) w := by
  rw [run_callFunc_extern Try.func17 (by kernel_rfl) (by kernel_rfl) (by kernel_rfl) (e := Extern.MathFloatBits.float64bits) (by kernel_rfl)]
  show Result.ok (Next.value (.int .u64 ((fnat a : Nat) : Int))) w = _
  rw [fnat_cast h]
theorem run_bits0 (w : World) : (callFunc 17 #[.float .f64 0]).run Try.prog w = Result.ok (Next.value (.int .u64 0)) w := run_bits 0 word_zero w
theorem ret_int {k : IntKind} {a b : Int} (h : a = b) : Ending.returned (.int k a) = .returned (.int k b) := by rw [h]
theorem ret_float {k : FloatKind} {a b : Int} (h : a = b) : Ending.returned (.float k (fnat a)) = .returned (.float k (fnat b)) := by rw [h]
theorem ret_float' {k : FloatKind} {a : Nat} {b : Int} (h : fnat b = a) : Ending.returned (.float k a) = .returned (.float k (fnat b)) := by rw [h]
theorem ret_bool {a b : Bool} (h : a = b) : Ending.returned (.bool a) = .returned (.bool b) := by rw [h]

set_option maxRecDepth 10000
set_option maxHeartbeats 400000

/-- The word whose key is asked for. -/
theorem key_any (n : Int) (h : Word n) (w : World) :
    Calls Try.prog 51 #[.float .f64 (fnat n)] w fun e w' => e = .returned (.int .u64 (keyZ n)) ∧ w = w' := by
  have hb := run_bits n h
  have H := Lib.hid h; clear h
  go_enter Try.func51, Try.ntmps51
  go_wp2
  all_goals (have h := H.out; clear hb)
  · go_ret
    exact ⟨ret_int (key_yes h (by assumption)), rfl⟩
  · go_ret
    exact ⟨ret_int (key_no h (by assumption)), rfl⟩
theorem isnan_any (n : Int) (h : Word n) (w : World) :
    Calls Try.prog 37 #[.float .f64 (fnat n)] w fun e w' => e = .returned (.bool (decide (kindZ n = 3))) ∧ w = w' := by
  have H := Lib.hid h; clear h
  go_enter Try.func37, Try.ntmps37
  go_wp2
  go_ret
  exact ⟨ret_bool (ne_self H.out), rfl⟩
theorem canon_any (n : Int) (h : Word n) (w : World) :
    Calls Try.prog 49 #[.float .f64 (fnat n)] w fun e w' => e = .returned (.float .f64 (fnat (canZ n))) ∧ w = w' := by
  have hf := run_frombits
  have H := Lib.hid h; clear h
  go_enter Try.func49, Try.ntmps49
  go_wp2
  all_goals (have h := H.out; clear hf)
  · go_ret
    exact ⟨ret_float (can_nan h (by assumption)).symm, rfl⟩
  · go_ret
    exact ⟨ret_float' (by rw [can_nought h (by assumption)]; rfl), rfl⟩
  · go_ret
    exact ⟨ret_float (can_else h (by assumption) (by assumption)).symm, rfl⟩
theorem kind_any (n : Int) (w : World) :
    Calls Try.prog 20 #[.int .u64 n] w fun e w' => e = .returned (.int .i64 (kindZ n)) ∧ w = w' := by
  go_enter Try.func20, Try.ntmps20
  go_wp2
  · go_ret
    exact ⟨ret_int (kind0 (by assumption)).symm, rfl⟩
  · go_ret
    exact ⟨ret_int (kind1 (by assumption) (by assumption)).symm, rfl⟩
  · go_ret
    exact ⟨ret_int (kind2 (by assumption) (by assumption) (by assumption)).symm, rfl⟩
  · go_ret
    exact ⟨ret_int (kind3 (by assumption) (by assumption) (by assumption)).symm, rfl⟩
theorem refcanon_any (n : Int) (w : World) :
    Calls Try.prog 42 #[.int .u64 n] w fun e w' => e = .returned (.int .u64 (canZ n)) ∧ w = w' := by
  go_enter Try.func42, Try.ntmps42
  go_wp2_with (go_at_call 20; refine (kind_any _ _).mono ?_; rintro e w' ⟨rfl, rfl⟩)
  · go_ret
    have h : kindZ n = 0 := by simpa using ‹(kindZ n == 0) = true›
    exact ⟨ret_int (by unfold canZ; rw [if_pos h]), rfl⟩
  · go_ret
    have h : ¬ kindZ n = 0 := by simpa using ‹(kindZ n == 0) = false›
    have h' : kindZ n = 3 := by simpa using ‹(kindZ n == 3) = true›
    exact ⟨ret_int (by unfold canZ; rw [if_neg h, if_pos h']), rfl⟩
  · go_ret
    have h : ¬ kindZ n = 0 := by simpa using ‹(kindZ n == 0) = false›
    have h' : ¬ kindZ n = 3 := by simpa using ‹(kindZ n == 3) = false›
    exact ⟨ret_int (by unfold canZ; rw [if_neg h, if_neg h']), rfl⟩
theorem refkey_any (n : Int) (h : Word n) (w : World) :
    Calls Try.prog 41 #[.int .u64 n] w fun e w' => e = .returned (.int .u64 (keyZ n)) ∧ w = w' := by
  have H := Lib.hid h; clear h
  go_enter Try.func41, Try.ntmps41
  go_wp2
  all_goals have h := H.out
  · go_ret
    exact ⟨ret_int (refkey_yes h (by assumption)), rfl⟩
  · go_ret
    exact ⟨ret_int (refkey_no h (by assumption)), rfl⟩
theorem refcompare_any (a b : Int) (ha : Word a) (hb : Word b) (w : World) :
    Calls Try.prog 21 #[.int .u64 a, .int .u64 b] w fun e w' => e = .returned (.int .i64 (cmpZ a b)) ∧ w = w' := by
  have HA := Lib.hid (word_can ha); have HB := Lib.hid (word_can hb); clear ha hb
  go_enter Try.func21, Try.ntmps21
  go_wp2_with (first | (go_at_call 42; refine (refcanon_any _ _).mono ?_; rintro e w' ⟨rfl, rfl⟩) | (go_at_call 41; refine (refkey_any _ (by first | exact HA.out | exact HB.out) _).mono ?_; rintro e w' ⟨rfl, rfl⟩))
  · go_ret
    exact ⟨ret_int (cmp3_lt (by assumption)).symm, rfl⟩
  · go_ret
    exact ⟨ret_int (cmp3_gt (by assumption)).symm, rfl⟩
  · go_ret
    exact ⟨ret_int (cmp3_eq (by assumption) (by assumption)).symm, rfl⟩
theorem cmpcmp_any (a b : Int) (w : World) :
    Calls Try.prog 50 #[.int .u64 a, .int .u64 b] w fun e w' => e = .returned (.int .i64 (cmp3 a b)) ∧ w = w' := by
  go_enter Try.func50, Try.ntmps50
  go_wp2
  · go_ret
    exact ⟨ret_int (cmp3_lt (by assumption)).symm, rfl⟩
  · go_ret
    exact ⟨ret_int (cmp3_gt (by assumption)).symm, rfl⟩
  · go_ret
    exact ⟨ret_int (cmp3_eq (by assumption) (by assumption)).symm, rfl⟩
theorem compare_any (a b : Int) (ha : Word a) (hb : Word b) (w : World) :
    Calls Try.prog 38 #[.float .f64 (fnat a), .float .f64 (fnat b)] w fun e w' => e = .returned (.int .i64 (cmpZ a b)) ∧ w = w' := by
  have HA := Lib.hid ha; have HB := Lib.hid hb; clear ha hb
  go_enter Try.func38, Try.ntmps38
  go_wp2_with fail
  refine (canon_any _ HA.out _).mono ?_; rintro e w' ⟨rfl, rfl⟩
  go_wp2_with fail
  refine (key_any _ (word_can HA.out) _).mono ?_; rintro e w' ⟨rfl, rfl⟩
  go_wp2_with fail
  refine (canon_any _ HB.out _).mono ?_; rintro e w' ⟨rfl, rfl⟩
  go_wp2_with fail
  refine (key_any _ (word_can HB.out) _).mono ?_; rintro e w' ⟨rfl, rfl⟩
  go_wp2_with fail
  refine (cmpcmp_any _ _ _).mono ?_; rintro e w' ⟨rfl, rfl⟩
  go_wp2
  go_ret
  exact ⟨ret_int rfl, rfl⟩
theorem same_any (a b : Int) (ha : Word a) (hb : Word b) (w : World) :
    Calls Try.prog 45 #[.float .f64 (fnat a), .float .f64 (fnat b)] w fun e w' => e = .returned (.bool (a == b)) ∧ w = w' := by
  have h1 := run_bits a ha; have h2 := run_bits b hb
  clear ha hb
  go_enter Try.func45, Try.ntmps45
  go_wp2
  go_ret
  exact ⟨rfl, rfl⟩
end Go.Proofs.Ytkfapcigfgfeaaa
