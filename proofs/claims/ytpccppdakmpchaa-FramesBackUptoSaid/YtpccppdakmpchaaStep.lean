/- The step by a byte, and what a word is stirred, the program's and the document's: one contract each. -/
import Derived.Test.YtpccppdakmpchaaWord
import Derived.Test.YtpccppdakmpchaaClone
import Derived.Test.YtpccppdakmpchaaRows
import Derived.IntWalk
namespace Go.Proofs.Ytpccppdakmpchaa
open Go.RowKit Mem Be Word
set_option maxRecDepth 10000
set_option maxHeartbeats 1000000
theorem ret_int {k : IntKind} {a b : Int} (h : a = b) : Ending.returned (.int k a) = .returned (.int k b) := by rw [h]
theorem wrap_nat (n : Nat) : IntKind.u64.wrap (n : Int) = ((n % 18446744073709551616 : Nat) : Int) := by
  rw [IntKind.wrap_u64, Int.natCast_emod]; rfl
theorem step_any (h c : Nat) (w : World) (hh : U64 h) (hc : c ≤ 255) :
    Calls Try.prog 38 #[.int .u64 (h : Int), .int .u8 (c : Int)] w fun e w' => e = .returned (.int .u64 (stepN h c : Int)) ∧ w = w' := by
  have hx := bits_xor_u64_nat h c hh (by omega)
  obtain ⟨x, hxe⟩ : ∃ x : Nat, h ^^^ c = x := ⟨_, rfl⟩
  rw [hxe] at hx
  have hm : IntKind.u64.wrap ((x : Int) * 1099511628211) = (stepN h c : Int) := by
    have := wrap_nat (x * 1099511628211)
    unfold stepN
    rw [hxe, ← this]
    exact congrArg _ (Int.natCast_mul x 1099511628211).symm
  have hw : IntKind.u64.wrap (c : Int) = (c : Int) := by rw [IntKind.wrap_u64]; omega
  obtain ⟨y, hy⟩ : ∃ y : Nat, stepN h c = y := ⟨_, rfl⟩
  rw [hy] at hm ⊢
  clear hxe hy hh hc
  go_enter Try.func38, Try.ntmps38
  go_wp2
  go_ret
  exact ⟨rfl, rfl⟩
theorem mul_wrap (x y : Nat) : IntKind.u64.wrap ((x : Int) * (y : Int)) = ((x * y % 18446744073709551616 : Nat) : Int) := by
  rw [← wrap_nat, Int.natCast_mul]
theorem refstep_any (h c : Nat) (w : World) (hh : U64 h) (hc : c ≤ 255) :
    Calls Try.prog 39 #[.int .u64 (h : Int), .int .u8 (c : Int)] w fun e w' => e = .returned (.int .u64 (stepN h c : Int)) ∧ w = w' := by
  obtain ⟨l, hl⟩ : ∃ l, h % 256 = l := ⟨_, rfl⟩
  obtain ⟨q, hq⟩ : ∃ q, h - l = q := ⟨_, rfl⟩
  obtain ⟨y, hy⟩ : ∃ y, l ^^^ c = y := ⟨_, rfl⟩
  obtain ⟨x, hx⟩ : ∃ x, q + y = x := ⟨_, rfl⟩
  obtain ⟨z, hz⟩ : ∃ z, stepN h c = z := ⟨_, rfl⟩
  have hl2 : l < 256 := by omega
  have hy2 : y < 256 := by
    have := Nat.xor_lt_two_pow (n := 8) (x := l) (y := c) (by omega) (by omega)
    omega
  have r1 : (h : Int).tmod 256 = (l : Int) := by rw [Int.tmod_eq_emod_of_nonneg (by omega)]; omega
  have r1b : (h : Int) % 256 = (l : Int) := by omega
  have r2 : IntKind.u64.wrap ((h : Int) - (l : Int)) = (q : Int) := by rw [IntKind.wrap_u64]; unfold U64 at hh; omega
  have r3 : bits .xor .u8 (l : Int) (c : Int) = (y : Int) := by rw [← hy]; exact u8_xor_nat l c hl2 (by omega)
  have r4 : IntKind.u64.wrap ((q : Int) + (y : Int)) = (x : Int) := by rw [IntKind.wrap_u64]; unfold U64 at hh; omega
  have e := ref_step h c (by omega) x (by rw [hl, hq, hy, hx])
  obtain ⟨s, hs⟩ : ∃ s, x * 1099511627776 % 18446744073709551616 = s := ⟨_, rfl⟩
  obtain ⟨t, ht⟩ : ∃ t, x * 435 % 18446744073709551616 = t := ⟨_, rfl⟩
  rw [hs, ht, hz] at e
  have r5 : IntKind.u64.wrap ((x : Int) * 1099511627776) = (s : Int) := by rw [← hs]; exact mul_wrap x 1099511627776
  have r6 : IntKind.u64.wrap ((x : Int) * 435) = (t : Int) := by rw [← ht]; exact mul_wrap x 435
  have r7 : IntKind.u64.wrap ((s : Int) + (t : Int)) = (z : Int) := by
    rw [← e, ← wrap_nat, Int.natCast_add]
  have r8 : IntKind.u64.wrap (y : Int) = (y : Int) := by rw [IntKind.wrap_u64]; omega
  have r9 : IntKind.u8.wrap (l : Int) = (l : Int) := by rw [IntKind.wrap_u8']; omega
  rw [hz]
  clear hl hq hy hx hz hs ht e hh
  go_enter Try.func39, Try.ntmps39
  go_wp2
  go_ret
  exact ⟨rfl, rfl⟩
end Go.Proofs.Ytpccppdakmpchaa
