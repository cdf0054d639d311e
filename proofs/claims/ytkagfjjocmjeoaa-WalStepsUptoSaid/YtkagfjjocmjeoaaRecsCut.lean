/- The first records of a row: 'l[:k]'. -/
import Derived.Test.YtkagfjjocmjeoaaRecs
namespace Go.Proofs.Ytkagfjjocmjeoaa
open Go.RowKit Mem Be Word Frm
set_option maxRecDepth 100000
set_option maxHeartbeats 2000000
set_option linter.unusedVariables false
theorem cutRh (W : World) (A : Option Addr) (n c k : Nat) (h : k ≤ c) : (Instr.slice 30 (.slice A n c) none (some (.int .i64 (k : Int))) none).run Try.prog W = .ok (.slice A k c) W := by
  obtain ⟨i, hi, hz, hz1, hz2⟩ := info_parts info_r
  have hA : (if c = 0 then A else Option.map (fun x => x.add (0 * 2)) A) = A := by
    split
    · rfl
    · cases A <;> simp [add_zero']
  simp [Instr.slice, run_underlying Try.underlying30, Instr.sliceBounds, Instr.sliceBound, asIntOf, sizeOf, typeInfo, hi, h]
  simpa using hA
theorem recsC_take (rs : List RecV) (k : Nat) : recsC (rs.take k) = (recsC rs).take (k * 2) := by
  induction rs generalizing k with
  | nil => simp [recsC]
  | cons r rs ih =>
    rcases k with _ | k
    · simp [recsC]
    · have h1 : recsC ((r :: rs).take (k + 1)) = recC r ++ recsC (rs.take k) := rfl
      have h2 : recsC (r :: rs) = recC r ++ recsC rs := rfl
      have h3 : (recC r).length = 2 := rfl
      rw [h1, h2, ih, show (k + 1) * 2 = (recC r).length + k * 2 by omega, List.take_length_add_append]
theorem rowR_take {w : World} {B : Nat} {A : Option Addr} {rs : List RecV} (h : Row w B A (recsC rs)) (k : Nat) : Row w B A (recsC (rs.take k)) := by
  rw [recsC_take]; exact take_row h _
end Go.Proofs.Ytkagfjjocmjeoaa
