/- The first records of a row: 'l[:k]'. -/
import Derived.Test.YtdmoogbmaodfnaaGreatRecs
namespace Go.Proofs.YtdmoogbmaodfnaaGreat
open Go.RowKit Mem Be Word Frm
set_option maxRecDepth 100000
set_option maxHeartbeats 2000000
set_option linter.unusedVariables false
theorem cutR (W : World) (A : Option Addr) (n c k : Nat) (h : k ≤ n) : (Instr.slice 30 (.slice A n c) (some (.int .i64 (k : Int))) none none).run Tryz.prog W = .ok (.slice (if c = k then A else A.map (·.add (k * 2))) (n - k) (c - k)) W := by
  obtain ⟨i, hi, hz, hz1, hz2⟩ := info_parts info_r
  simp [Instr.slice, run_underlying Tryz.underlying30, Instr.sliceBounds, Instr.sliceBound, asIntOf, sizeOf, typeInfo, hi, hz1, h]
theorem rowR_tail {w : World} {B : Nat} {A : Option Addr} {rs : List RecV} {c k : Nat} (h : Row w B A (recsC rs)) (hc : rs.length ≤ c) (hk : k ≤ rs.length) : Row w B (if c = k then A else A.map (·.add (k * 2))) (recsC (rs.drop k)) := by
  rcases Nat.lt_or_ge k rs.length with hlt | hge
  · obtain ⟨b, o, rfl, hb, hcell⟩ := h.open_ (by rw [recsC_len]; omega)
    rw [if_neg (by omega)]
    have e : (some (⟨b, o, none⟩ : Addr)).map (·.add (k * 2)) = some ⟨b, o + k * 2, none⟩ := by
      show some ((⟨b, o, none⟩ : Addr).add (k * 2)) = _
      unfold Addr.add
      split
      · rename_i h0
        rw [h0]; rfl
      · rfl
    rw [e]
    refine Or.inr ⟨b, o + k * 2, rfl, hb, fun j hj => ?_⟩
    have hd : recsC rs = recsC (rs.take k) ++ recsC (rs.drop k) := by rw [← recsC_app, List.take_append_drop]
    have hl : (recsC (rs.take k)).length = k * 2 := by rw [recsC_len, List.length_take]; congr 1; omega
    rw [recsC_len, List.length_drop] at hj
    have := hcell (k * 2 + j) (by rw [recsC_len]; omega)
    rw [Nat.add_assoc, this]
    congr 1
    simp only [hd]
    rw [List.getElem_append_right (by omega)]
    congr 1
    omega
  · rw [List.drop_of_length_le hge]; exact Row.nil _ _ _
theorem cutRh (W : World) (A : Option Addr) (n c k : Nat) (h : k ≤ c) : (Instr.slice 30 (.slice A n c) none (some (.int .i64 (k : Int))) none).run Tryz.prog W = .ok (.slice A k c) W := by
  obtain ⟨i, hi, hz, hz1, hz2⟩ := info_parts info_r
  have hA : (if c = 0 then A else Option.map (fun x => x.add (0 * 2)) A) = A := by
    split
    · rfl
    · cases A <;> simp [add_zero']
  simp [Instr.slice, run_underlying Tryz.underlying30, Instr.sliceBounds, Instr.sliceBound, asIntOf, sizeOf, typeInfo, hi, h]
  simpa using hA
theorem recsC_take (rs : List RecV) (k : Nat) : recsC (rs.take k) = (recsC rs).take (k * 2) := by
  induction rs generalizing k with
  | nil => simp [recsC]
  | cons r rs ih =>
    rcases k with _ | k
    · simp [recsC]
    · have h1 : recsC ((r :: rs).take (k + 1)) = recC r ++ recsC (rs.take k) := rfl
      have h2 : recsC (r :: rs) = recC r ++ recsC rs := rfl
      have h3 : (recC r).length = 2 := rfl
      rw [h1, h2, ih, show (k + 1) * 2 = (recC r).length + k * 2 by omega, List.take_length_add_append]
theorem rowR_take {w : World} {B : Nat} {A : Option Addr} {rs : List RecV} (h : Row w B A (recsC rs)) (k : Nat) : Row w B A (recsC (rs.take k)) := by
  rw [recsC_take]; exact take_row h _
end Go.Proofs.YtdmoogbmaodfnaaGreat
