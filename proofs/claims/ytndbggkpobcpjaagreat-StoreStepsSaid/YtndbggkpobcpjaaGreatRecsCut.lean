/- The first records of a row: 'l[:k]'. -/
import Derived.Test.YtndbggkpobcpjaaGreatRecs
namespace Go.Proofs.YtndbggkpobcpjaaGreat
open Go.RowKit Mem Be Word Frm
set_option maxRecDepth 100000
set_option maxHeartbeats 2000000
set_option linter.unusedVariables false
theorem rowR_tail {w : World} {B : Nat} {A : Option Addr} {rs : List RecV} {c k : Nat} (h : Row w B A (recsC rs)) (hc : rs.length ≤ c) (hk : k ≤ rs.length) : Row w B (if c = k then A else A.map (·.add (k * 2))) (recsC (rs.drop k)) := by
  rcases Nat.lt_or_ge k rs.length with hlt | hge
  · obtain ⟨b, o, rfl, hb, hcell⟩ := h.open_ (by rw [recsC_len]; omega)
    rw [if_neg (by omega)]
    have e : (some (⟨b, o, none⟩ : Addr)).map (·.add (k * 2)) = some ⟨b, o + k * 2, none⟩ := by
      show some ((⟨b, o, none⟩ : Addr).add (k * 2)) = _
      unfold Addr.add
      split
      · rename_i h0
        rw [h0]; rfl
      · rfl
    rw [e]
    refine Or.inr ⟨b, o + k * 2, rfl, hb, fun j hj => ?_⟩
    have hd : recsC rs = recsC (rs.take k) ++ recsC (rs.drop k) := by rw [← recsC_app, List.take_append_drop]
    have hl : (recsC (rs.take k)).length = k * 2 := by rw [recsC_len, List.length_take]; congr 1; omega
    rw [recsC_len, List.length_drop] at hj
    have := hcell (k * 2 + j) (by rw [recsC_len]; omega)
    rw [Nat.add_assoc, this]
    congr 1
    simp only [hd]
    rw [List.getElem_append_right (by omega)]
    congr 1
    omega
  · rw [List.drop_of_length_le hge]; exact Row.nil _ _ _
end Go.Proofs.YtndbggkpobcpjaaGreat
