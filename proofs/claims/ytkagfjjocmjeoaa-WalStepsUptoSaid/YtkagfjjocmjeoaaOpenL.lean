/- Rows of bytes that come in, opened with how much they hold. No dump is imported here. -/
import Derived.Test.YtkagfjjocmjeoaaBulk
import Derived.Deep.Slices
namespace Go.Proofs.Ytkagfjjocmjeoaa
open Go.RowKit Go.ChangeShapes Go.Deep Go.WideShapes Mem
section
variable {H : Type} {enc : TypeId × Value → H} {P : Program} {w : World} {base : Nat} {held : Bool}
/-- The lengths of rows, and one for each. -/
def sumL (rs : List RowV) : Nat := (rs.map (fun r => r.2.1.length + 1)).sum
theorem open_rowsB {t e q : TypeId} {a : Option Addr} {len cap : Nat} {d : DataW H} {ps : List MemPlace} (ht : P.underlying t = some (.slice e)) (he : P.underlying e = some (.slice q)) (hq : P.underlying q = some (.int .u8)) (ce : P.cellsOf e = 1) (cq : P.cellsOf q = 1)
    (h : DataW.Trod enc P w base (fun _ => true) held t (.slice a len cap) d ps) :
    ∃ rs : List RowV, len = rs.length ∧ Row w w.heap.size a (rs.map rowV) ∧ len ≤ cap ∧ cap ≤ maxLen ∧ (∀ r ∈ rs, RowOk w w.heap.size r) ∧ sumL rs ≤ Rows.uptoBulk d := by
  obtain ⟨fuel, hf⟩ := h
  rcases open_slice1 ht ce (by simpa [Value.cells] using hf) with ⟨hcs, _⟩ | ⟨x, l, c, m, n, V, D, Pl, hcs, _, hl, hm, hmm, hx, hV⟩
  · simp only [List.cons.injEq, and_true] at hcs
    injection hcs with h1 h2 h3
    subst h1; subst h2; subst h3
    exact ⟨[], rfl, Row.nil _ _ _, Nat.le_refl _, by unfold maxLen; omega, by simp, Nat.zero_le _⟩
  · simp only [List.cons.injEq, and_true] at hcs
    injection hcs with h1 h2 h3
    subst h1; subst h2; subst h3
    simp only [if_true] at hmm
    subst hmm
    obtain ⟨R, hR⟩ := Go.Deep.choose_lt (n := len) (α := RowV) (p := fun i r => V i = rowV r ∧ RowOk w w.heap.size r ∧ r.2.1.length + 1 ≤ Rows.uptoBulk (D i)) (fun i hi => by
      have h2 := (hV i (by omega)).2
      obtain ⟨r, hr, ho⟩ := open_bytes1 he hq cq h2
      rw [hr] at h2
      have hb := Bulk.bytes_bulk he (by unfold rowV at h2; exact h2)
      exact ⟨r, hr, ho, hb⟩)
    refine ⟨(List.range len).map R, by simp, ?_, hl, hm, ?_, ?_⟩
    · rcases Nat.eq_zero_or_pos len with h0 | h0
      · subst h0; exact Or.inl rfl
      · have hc0 := (hV 0 (by omega)).1
        obtain ⟨b, o, spot⟩ := x
        have hspot : spot = none := by simpa [Addr.add] using World.cell?_spot hc0
        subst hspot
        refine Or.inr ⟨b, o, rfl, ?_, fun j hj => ?_⟩
        · have := block_lt hc0
          simpa [Addr.add] using this
        · simp only [List.length_map, List.length_range] at hj
          have := (hV j (by omega)).1
          have e : (⟨b, o, none⟩ : Addr).add j = ⟨b, o + j, none⟩ := by
            unfold Addr.add; split
            · subst_vars; rfl
            · rfl
          rw [e] at this
          rw [this, List.getElem_map, List.getElem_map, List.getElem_range, (hR j (by omega)).1]
    · intro r hr
      obtain ⟨i, hi, rfl⟩ := List.mem_map.1 hr
      exact (hR i (List.mem_range.1 hi)).2.1
    · have h1 := Bulk.all_sum (fun r : RowV => r.2.1.length + 1) ((List.range len).map fun i => (R i, D i)) (fun p hp => by
        obtain ⟨i, hi, rfl⟩ := List.mem_map.1 hp
        exact (hR i (List.mem_range.1 hi)).2.2)
      have h3 : d = .slice ((List.range len).map D) ((List.range (m - len)).map fun j => D (len + j)) := congrArg Prod.fst hx
      have h4 := Bulk.elems_bulk ((List.range len).map D) ((List.range (m - len)).map fun j => D (len + j))
      rw [← h3] at h4
      have e1 : ((List.range len).map fun i => (R i, D i)).map (·.2) = (List.range len).map D := by rw [List.map_map]; rfl
      have e2 : ((List.range len).map fun i => (R i, D i)).map (fun p => p.1.2.1.length + 1) = ((List.range len).map R).map (fun r => r.2.1.length + 1) := by rw [List.map_map, List.map_map]; rfl
      rw [e1] at h1
      rw [e2] at h1
      unfold sumL
      omega
end
theorem sumL_snoc (rs : List RowV) (k : Nat) (h : k < rs.length) : sumL (rs.take (k + 1)) = sumL (rs.take k) + (rs[k].2.1.length + 1) := by
  unfold sumL; rw [List.take_succ_eq_append_getElem h, List.map_append, List.sum_append]; simp
theorem sumL_le (rs : List RowV) (k : Nat) : sumL (rs.take k) ≤ sumL rs := by
  have : sumL rs = sumL (rs.take k) + sumL (rs.drop k) := by unfold sumL; rw [← List.sum_append, ← List.map_append, List.take_append_drop]
  omega
theorem sumL_len (rs : List RowV) : rs.length ≤ sumL rs := by
  induction rs with
  | nil => exact Nat.le_refl _
  | cons r rs ih => unfold sumL at ih ⊢; rw [List.map_cons, List.sum_cons, List.length_cons]; omega
end Go.Proofs.Ytkagfjjocmjeoaa
