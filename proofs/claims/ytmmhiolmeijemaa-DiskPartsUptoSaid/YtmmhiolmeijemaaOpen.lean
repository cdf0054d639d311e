/- What comes in, opened: slices of elements of one cell, of truths, of rows of bytes. No dump is imported here. -/
import Derived.Test.YtmmhiolmeijemaaApp
import Derived.Deep.Matrix
import Derived.ChangeArms
namespace Go.Proofs.Ytmmhiolmeijemaa
open Go.RowKit Go.ChangeShapes Go.Deep Go.WideShapes
namespace Mem
theorem list_of {α : Type} {f : α → Value} {Q : α → Prop} : ∀ vs : List Value, (∀ v ∈ vs, ∃ x, v = f x ∧ Q x) → ∃ xs : List α, vs = xs.map f ∧ ∀ x ∈ xs, Q x
  | [], _ => ⟨[], rfl, by simp⟩
  | v :: vs, h => by
    obtain ⟨x, rfl, hx⟩ := h v (by simp)
    obtain ⟨xs, rfl, hxs⟩ := list_of vs (fun u hu => h u (by simp [hu]))
    exact ⟨x :: xs, rfl, by simpa using ⟨hx, hxs⟩⟩
section
variable {H : Type} {enc : TypeId × Value → H} {P : Program} {w : World} {base : Nat} {held : Bool}
/-- A slice of one-cell elements that came in: its cells, each of which reads as the element's type. -/
theorem open_row1 {t e : TypeId} {fuel : Nat} {a : Option Addr} {len cap : Nat} {x : DataW H × List MemPlace} (ht : P.underlying t = some (.slice e)) (hc : P.cellsOf e = 1)
    (h : DataW.trod enc P w base (fun _ => true) held fuel t [.slice a len cap] = some x) :
    ∃ vs : List Value, len = vs.length ∧ Row w w.heap.size a vs ∧ len ≤ cap ∧ cap ≤ maxLen ∧ ∀ v ∈ vs, ∃ n y, DataW.trod enc P w base (fun _ => true) held n e [v] = some y := by
  rcases open_slice1 ht hc h with ⟨hcs, _⟩ | ⟨x, l, c, m, n, V, D, Pl, hcs, _, hl, hm, hmm, _, hx⟩
  · simp only [List.cons.injEq, and_true] at hcs
    injection hcs with h1 h2 h3
    subst h1; subst h2; subst h3
    exact ⟨[], rfl, Row.nil _ _ _, Nat.le_refl _, by unfold maxLen; omega, by simp⟩
  · simp only [List.cons.injEq, and_true] at hcs
    injection hcs with h1 h2 h3
    subst h1; subst h2; subst h3
    simp only [if_true] at hmm
    subst hmm
    refine ⟨(List.range len).map V, by simp, ?_, hl, hm, ?_⟩
    · rcases Nat.eq_zero_or_pos len with h0 | h0
      · subst h0; exact Or.inl rfl
      · have hc0 := (hx 0 (by omega)).1
        obtain ⟨b, o, spot⟩ := x
        have hspot : spot = none := by simpa [Addr.add] using World.cell?_spot hc0
        subst hspot
        refine Or.inr ⟨b, o, rfl, ?_, fun j hj => ?_⟩
        · have := block_lt hc0
          simpa [Addr.add] using this
        · simp only [List.length_map, List.length_range] at hj
          have := (hx j (by omega)).1
          have e : (⟨b, o, none⟩ : Addr).add j = ⟨b, o + j, none⟩ := by
            unfold Addr.add; split
            · subst_vars; rfl
            · rfl
          rw [e] at this
          rw [this, List.getElem_map, List.getElem_range]
    · intro v hv
      obtain ⟨j, hj, rfl⟩ := List.mem_map.1 hv
      have hj' := List.mem_range.1 hj
      exact ⟨n, _, (hx j (by omega)).2⟩
theorem open_bools {t e : TypeId} {a : Option Addr} {len cap : Nat} {d : DataW H} {ps : List MemPlace} (ht : P.underlying t = some (.slice e)) (he : P.underlying e = some .bool) (hc : P.cellsOf e = 1)
    (h : DataW.Trod enc P w base (fun _ => true) held t (.slice a len cap) d ps) :
    ∃ bs : List Bool, len = bs.length ∧ Row w w.heap.size a (bs.map Value.bool) ∧ len ≤ cap ∧ cap ≤ maxLen := by
  obtain ⟨fuel, hf⟩ := h
  obtain ⟨vs, hl, hr, h1, h2, hv⟩ := open_row1 ht hc (by simpa [Value.cells] using hf)
  obtain ⟨bs, rfl, _⟩ := list_of (f := Value.bool) (Q := fun _ => True) vs (fun v hvm => by
    obtain ⟨n, y, hy⟩ := hv v hvm
    obtain ⟨b, hb, _⟩ := DataW.trod_bool he hy
    exact ⟨b, by simpa using hb, trivial⟩)
  exact ⟨bs, by simpa using hl, hr, h1, h2⟩
/-- A row of bytes as one value: where, which, with how much room. -/
abbrev RowV := Option Addr × List UInt8 × Nat
def rowV (r : RowV) : Value := .slice r.1 r.2.1.length r.2.2
def RowOk (w : World) (B : Nat) (r : RowV) : Prop := Row w B r.1 (r.2.1.map byteV) ∧ r.2.1.length ≤ r.2.2 ∧ r.2.2 ≤ maxLen
theorem open_bytes1 {t e : TypeId} {fuel : Nat} {v : Value} {x : DataW H × List MemPlace} (ht : P.underlying t = some (.slice e)) (he : P.underlying e = some (.int .u8)) (hc : P.cellsOf e = 1)
    (h : DataW.trod enc P w base (fun _ => true) held fuel t [v] = some x) : ∃ r : RowV, v = rowV r ∧ RowOk w w.heap.size r := by
  have hsh : ∃ a len cap, v = .slice a len cap := by
    rcases DataW.trod_slice ht h with ⟨hcs, _⟩ | ⟨a, len, cap, _, _, _, _, hcs, _⟩
    · exact ⟨none, 0, 0, by simpa using hcs⟩
    · exact ⟨some a, len, cap, by simpa using hcs⟩
  obtain ⟨a, len, cap, rfl⟩ := hsh
  obtain ⟨vs, hl, hr, h1, h2, hv⟩ := open_row1 ht hc h
  obtain ⟨zs, rfl, hz⟩ := list_of (f := Value.int .u8) (Q := fun z => (Lit.int .u8 z).wf = true) vs (fun v hvm => by
    obtain ⟨n, y, hy⟩ := hv v hvm
    obtain ⟨b, hb, _, hw⟩ := DataW.trod_int he hy
    exact ⟨b, by simpa using hb, hw⟩)
  have e8 : (zs.map fun n => UInt8.ofNat n.toNat).map byteV = zs.map (Value.int .u8) := by
    rw [List.map_map]
    apply List.map_congr_left
    intro n hn
    have := bounds_u8 (hz n hn)
    show Value.int .u8 ((UInt8.ofNat n.toNat).toNat : Int) = _
    congr 1
    rw [UInt8.toNat_ofNat']
    omega
  refine ⟨(a, zs.map fun n => UInt8.ofNat n.toNat, cap), ?_, ?_, ?_, h2⟩
  · unfold rowV; simp only [List.length_map]; rw [hl]; simp
  · show Row w w.heap.size a _; rw [e8]; exact hr
  · simp only [List.length_map]; simp at hl; omega
theorem open_rows {t e q : TypeId} {a : Option Addr} {len cap : Nat} {d : DataW H} {ps : List MemPlace} (ht : P.underlying t = some (.slice e)) (he : P.underlying e = some (.slice q)) (hq : P.underlying q = some (.int .u8)) (ce : P.cellsOf e = 1) (cq : P.cellsOf q = 1)
    (h : DataW.Trod enc P w base (fun _ => true) held t (.slice a len cap) d ps) :
    ∃ rs : List RowV, len = rs.length ∧ Row w w.heap.size a (rs.map rowV) ∧ len ≤ cap ∧ cap ≤ maxLen ∧ ∀ r ∈ rs, RowOk w w.heap.size r := by
  obtain ⟨fuel, hf⟩ := h
  obtain ⟨vs, hl, hr, h1, h2, hv⟩ := open_row1 ht ce (by simpa [Value.cells] using hf)
  obtain ⟨rs, rfl, hrs⟩ := list_of (f := rowV) (Q := RowOk w w.heap.size) vs (fun v hvm => by
    obtain ⟨n, y, hy⟩ := hv v hvm
    exact open_bytes1 he hq cq hy)
  exact ⟨rs, by simpa using hl, hr, h1, h2, hrs⟩
end
theorem RowOk.below {w w' : World} {B : Nat} {r : RowV} (h : RowOk w B r) (hb : Below B w w') : RowOk w' B r := ⟨h.1.below hb, h.2⟩
end Mem
end Go.Proofs.Ytmmhiolmeijemaa
