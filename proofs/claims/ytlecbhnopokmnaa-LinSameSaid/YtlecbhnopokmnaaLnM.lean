/- LnM: Deeds, and places, that come in. -/
import Derived.Test.YtlecbhnopokmnaaLnX
import Derived.Deep.Slices
import Derived.Deep.Fields
namespace Go.Proofs.Ytlecbhnopokmnaa
open Go.RowKit Go.ChangeShapes Go.WideShapes Mem
set_option maxRecDepth 100000
set_option maxHeartbeats 1000000
set_option linter.unusedVariables false
instance : Inhabited DdL := ⟨⟨0, none, [], 0, 0, 0, false, false, none, [], 0⟩⟩
section
variable {H : Type} {enc : TypeId × Value → H} {w : World} {base : Nat} {held : Bool}
theorem val_cells18 {fuel : Nat} {c0 c1 : Value} {x : DataW H × List MemPlace} (h : DataW.trod enc Try.prog w base (fun _ => true) held fuel 45 [c0, c1] = some x) :
    ∃ (has : Bool) (A : Option Addr) (xs : List UInt8) (c : Nat), c0 = .bool has ∧ c1 = .slice A xs.length c ∧ Row w w.heap.size A (xs.map byteV) := by
  obtain ⟨xs, n, _, _, _, hlen, hg⟩ := DataW.trod_struct Try.underlying45 h
  have e1 : Try.prog.cellsOf 4 = 1 := by kernel_rfl
  have e2 : Try.prog.cellsOf 43 = 1 := by kernel_rfl
  match xs, hlen with
  | [y0, y1], _ =>
    have h0 := hg 0 _ rfl
    have h1 := hg 1 _ rfl
    obtain ⟨b, hb, _⟩ := DataW.trod_bool Try.underlying4 (x := y0) (by simpa [e1, e2] using h0)
    obtain ⟨⟨A, ys, c⟩, hr, ho⟩ := open_bytes1 (x := y1) Try.underlying43 Try.underlying5 (by kernel_rfl) (by simpa [e1, e2] using h1)
    exact ⟨b, A, ys, c, by simpa using hb, hr, ho.1⟩
/-- What holds of each that comes in. -/
def DdOk (w : World) (r : DdL) : Prop := (Row w w.heap.size r.A (r.b.map byteV) ∧ Row w w.heap.size r.A2 (r.vb.map byteV)) ∧ Ln.minI ≤ r.till ∧ (Lit.int .i64 r.fro).wf = true ∧ (Lit.int .i64 r.till).wf = true
theorem dd_cells {fuel : Nat} {c0 c1 c2 c3 c4 c5 c6 : Value} {x : DataW H × List MemPlace} (h : DataW.trod enc Try.prog w base (fun _ => true) held fuel 47 [c0, c1, c2, c3, c4, c5, c6] = some x) :
    ∃ r : DdL, [c0, c1, c2, c3, c4, c5, c6] = ddC r ∧ DdOk w r := by
  obtain ⟨xs, n, _, _, _, hlen, hg⟩ := DataW.trod_struct Try.underlying47 h
  have e0 : Try.prog.cellsOf 3 = 1 := by kernel_rfl
  have e1 : Try.prog.cellsOf 43 = 1 := by kernel_rfl
  have e2 : Try.prog.cellsOf 4 = 1 := by kernel_rfl
  have e3 : Try.prog.cellsOf 45 = 2 := by kernel_rfl
  match xs, hlen with
  | [y0, y1, y2, y3, y4, y5], _ =>
    have h0 := hg 0 _ rfl
    have h1 := hg 1 _ rfl
    have h2 := hg 2 _ rfl
    have h3 := hg 3 _ rfl
    have h4 := hg 4 _ rfl
    have h5 := hg 5 _ rfl
    obtain ⟨k, hk, _, _⟩ := DataW.trod_int Try.underlying3 (x := y0) (by simpa [e0, e1, e2, e3] using h0)
    obtain ⟨⟨A, ys, c⟩, hr, ho⟩ := open_bytes1 (x := y1) (v := c1) Try.underlying43 Try.underlying5 (by kernel_rfl) (by simpa [e0, e1, e2, e3] using h1)
    obtain ⟨f, hf, _, wf⟩ := DataW.trod_int Try.underlying3 (x := y2) (by simpa [e0, e1, e2, e3] using h2)
    obtain ⟨t, ht, _, wt⟩ := DataW.trod_int Try.underlying3 (x := y3) (by simpa [e0, e1, e2, e3] using h3)
    obtain ⟨d, hd, _⟩ := DataW.trod_bool Try.underlying4 (x := y4) (by simpa [e0, e1, e2, e3] using h4)
    obtain ⟨has, A2, vb, cc, rfl, rfl, hr2⟩ := val_cells18 (x := y5) (by simpa [e0, e1, e2, e3] using h5)
    have hk' : c0 = .int .i64 k := by simpa using hk
    have hf' : c2 = .int .i64 f := by simpa using hf
    have ht' : c3 = .int .i64 t := by simpa using ht
    have hd' : c4 = .bool d := by simpa using hd
    subst hk'; subst hf'; subst ht'; subst hd'; subst hr
    refine ⟨⟨k, A, ys, c, f, t, d, has, A2, vb, cc⟩, rfl, ⟨ho.1, hr2⟩, ?_, wf, wt⟩
    have := bounds_i64 wt
    show Ln.minI ≤ t
    unfold Ln.minI; omega
theorem open_dds {a : Option Addr} {len cap : Nat} {d : DataW H} {ps : List MemPlace} (h : DataW.Trod enc Try.prog w base (fun _ => true) held 28 (.slice a len cap) d ps) :
    ∃ rs : List DdL, len = rs.length ∧ len ≤ maxLen ∧ Row w w.heap.size a (ddsC rs) ∧ ∀ r ∈ rs, DdOk w r := by
  obtain ⟨fuel, hf⟩ := h
  rcases Go.Deep.open_slice Try.underlying28 (by simpa [Value.cells] using hf) with ⟨hcs, _⟩ | ⟨x, l, c, m, n, D, Pl, hcs, _, hl, hm, hmm, hd, hx⟩
  · simp only [List.cons.injEq, and_true] at hcs
    injection hcs with h1 h2 h3
    subst h1; subst h2; subst h3
    exact ⟨[], rfl, by unfold maxLen; omega, Row.nil _ _ _, fun r h => by cases h⟩
  · simp only [List.cons.injEq, and_true] at hcs
    injection hcs with h1 h2 h3
    subst h1; subst h2; subst h3
    simp only [if_true] at hmm
    subst hmm
    have hC : Try.prog.cellsOf 47 = 7 := by kernel_rfl
    rw [hC] at hx
    obtain ⟨V, hV⟩ := Go.Deep.choose_lt (n := len) (α := DdL) (p := fun i r => (∀ j, j < 7 → w.cell? (x.add (i * 7 + j)) = (ddC r)[j]?) ∧ DdOk w r) (fun i hi => by
      obtain ⟨cs', h1, h2⟩ := hx i (by omega)
      obtain ⟨_, hlen, hat⟩ := World.cells?_some h1
      match cs', hlen with
      | [c0, c1, c2, c3, c4, c5, c6], _ =>
        obtain ⟨r, hr, hr1⟩ := dd_cells h2
        refine ⟨r, fun j hj => ?_, hr1⟩
        rw [← Go.Deep.add_add, hat j hj, hr])
    refine ⟨(List.range len).map V, by simp, by omega, ?_, ?_⟩
    · rcases Nat.eq_zero_or_pos len with h0 | h0
      · subst h0; exact Or.inl rfl
      · have hc0 := (hV 0 h0).1 0 (by omega)
        have hc0' : w.cell? x = some (.int .i64 (V 0).kind) := by
          have e : x.add (0 * 7 + 0) = x := by simp [Addr.add]
          rw [e] at hc0; exact hc0
        obtain ⟨b, o, spot⟩ := x
        have hspot : spot = none := World.cell?_spot hc0'
        subst hspot
        refine Or.inr ⟨b, o, rfl, block_lt hc0', fun j hj => ?_⟩
        have hj8 : j < len * 7 := by rw [ddsC_len] at hj; simpa using hj
        have hi : j / 7 < len := by omega
        have hdd : j = j / 7 * 7 + j % 7 := by omega
        have hv := (hV (j / 7) hi).1 (j % 7) (by omega)
        rw [← hdd] at hv
        have e : (⟨b, o, none⟩ : Addr).add j = ⟨b, o + j, none⟩ := by
          unfold Addr.add; split
          · subst_vars; rfl
          · rfl
        rw [e] at hv
        have ht := ddsC_at ((List.range len).map V) (j / 7) (by simpa using hi) (j % 7) (by omega)
        rw [← hdd, List.getElem?_eq_getElem hj] at ht
        rw [hv, ht, List.getElem_map, List.getElem_range]
    · intro r hr
      obtain ⟨i, hi, rfl⟩ := List.mem_map.1 hr
      exact (hV i (List.mem_range.1 hi)).2
end
end Go.Proofs.Ytlecbhnopokmnaa
