/- Tags, values and entries that come in, opened. -/
import Derived.Test.YtmbcdakfnckcmaaKnownT
import Derived.Test.YtmbcdakfnckcmaaOpen
import Derived.OpenShut
import Derived.WideShapes
namespace Go.Proofs.Ytmbcdakfnckcmaa
set_option maxRecDepth 100000
open Go.RowKit Go.ChangeShapes Go.WideShapes Mem
section
variable {H : Type} {enc : TypeId × Value → H} {w : World} {base : Nat} {held : Bool}
theorem tag_cells {fuel : Nat} {c0 c1 c2 : Value} {x : DataW H × List MemPlace} (h : DataW.trod enc Try.prog w base (fun _ => true) held fuel 25 [c0, c1, c2] = some x) :
    ∃ s u o : Int, c0 = .int .i64 s ∧ c1 = .int .i64 u ∧ c2 = .int .i64 o ∧ (Lit.int .i64 s).wf = true ∧ (Lit.int .i64 u).wf = true ∧ (Lit.int .i64 o).wf = true := by
  obtain ⟨xs, n, _, _, _, hlen, hg⟩ := DataW.trod_struct Try.underlying25 h
  have e1 : Try.prog.cellsOf 3 = 1 := by kernel_rfl
  match xs, hlen with
  | [y0, y1, y2], _ =>
    have h0 := hg 0 _ rfl
    have h1 := hg 1 _ rfl
    have h2 := hg 2 _ rfl
    obtain ⟨s, hs, _, ws⟩ := DataW.trod_int Try.underlying3 (x := y0) (by simpa [e1] using h0)
    obtain ⟨u, hu, _, wu⟩ := DataW.trod_int Try.underlying3 (x := y1) (by simpa [e1] using h1)
    obtain ⟨o, ho, _, wo⟩ := DataW.trod_int Try.underlying3 (x := y2) (by simpa [e1] using h2)
    exact ⟨s, u, o, by simpa using hs, by simpa using hu, by simpa using ho, ws, wu, wo⟩
theorem val_cells {fuel : Nat} {c0 c1 : Value} {x : DataW H × List MemPlace} (h : DataW.trod enc Try.prog w base (fun _ => true) held fuel 36 [c0, c1] = some x) :
    ∃ (has : Bool) (A : Option Addr) (xs : List UInt8) (c : Nat), c0 = .bool has ∧ c1 = .slice A xs.length c ∧ Row w w.heap.size A (xs.map byteV) ∧ xs.length ≤ c := by
  obtain ⟨xs, n, _, _, _, hlen, hg⟩ := DataW.trod_struct Try.underlying36 h
  have e1 : Try.prog.cellsOf 4 = 1 := by kernel_rfl
  have e2 : Try.prog.cellsOf 34 = 1 := by kernel_rfl
  match xs, hlen with
  | [y0, y1], _ =>
    have h0 := hg 0 _ rfl
    have h1 := hg 1 _ rfl
    obtain ⟨b, hb, _⟩ := DataW.trod_bool Try.underlying4 (x := y0) (by simpa [e1, e2] using h0)
    obtain ⟨⟨A, ys, c⟩, hr, ho⟩ := open_bytes1 (x := y1) Try.underlying34 Try.underlying5 (by kernel_rfl) (by simpa [e1, e2] using h1)
    exact ⟨b, A, ys, c, by simpa using hb, hr, ho.1, ho.2.1⟩
theorem open_tag {r : Reach} {b0 : Nat} {v : Value} {d : DataW H} {ps : List MemPlace} (hv : Value.okWide Try.prog w r b0 25 v) (h : DataW.Trod enc Try.prog w base (fun _ => true) held 25 v d ps) :
    ∃ s u o : Int, v = tagV s u o ∧ (Lit.int .i64 s).wf = true ∧ (Lit.int .i64 u).wf = true ∧ (Lit.int .i64 o).wf = true := by
  obtain ⟨cs, rfl, hsz⟩ := okWide_struct Try.underlying25 hv
  obtain ⟨l⟩ := cs
  have hC : Try.prog.cellsOf 25 = 3 := by kernel_rfl
  match l, hsz.trans hC with
  | [c0, c1, c2], _ =>
    obtain ⟨fuel, hf⟩ := h
    obtain ⟨s, u, o, rfl, rfl, rfl, ws, wu, wo⟩ := tag_cells (by simpa [Value.cells] using hf)
    exact ⟨s, u, o, rfl, ws, wu, wo⟩
theorem open_val {r : Reach} {b0 : Nat} {v : Value} {d : DataW H} {ps : List MemPlace} (hv : Value.okWide Try.prog w r b0 36 v) (h : DataW.Trod enc Try.prog w base (fun _ => true) held 36 v d ps) :
    ∃ (has : Bool) (A : Option Addr) (xs : List UInt8) (c : Nat), v = valV has A xs.length c ∧ Row w w.heap.size A (xs.map byteV) ∧ xs.length ≤ c := by
  obtain ⟨cs, rfl, hsz⟩ := okWide_struct Try.underlying36 hv
  obtain ⟨l⟩ := cs
  have hC : Try.prog.cellsOf 36 = 2 := by kernel_rfl
  match l, hsz.trans hC with
  | [c0, c1], _ =>
    obtain ⟨fuel, hf⟩ := h
    obtain ⟨has, A, xs, c, rfl, rfl, hr, hc⟩ := val_cells (by simpa [Value.cells] using hf)
    exact ⟨has, A, xs, c, rfl, hr, hc⟩
theorem open_ent {r : Reach} {b0 : Nat} {v : Value} {d : DataW H} {ps : List MemPlace} (hv : Value.okWide Try.prog w r b0 38 v) (h : DataW.Trod enc Try.prog w base (fun _ => true) held 38 v d ps) :
    ∃ (key : ByteArray) (s u o : Int) (has : Bool) (A : Option Addr) (xs : List UInt8) (c : Nat), v = entV key s u o has A xs.length c ∧ Row w w.heap.size A (xs.map byteV) ∧ xs.length ≤ c ∧
      (Lit.int .i64 s).wf = true ∧ (Lit.int .i64 u).wf = true ∧ (Lit.int .i64 o).wf = true := by
  obtain ⟨cs, rfl, hsz⟩ := okWide_struct Try.underlying38 hv
  obtain ⟨l⟩ := cs
  have hC : Try.prog.cellsOf 38 = 6 := by kernel_rfl
  match l, hsz.trans hC with
  | [c0, c1, c2, c3, c4, c5], _ =>
    obtain ⟨fuel, hf⟩ := h
    obtain ⟨xs, n, _, _, _, hlen, hg⟩ := DataW.trod_struct Try.underlying38 hf
    have e0 : Try.prog.cellsOf 9 = 1 := by kernel_rfl
    have e1 : Try.prog.cellsOf 25 = 3 := by kernel_rfl
    have e2 : Try.prog.cellsOf 36 = 2 := by kernel_rfl
    match xs, hlen with
    | [y0, y1, y2], _ =>
      have h0 := hg 0 _ rfl
      have h1 := hg 1 _ rfl
      have h2 := hg 2 _ rfl
      obtain ⟨key, hk, _⟩ := DataW.trod_string Try.underlying9 (x := y0) (by simpa [Value.cells, e0, e1, e2] using h0)
      obtain ⟨s, u, o, rfl, rfl, rfl, ws, wu, wo⟩ := tag_cells (x := y1) (by simpa [Value.cells, e0, e1, e2] using h1)
      obtain ⟨has, A, ys, c, rfl, rfl, hr, hc⟩ := val_cells (x := y2) (by simpa [Value.cells, e0, e1, e2] using h2)
      have hk' : c0 = .string key := by simpa using hk
      subst hk'
      exact ⟨key, s, u, o, has, A, ys, c, rfl, hr, hc, ws, wu, wo⟩
end
end Go.Proofs.Ytmbcdakfnckcmaa
