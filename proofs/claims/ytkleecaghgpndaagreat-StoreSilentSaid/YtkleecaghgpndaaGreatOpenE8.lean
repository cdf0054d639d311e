/- An entry that comes in, opened. -/
import Derived.Test.YtkleecaghgpndaaGreatLaw8
import Derived.OpenShut
import Derived.WideShapes
namespace Go.Proofs.YtkleecaghgpndaaGreat
open Go.RowKit Go.ChangeShapes Go.WideShapes Mem
set_option maxRecDepth 100000
theorem open_ev {H : Type} {enc : TypeId × Value → H} {w : World} {base : Nat} {held : Bool} {r : Reach} {b0 : Nat} {v : Value} {d : DataW H} {ps : List MemPlace} (hv : Value.okWide Tryz.prog w r b0 45 v) (h : DataW.Trod enc Tryz.prog w base (fun _ => true) held 45 v d ps) :
    ∃ y : EV, v = evV y ∧ Row w w.heap.size y.2.1 (y.1.v.map byteV) ∧ y.1.v.length ≤ y.2.2 ∧ y.2.2 ≤ maxLen ∧ y.1.k.length ≤ maxLen := by
  obtain ⟨cs, rfl, hsz⟩ := okWide_struct Tryz.underlying45 hv
  obtain ⟨l⟩ := cs
  have hC : Tryz.prog.cellsOf 45 = 6 := by kernel_rfl
  match l, hsz.trans hC with
  | [c0, c1, c2, c3, c4, c5], _ =>
    obtain ⟨fuel, hf⟩ := h
    obtain ⟨y, hy, hr, hc, hm, hk⟩ := ent_cells8 (by simpa [Value.cells] using hf)
    refine ⟨y, ?_, hr, hc, hm, hk⟩
    rw [hy]
    rfl
end Go.Proofs.YtkleecaghgpndaaGreat
