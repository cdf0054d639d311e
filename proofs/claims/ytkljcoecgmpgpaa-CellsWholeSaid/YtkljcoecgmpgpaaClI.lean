/- ClI: A room, an entry that come in, opened. -/
import Derived.Test.YtkljcoecgmpgpaaClD
import Derived.OpenShut
import Derived.WideShapes
namespace Go.Proofs.Ytkljcoecgmpgpaa
open Go.RowKit Go.ChangeShapes Go.WideShapes Mem
set_option maxRecDepth 100000
theorem open_room11 {H : Type} {enc : TypeId × Value → H} {w : World} {base : Nat} {held : Bool} {r : Reach} {b0 : Nat} {v : Value} {d : DataW H} {ps : List MemPlace} (hv : Value.okWide Try.prog w r b0 23 v) (h : DataW.Trod enc Try.prog w base (fun _ => true) held 23 v d ps) :
    ∃ (rc rb nb : Int) (fr : Bool), v = .agg #[.int .i64 rc, .int .i64 rb, .int .i64 nb, .bool fr] := by
  obtain ⟨cs, rfl, hsz⟩ := okWide_struct Try.underlying23 hv
  obtain ⟨l⟩ := cs
  have hC : Try.prog.cellsOf 23 = 4 := by kernel_rfl
  match l, hsz.trans hC with
  | [c0, c1, c2, c3], _ =>
    obtain ⟨fuel, hf⟩ := h
    obtain ⟨xs, n, _, _, _, hlen, hg⟩ := DataW.trod_struct Try.underlying23 (by simpa [Value.cells] using hf)
    have e1 : Try.prog.cellsOf 3 = 1 := by kernel_rfl
    have e2 : Try.prog.cellsOf 4 = 1 := by kernel_rfl
    match xs, hlen with
    | [y0, y1, y2, y3], _ =>
      have h0 := hg 0 _ rfl
      have h1 := hg 1 _ rfl
      have h2 := hg 2 _ rfl
      have h3 := hg 3 _ rfl
      obtain ⟨s, hs, _, ws⟩ := DataW.trod_int Try.underlying3 (x := y0) (by simpa [e1, e2] using h0)
      obtain ⟨u, hu, _, wu⟩ := DataW.trod_int Try.underlying3 (x := y1) (by simpa [e1, e2] using h1)
      obtain ⟨o, ho, _, wo⟩ := DataW.trod_int Try.underlying3 (x := y2) (by simpa [e1, e2] using h2)
      obtain ⟨b, hb, _⟩ := DataW.trod_bool Try.underlying4 (x := y3) (by simpa [e1, e2] using h3)
      have q0 : c0 = .int .i64 s := by simpa using hs
      have q1 : c1 = .int .i64 u := by simpa using hu
      have q2 : c2 = .int .i64 o := by simpa using ho
      have q3 : c3 = .bool b := by simpa using hb
      exact ⟨s, u, o, b, by rw [q0, q1, q2, q3]⟩
theorem open_ev11 {H : Type} {enc : TypeId × Value → H} {w : World} {base : Nat} {held : Bool} {r : Reach} {b0 : Nat} {v : Value} {d : DataW H} {ps : List MemPlace} (hv : Value.okWide Try.prog w r b0 41 v) (h : DataW.Trod enc Try.prog w base (fun _ => true) held 41 v d ps) :
    ∃ y : EV, v = evV y ∧ Row w w.heap.size y.2.1 (y.1.v.map byteV) ∧ y.1.v.length ≤ y.2.2 ∧ y.2.2 ≤ maxLen ∧ y.1.k.length ≤ maxLen := by
  obtain ⟨cs, rfl, hsz⟩ := okWide_struct Try.underlying41 hv
  obtain ⟨l⟩ := cs
  have hC : Try.prog.cellsOf 41 = 6 := by kernel_rfl
  match l, hsz.trans hC with
  | [c0, c1, c2, c3, c4, c5], _ =>
    obtain ⟨fuel, hf⟩ := h
    obtain ⟨y, hy, hr, hc, hm, hk⟩ := ent_cells11 (by simpa [Value.cells] using hf)
    refine ⟨y, ?_, hr, hc, hm, hk⟩
    rw [hy]
    rfl
end Go.Proofs.Ytkljcoecgmpgpaa
