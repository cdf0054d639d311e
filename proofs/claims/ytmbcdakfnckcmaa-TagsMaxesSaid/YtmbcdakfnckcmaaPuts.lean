/- What layer 2 makes of a row and of a truth, the program and the document: one contract each; the law PackPuts. -/
import Derived.Test.YtmbcdakfnckcmaaDec2
namespace Go.Proofs.Ytmbcdakfnckcmaa
open Go.RowKit Mem Be
set_option maxRecDepth 10000
set_option maxHeartbeats 1000000
def rowB (bs : List UInt8) : List UInt8 := numB (bs.length : Int) ++ bs
/-- A new slice of these bytes, and a number. -/
def Made2 (B : Nat) (bs : List UInt8) (k : Int) (w : World) (e : Ending) (w' : World) : Prop := ∃ A c, e = .returned (.tuple #[.slice A bs.length c, .int .i64 k]) ∧ w'.ownsRow B 5 1 (.slice A bs.length c) bs.length (bs.map byteV) ∧ Below B w w'
theorem made2_of {B : Nat} {bs : List UInt8} {n : Nat} {k : Int} {w w1 : World} {v : Value} {xs : List Value} (ho : w1.ownsRow B 5 1 v n xs) (hx : xs = bs.map byteV) (hb : Below B w w1) : Made2 B bs k w (.returned (.tuple #[v, .int .i64 k])) w1 := by
  obtain ⟨A, c, he, h1, h2⟩ := made_of ho hx hb
  injection he with he
  subst he
  exact ⟨A, c, rfl, h1, h2⟩
def truthB (t : Bool) : List UInt8 := [if t then 1 else 0]
theorem one_own (w : World) (b : UInt8) : (w.alloc (.cells #[byteV b] 5)).ownsRow w.heap.size 5 1 (.slice (some ⟨w.heap.size, 0, none⟩) 1 1) 1 [byteV b] :=
  ⟨rfl, Or.inr ⟨w.heap.size, 1, _, rfl, Nat.le_refl _, heap_alloc_new w _, by omega, by decide, rfl, rfl⟩⟩
theorem row_new (w : World) (g : Nat) (hg : g = w.heap.size) (t : TypeId) (bs : List UInt8) (cs : Array Value) (h : cs.toList = bs.map byteV) : Row (w.alloc (.cells cs t)) (g + 1) (some ⟨g, 0, none⟩) (bs.map byteV) := by
  subst hg
  refine Or.inr ⟨w.heap.size, 0, rfl, by omega, fun j hj => ?_⟩
  have := cell_of_row (w.alloc (.cells cs t)) w.heap.size j cs t (0, 0) (heap_alloc_new w _)
  rw [Nat.zero_add, this, ← Array.getElem?_toList, h, List.getElem?_eq_getElem hj]
theorem end_nil (w : World) : Calls Try.prog 20 #[.pointer none] w fun e w' => e = .returned (.int .i64 1) ∧ w = w' := by
  go_enter Try.func20, Try.ntmps20
  go_wp2
  go_ret
  exact ⟨rfl, rfl⟩
end Go.Proofs.Ytmbcdakfnckcmaa
