/- A result of eight cells, laid anew; rows that lie beside it stay. -/
import Derived.Test.YtndbggkpobcpjaaGreatCore
namespace Go.Proofs.YtndbggkpobcpjaaGreat
open Go.RowKit Mem
set_option maxRecDepth 100000
set_option linter.unusedVariables false
def set8 (w : World) (b : Nat) (u0 u1 u2 u3 u4 u5 u6 u7 : Value) : World :=
  (((((((w.setCell ⟨b, 0, none⟩ u0).setCell ⟨b, 1, none⟩ u1).setCell ⟨b, 2, none⟩ u2).setCell ⟨b, 3, none⟩ u3).setCell ⟨b, 4, none⟩ u4).setCell ⟨b, 5, none⟩ u5).setCell ⟨b, 6, none⟩ u6).setCell ⟨b, 7, none⟩ u7
theorem set8_fin {w3 : World} {b : Nat} {T : TypeId} {x0 x1 x2 x3 x4 x5 x6 x7 : Value} (h : Blk w3 b T #[x0, x1, x2, x3, x4, x5, x6, x7]) (u0 u1 u2 u3 u4 u5 u6 u7 : Value) :
    Blk (set8 w3 b u0 u1 u2 u3 u4 u5 u6 u7) b T #[u0, u1, u2, u3, u4, u5, u6, u7] ∧
    (∀ k, k ≠ b → (set8 w3 b u0 u1 u2 u3 u4 u5 u6 u7).heap[k]? = w3.heap[k]?) ∧
    (∀ w : World, Below w.heap.size w w3 → w.heap.size ≤ b → Below w.heap.size w (set8 w3 b u0 u1 u2 u3 u4 u5 u6 u7)) ∧
    (set8 w3 b u0 u1 u2 u3 u4 u5 u6 u7).heap.size = w3.heap.size :=
  by
  unfold set8
  refine ⟨by simpa using (((((((h.set_ 0 u0).set_ 1 u1).set_ 2 u2).set_ 3 u3).set_ 4 u4).set_ 5 u5).set_ 6 u6).set_ 7 u7,
    fun k hk => (((((((Below.heap_setCell _ ⟨b, 7, none⟩ u7 _ hk).trans (Below.heap_setCell _ ⟨b, 6, none⟩ u6 _ hk)).trans (Below.heap_setCell _ ⟨b, 5, none⟩ u5 _ hk)).trans (Below.heap_setCell _ ⟨b, 4, none⟩ u4 _ hk)).trans (Below.heap_setCell _ ⟨b, 3, none⟩ u3 _ hk)).trans (Below.heap_setCell _ ⟨b, 2, none⟩ u2 _ hk)).trans (Below.heap_setCell _ ⟨b, 1, none⟩ u1 _ hk)).trans (Below.heap_setCell _ ⟨b, 0, none⟩ u0 _ hk),
    fun w hb hg => (((((((hb.setCell (p := ⟨b, 0, none⟩) hg _).setCell (p := ⟨b, 1, none⟩) hg _).setCell (p := ⟨b, 2, none⟩) hg _).setCell (p := ⟨b, 3, none⟩) hg _).setCell (p := ⟨b, 4, none⟩) hg _).setCell (p := ⟨b, 5, none⟩) hg _).setCell (p := ⟨b, 6, none⟩) hg _).setCell (p := ⟨b, 7, none⟩) hg _,
    by simp [World.setCell]⟩
end Go.Proofs.YtndbggkpobcpjaaGreat
