/- Whether two entries are the same, by the program and by the document; a copy of one; the newer one of two. -/
import Derived.Test.YtmbcdakfnckcmaaVal
namespace Go.Proofs.Ytmbcdakfnckcmaa
open Go.RowKit Mem
set_option maxRecDepth 10000
set_option maxHeartbeats 2000000
def sameE (k1 k2 : ByteArray) (s u o s' u' o' : Int) (h1 h2 : Bool) (xs ys : List UInt8) : Bool := decide (k1 = k2) && (eqT s u o s' u' o' && sameV h1 h2 xs ys)
theorem list_ne {a b : ByteArray} (h : a ≠ b) : (a.toList == b.toList) = false := by
  rw [beq_eq_false_iff_ne]
  intro e
  rw [ByteArray.toList_eq, ByteArray.toList_eq] at e
  apply h
  obtain ⟨⟨x⟩⟩ := a
  obtain ⟨⟨y⟩⟩ := b
  simp at e
  rw [e]
end Go.Proofs.Ytmbcdakfnckcmaa
