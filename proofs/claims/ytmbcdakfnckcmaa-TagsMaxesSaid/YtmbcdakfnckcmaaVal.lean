/- Whether two values, and two entries, are the same, by the program and by the document. -/
import Derived.Test.YtmbcdakfnckcmaaEnt2
namespace Go.Proofs.Ytmbcdakfnckcmaa
open Go.RowKit Mem
set_option maxRecDepth 10000
set_option maxHeartbeats 2000000
/-- A value: whether there is one, its bytes, where they are and with how much room. -/
structure ValOk (w : World) (has : Bool) (A : Option Addr) (xs : List UInt8) (c : Nat) : Prop where
  row : Row w w.heap.size A (xs.map byteV)
  len : (xs.length : Int) ≤ 1073741824
  cap : xs.length ≤ c
theorem ValOk.below {w w' : World} {has : Bool} {A : Option Addr} {xs : List UInt8} {c : Nat} (h : ValOk w has A xs c) (hb : Below w.heap.size w w') : ValOk w' has A xs c :=
  ⟨(h.row.below hb).more hb.size, h.len, h.cap⟩
def sameV (h1 h2 : Bool) (xs ys : List UInt8) : Bool := h1 == h2 && (!h1 || xs == ys)
theorem sameV_ne {h1 h2 : Bool} {xs ys : List UInt8} (h : (h1 == h2) = false) : sameV h1 h2 xs ys = false := by unfold sameV; rw [h]; rfl
theorem sameV_len {xs ys : List UInt8} (h : xs.length ≠ ys.length) : sameV true true xs ys = false := by
  unfold sameV
  have : (xs == ys) = false := by simp; rintro rfl; exact h rfl
  rw [this]; rfl
theorem sameV_at {xs ys : List UInt8} (k : Nat) (h1 : k < xs.length) (h2 : k < ys.length) (h : (xs[k].toNat : Int) ≠ (ys[k].toNat : Int)) : sameV true true xs ys = false := by
  unfold sameV
  have : (xs == ys) = false := by simp; rintro rfl; exact h rfl
  rw [this]; rfl
theorem take_next {xs ys : List UInt8} {k : Nat} (h1 : k < xs.length) (h2 : k < ys.length) (ht : xs.take k = ys.take k) (h : (xs[k].toNat : Int) = (ys[k].toNat : Int)) : xs.take (k + 1) = ys.take (k + 1) := by
  rw [List.take_succ_eq_append_getElem h1, List.take_succ_eq_append_getElem h2, ht]
  have : xs[k] = ys[k] := UInt8.toNat_inj.1 (by omega)
  rw [this]
end Go.Proofs.Ytmbcdakfnckcmaa
