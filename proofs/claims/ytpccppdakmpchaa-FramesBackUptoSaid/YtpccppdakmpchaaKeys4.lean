/- Keys, points, checks and buckets, by the program and by the document: one contract each. -/
import Derived.Test.YtpccppdakmpchaaWordB
namespace Go.Proofs.Ytpccppdakmpchaa
open Go.RowKit Mem Be Word
set_option maxRecDepth 10000
set_option maxHeartbeats 2000000
def keyN (bs : List UInt8) : Nat := stirN (sumN basisN bs)
def pointN (n k : Int) : Nat := keyN (w8 n ++ w8 k)
/-- A word; all that was there is as it was. -/
def IsW (x : Nat) (w : World) (e : Ending) (w' : World) : Prop := e = .returned (.int .u64 (x : Int)) ∧ Below w.heap.size w w'
theorem rows_one {w : World} {A : Option Addr} {bs : List UInt8} {c : Nat} (h : Row w w.heap.size A (bs.map byteV)) : Rows_ w [(A, bs, c)] := fun r hr => by
  have : r = (A, bs, c) := by simpa using hr
  subst this
  exact h
theorem rows_two {w : World} {A A' : Option Addr} {bs bs' : List UInt8} {c c' : Nat} (h : Row w w.heap.size A (bs.map byteV)) (h' : Row w w.heap.size A' (bs'.map byteV)) : Rows_ w [(A, bs, c), (A', bs', c')] := fun r hr => by
  have : r = (A, bs, c) ∨ r = (A', bs', c') := by simpa using hr
  rcases this with rfl | rfl
  · exact h
  · exact h'
theorem one_row (w : World) (t : TypeId) (A : Option Addr) (bs : List UInt8) (c n : Nat) (hn : n = bs.length) : Row (w.alloc (.cells #[.slice A n c] t)) (w.heap.size + 1) (some ⟨w.heap.size, 0, none⟩) ([(A, bs, c)].map rowV) := by
  subst hn; exact row_cells rfl
theorem two_row (w : World) (t : TypeId) (A A' : Option Addr) (bs bs' : List UInt8) (c n c' n' : Nat) (hn : n = bs.length) (hn' : n' = bs'.length) : Row (w.alloc (.cells #[.slice A n c, .slice A' n' c'] t)) (w.heap.size + 1) (some ⟨w.heap.size, 0, none⟩) ([(A, bs, c), (A', bs', c')].map rowV) := by
  subst hn; subst hn'; exact row_cells rfl
theorem lens_one {A : Option Addr} {bs : List UInt8} {c N : Nat} (h : bs.length ≤ N) : ∀ r ∈ [((A, bs, c) : RowV)], r.2.1.length ≤ N := fun r hr => by
  have : r = (A, bs, c) := by simpa using hr
  subst this
  exact h
theorem lens_two {A A' : Option Addr} {bs bs' : List UInt8} {c c' N : Nat} (h : bs.length ≤ N) (h' : bs'.length ≤ N) : ∀ r ∈ [((A, bs, c) : RowV), (A', bs', c')], r.2.1.length ≤ N := fun r hr => by
  have : r = (A, bs, c) ∨ r = (A', bs', c') := by simpa using hr
  rcases this with rfl | rfl
  · exact h
  · exact h'
end Go.Proofs.Ytpccppdakmpchaa
