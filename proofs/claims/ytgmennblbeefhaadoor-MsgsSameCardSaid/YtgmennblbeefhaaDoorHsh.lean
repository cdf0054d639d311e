/- Step: The step by a byte, and what a word is stirred, the program's and the document's: one contract each.
   SumW: Sums of bytes, the program's (of rows) and the document's (of one row): one contract each.
   WordB: The eight bytes of a number, the greatest first, by the program and by the document: one contract each.
   Keys4: Keys, points, checks and buckets, by the program and by the document: one contract each.
   Known4: Checks and buckets, by the program and by the document; what layer 4's examples fix is true. -/
import Derived.Test.YtgmennblbeefhaaDoorCore
import Derived.Test.YtgmennblbeefhaaDoorRows
import Derived.IntWalk
import Derived.Deep.LoopGhost
import Derived.Deep.OwnRows
import Derived.Lib.Small
import Derived.Lib.Strings
import Derived.Lib.Slices
import Derived.Lib.Walk
import Derived.Lib.SlBytesConst
namespace Go.Proofs.YtgmennblbeefhaaDoor
open Go.RowKit Mem Be Word
set_option maxRecDepth 10000
set_option maxHeartbeats 1000000
theorem ret_int {k : IntKind} {a b : Int} (h : a = b) : Ending.returned (.int k a) = .returned (.int k b) := by rw [h]
theorem wrap_nat (n : Nat) : IntKind.u64.wrap (n : Int) = ((n % 18446744073709551616 : Nat) : Int) := by
  rw [IntKind.wrap_u64, Int.natCast_emod]; rfl
theorem mul_wrap (x y : Nat) : IntKind.u64.wrap ((x : Int) * (y : Int)) = ((x * y % 18446744073709551616 : Nat) : Int) := by
  rw [← wrap_nat, Int.natCast_mul]
end Go.Proofs.YtgmennblbeefhaaDoor
namespace Go.Proofs.YtgmennblbeefhaaDoor
open Go.RowKit Mem Be Word
set_option maxRecDepth 10000
set_option maxHeartbeats 1000000
theorem basis_int : (14695981039346656037 : Int) = (basisN : Int) := rfl
end Go.Proofs.YtgmennblbeefhaaDoor
namespace Go.Proofs.YtgmennblbeefhaaDoor
open Go.RowKit Mem Be Word
set_option maxRecDepth 10000
set_option maxHeartbeats 1000000
def w8 (n : Int) : List UInt8 := be 8 (uZ n)
theorem w8_len (n : Int) : (w8 n).length = 8 := be_len _ _
/-- Eight cells, of which those from lo up to hi are written. -/
def CW (u : Int) (lo hi : Nat) : Array Value := ((List.range 8).map fun j => if lo ≤ j ∧ j < hi then Value.int .u8 (u / 256 ^ (7 - j) % 256) else .int .u8 0).toArray
theorem size_CW (u : Int) (lo hi : Nat) : (CW u lo hi).size = 8 := by simp [CW]
theorem CW_at (u : Int) (lo hi j : Nat) (h : j < 8) : (CW u lo hi)[j]'(by rw [size_CW]; exact h) = if lo ≤ j ∧ j < hi then Value.int .u8 (u / 256 ^ (7 - j) % 256) else .int .u8 0 := by
  simp [CW]
theorem CW_none (u : Int) (lo : Nat) : madeCells #[.int .u8 0] 8 = CW u lo lo := by
  apply Array.ext
  · rw [size_CW, ← Array.length_toList, toList_madeCells_one]; simp
  · intro j h1 h2
    have h8 : j < 8 := by rw [size_CW] at h2; exact h2
    rw [CW_at u lo lo j h8, if_neg (by omega), ← Array.getElem_toList]
    simp only [toList_madeCells_one, List.getElem_replicate]
theorem set_CW (u : Int) (lo hi lo' hi' p : Nat) (x : Int) (hx : x = u / 256 ^ (7 - p) % 256) (hi1 : lo' ≤ p ∧ p < hi') (hi2 : ∀ j, j ≠ p → ((lo' ≤ j ∧ j < hi') ↔ (lo ≤ j ∧ j < hi))) :
    (CW u lo hi).setIfInBounds p (.int .u8 x) = CW u lo' hi' := by
  apply Array.ext
  · simp [size_CW]
  · intro j h1 h2
    have h8 : j < 8 := by rw [size_CW] at h2; exact h2
    rw [Array.getElem_setIfInBounds (by rw [size_CW]; exact h8), CW_at u lo' hi' j h8]
    by_cases h : p = j
    · subst h; rw [if_pos rfl, if_pos hi1, hx]
    · rw [if_neg h, CW_at u lo hi j h8]
      have := hi2 j (fun e => h e.symm)
      by_cases hj : lo ≤ j ∧ j < hi
      · rw [if_pos hj, if_pos (this.2 hj)]
      · rw [if_neg hj, if_neg (fun e => hj (this.1 e))]
theorem CW_bytes (u : Int) : (CW u 0 8).toList = (be 8 u).map byteV := by
  apply List.ext_getElem
  · simp [CW, be_len]
  · intro j h2 h3
    have h8 : j < 8 := by simpa [be_len] using h3
    rw [Array.getElem_toList, CW_at u 0 8 j h8, if_pos (by omega), List.getElem_map, be_get _ _ _ h8]
    unfold byteV
    rw [byte_back]
theorem own_CW {w : World} (u : Int) : (w.alloc (.cells (CW u 0 8) 5)).ownsRow w.heap.size 5 1 (.slice (some ⟨w.heap.size, 0, none⟩) 8 8) 8 ((be 8 u).map byteV) := by
  refine ⟨by simp [be_len], Or.inr ⟨w.heap.size, 8, _, rfl, Nat.le_refl _, heap_alloc_new w _, by omega, by decide, by rw [size_CW], ?_⟩⟩
  rw [CW_bytes u, List.take_of_length_le (by simp [be_len])]
theorem make_8 (W : World) : (Instr.makeSlice 24 (.int .i64 8) (.int .i64 8)).run Tryd.prog W = .ok (.slice (some ⟨W.heap.size, 0, none⟩) 8 8) (W.alloc (.cells (madeCells #[.int .u8 0] 8) 5)) :=
  run_make_row' (P := Tryd.prog) 24 5 (.int .u8 0) 1 Tryd.underlying24 info_b rfl .i64 .i64 8 (by omega) (by omega) W
theorem word_end (n : Int) (w : World) : Made w.heap.size (w8 n) w (.returned (.slice (some ⟨w.heap.size, 0, none⟩) 8 8)) (w.alloc (.cells (CW (uZ n) 0 8) 5)) := by
  have hl := w8_len n
  have ho := own_CW (w := w) (uZ n)
  refine ⟨some ⟨w.heap.size, 0, none⟩, 8, by rw [hl], ?_, (Below.refl _ _).alloc (Nat.le_refl _) _⟩
  rw [hl]
  exact ho
end Go.Proofs.YtgmennblbeefhaaDoor
namespace Go.Proofs.YtgmennblbeefhaaDoor
open Go.RowKit Mem Be Word
set_option maxRecDepth 10000
set_option maxHeartbeats 2000000
def keyN (bs : List UInt8) : Nat := stirN (sumN basisN bs)
def pointN (n k : Int) : Nat := keyN (w8 n ++ w8 k)
/-- A word; all that was there is as it was. -/
def IsW (x : Nat) (w : World) (e : Ending) (w' : World) : Prop := e = .returned (.int .u64 (x : Int)) ∧ Below w.heap.size w w'
theorem rows_one {w : World} {A : Option Addr} {bs : List UInt8} {c : Nat} (h : Row w w.heap.size A (bs.map byteV)) : Rows_ w [(A, bs, c)] := fun r hr => by
  have : r = (A, bs, c) := by simpa using hr
  subst this
  exact h
theorem rows_two {w : World} {A A' : Option Addr} {bs bs' : List UInt8} {c c' : Nat} (h : Row w w.heap.size A (bs.map byteV)) (h' : Row w w.heap.size A' (bs'.map byteV)) : Rows_ w [(A, bs, c), (A', bs', c')] := fun r hr => by
  have : r = (A, bs, c) ∨ r = (A', bs', c') := by simpa using hr
  rcases this with rfl | rfl
  · exact h
  · exact h'
theorem one_row (w : World) (t : TypeId) (A : Option Addr) (bs : List UInt8) (c n : Nat) (hn : n = bs.length) : Row (w.alloc (.cells #[.slice A n c] t)) (w.heap.size + 1) (some ⟨w.heap.size, 0, none⟩) ([(A, bs, c)].map rowV) := by
  subst hn; exact row_cells rfl
theorem two_row (w : World) (t : TypeId) (A A' : Option Addr) (bs bs' : List UInt8) (c n c' n' : Nat) (hn : n = bs.length) (hn' : n' = bs'.length) : Row (w.alloc (.cells #[.slice A n c, .slice A' n' c'] t)) (w.heap.size + 1) (some ⟨w.heap.size, 0, none⟩) ([(A, bs, c), (A', bs', c')].map rowV) := by
  subst hn; subst hn'; exact row_cells rfl
theorem lens_one {A : Option Addr} {bs : List UInt8} {c N : Nat} (h : bs.length ≤ N) : ∀ r ∈ [((A, bs, c) : RowV)], r.2.1.length ≤ N := fun r hr => by
  have : r = (A, bs, c) := by simpa using hr
  subst this
  exact h
theorem lens_two {A A' : Option Addr} {bs bs' : List UInt8} {c c' N : Nat} (h : bs.length ≤ N) (h' : bs'.length ≤ N) : ∀ r ∈ [((A, bs, c) : RowV), (A', bs', c')], r.2.1.length ≤ N := fun r hr => by
  have : r = (A, bs, c) ∨ r = (A', bs', c') := by simpa using hr
  rcases this with rfl | rfl
  · exact h
  · exact h'
end Go.Proofs.YtgmennblbeefhaaDoor
namespace Go.Proofs.YtgmennblbeefhaaDoor
open Go.RowKit Mem Be Word
set_option maxRecDepth 10000
set_option maxHeartbeats 2000000
theorem u32_of (n : Nat) (h : n < 4294967296) : IntKind.u32.wrap (n : Int) = (n : Int) := by rw [IntKind.wrap_u32']; omega
theorem check_xor (h : Nat) (hh : U64 h) : bits .xor .u32 ((h / 4294967296 : Nat) : Int) ((h % 4294967296 : Nat) : Int) = (checkN h : Int) := by
  unfold U64 at hh
  exact u32_xor_nat _ _ (by omega) (by omega)
/-- A number and an error; all that was there is as it was. -/
def IsII (a b : Int) (w : World) (e : Ending) (w' : World) : Prop := e = .returned (.tuple #[.int .i64 a, .int .i64 b]) ∧ Below w.heap.size w w'
def bucketN (x : Nat) (n : Int) : Int × Int := if 1 ≤ n ∧ n ≤ 65536 then ((x : Int) % n, 0) else (0, 2)
end Go.Proofs.YtgmennblbeefhaaDoor
