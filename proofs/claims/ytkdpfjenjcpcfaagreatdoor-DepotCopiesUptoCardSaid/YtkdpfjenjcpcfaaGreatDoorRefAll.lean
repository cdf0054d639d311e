/- All numbers, and all rows, that bytes are, by the document; whether two lists of numbers, or of rows, are the same. -/
import Derived.Test.YtkdpfjenjcpcfaaGreatDoorPk
import Derived.Test.YtkdpfjenjcpcfaaGreatDoorSeq
import Derived.Test.YtkdpfjenjcpcfaaGreatDoorSames
namespace Go.Proofs.YtkdpfjenjcpcfaaGreatDoor
open Go.RowKit Mem Be
set_option maxRecDepth 10000
set_option maxHeartbeats 1000000
theorem info_i : (Tryz.prog.info? 3).map (fun i => (i.zero, i.size, i.bytes)) = some (some (.int .i64 0), 1, 8) := by kernel_rfl
theorem info_s : (Tryz.prog.info? 27).map (fun i => (i.zero, i.size, i.bytes)) = some (some (.slice none 0 0), 1, 24) := by kernel_rfl
theorem good_row : Be.Good getR := fun bs he => by
  rcases getR_err bs with ⟨_, h1, h2⟩ | ⟨_, _, h⟩
  · exact ⟨h1, h2⟩
  · omega
theorem row_one (w : World) (t : TypeId) (v : Value) : Row (w.alloc (.cells #[v] t)) (w.heap.size + 1) (some ⟨w.heap.size, 0, none⟩) [v] := by
  refine Or.inr ⟨w.heap.size, 0, rfl, by omega, fun j hj => ?_⟩
  have := cell_of_row (w.alloc (.cells #[v] t)) w.heap.size j #[v] t (0, 0) (heap_alloc_new w _)
  rw [Nat.zero_add, this]
  have : j = 0 := by simpa using hj
  subst this
  rfl
/-- Rows of bytes in a new list, and what is wrong; each row lies below the heap's end. -/
def Rows2 (r : List (List UInt8) × Int) (w : World) (e : Ending) (w' : World) : Prop :=
  ∃ (A : Option Addr) (c : Nat) (rs : List RowV), e = .returned (.tuple #[.slice A rs.length c, .int .i64 r.2]) ∧ rs.map (fun x => x.2.1) = r.1 ∧ w'.ownsRow w.heap.size 27 1 (.slice A rs.length c) rs.length (rs.map rowV) ∧ Below w.heap.size w w' ∧
    ∀ x ∈ rs, Row w' w'.heap.size x.1 (x.2.1.map byteV)
theorem rows_of {r : List (List UInt8) × Int} {rs : List RowV} {e : Int} (hr : (rs.map (fun x => x.2.1), e) = r) {w w1 : World} {v : Value} {n : Nat} {B : Nat} (hB : w.heap.size ≤ B) (ho : w1.ownsRow B 27 1 v n (rs.map rowV)) (hb : Below w.heap.size w w1)
    (hx : ∀ x ∈ rs, Row w1 w1.heap.size x.1 (x.2.1.map byteV)) : Rows2 r w (.returned (.tuple #[v, .int .i64 e])) w1 := by
  subst hr
  have hn : n = rs.length := by have := ho.1; simp at this; exact this.symm
  subst hn
  rcases ho.2 with ⟨rfl, hn⟩ | ⟨g, cap, cur, rfl, hg, rest⟩
  · have : rs = [] := List.eq_nil_of_length_eq_zero hn
    subst this
    exact ⟨none, 0, [], rfl, rfl, World.ownsRow_nil _ _ _ _, hb, by simp⟩
  · exact ⟨_, cap, rs, rfl, rfl, ⟨ho.1, Or.inr ⟨g, cap, cur, rfl, by omega, rest⟩⟩, hb, hx⟩
theorem one_oneR (x : RowV) : ∀ u ∈ [rowV x], u.oneCell' = true := by intro u hu; simp at hu; subst hu; rfl
end Go.Proofs.YtkdpfjenjcpcfaaGreatDoor
