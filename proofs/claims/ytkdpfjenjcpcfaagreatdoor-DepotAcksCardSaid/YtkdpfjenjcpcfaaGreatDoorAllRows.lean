/- All rows that bytes are, by the program. -/
import Derived.Test.YtkdpfjenjcpcfaaGreatDoorSames
import Derived.Test.YtkdpfjenjcpcfaaGreatDoorRefAll
import Derived.Test.YtkdpfjenjcpcfaaGreatDoorPk
import Derived.Deep.LoopGhost
namespace Go.Proofs.YtkdpfjenjcpcfaaGreatDoor
open Go.RowKit Mem Be
set_option maxRecDepth 10000
set_option maxHeartbeats 1000000
theorem own_type_ne {w : World} {b1 b2 : Nat} {t1 t2 : TypeId} {v1 v2 : Value} {n1 n2 : Nat} {x1 x2 : List Value} (h1 : w.ownsRow b1 t1 1 v1 n1 x1) (h2 : w.ownsRow b2 t2 1 v2 n2 x2) (hne : t1 ≠ t2) : v1.ownBlock = none ∨ v1.ownBlock ≠ v2.ownBlock := by
  rcases h1.2 with ⟨rfl, _⟩ | ⟨g, cap, cur, rfl, _, hh, _⟩
  · exact Or.inl rfl
  · right
    rcases h2.2 with ⟨rfl, _⟩ | ⟨g', cap', cur', rfl, _, hh', _⟩
    · simp [Value.ownBlock]
    · intro e
      have : g = g' := by simpa [Value.ownBlock] using e
      subst this
      rw [hh] at hh'
      injection hh' with hh'
      injection hh' with _ ht
      exact hne ht
/-- Each row is memory of its own, of bytes, made since B. -/
def RowsOwn (w : World) (B : Nat) (rs : List RowV) : Prop := ∀ x ∈ rs, w.ownsRow B 5 1 (rowV x) x.2.1.length (x.2.1.map byteV)
theorem RowsOwn.grown {w w' : World} {B B' n : Nat} {rs : List RowV} {v : Value} {xs : List Value} (h : RowsOwn w B rs) (ho : w.ownsRow B' 27 1 v n xs) (hg : w.grownBy w' v.ownBlock) : RowsOwn w' B rs :=
  fun x hx => (h x hx).kept hg (own_type_ne (h x hx) ho (by decide))
theorem RowsOwn.row {w : World} {B : Nat} {rs : List RowV} (h : RowsOwn w B rs) : ∀ x ∈ rs, Row w w.heap.size x.1 (x.2.1.map byteV) := fun x hx => Row.of_own (h x hx)
end Go.Proofs.YtkdpfjenjcpcfaaGreatDoor
