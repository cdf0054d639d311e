/- The bytes of an entry, by the document. -/
import Derived.Test.YtmbcdakfnckcmaaBytesE
namespace Go.Proofs.Ytmbcdakfnckcmaa
open Go.RowKit Mem Be
set_option maxRecDepth 10000
set_option maxHeartbeats 4000000
theorem blk_own {w w' : World} {g : Nat} {t : TypeId} {cs : Array Value} {B : Nat} {v : Value} {n : Nat} {e : TypeId} {xs : List Value} (hk : Blk w g t cs) (hg : w.grownBy w' v.ownBlock) (ho : w.ownsRow B e 1 v n xs) (hB : g < B) : Blk w' g t cs :=
  hk.grown hg (fun e => by have := (ho.lt g e.symm).1; omega)
theorem below_own {w0 w w' : World} {B C : Nat} {v : Value} {n : Nat} {e : TypeId} {xs : List Value} (hb : Below C w0 w) (hg : w.grownBy w' v.ownBlock) (ho : w.ownsRow B e 1 v n xs) (hC : C ≤ w0.heap.size) (hB : C ≤ B) : Below C w0 w' :=
  hb.grown hg (Nat.le_trans hC hb.size) (fun k hk => Nat.le_trans hB (ho.lt k hk).1)
theorem own_other {w w' : World} {B n : Nat} {e : TypeId} {u v : Value} {xs : List Value} (h : w.ownsRow B e 1 v n xs) (hg : w.grownBy w' u.ownBlock) (hu : ∀ k, u.ownBlock = some k → k < B) : w'.ownsRow B e 1 v n xs := by
  refine h.kept hg ?_
  cases hv : v.ownBlock with
  | none => exact Or.inl rfl
  | some k => exact Or.inr (fun e => by have := (h.lt k hv).1; have := hu k e.symm; omega)
end Go.Proofs.Ytmbcdakfnckcmaa
