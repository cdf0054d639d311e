/- A copy of an entry; the newer one of two: by the program and by the document. -/
import Derived.Test.YtmbcdakfnckcmaaSame
namespace Go.Proofs.Ytmbcdakfnckcmaa
open Go.RowKit Mem
set_option maxRecDepth 10000
set_option maxHeartbeats 2000000
theorem own_base {w : World} {B B' : Nat} {e : TypeId} {v : Value} {n : Nat} {xs : List Value} (h : w.ownsRow B e 1 v n xs) (hB : B' ≤ B) : w.ownsRow B' e 1 v n xs := by
  obtain ⟨h1, h2⟩ := h
  refine ⟨h1, ?_⟩
  rcases h2 with h2 | ⟨g, cap, cur, hv, hg, r⟩
  · exact Or.inl h2
  · exact Or.inr ⟨g, cap, cur, hv, by omega, r⟩
theorem own_put {w : World} {B g : Nat} {e : TypeId} {v : Value} {n : Nat} {xs : List Value} (h : w.ownsRow B e 1 v n xs) (hg : g < B) (i : Nat) (u : Value) : (w.setCell ⟨g, i, none⟩ u).ownsRow B e 1 v n xs :=
  ownsRow_setCell_below h (a := ⟨g, i, none⟩) hg u
/-- An entry whose bytes are in new memory. -/
def MadeE (B : Nat) (key : ByteArray) (s u o : Int) (has : Bool) (xs : List UInt8) (w : World) (e : Ending) (w' : World) : Prop :=
  ∃ A c, e = .returned (entV key s u o has A xs.length c) ∧ w'.ownsRow B 5 1 (.slice A xs.length c) xs.length (xs.map byteV) ∧ Below B w w'
end Go.Proofs.Ytmbcdakfnckcmaa
