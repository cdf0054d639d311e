/- What the document reads of a number below a bound, of a truth. -/
import Derived.Test.YtmbcdakfnckcmaaGetE
import Derived.Test.YtmbcdakfnckcmaaGet
namespace Go.Proofs.Ytmbcdakfnckcmaa
open Go.RowKit Mem Be
set_option maxRecDepth 10000
set_option maxHeartbeats 4000000
theorem getB_of {m : Int} {bs : List UInt8} {x : Int} {k : Nat} {e : Int} (hg : getN bs = (x, k, e)) : getB m bs = if e = 0 ∧ (x < 0 ∨ m ≤ x) then (0, 0, 11) else (x, k, e) := by unfold getB; rw [hg]
/-- A truth at a place. -/
def AtT (r : Bool × Nat × Int) (at_ : Nat) (w : World) (e : Ending) (w' : World) : Prop := e = .returned (.tuple #[.bool r.1, .int .i64 ((at_ + r.2.1 : Nat) : Int), .int .i64 r.2.2]) ∧ w = w'
theorem att_end {r : Bool × Nat × Int} {b : Bool} {k : Nat} {e : Int} (hr : r = (b, k, e)) {at_ : Nat} {b' : Bool} {k' : Int} (h1 : b' = b) (h2 : k' = ((at_ + k : Nat) : Int)) (w : World) : AtT r at_ w (.returned (.tuple #[.bool b', .int .i64 k', .int .i64 e])) w := by
  subst hr; subst h1; subst h2; exact ⟨rfl, rfl⟩
end Go.Proofs.Ytmbcdakfnckcmaa
