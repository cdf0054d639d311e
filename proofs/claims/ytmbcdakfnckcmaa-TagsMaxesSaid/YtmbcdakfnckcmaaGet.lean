/- What the document reads of a number and of a row, at a place in bytes. -/
import Derived.Test.YtmbcdakfnckcmaaReader2
namespace Go.Proofs.Ytmbcdakfnckcmaa
open Go.RowKit Mem Be
set_option maxRecDepth 10000
set_option maxHeartbeats 1000000
def At3 (r : Int × Nat × Int) (at_ : Nat) (w : World) (e : Ending) (w' : World) : Prop := e = three r.1 ((at_ + r.2.1 : Nat) : Int) r.2.2 ∧ w = w'
theorem at3_end {r : Int × Nat × Int} {x : Int} {k : Nat} {e : Int} (hr : r = (x, k, e)) {at_ : Nat} {x' k' : Int} (h1 : x' = x) (h2 : k' = ((at_ + k : Nat) : Int)) (w : World) :
    At3 r at_ w (.returned (.tuple #[.int .i64 x', .int .i64 k', .int .i64 e])) w := by
  subst hr
  exact ⟨three_eq h1 h2 rfl, rfl⟩
/-- A row at a place: where its bytes lie is not said but that they lie below B. -/
def AtRow (B : Nat) (r : List UInt8 × Nat × Int) (at_ : Nat) (w : World) (e : Ending) (w' : World) : Prop :=
  ∃ A c, e = .returned (.tuple #[.slice A r.1.length c, .int .i64 ((at_ + r.2.1 : Nat) : Int), .int .i64 r.2.2]) ∧ Row w B A (r.1.map byteV) ∧ w = w'
theorem atrow_nil {B : Nat} {r : List UInt8 × Nat × Int} {k : Nat} {e : Int} (hr : r = ([], k, e)) {at_ : Nat} {k' : Int} (h2 : k' = ((at_ + k : Nat) : Int)) (w : World) :
    AtRow B r at_ w (.returned (.tuple #[.slice none 0 0, .int .i64 k', .int .i64 e])) w := by
  subst hr
  exact ⟨none, 0, by rw [h2]; rfl, Row.nil _ _ _, rfl⟩
end Go.Proofs.Ytmbcdakfnckcmaa
