/- Two lists of numbers, or of rows, that are the same, are told to be. -/
import Derived.Test.YtdmoogbmaodfnaaGreatCore
import Derived.Deep.QuietTactic
import Derived.BigQuiet
namespace Go.Proofs.YtdmoogbmaodfnaaGreat
open Go.RowKit Mem
set_option maxRecDepth 10000
set_option maxHeartbeats 1000000
def iV (x : Int) : Value := .int .i64 x
theorem below_drew' (w : World) (n B : Nat) : Below B w (w.drewN n) := ⟨rfl, rfl, rfl, Nat.le_refl _, fun _ _ => rfl⟩
def Quiet (v : Value) (w : World) (e : Ending) (w' : World) : Prop := e = .returned v ∧ ∃ q, w' = w.drewN q
theorem quiet_row {w w' : World} {B : Nat} {A : Option Addr} {xs : List Value} (h : Row w B A xs) (hq : ∃ q, w' = w.drewN q) : Row w' B A xs := by
  obtain ⟨q, rfl⟩ := hq; exact h
theorem quiet_below {w w' : World} {B : Nat} (hq : ∃ q, w' = w.drewN q) : Below B w w' := by
  obtain ⟨q, rfl⟩ := hq; exact below_drew' w q B
end Go.Proofs.YtdmoogbmaodfnaaGreat
