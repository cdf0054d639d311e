/- StoK: Package store: entriesOf's closure: an entry is taken in.
   StoL: Package store: readRows.
   StoM: Package store: readRecords.
   StoN: Package store: entriesOf, Recover, Crash. -/
import Derived.Test.YtkdpfjenjcpcfaaGreatDoorSto
import Derived.Deep.RegionLaw
import Derived.Test.YtkdpfjenjcpcfaaGreatDoorAllRows
import Derived.Test.YtkdpfjenjcpcfaaGreatDoorRecs
import Derived.Deep.LoopGhost
import Derived.Test.YtkdpfjenjcpcfaaGreatDoorLast
namespace Go.Proofs.YtkdpfjenjcpcfaaGreatDoor
open Go.RowKit Mem Be Word Frm Go.Maps
set_option maxRecDepth 10000
set_option maxHeartbeats 4000000
set_option linter.unusedVariables false
variable {KS KS' : StK}
/-- A table in a variable of its own, all of it in blocks from B on. -/
structure Found (w : World) (B b0 : Nat) (T : List EV) (mo : Option Nat) : Prop where
  blk : Blk w b0 106 #[.map mo]
  map : TabM w mo T
  inM : ∀ b, mo = some b → B ≤ b
  bB : B ≤ b0
  srt : SortT kV T
  own : EntsO w B T
  ok : ∀ x ∈ T, okE x.1
theorem Found.below {w w' : World} {B b0 : Nat} {T : List EV} {mo : Option Nat} (h : Found w B b0 T mo) (hb : Below w.heap.size w w') : Found w' B b0 T mo :=
  ⟨h.blk.below hb h.blk.lt, h.map.below hb, h.inM, h.bB, h.srt, entsO_below h.own hb, h.ok⟩
theorem Found.val {w : World} {B b0 : Nat} {T : List EV} {mo : Option Nat} (h : Found w B b0 T mo) (k : List UInt8) : ValOk w (ofV T k).1.has (ofV T k).2.1 (ofV T k).1.v (ofV T k).2.2 := by
  unfold ofV
  cases hg : getK kV T k with
  | none => exact ⟨Row.nil _ _ _, by simp [evN, entN], Nat.le_refl _⟩
  | some x =>
    have hx := (get_some hg).1
    exact (show ValOk w x.1.has x.2.1 x.1.v x.2.2 from ownE_val (h.own x hx) (by have := (rightE_yes (h.ok x hx)).2.2.1; omega))
/-- All cells that hold no map stay. -/
def KeepC (w w' : World) : Prop := ∀ b o v, w.cell? ⟨b, o, none⟩ = some v → (∀ m, v ≠ .map m) → w'.cell? ⟨b, o, none⟩ = some v
theorem KeepC.refl (w : World) : KeepC w w := fun _ _ _ h _ => h
theorem KeepC.trans {a b c : World} (h : KeepC a b) (h' : KeepC b c) : KeepC a c := fun x o v hv hm => h' x o v (h x o v hv hm) hm
theorem KeepC.below {w w' : World} (h : Below w.heap.size w w') : KeepC w w' := fun b o v hv _ => (h.cell (p := ⟨b, o, none⟩) (block_lt hv)).trans hv
end Go.Proofs.YtkdpfjenjcpcfaaGreatDoor
namespace Go.Proofs.YtkdpfjenjcpcfaaGreatDoor
open Go.RowKit Mem Be Word Frm Go.Maps
set_option maxRecDepth 10000
set_option maxHeartbeats 4000000
set_option linter.unusedVariables false
variable {KS KS' : StK}
end Go.Proofs.YtkdpfjenjcpcfaaGreatDoor
namespace Go.Proofs.YtkdpfjenjcpcfaaGreatDoor
open Go.RowKit Mem Be Word Frm Go.Maps
set_option maxRecDepth 10000
set_option maxHeartbeats 4000000
set_option linter.unusedVariables false
variable {KS KS' : StK}
end Go.Proofs.YtkdpfjenjcpcfaaGreatDoor
namespace Go.Proofs.YtkdpfjenjcpcfaaGreatDoor
open Go.RowKit Mem Be Word Frm Go.Maps
set_option maxRecDepth 10000
set_option maxHeartbeats 4000000
set_option linter.unusedVariables false
variable {KS KS' : StK}
/-- What comes back from a crash. -/
def crashR (S : St8) (k : Nat) : List Rc := (scanS (allB (S.rs.take S.m) ++ (allB (S.rs.drop S.m)).take k)).1
def crash8S (S : St8) (k : Nat) : St8 := ⟨crashR S k, (crashR S k).length, (recS (crashR S k)).getD [], (recS (crashR S k)).getD [], []⟩
end Go.Proofs.YtkdpfjenjcpcfaaGreatDoor
