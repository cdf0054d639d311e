/- What the bound of an '..UptoSaid' gives: how much a part holds is no more than the whole; a slice of bytes, its length. -/
/- Rows of bytes that come in, opened with how much they hold. No dump is imported here. -/
/- Rows of things that are done to a log, as they come in. -/
/- Something that is done to a log, by the statements' own call. -/
import Derived.Test.YtndbggkpobcpjaaGreatRows
import Derived.Test.YtndbggkpobcpjaaGreatCore
import Derived.Deep.Slices
import Derived.Test.YtndbggkpobcpjaaGreatGrpB
import Derived.Test.YtndbggkpobcpjaaGreatLast
namespace Go.Proofs.YtndbggkpobcpjaaGreat
open Go.RowKit Go.ChangeShapes Go.Deep Go.WideShapes Mem
namespace Bulk
end Bulk
end Go.Proofs.YtndbggkpobcpjaaGreat
namespace Go.Proofs.YtndbggkpobcpjaaGreat
open Go.RowKit Go.ChangeShapes Go.Deep Go.WideShapes Mem
section
variable {H : Type} {enc : TypeId × Value → H} {P : Program} {w : World} {base : Nat} {held : Bool}
end
end Go.Proofs.YtndbggkpobcpjaaGreat
namespace Go.Proofs.YtndbggkpobcpjaaGreat
open Go.RowKit Go.ChangeShapes Go.Deep Go.WideShapes Mem
set_option maxRecDepth 10000
set_option maxHeartbeats 2000000
set_option linter.unusedVariables false
/-- Something that is done to a log: its kind; of which kind its records are; where their bytes are, which, with how much room; how much is kept. -/
structure DoG where
  kind : Int
  of_ : UInt8
  at_ : Option Addr
  rows : List RowV
  room : Nat
  kept : Int
instance doGInh : Inhabited DoG := ⟨⟨0, 0, none, [], 0, 0⟩⟩
/-- What may come in: numbers of 64 bits, and rows that lie below B. -/
structure DoGOk (w : World) (B : Nat) (r : DoG) : Prop where
  row : Row w B r.at_ (r.rows.map rowV)
  rows : ∀ q ∈ r.rows, RowOk w B q
  cap : r.rows.length ≤ r.room
  mx : r.room ≤ maxLen
  k0 : -9223372036854775808 ≤ r.kind
  k1 : r.kind ≤ 9223372036854775807
  p0 : -9223372036854775808 ≤ r.kept
  p1 : r.kept ≤ 9223372036854775807
theorem DoGOk.below {w w' : World} {B : Nat} {r : DoG} (h : DoGOk w B r) (hb : Below B w w') : DoGOk w' B r := ⟨h.row.below hb, fun q hq => (h.rows q hq).below hb, h.cap, h.mx, h.k0, h.k1, h.p0, h.p1⟩
section
variable {H : Type} {enc : TypeId × Value → H} {P : Program} {w : World} {base : Nat} {held : Bool}
end
end Go.Proofs.YtndbggkpobcpjaaGreat
namespace Go.Proofs.YtndbggkpobcpjaaGreat
open Go.RowKit Mem Be Word Frm
set_option maxRecDepth 10000
set_option maxHeartbeats 2000000
set_option linter.unusedVariables false
variable {J : LgK}
end Go.Proofs.YtndbggkpobcpjaaGreat
