/- MsD: Package msgs: Back; the document's Back. -/
/- MsG: Package msgs: what is written of a message: bytes that grow behind a variable that function values have; numbers, a truth, a ring. -/
/- MsH: Package msgs: entries written behind bytes. -/
/- MsI: Package msgs: the fields written, by function values. -/
/- MsJ: Package msgs: head, Bytes. -/
/- MsR: Package msgs: Read's head: readKind, readID, readSeq; what is known while the five numbers are read and the message made, in whatever order. -/
/- MsR0: Package msgs: Read of the byte 0. -/
/- MsD: Package msgs: Back. -/
/- MsN: What the chapter's example fixes. -/
/- MsL: How much there is of a message: some number. -/
/- MsO: A message that comes in, opened. -/
/- MsW: A message that may be may be as any other kind with just the same fields: walked. -/
/- MsK: The table of kinds, out of the row's condition. -/
import Derived.Test.YtkdpfjenjcpcfaaGreatDoorMsB
import Derived.BigQuiet
import Derived.Test.YtkdpfjenjcpcfaaGreatDoorMsC
import Derived.Deep.RegionLaw
import Derived.Deep.RegionHeld3
import Derived.Test.YtkdpfjenjcpcfaaGreatDoorMsF
import Derived.Laws.EntriesVeiled
import Derived.Deep.MidRow
import Derived.Laws.Tables
import Derived.Test.YtkdpfjenjcpcfaaGreatDoorAppS
import Derived.OpenShut
import Derived.WideShapes
import Derived.Deep.Slices
import Derived.Deep.Fields
import Derived.BigFrame
import Derived.Test.YtkdpfjenjcpcfaaGreatDoorMsA
import Derived.LaidMore
import Derived.MakeChecks
import Derived.FnData
namespace Go.Proofs.YtkdpfjenjcpcfaaGreatDoor
open Go.RowKit Mem Be Rg
set_option maxRecDepth 100000
set_option maxHeartbeats 16000000
set_option linter.unusedVariables false
theorem set17 {w : World} {g : Nat} {t : TypeId} {c0 c1 c2 c3 c4 c5 c6 c7 c8 c9 c10 c11 c12 c13 c14 c15 c16 : Value} (h : Blk w g t #[c0, c1, c2, c3, c4, c5, c6, c7, c8, c9, c10, c11, c12, c13, c14, c15, c16]) (v0 v1 v2 v3 v4 v5 v6 v7 v8 v9 v10 v11 v12 v13 v14 v15 v16 : Value) :
    Blk (((((((((((((((((w.setCell ⟨g, 0, none⟩ v0).setCell ⟨g, 1, none⟩ v1).setCell ⟨g, 2, none⟩ v2).setCell ⟨g, 3, none⟩ v3).setCell ⟨g, 4, none⟩ v4).setCell ⟨g, 5, none⟩ v5).setCell ⟨g, 6, none⟩ v6).setCell ⟨g, 7, none⟩ v7).setCell ⟨g, 8, none⟩ v8).setCell ⟨g, 9, none⟩ v9).setCell ⟨g, 10, none⟩ v10).setCell ⟨g, 11, none⟩ v11).setCell ⟨g, 12, none⟩ v12).setCell ⟨g, 13, none⟩ v13).setCell ⟨g, 14, none⟩ v14).setCell ⟨g, 15, none⟩ v15).setCell ⟨g, 16, none⟩ v16) g t #[v0, v1, v2, v3, v4, v5, v6, v7, v8, v9, v10, v11, v12, v13, v14, v15, v16] := by
  replace h : Blk (w.setCell ⟨g, 0, none⟩ v0) g t #[v0, c1, c2, c3, c4, c5, c6, c7, c8, c9, c10, c11, c12, c13, c14, c15, c16] := by have := h.set_ 0 v0; simpa only [List.setIfInBounds_toArray, List.set_cons_succ, List.set_cons_zero] using this
  generalize (w.setCell ⟨g, 0, none⟩ v0) = w0 at h ⊢
  replace h : Blk (w0.setCell ⟨g, 1, none⟩ v1) g t #[v0, v1, c2, c3, c4, c5, c6, c7, c8, c9, c10, c11, c12, c13, c14, c15, c16] := by have := h.set_ 1 v1; simpa only [List.setIfInBounds_toArray, List.set_cons_succ, List.set_cons_zero] using this
  generalize (w0.setCell ⟨g, 1, none⟩ v1) = w1 at h ⊢
  replace h : Blk (w1.setCell ⟨g, 2, none⟩ v2) g t #[v0, v1, v2, c3, c4, c5, c6, c7, c8, c9, c10, c11, c12, c13, c14, c15, c16] := by have := h.set_ 2 v2; simpa only [List.setIfInBounds_toArray, List.set_cons_succ, List.set_cons_zero] using this
  generalize (w1.setCell ⟨g, 2, none⟩ v2) = w2 at h ⊢
  replace h : Blk (w2.setCell ⟨g, 3, none⟩ v3) g t #[v0, v1, v2, v3, c4, c5, c6, c7, c8, c9, c10, c11, c12, c13, c14, c15, c16] := by have := h.set_ 3 v3; simpa only [List.setIfInBounds_toArray, List.set_cons_succ, List.set_cons_zero] using this
  generalize (w2.setCell ⟨g, 3, none⟩ v3) = w3 at h ⊢
  replace h : Blk (w3.setCell ⟨g, 4, none⟩ v4) g t #[v0, v1, v2, v3, v4, c5, c6, c7, c8, c9, c10, c11, c12, c13, c14, c15, c16] := by have := h.set_ 4 v4; simpa only [List.setIfInBounds_toArray, List.set_cons_succ, List.set_cons_zero] using this
  generalize (w3.setCell ⟨g, 4, none⟩ v4) = w4 at h ⊢
  replace h : Blk (w4.setCell ⟨g, 5, none⟩ v5) g t #[v0, v1, v2, v3, v4, v5, c6, c7, c8, c9, c10, c11, c12, c13, c14, c15, c16] := by have := h.set_ 5 v5; simpa only [List.setIfInBounds_toArray, List.set_cons_succ, List.set_cons_zero] using this
  generalize (w4.setCell ⟨g, 5, none⟩ v5) = w5 at h ⊢
  replace h : Blk (w5.setCell ⟨g, 6, none⟩ v6) g t #[v0, v1, v2, v3, v4, v5, v6, c7, c8, c9, c10, c11, c12, c13, c14, c15, c16] := by have := h.set_ 6 v6; simpa only [List.setIfInBounds_toArray, List.set_cons_succ, List.set_cons_zero] using this
  generalize (w5.setCell ⟨g, 6, none⟩ v6) = w6 at h ⊢
  replace h : Blk (w6.setCell ⟨g, 7, none⟩ v7) g t #[v0, v1, v2, v3, v4, v5, v6, v7, c8, c9, c10, c11, c12, c13, c14, c15, c16] := by have := h.set_ 7 v7; simpa only [List.setIfInBounds_toArray, List.set_cons_succ, List.set_cons_zero] using this
  generalize (w6.setCell ⟨g, 7, none⟩ v7) = w7 at h ⊢
  replace h : Blk (w7.setCell ⟨g, 8, none⟩ v8) g t #[v0, v1, v2, v3, v4, v5, v6, v7, v8, c9, c10, c11, c12, c13, c14, c15, c16] := by have := h.set_ 8 v8; simpa only [List.setIfInBounds_toArray, List.set_cons_succ, List.set_cons_zero] using this
  generalize (w7.setCell ⟨g, 8, none⟩ v8) = w8 at h ⊢
  replace h : Blk (w8.setCell ⟨g, 9, none⟩ v9) g t #[v0, v1, v2, v3, v4, v5, v6, v7, v8, v9, c10, c11, c12, c13, c14, c15, c16] := by have := h.set_ 9 v9; simpa only [List.setIfInBounds_toArray, List.set_cons_succ, List.set_cons_zero] using this
  generalize (w8.setCell ⟨g, 9, none⟩ v9) = w9 at h ⊢
  replace h : Blk (w9.setCell ⟨g, 10, none⟩ v10) g t #[v0, v1, v2, v3, v4, v5, v6, v7, v8, v9, v10, c11, c12, c13, c14, c15, c16] := by have := h.set_ 10 v10; simpa only [List.setIfInBounds_toArray, List.set_cons_succ, List.set_cons_zero] using this
  generalize (w9.setCell ⟨g, 10, none⟩ v10) = w10 at h ⊢
  replace h : Blk (w10.setCell ⟨g, 11, none⟩ v11) g t #[v0, v1, v2, v3, v4, v5, v6, v7, v8, v9, v10, v11, c12, c13, c14, c15, c16] := by have := h.set_ 11 v11; simpa only [List.setIfInBounds_toArray, List.set_cons_succ, List.set_cons_zero] using this
  generalize (w10.setCell ⟨g, 11, none⟩ v11) = w11 at h ⊢
  replace h : Blk (w11.setCell ⟨g, 12, none⟩ v12) g t #[v0, v1, v2, v3, v4, v5, v6, v7, v8, v9, v10, v11, v12, c13, c14, c15, c16] := by have := h.set_ 12 v12; simpa only [List.setIfInBounds_toArray, List.set_cons_succ, List.set_cons_zero] using this
  generalize (w11.setCell ⟨g, 12, none⟩ v12) = w12 at h ⊢
  replace h : Blk (w12.setCell ⟨g, 13, none⟩ v13) g t #[v0, v1, v2, v3, v4, v5, v6, v7, v8, v9, v10, v11, v12, v13, c14, c15, c16] := by have := h.set_ 13 v13; simpa only [List.setIfInBounds_toArray, List.set_cons_succ, List.set_cons_zero] using this
  generalize (w12.setCell ⟨g, 13, none⟩ v13) = w13 at h ⊢
  replace h : Blk (w13.setCell ⟨g, 14, none⟩ v14) g t #[v0, v1, v2, v3, v4, v5, v6, v7, v8, v9, v10, v11, v12, v13, v14, c15, c16] := by have := h.set_ 14 v14; simpa only [List.setIfInBounds_toArray, List.set_cons_succ, List.set_cons_zero] using this
  generalize (w13.setCell ⟨g, 14, none⟩ v14) = w14 at h ⊢
  replace h : Blk (w14.setCell ⟨g, 15, none⟩ v15) g t #[v0, v1, v2, v3, v4, v5, v6, v7, v8, v9, v10, v11, v12, v13, v14, v15, c16] := by have := h.set_ 15 v15; simpa only [List.setIfInBounds_toArray, List.set_cons_succ, List.set_cons_zero] using this
  generalize (w14.setCell ⟨g, 15, none⟩ v15) = w15 at h ⊢
  replace h : Blk (w15.setCell ⟨g, 16, none⟩ v16) g t #[v0, v1, v2, v3, v4, v5, v6, v7, v8, v9, v10, v11, v12, v13, v14, v15, v16] := by have := h.set_ 16 v16; simpa only [List.setIfInBounds_toArray, List.set_cons_succ, List.set_cons_zero] using this
  generalize (w15.setCell ⟨g, 16, none⟩ v16) = w16 at h ⊢
  exact h
theorem below17 {w0 w : World} {B g : Nat} (h : Below B w0 w) (hg : B ≤ g) (v0 v1 v2 v3 v4 v5 v6 v7 v8 v9 v10 v11 v12 v13 v14 v15 v16 : Value) : Below B w0 ((((((((((((((((((w.setCell ⟨g, 0, none⟩ v0).setCell ⟨g, 1, none⟩ v1).setCell ⟨g, 2, none⟩ v2).setCell ⟨g, 3, none⟩ v3).setCell ⟨g, 4, none⟩ v4).setCell ⟨g, 5, none⟩ v5).setCell ⟨g, 6, none⟩ v6).setCell ⟨g, 7, none⟩ v7).setCell ⟨g, 8, none⟩ v8).setCell ⟨g, 9, none⟩ v9).setCell ⟨g, 10, none⟩ v10).setCell ⟨g, 11, none⟩ v11).setCell ⟨g, 12, none⟩ v12).setCell ⟨g, 13, none⟩ v13).setCell ⟨g, 14, none⟩ v14).setCell ⟨g, 15, none⟩ v15).setCell ⟨g, 16, none⟩ v16)) :=
  below_set (below_set (below_set (below_set (below_set (below_set (below_set (below_set (below_set (below_set (below_set (below_set (below_set (below_set (below_set (below_set (below_set h hg 0 v0) hg 1 v1) hg 2 v2) hg 3 v3) hg 4 v4) hg 5 v5) hg 6 v6) hg 7 v7) hg 8 v8) hg 9 v9) hg 10 v10) hg 11 v11) hg 12 v12) hg 13 v13) hg 14 v14) hg 15 v15) hg 16 v16
def backKey (k : Int) (key : ByteArray) : ByteArray := if hasE k = true then key else ⟨#[]⟩
def BackP (k fr dst ep op : Int) (key : ByteArray) (w : World) (e : Ending) (w' : World) : Prop := e = .returned (.agg #[.int .i64 k, .int .i64 dst, .int .i64 fr, .int .i64 ep, .int .i64 op, .int .i64 0, .bool false, .string (backKey k key), .int .i64 0, .int .i64 0, .int .i64 0, .bool false, .slice none 0 0, .slice none 0 0, .slice none 0 0, .int .i64 0, .int .i64 0]) ∧ Below w.heap.size w w'
end Go.Proofs.YtkdpfjenjcpcfaaGreatDoor
namespace Go.Proofs.YtkdpfjenjcpcfaaGreatDoor
open Go.RowKit Mem Be Rg
set_option maxRecDepth 100000
set_option maxHeartbeats 4000000
set_option linter.unusedVariables false
/-- A variable with bytes of the call's own, behind it. -/
def OutB (w : World) (g : Nat) (bs : List UInt8) : Prop := ∃ A c, Blk w g 27 #[.slice A bs.length c] ∧ w.ownsRow (g + 1) 5 1 (.slice A bs.length c) bs.length (bs.map byteV)
/-- Bytes at g, and behind it, are changed, and nothing else. -/
structure OutTo (g : Nat) (w w' : World) : Prop where
  low : Below g w w'
  typ : ∀ k t cs, g < k → t ≠ 5 → Blk w k t cs → Blk w' k t cs
theorem OutTo.refl (g : Nat) (w : World) : OutTo g w w := ⟨Below.refl _ _, fun _ _ _ _ _ h => h⟩
theorem OutTo.trans {g : Nat} {w w1 w2 : World} (h : OutTo g w w1) (h' : OutTo g w1 w2) : OutTo g w w2 := ⟨h.low.trans h'.low, fun k t cs hk ht hb => h'.typ k t cs hk ht (h.typ k t cs hk ht hb)⟩
theorem OutB.below {w w1 : World} {g : Nat} {bs : List UInt8} (h : OutB w g bs) (hb : Below w.heap.size w w1) : OutB w1 g bs := by
  obtain ⟨A, c, h1, h2⟩ := h
  exact ⟨A, c, h1.below hb h1.lt, own_later h2 hb⟩
theorem OutB.lt {w : World} {g : Nat} {bs : List UInt8} (h : OutB w g bs) : g < w.heap.size := by
  obtain ⟨A, c, h1, h2⟩ := h
  exact h1.lt
end Go.Proofs.YtkdpfjenjcpcfaaGreatDoor
namespace Go.Proofs.YtkdpfjenjcpcfaaGreatDoor
open Go.RowKit Mem Be Rg
set_option maxRecDepth 100000
set_option maxHeartbeats 4000000
set_option linter.unusedVariables false
structure AppTo (g : Nat) (w w' : World) : Prop where
  outs : OutTo g w w'
  sub : Below (g + 1) w w'
theorem AppTo.refl (g : Nat) (w : World) : AppTo g w w := ⟨OutTo.refl _ _, Below.refl _ _⟩
theorem AppTo.trans {g : Nat} {w w1 w2 : World} (h : AppTo g w w1) (h' : AppTo g w1 w2) : AppTo g w w2 := ⟨h.outs.trans h'.outs, h.sub.trans h'.sub⟩
end Go.Proofs.YtkdpfjenjcpcfaaGreatDoor
namespace Go.Proofs.YtkdpfjenjcpcfaaGreatDoor
open Go.RowKit Mem Be Rg
set_option maxRecDepth 100000
set_option maxHeartbeats 4000000
set_option linter.unusedVariables false
end Go.Proofs.YtkdpfjenjcpcfaaGreatDoor
namespace Go.Proofs.YtkdpfjenjcpcfaaGreatDoor
open Go.RowKit Mem Be Rg
set_option maxRecDepth 100000
set_option maxHeartbeats 8000000
set_option linter.unusedVariables false
end Go.Proofs.YtkdpfjenjcpcfaaGreatDoor
namespace Go.Proofs.YtkdpfjenjcpcfaaGreatDoor
open Go.RowKit Mem Be Rg
set_option maxRecDepth 100000
set_option maxHeartbeats 4000000
set_option linter.unusedVariables false
theorem gr17 (w : World) (p : Nat) (v0 v1 v2 v3 v4 v5 v6 v7 v8 v9 v10 v11 v12 v13 v14 v15 v16 : Value) : w.grownBy (((((((((((((((((w.setCell ⟨p, 0, none⟩ (v0)).setCell ⟨p, 1, none⟩ (v1)).setCell ⟨p, 2, none⟩ (v2)).setCell ⟨p, 3, none⟩ (v3)).setCell ⟨p, 4, none⟩ (v4)).setCell ⟨p, 5, none⟩ (v5)).setCell ⟨p, 6, none⟩ (v6)).setCell ⟨p, 7, none⟩ (v7)).setCell ⟨p, 8, none⟩ (v8)).setCell ⟨p, 9, none⟩ (v9)).setCell ⟨p, 10, none⟩ (v10)).setCell ⟨p, 11, none⟩ (v11)).setCell ⟨p, 12, none⟩ (v12)).setCell ⟨p, 13, none⟩ (v13)).setCell ⟨p, 14, none⟩ (v14)).setCell ⟨p, 15, none⟩ (v15)).setCell ⟨p, 16, none⟩ (v16)) (some p) :=
  grown_trans (grown_trans (grown_trans (grown_trans (grown_trans (grown_trans (grown_trans (grown_trans (grown_trans (grown_trans (grown_trans (grown_trans (grown_trans (grown_trans (grown_trans (grown_trans (grown_set w p 0 v0) (grown_set _ p 1 v1)) (grown_set _ p 2 v2)) (grown_set _ p 3 v3)) (grown_set _ p 4 v4)) (grown_set _ p 5 v5)) (grown_set _ p 6 v6)) (grown_set _ p 7 v7)) (grown_set _ p 8 v8)) (grown_set _ p 9 v9)) (grown_set _ p 10 v10)) (grown_set _ p 11 v11)) (grown_set _ p 12 v12)) (grown_set _ p 13 v13)) (grown_set _ p 14 v14)) (grown_set _ p 15 v15)) (grown_set _ p 16 v16)
def SpR (g : Nat) (va : Nat → Int) : Nat → Value → Prop
  | 0, v => v = .pointer (some ⟨g, 0, none⟩)
  | 2, v => v = .pointer (some ⟨g, 0, none⟩)
  | 4, v => v = .pointer (some ⟨g, 0, none⟩)
  | 6, v => v = .pointer (some ⟨g, 0, none⟩)
  | 8, v => v = .pointer (some ⟨g, 0, none⟩)
  | 1, v => v = .int .i64 (va 0)
  | 3, v => v = .int .i64 (va 1)
  | 5, v => v = .int .i64 (va 2)
  | 7, v => v = .int .i64 (va 3)
  | 9, v => v = .int .i64 (va 4)
  | 10, v => v = .agg #[.int .i64 (va 0), .int .i64 (va 1), .int .i64 (va 2), .int .i64 (va 3), .int .i64 (va 4), .int .i64 0, .bool false, .string ⟨#[]⟩, .int .i64 0, .int .i64 0, .int .i64 0, .bool false, .slice none 0 0, .slice none 0 0, .slice none 0 0, .int .i64 0, .int .i64 0]
  | _, _ => True
/-- How many numbers are read. -/
def CntR (S : Nat → Bool) (n : Nat) : Prop := n ≤ 5 ∧ S 1 = decide (0 < n) ∧ S 3 = decide (1 < n) ∧ S 5 = decide (2 < n) ∧ S 7 = decide (3 < n) ∧ S 9 = decide (4 < n)
structure JR (W0 : World) (g q : Nat) (ss : Nat → List UInt8 × Int) (va : Nat → Int) (S : Nat → Bool) (vs : Nat → Value) (w : World) : Prop where
  lg : g < W0.heap.size
  lq : q < W0.heap.size
  nq : g < q
  bel : Below g W0 w
  ptr : Blk w q 268 #[.pointer (some ⟨g, 0, none⟩)]
  cnt : ∃ n, CntR S n ∧ Rd w g (ss n).1 (ss n).2
  sp : ∀ i, S i = true → SpR g va i (vs i)
  v11 : S 11 = true → ∃ p, vs 11 = .pointer (some ⟨p, 0, none⟩) ∧ W0.heap.size ≤ p ∧ (S 12 = false → Blk w p 51 #[.int .i64 0, .int .i64 0, .int .i64 0, .int .i64 0, .int .i64 0, .int .i64 0, .bool false, .string ⟨#[]⟩, .int .i64 0, .int .i64 0, .int .i64 0, .bool false, .slice none 0 0, .slice none 0 0, .slice none 0 0, .int .i64 0, .int .i64 0]) ∧ (S 12 = true → Blk w p 51 #[.int .i64 (va 0), .int .i64 (va 1), .int .i64 (va 2), .int .i64 (va 3), .int .i64 (va 4), .int .i64 0, .bool false, .string ⟨#[]⟩, .int .i64 0, .int .i64 0, .int .i64 0, .bool false, .slice none 0 0, .slice none 0 0, .slice none 0 0, .int .i64 0, .int .i64 0])
  c12 : S 12 = true → S 11 = true
section
open RelyJ
variable {W0 w w' : World} {g q : Nat} {ss : Nat → List UInt8 × Int} {va : Nat → Int} {S : Nat → Bool} {vs : Nat → Value}
theorem sp_up (h : ∀ i, S i = true → SpR g va i (vs i)) (i : Nat) (v : Value) (hv : SpR g va i v) : ∀ k, up S i true k = true → SpR g va k (up vs i v k) := fun k hk => by
  by_cases e : k = i
  · subst e; rw [up_same]; exact hv
  · rw [up_ne _ _ e] at hk ⊢; exact h k hk
theorem JR.load (h : JR W0 g q ss va S vs w) (i : Nat) (v : Value) (hi : i ≠ 1 ∧ i ≠ 3 ∧ i ≠ 5 ∧ i ≠ 7 ∧ i ≠ 9 ∧ i ≠ 11 ∧ i ≠ 12) (hv : SpR g va i v) : JR W0 g q ss va (up S i true) (up vs i v) w := by
  obtain ⟨i1, i3, i5, i7, i9, i11, i12⟩ := hi
  obtain ⟨n, hn, hr⟩ := h.cnt
  refine ⟨h.lg, h.lq, h.nq, h.bel, h.ptr, ⟨n, ?_, hr⟩, sp_up h.sp i v hv, ?_, ?_⟩
  · unfold CntR at hn ⊢
    rw [up_ne _ _ (Ne.symm i1), up_ne _ _ (Ne.symm i3), up_ne _ _ (Ne.symm i5), up_ne _ _ (Ne.symm i7), up_ne _ _ (Ne.symm i9)]
    exact hn
  · rw [up_ne _ _ (Ne.symm i11), up_ne _ _ (Ne.symm i11), up_ne _ _ (Ne.symm i12)]
    exact h.v11
  · rw [up_ne _ _ (Ne.symm i11), up_ne _ _ (Ne.symm i12)]
    exact h.c12
theorem JR.call (h : JR W0 g q ss va S vs w) (i n : Nat) (v : Value) (hi : i ≠ 11 ∧ i ≠ 12) (hv : SpR g va i v) (hc : CntR (up S i true) n) (hr : Rd w' g (ss n).1 (ss n).2) (hg : w.grownBy w' (some g)) : JR W0 g q ss va (up S i true) (up vs i v) w' := by
  obtain ⟨i11, i12⟩ := hi
  obtain ⟨_, _, hr0⟩ := h.cnt
  have hlt := rd_lt hr0
  refine ⟨h.lg, h.lq, h.nq, below_grown h.bel hg (Nat.le_of_lt hlt) (Nat.le_refl _), h.ptr.grown hg (fun e => by injection e with e; have := h.nq; omega), ⟨n, hc, hr⟩, sp_up h.sp i v hv, ?_, ?_⟩
  · rw [up_ne _ _ (Ne.symm i11), up_ne _ _ (Ne.symm i11), up_ne _ _ (Ne.symm i12)]
    intro h11
    obtain ⟨p, h1, h2, h3, h4⟩ := h.v11 h11
    have hne : some p ≠ some g := fun e => by injection e with e; have := h.lg; omega
    exact ⟨p, h1, h2, fun k => (h3 k).grown hg (fun e => hne (by first | exact e | exact e.symm)), fun k => (h4 k).grown hg (fun e => hne (by first | exact e | exact e.symm))⟩
  · rw [up_ne _ _ (Ne.symm i11), up_ne _ _ (Ne.symm i12)]
    exact h.c12
theorem JR.alloc (h : JR W0 g q ss va S vs w) (h12 : S 12 = false) : JR W0 g q ss va (up S 11 true) (up vs 11 (.pointer (some ⟨w.heap.size, 0, none⟩))) (w.alloc (.cells #[.int .i64 0, .int .i64 0, .int .i64 0, .int .i64 0, .int .i64 0, .int .i64 0, .bool false, .string ⟨#[]⟩, .int .i64 0, .int .i64 0, .int .i64 0, .bool false, .slice none 0 0, .slice none 0 0, .slice none 0 0, .int .i64 0, .int .i64 0] 51)) := by
  obtain ⟨n, hn, hr⟩ := h.cnt
  have hsz : W0.heap.size ≤ w.heap.size := h.bel.size
  refine ⟨h.lg, h.lq, h.nq, h.bel.alloc (by have := h.lg; omega) _, h.ptr.alloc _, ⟨n, ?_, rd_alloc hr _⟩, sp_up h.sp 11 _ trivial, ?_, ?_⟩
  · unfold CntR at hn ⊢
    rw [up_ne _ _ (by omega), up_ne _ _ (by omega), up_ne _ _ (by omega), up_ne _ _ (by omega), up_ne _ _ (by omega)]
    exact hn
  · intro _
    rw [up_same, up_ne _ _ (by omega)]
    exact ⟨_, rfl, hsz, fun _ => Blk.new _ _ _, fun e => (by rw [h12] at e; cases e)⟩
  · intro _; exact up_same _ _ _
theorem JR.store {p : Nat} (h : JR W0 g q ss va S vs w) (h11 : S 11 = true) (hp : vs 11 = .pointer (some ⟨p, 0, none⟩)) (h0 : W0.heap.size ≤ p) (hz : Blk w p 51 #[.int .i64 0, .int .i64 0, .int .i64 0, .int .i64 0, .int .i64 0, .int .i64 0, .bool false, .string ⟨#[]⟩, .int .i64 0, .int .i64 0, .int .i64 0, .bool false, .slice none 0 0, .slice none 0 0, .slice none 0 0, .int .i64 0, .int .i64 0]) :
    JR W0 g q ss va (up S 12 true) (up vs 12 undef) (((((((((((((((((w.setCell ⟨p, 0, none⟩ (.int .i64 (va 0))).setCell ⟨p, 1, none⟩ (.int .i64 (va 1))).setCell ⟨p, 2, none⟩ (.int .i64 (va 2))).setCell ⟨p, 3, none⟩ (.int .i64 (va 3))).setCell ⟨p, 4, none⟩ (.int .i64 (va 4))).setCell ⟨p, 5, none⟩ (.int .i64 0)).setCell ⟨p, 6, none⟩ (.bool false)).setCell ⟨p, 7, none⟩ (.string ⟨#[]⟩)).setCell ⟨p, 8, none⟩ (.int .i64 0)).setCell ⟨p, 9, none⟩ (.int .i64 0)).setCell ⟨p, 10, none⟩ (.int .i64 0)).setCell ⟨p, 11, none⟩ (.bool false)).setCell ⟨p, 12, none⟩ (.slice none 0 0)).setCell ⟨p, 13, none⟩ (.slice none 0 0)).setCell ⟨p, 14, none⟩ (.slice none 0 0)).setCell ⟨p, 15, none⟩ (.int .i64 0)).setCell ⟨p, 16, none⟩ (.int .i64 0)) := by
  obtain ⟨n, hn, hr⟩ := h.cnt
  have hg := gr17 w p (.int .i64 (va 0)) (.int .i64 (va 1)) (.int .i64 (va 2)) (.int .i64 (va 3)) (.int .i64 (va 4)) (.int .i64 0) (.bool false) (.string ⟨#[]⟩) (.int .i64 0) (.int .i64 0) (.int .i64 0) (.bool false) (.slice none 0 0) (.slice none 0 0) (.slice none 0 0) (.int .i64 0) (.int .i64 0)
  have hk := set17 hz (.int .i64 (va 0)) (.int .i64 (va 1)) (.int .i64 (va 2)) (.int .i64 (va 3)) (.int .i64 (va 4)) (.int .i64 0) (.bool false) (.string ⟨#[]⟩) (.int .i64 0) (.int .i64 0) (.int .i64 0) (.bool false) (.slice none 0 0) (.slice none 0 0) (.slice none 0 0) (.int .i64 0) (.int .i64 0)
  have hlg := h.lg
  have hlq := h.lq
  have hlt := rd_lt hr
  refine ⟨hlg, hlq, h.nq, below_grown h.bel hg (Nat.le_of_lt hlt) (by omega), h.ptr.grown hg (fun e => by injection e with e; omega), ⟨n, ?_, rd_other hr hg (by omega)⟩, sp_up h.sp 12 _ trivial, ?_, ?_⟩
  · unfold CntR at hn ⊢
    rw [up_ne _ _ (by omega), up_ne _ _ (by omega), up_ne _ _ (by omega), up_ne _ _ (by omega), up_ne _ _ (by omega)]
    exact hn
  · intro _
    rw [up_ne _ _ (by omega), up_same]
    exact ⟨p, hp, h0, fun e => (by cases e), fun _ => hk⟩
  · intro _; rw [up_ne _ _ (by omega)]; exact h11
end
end Go.Proofs.YtkdpfjenjcpcfaaGreatDoor
namespace Go.Proofs.YtkdpfjenjcpcfaaGreatDoor
open Go.RowKit Mem Be Rg
set_option maxRecDepth 100000
set_option maxHeartbeats 8000000
set_option linter.unusedVariables false
theorem there_blk {w : World} {g : Nat} {t : TypeId} {cs : Array Value} (h : Blk w g t cs) : w.there g 0 cs.size := fun j hj => by
  rw [Nat.zero_add]
  exact ⟨by rw [h.cell j, Array.getElem?_eq_getElem hj]; rfl, h.frozen j⟩
end Go.Proofs.YtkdpfjenjcpcfaaGreatDoor
namespace Go.Proofs.YtkdpfjenjcpcfaaGreatDoor
open Go.RowKit Mem Be Rg
set_option maxRecDepth 100000
set_option maxHeartbeats 16000000
set_option linter.unusedVariables false
theorem back_any_yes (k : Int) (he : hasE k = true) (kind fr dst ep op n : Int) (flag : Bool) (key : ByteArray) (s u o : Int) (has : Bool) (A : Option Addr) (m c : Nat) (lA : Option Addr) (ln lc : Nat) (rA : Option Addr) (rn rc : Nat) (each keep : Int) (w : World) (h : KT w) :
    Calls Tryz.prog 51 #[.agg (msgC kind fr dst ep op n flag key s u o has A m c lA ln lc rA rn rc each keep), .int .i64 k] w (BackP k fr dst ep op key w) := by
  have hb0 : Below w.heap.size w ((((w.alloc (.cells #[.int .i64 kind, .int .i64 fr, .int .i64 dst, .int .i64 ep, .int .i64 op, .int .i64 n, .bool flag, .string key, .int .i64 s, .int .i64 u, .int .i64 o, .bool has, .slice A m c, .slice lA ln lc, .slice rA rn rc, .int .i64 each, .int .i64 keep] 51))).alloc (.cells #[.int .i64 0, .int .i64 0, .int .i64 0, .int .i64 0, .int .i64 0, .int .i64 0, .bool false, .string ⟨#[]⟩, .int .i64 0, .int .i64 0, .int .i64 0, .bool false, .slice none 0 0, .slice none 0 0, .slice none 0 0, .int .i64 0, .int .i64 0] 51)).alloc (.cells #[.int .i64 k, .int .i64 dst, .int .i64 fr, .int .i64 ep, .int .i64 op, .int .i64 0, .bool false, .string ⟨#[]⟩, .int .i64 0, .int .i64 0, .int .i64 0, .bool false, .slice none 0 0, .slice none 0 0, .slice none 0 0, .int .i64 0, .int .i64 0] 51)) := (((Below.refl _ _).alloc (Nat.le_refl _) _).alloc (by simp) _).alloc (by simp; omega) _
  have hk1 := Blk.new w 51 #[.int .i64 kind, .int .i64 fr, .int .i64 dst, .int .i64 ep, .int .i64 op, .int .i64 n, .bool flag, .string key, .int .i64 s, .int .i64 u, .int .i64 o, .bool has, .slice A m c, .slice lA ln lc, .slice rA rn rc, .int .i64 each, .int .i64 keep]
  have hk2 := Blk.new (w.alloc (.cells #[.int .i64 kind, .int .i64 fr, .int .i64 dst, .int .i64 ep, .int .i64 op, .int .i64 n, .bool flag, .string key, .int .i64 s, .int .i64 u, .int .i64 o, .bool has, .slice A m c, .slice lA ln lc, .slice rA rn rc, .int .i64 each, .int .i64 keep] 51)) 51 #[.int .i64 0, .int .i64 0, .int .i64 0, .int .i64 0, .int .i64 0, .int .i64 0, .bool false, .string ⟨#[]⟩, .int .i64 0, .int .i64 0, .int .i64 0, .bool false, .slice none 0 0, .slice none 0 0, .slice none 0 0, .int .i64 0, .int .i64 0]
  have hk3 := Blk.new ((w.alloc (.cells #[.int .i64 kind, .int .i64 fr, .int .i64 dst, .int .i64 ep, .int .i64 op, .int .i64 n, .bool flag, .string key, .int .i64 s, .int .i64 u, .int .i64 o, .bool has, .slice A m c, .slice lA ln lc, .slice rA rn rc, .int .i64 each, .int .i64 keep] 51)).alloc (.cells #[.int .i64 0, .int .i64 0, .int .i64 0, .int .i64 0, .int .i64 0, .int .i64 0, .bool false, .string ⟨#[]⟩, .int .i64 0, .int .i64 0, .int .i64 0, .bool false, .slice none 0 0, .slice none 0 0, .slice none 0 0, .int .i64 0, .int .i64 0] 51)) 51 #[.int .i64 k, .int .i64 dst, .int .i64 fr, .int .i64 ep, .int .i64 op, .int .i64 0, .bool false, .string ⟨#[]⟩, .int .i64 0, .int .i64 0, .int .i64 0, .bool false, .slice none 0 0, .slice none 0 0, .slice none 0 0, .int .i64 0, .int .i64 0]
  rw [World.size_alloc] at hk2
  rw [World.size_alloc, World.size_alloc] at hk3
  have HK1 := Lib.hid ((hk1.alloc (.cells #[.int .i64 0, .int .i64 0, .int .i64 0, .int .i64 0, .int .i64 0, .int .i64 0, .bool false, .string ⟨#[]⟩, .int .i64 0, .int .i64 0, .int .i64 0, .bool false, .slice none 0 0, .slice none 0 0, .slice none 0 0, .int .i64 0, .int .i64 0] 51)).alloc (.cells #[.int .i64 k, .int .i64 dst, .int .i64 fr, .int .i64 ep, .int .i64 op, .int .i64 0, .bool false, .string ⟨#[]⟩, .int .i64 0, .int .i64 0, .int .i64 0, .bool false, .slice none 0 0, .slice none 0 0, .slice none 0 0, .int .i64 0, .int .i64 0] 51))
  have HK2 := Lib.hid (hk2.alloc (.cells #[.int .i64 k, .int .i64 dst, .int .i64 fr, .int .i64 ep, .int .i64 op, .int .i64 0, .bool false, .string ⟨#[]⟩, .int .i64 0, .int .i64 0, .int .i64 0, .bool false, .slice none 0 0, .slice none 0 0, .slice none 0 0, .int .i64 0, .int .i64 0] 51))
  have HK3 := Lib.hid hk3
  have HB0 := Lib.hid hb0
  have HE := Lib.hid he
  have HF := Lib.hid (fields_any k _ (h.below HB0.out))
  unfold FldE fldV b5 at HF
  clear h
  rw [he] at HF
  clear he
  clear hk1 hk2 hk3 hb0
  go_enter Tryz.func51, Tryz.ntmps51
  go_wp2_with fail
  refine HF.out.mono ?_
  rintro e w1 ⟨rfl, hb⟩
  have HB1 := Lib.hid (HB0.out.trans (hb.mono HB0.out.size))
  have q1 := HK1.out.below hb HK1.out.lt
  have q2 := HK2.out.below hb HK2.out.lt
  have q3 := HK3.out.below hb HK3.out.lt
  have a7 : w1.cell? ⟨w.heap.size, 7, none⟩ = some (.string key) := q1.cell 7
  have HZ : w.heap.size + 1 + 1 < w1.heap.size := q3.lt
  have HQ2 := Lib.hid q2
  have t7 : w1.cell? ⟨w.heap.size + 1 + 1, 7, none⟩ = some (.string ⟨#[]⟩) := q3.cell 7
  have y7 := q3.frozen 7
  have HL3 : Hid (Blk (w1.setCell ⟨w.heap.size + 1 + 1, 7, none⟩ (.string key)) (w.heap.size + 1 + 1) 51 #[.int .i64 k, .int .i64 dst, .int .i64 fr, .int .i64 ep, .int .i64 op, .int .i64 0, .bool false, .string key, .int .i64 0, .int .i64 0, .int .i64 0, .bool false, .slice none 0 0, .slice none 0 0, .slice none 0 0, .int .i64 0, .int .i64 0]) := Lib.hid (by have := q3.set_ 7 (.string key); simpa only [List.setIfInBounds_toArray, List.set_cons_succ, List.set_cons_zero] using this)
  have HTH := Lib.hid (there_blk (q2.far (p := ⟨w.heap.size + 1 + 1, 7, none⟩) (by show w.heap.size + 1 ≠ w.heap.size + 1 + 1; omega) (.string key)))
  clear hb q1 q2 q3
  have HV : Hid (backKey k key = key) := Lib.hid (if_pos HE.out)
  have hix := fun W => idxb_2 (hasN k) (hasF k) true (hasL k) (hasR k) W
  have HKF := Lib.hid (set17 (HQ2.out.far (p := ⟨w.heap.size + 1 + 1, 7, none⟩) (by show w.heap.size + 1 ≠ w.heap.size + 1 + 1; omega) (.string key)) (.int .i64 k) (.int .i64 dst) (.int .i64 fr) (.int .i64 ep) (.int .i64 op) (.int .i64 0) (.bool false) (.string key) (.int .i64 0) (.int .i64 0) (.int .i64 0) (.bool false) (.slice none 0 0) (.slice none 0 0) (.slice none 0 0) (.int .i64 0) (.int .i64 0))
  have HBF := Lib.hid (below17 (below_set HB1.out (show w.heap.size ≤ w.heap.size + 1 + 1 by omega) 7 (.string key)) (show w.heap.size ≤ w.heap.size + 1 by omega) (.int .i64 k) (.int .i64 dst) (.int .i64 fr) (.int .i64 ep) (.int .i64 op) (.int .i64 0) (.bool false) (.string key) (.int .i64 0) (.int .i64 0) (.int .i64 0) (.bool false) (.slice none 0 0) (.slice none 0 0) (.slice none 0 0) (.int .i64 0) (.int .i64 0))
  go_wp2_with (first | (refine wpList_load_row rfl 51 _ rfl _ rfl _ _ _ _ (show _ = _ from HL3.out) Tryz.underlying51 rfl (by kernel_rfl) ?_) | (refine wpList_store_mid rfl 51 _ _ rfl (w.heap.size + 1) 0 #[.int .i64 k, .int .i64 dst, .int .i64 fr, .int .i64 ep, .int .i64 op, .int .i64 0, .bool false, .string key, .int .i64 0, .int .i64 0, .int .i64 0, .bool false, .slice none 0 0, .slice none 0 0, .slice none 0 0, .int .i64 0, .int .i64 0] rfl rfl HTH.out (by kernel_rfl) (by kernel_rfl) ?_; generalize hW : World.setCells _ _ _ _ = W))
  have HKG : Hid (Blk W (w.heap.size + 1) 51 #[.int .i64 k, .int .i64 dst, .int .i64 fr, .int .i64 ep, .int .i64 op, .int .i64 0, .bool false, .string key, .int .i64 0, .int .i64 0, .int .i64 0, .bool false, .slice none 0 0, .slice none 0 0, .slice none 0 0, .int .i64 0, .int .i64 0]) := Lib.hid (by rw [← hW]; exact HKF.out)
  have HBG : Hid (Below w.heap.size w W) := Lib.hid (by rw [← hW]; exact HBF.out)
  exact bodyPost_ret (v := .agg #[.int .i64 k, .int .i64 dst, .int .i64 fr, .int .i64 ep, .int .i64 op, .int .i64 0, .bool false, .string key, .int .i64 0, .int .i64 0, .int .i64 0, .bool false, .slice none 0 0, .slice none 0 0, .slice none 0 0, .int .i64 0, .int .i64 0]) (results_cell_row (p := 4) (ty := 51) Tryz.results51 _ _ (w.heap.size + 1) 51 #[.int .i64 k, .int .i64 dst, .int .i64 fr, .int .i64 ep, .int .i64 op, .int .i64 0, .bool false, .string key, .int .i64 0, .int .i64 0, .int .i64 0, .bool false, .slice none 0 0, .slice none 0 0, .slice none 0 0, .int .i64 0, .int .i64 0] (0, 0) _ rfl HKG.out Tryz.underlying51 rfl (by kernel_rfl)) rfl ⟨by rw [HV.out], HBG.out⟩
theorem back_any_no (k : Int) (he : hasE k = false) (kind fr dst ep op n : Int) (flag : Bool) (key : ByteArray) (s u o : Int) (has : Bool) (A : Option Addr) (m c : Nat) (lA : Option Addr) (ln lc : Nat) (rA : Option Addr) (rn rc : Nat) (each keep : Int) (w : World) (h : KT w) :
    Calls Tryz.prog 51 #[.agg (msgC kind fr dst ep op n flag key s u o has A m c lA ln lc rA rn rc each keep), .int .i64 k] w (BackP k fr dst ep op key w) := by
  have hb0 : Below w.heap.size w ((((w.alloc (.cells #[.int .i64 kind, .int .i64 fr, .int .i64 dst, .int .i64 ep, .int .i64 op, .int .i64 n, .bool flag, .string key, .int .i64 s, .int .i64 u, .int .i64 o, .bool has, .slice A m c, .slice lA ln lc, .slice rA rn rc, .int .i64 each, .int .i64 keep] 51))).alloc (.cells #[.int .i64 0, .int .i64 0, .int .i64 0, .int .i64 0, .int .i64 0, .int .i64 0, .bool false, .string ⟨#[]⟩, .int .i64 0, .int .i64 0, .int .i64 0, .bool false, .slice none 0 0, .slice none 0 0, .slice none 0 0, .int .i64 0, .int .i64 0] 51)).alloc (.cells #[.int .i64 k, .int .i64 dst, .int .i64 fr, .int .i64 ep, .int .i64 op, .int .i64 0, .bool false, .string ⟨#[]⟩, .int .i64 0, .int .i64 0, .int .i64 0, .bool false, .slice none 0 0, .slice none 0 0, .slice none 0 0, .int .i64 0, .int .i64 0] 51)) := (((Below.refl _ _).alloc (Nat.le_refl _) _).alloc (by simp) _).alloc (by simp; omega) _
  have hk1 := Blk.new w 51 #[.int .i64 kind, .int .i64 fr, .int .i64 dst, .int .i64 ep, .int .i64 op, .int .i64 n, .bool flag, .string key, .int .i64 s, .int .i64 u, .int .i64 o, .bool has, .slice A m c, .slice lA ln lc, .slice rA rn rc, .int .i64 each, .int .i64 keep]
  have hk2 := Blk.new (w.alloc (.cells #[.int .i64 kind, .int .i64 fr, .int .i64 dst, .int .i64 ep, .int .i64 op, .int .i64 n, .bool flag, .string key, .int .i64 s, .int .i64 u, .int .i64 o, .bool has, .slice A m c, .slice lA ln lc, .slice rA rn rc, .int .i64 each, .int .i64 keep] 51)) 51 #[.int .i64 0, .int .i64 0, .int .i64 0, .int .i64 0, .int .i64 0, .int .i64 0, .bool false, .string ⟨#[]⟩, .int .i64 0, .int .i64 0, .int .i64 0, .bool false, .slice none 0 0, .slice none 0 0, .slice none 0 0, .int .i64 0, .int .i64 0]
  have hk3 := Blk.new ((w.alloc (.cells #[.int .i64 kind, .int .i64 fr, .int .i64 dst, .int .i64 ep, .int .i64 op, .int .i64 n, .bool flag, .string key, .int .i64 s, .int .i64 u, .int .i64 o, .bool has, .slice A m c, .slice lA ln lc, .slice rA rn rc, .int .i64 each, .int .i64 keep] 51)).alloc (.cells #[.int .i64 0, .int .i64 0, .int .i64 0, .int .i64 0, .int .i64 0, .int .i64 0, .bool false, .string ⟨#[]⟩, .int .i64 0, .int .i64 0, .int .i64 0, .bool false, .slice none 0 0, .slice none 0 0, .slice none 0 0, .int .i64 0, .int .i64 0] 51)) 51 #[.int .i64 k, .int .i64 dst, .int .i64 fr, .int .i64 ep, .int .i64 op, .int .i64 0, .bool false, .string ⟨#[]⟩, .int .i64 0, .int .i64 0, .int .i64 0, .bool false, .slice none 0 0, .slice none 0 0, .slice none 0 0, .int .i64 0, .int .i64 0]
  rw [World.size_alloc] at hk2
  rw [World.size_alloc, World.size_alloc] at hk3
  have HK1 := Lib.hid ((hk1.alloc (.cells #[.int .i64 0, .int .i64 0, .int .i64 0, .int .i64 0, .int .i64 0, .int .i64 0, .bool false, .string ⟨#[]⟩, .int .i64 0, .int .i64 0, .int .i64 0, .bool false, .slice none 0 0, .slice none 0 0, .slice none 0 0, .int .i64 0, .int .i64 0] 51)).alloc (.cells #[.int .i64 k, .int .i64 dst, .int .i64 fr, .int .i64 ep, .int .i64 op, .int .i64 0, .bool false, .string ⟨#[]⟩, .int .i64 0, .int .i64 0, .int .i64 0, .bool false, .slice none 0 0, .slice none 0 0, .slice none 0 0, .int .i64 0, .int .i64 0] 51))
  have HK2 := Lib.hid (hk2.alloc (.cells #[.int .i64 k, .int .i64 dst, .int .i64 fr, .int .i64 ep, .int .i64 op, .int .i64 0, .bool false, .string ⟨#[]⟩, .int .i64 0, .int .i64 0, .int .i64 0, .bool false, .slice none 0 0, .slice none 0 0, .slice none 0 0, .int .i64 0, .int .i64 0] 51))
  have HK3 := Lib.hid hk3
  have HB0 := Lib.hid hb0
  have HE := Lib.hid he
  have HF := Lib.hid (fields_any k _ (h.below HB0.out))
  unfold FldE fldV b5 at HF
  clear h
  rw [he] at HF
  clear he
  clear hk1 hk2 hk3 hb0
  go_enter Tryz.func51, Tryz.ntmps51
  go_wp2_with fail
  refine HF.out.mono ?_
  rintro e w1 ⟨rfl, hb⟩
  have HB1 := Lib.hid (HB0.out.trans (hb.mono HB0.out.size))
  have q1 := HK1.out.below hb HK1.out.lt
  have q2 := HK2.out.below hb HK2.out.lt
  have q3 := HK3.out.below hb HK3.out.lt
  have a7 : w1.cell? ⟨w.heap.size, 7, none⟩ = some (.string key) := q1.cell 7
  have HZ : w.heap.size + 1 + 1 < w1.heap.size := q3.lt
  have HQ2 := Lib.hid q2
  have HL3 := Lib.hid q3
  have HTH := Lib.hid (there_blk q2)
  clear hb q1 q2 q3
  have HV : Hid (backKey k key = ⟨#[]⟩) := Lib.hid (if_neg (by rw [HE.out]; simp))
  have hix := fun W => idxb_2 (hasN k) (hasF k) false (hasL k) (hasR k) W
  have HKF := Lib.hid (set17 (HQ2.out) (.int .i64 k) (.int .i64 dst) (.int .i64 fr) (.int .i64 ep) (.int .i64 op) (.int .i64 0) (.bool false) (.string ⟨#[]⟩) (.int .i64 0) (.int .i64 0) (.int .i64 0) (.bool false) (.slice none 0 0) (.slice none 0 0) (.slice none 0 0) (.int .i64 0) (.int .i64 0))
  have HBF := Lib.hid (below17 (HB1.out) (show w.heap.size ≤ w.heap.size + 1 by omega) (.int .i64 k) (.int .i64 dst) (.int .i64 fr) (.int .i64 ep) (.int .i64 op) (.int .i64 0) (.bool false) (.string ⟨#[]⟩) (.int .i64 0) (.int .i64 0) (.int .i64 0) (.bool false) (.slice none 0 0) (.slice none 0 0) (.slice none 0 0) (.int .i64 0) (.int .i64 0))
  go_wp2_with (first | (refine wpList_load_row rfl 51 _ rfl _ rfl _ _ _ _ (show _ = _ from HL3.out) Tryz.underlying51 rfl (by kernel_rfl) ?_) | (refine wpList_store_mid rfl 51 _ _ rfl (w.heap.size + 1) 0 #[.int .i64 k, .int .i64 dst, .int .i64 fr, .int .i64 ep, .int .i64 op, .int .i64 0, .bool false, .string ⟨#[]⟩, .int .i64 0, .int .i64 0, .int .i64 0, .bool false, .slice none 0 0, .slice none 0 0, .slice none 0 0, .int .i64 0, .int .i64 0] rfl rfl HTH.out (by kernel_rfl) (by kernel_rfl) ?_; generalize hW : World.setCells _ _ _ _ = W))
  have HKG : Hid (Blk W (w.heap.size + 1) 51 #[.int .i64 k, .int .i64 dst, .int .i64 fr, .int .i64 ep, .int .i64 op, .int .i64 0, .bool false, .string ⟨#[]⟩, .int .i64 0, .int .i64 0, .int .i64 0, .bool false, .slice none 0 0, .slice none 0 0, .slice none 0 0, .int .i64 0, .int .i64 0]) := Lib.hid (by rw [← hW]; exact HKF.out)
  have HBG : Hid (Below w.heap.size w W) := Lib.hid (by rw [← hW]; exact HBF.out)
  exact bodyPost_ret (v := .agg #[.int .i64 k, .int .i64 dst, .int .i64 fr, .int .i64 ep, .int .i64 op, .int .i64 0, .bool false, .string ⟨#[]⟩, .int .i64 0, .int .i64 0, .int .i64 0, .bool false, .slice none 0 0, .slice none 0 0, .slice none 0 0, .int .i64 0, .int .i64 0]) (results_cell_row (p := 4) (ty := 51) Tryz.results51 _ _ (w.heap.size + 1) 51 #[.int .i64 k, .int .i64 dst, .int .i64 fr, .int .i64 ep, .int .i64 op, .int .i64 0, .bool false, .string ⟨#[]⟩, .int .i64 0, .int .i64 0, .int .i64 0, .bool false, .slice none 0 0, .slice none 0 0, .slice none 0 0, .int .i64 0, .int .i64 0] (0, 0) _ rfl HKG.out Tryz.underlying51 rfl (by kernel_rfl)) rfl ⟨by rw [HV.out], HBG.out⟩
theorem back_any (k : Int) (kind fr dst ep op n : Int) (flag : Bool) (key : ByteArray) (s u o : Int) (has : Bool) (A : Option Addr) (m c : Nat) (lA : Option Addr) (ln lc : Nat) (rA : Option Addr) (rn rc : Nat) (each keep : Int) (w : World) (h : KT w) :
    Calls Tryz.prog 51 #[.agg (msgC kind fr dst ep op n flag key s u o has A m c lA ln lc rA rn rc each keep), .int .i64 k] w (BackP k fr dst ep op key w) := by
  cases he : hasE k
  · exact back_any_no k he kind fr dst ep op n flag key s u o has A m c lA ln lc rA rn rc each keep w h
  · exact back_any_yes k he kind fr dst ep op n flag key s u o has A m c lA ln lc rA rn rc each keep w h
end Go.Proofs.YtkdpfjenjcpcfaaGreatDoor
namespace Go.Proofs.YtkdpfjenjcpcfaaGreatDoor
open Go.RowKit Mem Be Rg
set_option maxRecDepth 100000
set_option maxHeartbeats 8000000
set_option linter.unusedVariables false
end Go.Proofs.YtkdpfjenjcpcfaaGreatDoor
namespace Go.Proofs.YtkdpfjenjcpcfaaGreatDoor
open Go.RowKit Mem Be Rg
set_option maxRecDepth 100000
set_option maxHeartbeats 8000000
set_option linter.unusedVariables false
def SomeI12 (w : World) (e : Ending) (w' : World) : Prop := ∃ n : Int, e = .returned (.int .i64 n) ∧ Below w.heap.size w w'
theorem reflong12 (x : MV) (w : World) (h : MsgM w x) : Calls Tryz.prog 26 #[.agg #[.int .i64 x.kind, .int .i64 x.fr, .int .i64 x.dst, .int .i64 x.ep, .int .i64 x.op, .int .i64 x.n, .bool x.flag, .string ⟨x.e.1.k.toArray⟩, .int .i64 x.e.1.s, .int .i64 x.e.1.u, .int .i64 x.e.1.o, .bool x.e.1.has, .slice x.e.2.1 x.e.1.v.length x.e.2.2, .slice x.lA x.l.length x.lc, .slice x.rA x.ns.length x.rc, .int .i64 x.each, .int .i64 x.keep]] w (SomeI12 w) := by
  have hb : Below w.heap.size w (w.alloc (.cells #[.int .i64 x.kind, .int .i64 x.fr, .int .i64 x.dst, .int .i64 x.ep, .int .i64 x.op, .int .i64 x.n, .bool x.flag, .string ⟨x.e.1.k.toArray⟩, .int .i64 x.e.1.s, .int .i64 x.e.1.u, .int .i64 x.e.1.o, .bool x.e.1.has, .slice x.e.2.1 x.e.1.v.length x.e.2.2, .slice x.lA x.l.length x.lc, .slice x.rA x.ns.length x.rc, .int .i64 x.each, .int .i64 x.keep] 51)) := (Below.refl _ _).alloc (Nat.le_refl _) _
  have HK := Lib.hid (Blk.new w 51 #[.int .i64 x.kind, .int .i64 x.fr, .int .i64 x.dst, .int .i64 x.ep, .int .i64 x.op, .int .i64 x.n, .bool x.flag, .string ⟨x.e.1.k.toArray⟩, .int .i64 x.e.1.s, .int .i64 x.e.1.u, .int .i64 x.e.1.o, .bool x.e.1.has, .slice x.e.2.1 x.e.1.v.length x.e.2.2, .slice x.lA x.l.length x.lc, .slice x.rA x.ns.length x.rc, .int .i64 x.each, .int .i64 x.keep])
  have HB := Lib.hid hb
  have HM := Lib.hid (h.below hb)
  have k7 : (w.alloc (.cells #[.int .i64 x.kind, .int .i64 x.fr, .int .i64 x.dst, .int .i64 x.ep, .int .i64 x.op, .int .i64 x.n, .bool x.flag, .string ⟨x.e.1.k.toArray⟩, .int .i64 x.e.1.s, .int .i64 x.e.1.u, .int .i64 x.e.1.o, .bool x.e.1.has, .slice x.e.2.1 x.e.1.v.length x.e.2.2, .slice x.lA x.l.length x.lc, .slice x.rA x.ns.length x.rc, .int .i64 x.each, .int .i64 x.keep] 51)).cell? ⟨w.heap.size, 7, none⟩ = some (.string ⟨x.e.1.k.toArray⟩) := HK.out.cell 7
  have k12 : (w.alloc (.cells #[.int .i64 x.kind, .int .i64 x.fr, .int .i64 x.dst, .int .i64 x.ep, .int .i64 x.op, .int .i64 x.n, .bool x.flag, .string ⟨x.e.1.k.toArray⟩, .int .i64 x.e.1.s, .int .i64 x.e.1.u, .int .i64 x.e.1.o, .bool x.e.1.has, .slice x.e.2.1 x.e.1.v.length x.e.2.2, .slice x.lA x.l.length x.lc, .slice x.rA x.ns.length x.rc, .int .i64 x.each, .int .i64 x.keep] 51)).cell? ⟨w.heap.size, 12, none⟩ = some (.slice x.e.2.1 x.e.1.v.length x.e.2.2) := HK.out.cell 12
  have k13 : (w.alloc (.cells #[.int .i64 x.kind, .int .i64 x.fr, .int .i64 x.dst, .int .i64 x.ep, .int .i64 x.op, .int .i64 x.n, .bool x.flag, .string ⟨x.e.1.k.toArray⟩, .int .i64 x.e.1.s, .int .i64 x.e.1.u, .int .i64 x.e.1.o, .bool x.e.1.has, .slice x.e.2.1 x.e.1.v.length x.e.2.2, .slice x.lA x.l.length x.lc, .slice x.rA x.ns.length x.rc, .int .i64 x.each, .int .i64 x.keep] 51)).cell? ⟨w.heap.size, 13, none⟩ = some (.slice x.lA x.l.length x.lc) := HK.out.cell 13
  have k14 : (w.alloc (.cells #[.int .i64 x.kind, .int .i64 x.fr, .int .i64 x.dst, .int .i64 x.ep, .int .i64 x.op, .int .i64 x.n, .bool x.flag, .string ⟨x.e.1.k.toArray⟩, .int .i64 x.e.1.s, .int .i64 x.e.1.u, .int .i64 x.e.1.o, .bool x.e.1.has, .slice x.e.2.1 x.e.1.v.length x.e.2.2, .slice x.lA x.l.length x.lc, .slice x.rA x.ns.length x.rc, .int .i64 x.each, .int .i64 x.keep] 51)).cell? ⟨w.heap.size, 14, none⟩ = some (.slice x.rA x.ns.length x.rc) := HK.out.cell 14
  obtain ⟨W1, hW1⟩ : ∃ W1, w.alloc (.cells #[.int .i64 x.kind, .int .i64 x.fr, .int .i64 x.dst, .int .i64 x.ep, .int .i64 x.op, .int .i64 x.n, .bool x.flag, .string ⟨x.e.1.k.toArray⟩, .int .i64 x.e.1.s, .int .i64 x.e.1.u, .int .i64 x.e.1.o, .bool x.e.1.has, .slice x.e.2.1 x.e.1.v.length x.e.2.2, .slice x.lA x.l.length x.lc, .slice x.rA x.ns.length x.rc, .int .i64 x.each, .int .i64 x.keep] 51) = W1 := ⟨_, rfl⟩
  rw [hW1] at HB HM k7 k12 k13 k14 HK
  have hmx := HM.out.ln
  have hni : (x.l.length : Int) ≤ 9223372036854775807 := by unfold maxLen at hmx; omega
  have hni0 : (0 : Int) ≤ (x.l.length : Int) := by omega
  obtain ⟨n, hn⟩ : ∃ n, x.l.length = n := ⟨_, rfl⟩
  have HN := Lib.hid hn
  have HK13 : Hid (∀ W, Below W1.heap.size W1 W → W.cell? ⟨w.heap.size, 13, none⟩ = some (.slice x.lA n x.lc)) := Lib.hid fun W hb => by
    rw [← hn]; exact (HK.out.below hb HK.out.lt).cell 13
  rw [hn] at k13 hni hni0
  clear hb h hn hmx
  go_enter Tryz.func26, Tryz.ntmps26
  go_wp2
  clear k7 k12 k13 k14 hW1
  go_loopw [3, 4] (fun z i wr => ∃ k : Nat, k ≤ n ∧ i = .int .i64 k ∧ (∃ q : Int, z = .int .i64 q) ∧ Hid (Below W1.heap.size W1 wr)) (fun _ i _ => n - (intOf i).toNat)
  case atStart => exact ⟨0, by omega, rfl, ⟨_, rfl⟩, Lib.hid (Below.refl _ _)⟩
  case round =>
    obtain ⟨k, hk, rfl, ⟨q, rfl⟩, HBR⟩ := hrel
    by_cases hlt : k < n
    · have hk1 : k < x.l.length := by rw [HN.out]; exact hlt
      obtain ⟨b, o, hlA, hb, hc⟩ := ents_open (HM.out.en.below HBR.out).row (by omega)
      obtain ⟨a0, _, _, _, _, a5⟩ := hc k hk1
      have hEB := HM.out.en.val _ (List.getElem_mem hk1)
      have h13 : wr.cell? ⟨w.heap.size, 13, none⟩ = some (.slice (some ⟨b, o, none⟩) n x.lc) := by rw [← hlA]; exact HK13.out wr HBR.out
      have l13 := later_cell h13
      have l0 := later_cell a0
      have l5 := later_cell a5
      have hvl := hEB.leni
      have hkl : ((⟨x.l[k].1.k.toArray⟩ : ByteArray).size : Int) ≤ 9223372036854775807 := by
        show ((x.l[k].1.k.toArray.size : Nat) : Int) ≤ _
        rw [List.size_toArray]; exact hEB.kleni
      have hki : (0 : Int) ≤ (k : Int) := by omega
      have hki2 : (k : Int) < (n : Int) := by omega
      clear hc a0 a5 hEB
      go_wp2_with fail
      refine wp_region_later (by kernel_rfl) (by kernel_rfl) ?_
      repeat (go_big_quiet_step (fail))
      refine wpQuiet_nil ?_
      intro w' hw'
      obtain ⟨p, rfl⟩ := hw'
      go_wp2
      go_roundw
      case rel => exact ⟨k + 1, by omega, by go_num, ⟨_, rfl⟩, Lib.hid (HBR.out.trans (p.bel.mono HBR.out.size))⟩
      case measure => simp [intOf]; omega
    · obtain rfl : k = n := by omega
      have h13 : wr.cell? ⟨w.heap.size, 13, none⟩ = some (.slice x.lA k x.lc) := HK13.out wr HBR.out
      have HBW := Lib.hid (HB.out.trans (HBR.out.mono HB.out.size))
      go_wp2_with fail
      refine (copyb_any wr.heap.size 0 0 none [] rfl wr (Row.nil _ _ _) (Nat.le_refl _) (by decide)).mono ?_
      rintro e w2 ⟨A2, c2, rfl, _, hb2⟩
      have HB2 := Lib.hid (HBW.out.trans (hb2.mono HBW.out.size))
      clear hb2
      go_wp2
      go_ret
      exact ⟨_, rfl, HB2.out⟩
end Go.Proofs.YtkdpfjenjcpcfaaGreatDoor
namespace Go.Proofs.YtkdpfjenjcpcfaaGreatDoor
open Go.RowKit Go.ChangeShapes Go.WideShapes Mem Rg
set_option maxRecDepth 100000
set_option maxHeartbeats 4000000
set_option linter.unusedVariables false
section
variable {H : Type} {enc : TypeId × Value → H} {w : World} {base : Nat} {held : Bool}
theorem tag_cells12 {fuel : Nat} {c0 c1 c2 : Value} {x : DataW H × List MemPlace} (h : DataW.trod enc Tryz.prog w base (fun _ => true) held fuel 42 [c0, c1, c2] = some x) :
    ∃ s u o : Int, c0 = .int .i64 s ∧ c1 = .int .i64 u ∧ c2 = .int .i64 o := by
  obtain ⟨xs, n, _, _, _, hlen, hg⟩ := DataW.trod_struct Tryz.underlying42 h
  have e1 : Tryz.prog.cellsOf 3 = 1 := by kernel_rfl
  match xs, hlen with
  | [y0, y1, y2], _ =>
    have h0 := hg 0 _ rfl
    have h1 := hg 1 _ rfl
    have h2 := hg 2 _ rfl
    obtain ⟨s, hs, _, ws⟩ := DataW.trod_int Tryz.underlying3 (x := y0) (by simpa [e1] using h0)
    obtain ⟨u, hu, _, wu⟩ := DataW.trod_int Tryz.underlying3 (x := y1) (by simpa [e1] using h1)
    obtain ⟨o, ho, _, wo⟩ := DataW.trod_int Tryz.underlying3 (x := y2) (by simpa [e1] using h2)
    exact ⟨s, u, o, by simpa using hs, by simpa using hu, by simpa using ho⟩
theorem val_cells12 {fuel : Nat} {c0 c1 : Value} {x : DataW H × List MemPlace} (h : DataW.trod enc Tryz.prog w base (fun _ => true) held fuel 44 [c0, c1] = some x) :
    ∃ (has : Bool) (A : Option Addr) (xs : List UInt8) (c : Nat), c0 = .bool has ∧ c1 = .slice A xs.length c ∧ Row w w.heap.size A (xs.map byteV) ∧ xs.length ≤ c ∧ c ≤ maxLen := by
  obtain ⟨xs, n, _, _, _, hlen, hg⟩ := DataW.trod_struct Tryz.underlying44 h
  have e1 : Tryz.prog.cellsOf 4 = 1 := by kernel_rfl
  have e2 : Tryz.prog.cellsOf 27 = 1 := by kernel_rfl
  match xs, hlen with
  | [y0, y1], _ =>
    have h0 := hg 0 _ rfl
    have h1 := hg 1 _ rfl
    obtain ⟨b, hb, _⟩ := DataW.trod_bool Tryz.underlying4 (x := y0) (by simpa [e1, e2] using h0)
    obtain ⟨⟨A, ys, c⟩, hr, ho⟩ := open_bytes1 (x := y1) Tryz.underlying27 Tryz.underlying5 (by kernel_rfl) (by simpa [e1, e2] using h1)
    exact ⟨b, A, ys, c, by simpa using hb, hr, ho.1, ho.2.1, ho.2.2⟩
theorem ent_cells12 {fuel : Nat} {c0 c1 c2 c3 c4 c5 : Value} {x : DataW H × List MemPlace} (h : DataW.trod enc Tryz.prog w base (fun _ => true) held fuel 46 [c0, c1, c2, c3, c4, c5] = some x) :
    ∃ y : EV, [c0, c1, c2, c3, c4, c5] = entC y ∧ Row w w.heap.size y.2.1 (y.1.v.map byteV) ∧ y.1.v.length ≤ y.2.2 ∧ y.2.2 ≤ maxLen ∧ y.1.k.length ≤ maxLen := by
  obtain ⟨xs, n, _, _, _, hlen, hg⟩ := DataW.trod_struct Tryz.underlying46 h
  have e0 : Tryz.prog.cellsOf 9 = 1 := by kernel_rfl
  have e1 : Tryz.prog.cellsOf 42 = 3 := by kernel_rfl
  have e2 : Tryz.prog.cellsOf 44 = 2 := by kernel_rfl
  match xs, hlen with
  | [y0, y1, y2], _ =>
    have h0 := hg 0 _ rfl
    have h1 := hg 1 _ rfl
    have h2 := hg 2 _ rfl
    obtain ⟨key, hk, _, hkl⟩ := DataW.trod_string Tryz.underlying9 (x := y0) (by simpa [e0, e1, e2] using h0)
    obtain ⟨s, u, o, rfl, rfl, rfl⟩ := tag_cells12 (x := y1) (by simpa [e0, e1, e2] using h1)
    obtain ⟨has, A, ys, c, rfl, rfl, hr, hc, hm⟩ := val_cells12 (x := y2) (by simpa [e0, e1, e2] using h2)
    have hk' : c0 = .string key := by simpa using hk
    subst hk'
    refine ⟨(⟨key.data.toList, s, u, o, has, ys⟩, A, c), ?_, hr, hc, hm, ?_⟩
    · unfold entC
      simp
    · show key.data.toList.length ≤ maxLen
      have : key.data.toList.length = key.size := by rw [Array.length_toList]; rfl
      omega
theorem open_ents12 {fuel : Nat} {a : Option Addr} {len cap : Nat} {x0 : DataW H × List MemPlace} (hf : DataW.trod enc Tryz.prog w base (fun _ => true) held fuel 33 [.slice a len cap] = some x0) :
    ∃ rs : List EV, len = rs.length ∧ len ≤ cap ∧ cap ≤ maxLen ∧ Row w w.heap.size a (entsC rs) ∧ (∀ r ∈ rs, EvB w r) := by
  rcases Go.Deep.open_slice Tryz.underlying33 hf with ⟨hcs, _⟩ | ⟨x, l, c, m, n, D, Pl, hcs, _, hl, hm, hmm, hd, hx⟩
  · simp only [List.cons.injEq, and_true] at hcs
    injection hcs with h1 h2 h3
    subst h1; subst h2; subst h3
    exact ⟨[], rfl, Nat.le_refl _, by unfold maxLen; omega, Row.nil _ _ _, by simp⟩
  · simp only [List.cons.injEq, and_true] at hcs
    injection hcs with h1 h2 h3
    subst h1; subst h2; subst h3
    simp only [if_true] at hmm
    subst hmm
    have hC : Tryz.prog.cellsOf 46 = 6 := by kernel_rfl
    rw [hC] at hx
    obtain ⟨V, hV⟩ := Go.Deep.choose_lt (n := len) (α := EV) (p := fun i r => (∀ j, j < 6 → w.cell? (x.add (i * 6 + j)) = (entC r)[j]?) ∧ EvB w r) (fun i hi => by
      obtain ⟨cs', h1, h2⟩ := hx i (by omega)
      obtain ⟨_, hlen, hat⟩ := World.cells?_some h1
      match cs', hlen with
      | [c0, c1, c2, c3, c4, c5], _ =>
        obtain ⟨r, hr, hr1, hr2, hr3, hr4⟩ := ent_cells12 h2
        refine ⟨r, fun j hj => ?_, hr1, by omega, by omega, hr2⟩
        rw [← Go.Deep.add_add, hat j hj, hr])
    refine ⟨(List.range len).map V, by simp, hl, hm, ?_, ?_⟩
    · rcases Nat.eq_zero_or_pos len with h0 | h0
      · subst h0; exact Or.inl rfl
      · have hc0 := (hV 0 h0).1 0 (by omega)
        have hc0' : w.cell? x = some (.string ⟨(V 0).1.k.toArray⟩) := by
          have e : x.add (0 * 6 + 0) = x := by simp [Addr.add]
          rw [e] at hc0; exact hc0
        obtain ⟨b, o, spot⟩ := x
        have hspot : spot = none := World.cell?_spot hc0'
        subst hspot
        refine Or.inr ⟨b, o, rfl, block_lt hc0', fun j hj => ?_⟩
        have hj8 : j < len * 6 := by rw [entsC_len] at hj; simpa using hj
        have hi : j / 6 < len := by omega
        have hdd : j = j / 6 * 6 + j % 6 := by omega
        have hv := (hV (j / 6) hi).1 (j % 6) (by omega)
        rw [← hdd] at hv
        have e : (⟨b, o, none⟩ : Addr).add j = ⟨b, o + j, none⟩ := by
          unfold Addr.add; split
          · subst_vars; rfl
          · rfl
        rw [e] at hv
        have ht := entsC_at ((List.range len).map V) (j / 6) (by simpa using hi) (j % 6) (by omega)
        rw [← hdd, List.getElem?_eq_getElem hj] at ht
        rw [hv, ht, List.getElem_map, List.getElem_range]
    · intro r hr
      obtain ⟨i, hi, rfl⟩ := List.mem_map.1 hr
      exact (hV i (List.mem_range.1 hi)).2
theorem open_ints12 {P : Program} {t e : TypeId} {fuel : Nat} {v : Value} {x : DataW H × List MemPlace} (ht : P.underlying t = some (.slice e)) (he : P.underlying e = some (.int .i64)) (hc : P.cellsOf e = 1)
    (h : DataW.trod enc P w base (fun _ => true) held fuel t [v] = some x) : ∃ (A : Option Addr) (ns : List Int) (c : Nat), v = .slice A ns.length c ∧ Row w w.heap.size A (ns.map iV) ∧ ns.length ≤ c ∧ c ≤ maxLen := by
  have hsh : ∃ a len cap, v = .slice a len cap := by
    rcases DataW.trod_slice ht h with ⟨hcs, _⟩ | ⟨a, len, cap, _, _, _, _, hcs, _⟩
    · exact ⟨none, 0, 0, by simpa using hcs⟩
    · exact ⟨some a, len, cap, by simpa using hcs⟩
  obtain ⟨a, len, cap, rfl⟩ := hsh
  obtain ⟨vs, hl, hr, h1, h2, hv⟩ := open_row1 ht hc h
  obtain ⟨zs, rfl, hz⟩ := list_of (f := iV) (Q := fun z => (Lit.int .i64 z).wf = true) vs (fun v hvm => by
    obtain ⟨n, y, hy⟩ := hv v hvm
    obtain ⟨b, hb, _, hw⟩ := DataW.trod_int he hy
    exact ⟨b, by show v = Value.int .i64 b; simpa using hb, hw⟩)
  rw [List.length_map] at hl
  subst hl
  exact ⟨a, zs, cap, rfl, hr, h1, h2⟩
theorem ring_cells12 {fuel : Nat} {c0 c1 c2 : Value} {x : DataW H × List MemPlace} (hf : DataW.trod enc Tryz.prog w base (fun _ => true) held fuel 49 [c0, c1, c2] = some x) :
    ∃ (A : Option Addr) (ns : List Int) (c : Nat) (e k : Int), c0 = .slice A ns.length c ∧ c1 = .int .i64 e ∧ c2 = .int .i64 k ∧ Row w w.heap.size A (ns.map iV) ∧ ns.length ≤ c ∧ c ≤ maxLen := by
  obtain ⟨xs, n, _, _, _, hlen, hg⟩ := DataW.trod_struct Tryz.underlying49 hf
  have e1 : Tryz.prog.cellsOf 3 = 1 := by kernel_rfl
  have e2 : Tryz.prog.cellsOf 47 = 1 := by kernel_rfl
  match xs, hlen with
  | [y0, y1, y2], _ =>
    have h0 := hg 0 _ rfl
    have h1 := hg 1 _ rfl
    have h2 := hg 2 _ rfl
    obtain ⟨A, ns, c, hr, hrow, hnc, hc⟩ := open_ints12 (x := y0) Tryz.underlying47 Tryz.underlying3 (by kernel_rfl) (by simpa [Value.cells, e1, e2] using h0)
    obtain ⟨e, he, _, _⟩ := DataW.trod_int Tryz.underlying3 (x := y1) (by simpa [Value.cells, e1, e2] using h1)
    obtain ⟨k, hk, _, _⟩ := DataW.trod_int Tryz.underlying3 (x := y2) (by simpa [Value.cells, e1, e2] using h2)
    exact ⟨A, ns, c, e, k, hr, by simpa using he, by simpa using hk, hrow, hnc, hc⟩
end
end Go.Proofs.YtkdpfjenjcpcfaaGreatDoor
namespace Go.Proofs.YtkdpfjenjcpcfaaGreatDoor
open Go.RowKit Mem Be Rg
set_option maxRecDepth 100000
set_option maxHeartbeats 8000000
set_option linter.unusedVariables false
/-- A guarded load of a whole variable, where it is wanted. -/
theorem load_rowG {P : Program} {ops : Array Oper} {rest : List Oper} {o : Oper} {a : Act} {w : World} {Q : Exit → Act → World → Prop} (hw : Region.wanted o (yielded ops a.tmps) = true) (ty : TypeId) (x : Operand) (ho : o.op = .load ty x)
    (g : Nat) (hx : a.eval x = .pointer (some ⟨g, 0, none⟩)) (t : TypeId) (cs : Array Value) (fr : Nat × Nat) (d : TypeDesc) (hg : w.heap[g]? = some (.cells cs t fr))
    (hu : P.underlying ty = some d) (hd : (match d with | .struct _ | .array _ _ => true | _ => false) = true) (hi : (P.info? ty).map (·.size) = some cs.size)
    (h : wpList P ops Q rest (a.put o.dst (.agg cs)) w) : wpList P ops Q (o :: rest) a w :=
  BigFrame.wpList_want hw fun K hK => wp_load_row ty x ho g hx t cs fr d hg hu hd hi (hK _ _ h)
end Go.Proofs.YtkdpfjenjcpcfaaGreatDoor
namespace Go.Proofs.YtkdpfjenjcpcfaaGreatDoor
open Go.RowKit Go.ChangeShapes Go.WideShapes Mem
set_option maxRecDepth 100000
set_option linter.unusedVariables false
def laid12 : List (String × DataW Unit) := [("icehouse/msgs.kinds", Rows.laid_icehouse_msgs_kinds)]
theorem kinds_data : (Rows.laid_icehouse_msgs_kinds : DataW Unit) = .agg ((List.range 18).map fun i => .agg ((List.range 5).map fun j => .lit (.bool (kBits.getD (i * 5 + j) false)))) := rfl
theorem gKinds : Tryz.prog.globalNamed "icehouse/msgs.kinds" = some 0 := by kernel_rfl
theorem tKinds : (Tryz.prog.globals[0]?).map (·.type) = some 179 := by kernel_rfl
theorem kt_of_laid {W : World} (h : laidMetH Tryz.prog laid12 W) : KT W := by
  rw [MakeChecks.laidMetH_plain _ _ _ (by kernel_rfl)] at h
  obtain ⟨ps, ⟨g0, t0, cs0, f0, p0, q0, hg0, ht0, hv0, hd0, _, _⟩, _, _⟩ := h
  obtain rfl := Option.some.inj (gKinds.symm.trans hg0)
  obtain rfl := Option.some.inj (tKinds.symm.trans ht0)
  have hcell := fun i => World.var?_cell gKinds hv0 i
  clear hg0 ht0 hv0
  obtain ⟨l⟩ := cs0
  obtain ⟨xs, m1, _, hx1, hlen, hn, hel⟩ := DataW.trod_array Tryz.underlying179 hd0
  have c5 : Tryz.prog.cellsOf 143 = 5 := by kernel_rfl
  have c1 : Tryz.prog.cellsOf 4 = 1 := by kernel_rfl
  have hx2 := (Prod.mk.inj hx1).1
  rw [kinds_data] at hx2
  injection hx2 with hL
  rw [c5] at hel
  intro i hi
  have hr := hel (i / 5) (by omega)
  have hi2 : i / 5 < xs.length := by omega
  rw [List.getElem?_eq_getElem hi2] at hr
  have hd : (xs[i / 5]).1 = .agg ((List.range 5).map fun j => .lit (.bool (kBits.getD (i / 5 * 5 + j) false))) := by
    have h1 : (xs.map (·.1))[i / 5]? = some (xs[i / 5]).1 := by rw [List.getElem?_map, List.getElem?_eq_getElem hi2]; rfl
    rw [← hL, List.getElem?_map, List.getElem?_range (by omega)] at h1
    exact (Option.some.inj h1).symm
  obtain ⟨ys, m2, _, hy1, hlen2, hn2, hel2⟩ := DataW.trod_array Tryz.underlying143 hr
  rw [hy1] at hd
  simp only [DataW.agg.injEq] at hd
  rw [c1] at hel2
  have hb := hel2 (i % 5) (by omega)
  have hi3 : i % 5 < ys.length := by omega
  rw [List.getElem?_eq_getElem hi3] at hb
  obtain ⟨b, hcs, hyb⟩ := DataW.trod_bool Tryz.underlying4 hb
  have hdb : (ys[i % 5]).1 = .lit (.bool (kBits.getD i false)) := by
    have h1 : (ys.map (·.1))[i % 5]? = some (ys[i % 5]).1 := by rw [List.getElem?_map, List.getElem?_eq_getElem hi3]; rfl
    rw [hd, List.getElem?_map, List.getElem?_range (by omega)] at h1
    have h2 := (Option.some.inj h1).symm
    simp only at h2
    rw [show i / 5 * 5 + i % 5 = i by omega] at h2
    exact h2
  have hbb : b = kBits.getD i false := by
    rw [hyb] at hdb
    simpa using hdb
  rw [hcell i, ← hbb]
  have h3 : ((l.drop (i / 5 * 5)).take 5).drop (i % 5 * 1) = (l.drop i).take (5 - i % 5) := by
    rw [List.drop_take, List.drop_drop, Nat.mul_one, show i / 5 * 5 + i % 5 = i by omega]
  simp only at hcs
  rw [h3] at hcs
  have h4 : (((l.drop i).take (5 - i % 5)).take 1)[0]? = some (.bool b) := by rw [hcs]; rfl
  rw [List.getElem?_take_of_lt (by omega), List.getElem?_take_of_lt (by omega), List.getElem?_drop, Nat.add_zero] at h4
  simpa using h4
theorem door_met12 (os : Os) (args : Array Value) : laidMetH Tryz.prog laid12 ((World.doorLaid Tryz.prog 31 os).forCall (fun _ _ => 0) ⟨#[], args, []⟩).memory :=
  laidMetH_of_parts3 (fuel := 8) (laidMet_of_run' 8 (by kernel_rfl) (by kernel_rfl)) (by kernel_rfl) (by kernel_rfl)
end Go.Proofs.YtkdpfjenjcpcfaaGreatDoor
