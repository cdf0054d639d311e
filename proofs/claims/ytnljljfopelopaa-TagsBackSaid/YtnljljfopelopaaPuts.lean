/- What layer 2 makes of a row and of a truth, the program and the document: one contract each; the law PackPuts. -/
import Derived.Test.YtnljljfopelopaaDec2
namespace Go.Proofs.Ytnljljfopelopaa
open Go.RowKit Mem Be
set_option maxRecDepth 10000
set_option maxHeartbeats 1000000
def rowB (bs : List UInt8) : List UInt8 := numB (bs.length : Int) ++ bs
/-- A new slice of these bytes, and a number. -/
def Made2 (B : Nat) (bs : List UInt8) (k : Int) (w : World) (e : Ending) (w' : World) : Prop := ∃ A c, e = .returned (.tuple #[.slice A bs.length c, .int .i64 k]) ∧ w'.ownsRow B 5 1 (.slice A bs.length c) bs.length (bs.map byteV) ∧ Below B w w'
theorem made2_of {B : Nat} {bs : List UInt8} {n : Nat} {k : Int} {w w1 : World} {v : Value} {xs : List Value} (ho : w1.ownsRow B 5 1 v n xs) (hx : xs = bs.map byteV) (hb : Below B w w1) : Made2 B bs k w (.returned (.tuple #[v, .int .i64 k])) w1 := by
  obtain ⟨A, c, he, h1, h2⟩ := made_of ho hx hb
  injection he with he
  subst he
  exact ⟨A, c, rfl, h1, h2⟩
theorem row_any (B c n : Nat) (A : Option Addr) (bs : List UInt8) (hn : n = bs.length) (w : World) (h : Row w B A (bs.map byteV)) (hB : B ≤ w.heap.size) (hl : bs.length ≤ 65536) :
    Calls Try.prog 49 #[.slice A n c] w (Made2 w.heap.size (rowB bs) 0 w) := by
  subst hn
  obtain ⟨i0, hi0, hz0, hz1, hz2⟩ := info_parts info_b
  have HR := Lib.hid h
  have h9 := numB_le (bs.length : Int)
  have HX : Hid ((numB (bs.length : Int)).map byteV ++ bs.map byteV = (rowB bs).map byteV) := Lib.hid (by unfold rowB; rw [List.map_append])
  have hg : (bs.length : Int) ≤ 65536 := by omega
  clear h
  go_enter Try.func49, Try.ntmps49
  go_wp2_with (first
    | (go_at_call 51; refine (num_any _ _).mono ?_; rintro e w1 ⟨A1, c1, rfl, ho, hb⟩; have HO := Lib.hid ho; have HB := Lib.hid hb; clear ho hb)
    | (at_builtin; refine wpList_app _ rfl _ _ 39 rfl w.heap.size 5 i0 (.int .u8 0) 1 Try.underlying39 hi0 hz0 hz1 hz2 rfl _ _ _ rfl HO.out B _ bs.length c (bs.map byteV) rfl (by simp) (HR.out.below (HB.out.mono hB)) (byte_one bs) (by unfold maxLen; omega) (by omega) HB.out.size ?_))
  intro v' w2 hown hgr _
  have HW := Lib.hid hown
  have HB2 : Hid (Below w.heap.size w w2) := Lib.hid (HB.out.grown hgr HB.out.size (fun g hg => (HO.out.lt g hg).1))
  clear hown hgr
  go_wp2
  go_ret2
  exact made2_of HW.out HX.out HB2.out
theorem refrow_any (B c n : Nat) (A : Option Addr) (bs : List UInt8) (hn : n = bs.length) (w : World) (h : Row w B A (bs.map byteV)) (hB : B ≤ w.heap.size) (hl : bs.length ≤ 65536) :
    Calls Try.prog 53 #[.slice A n c] w (Made2 w.heap.size (rowB bs) 0 w) := by
  subst hn
  obtain ⟨i0, hi0, hz0, hz1, hz2⟩ := info_parts info_b
  have HR := Lib.hid h
  have h9 := numB_le (bs.length : Int)
  have HX : Hid ((numB (bs.length : Int)).map byteV ++ bs.map byteV = (rowB bs).map byteV) := Lib.hid (by unfold rowB; rw [List.map_append])
  have hg : (bs.length : Int) ≤ 65536 := by omega
  clear h
  go_enter Try.func53, Try.ntmps53
  go_wp2_with (first
    | (go_at_call 54; refine (refnum_any _ _).mono ?_; rintro e w1 ⟨A1, c1, rfl, ho, hb⟩; have HO := Lib.hid ho; have HB := Lib.hid hb; clear ho hb)
    | (at_builtin; refine wpList_app _ rfl _ _ 39 rfl w.heap.size 5 i0 (.int .u8 0) 1 Try.underlying39 hi0 hz0 hz1 hz2 rfl _ _ _ rfl HO.out B _ bs.length c (bs.map byteV) rfl (by simp) (HR.out.below (HB.out.mono hB)) (byte_one bs) (by unfold maxLen; omega) (by omega) HB.out.size ?_))
  intro v' w2 hown hgr _
  have HW := Lib.hid hown
  have HB2 : Hid (Below w.heap.size w w2) := Lib.hid (HB.out.grown hgr HB.out.size (fun g hg => (HO.out.lt g hg).1))
  clear hown hgr
  go_wp2
  go_ret2
  exact made2_of HW.out HX.out HB2.out
def truthB (t : Bool) : List UInt8 := [if t then 1 else 0]
theorem one_own (w : World) (b : UInt8) : (w.alloc (.cells #[byteV b] 5)).ownsRow w.heap.size 5 1 (.slice (some ⟨w.heap.size, 0, none⟩) 1 1) 1 [byteV b] :=
  ⟨rfl, Or.inr ⟨w.heap.size, 1, _, rfl, Nat.le_refl _, heap_alloc_new w _, by omega, by decide, rfl, rfl⟩⟩
theorem puttruth_any (t : Bool) (w : World) : Calls Try.prog 52 #[.bool t] w (Made w.heap.size (truthB t) w) := by
  cases t
  · go_enter Try.func52, Try.ntmps52
    go_wp2
    go_ret
    exact made_of (one_own w 0) rfl ((Below.refl _ _).alloc (Nat.le_refl _) _)
  · go_enter Try.func52, Try.ntmps52
    go_wp2
    go_ret
    exact made_of (one_own w 1) rfl ((Below.refl _ _).alloc (Nat.le_refl _) _)
theorem same_true (B B' c c' n n' : Nat) (A A' : Option Addr) (xs ys : List UInt8) (hxy : xs = ys) (w : World) (h : Row w B A (xs.map byteV)) (h' : Row w B' A' (ys.map byteV)) (hn : n = xs.length) (hn' : n' = ys.length) :
    Calls Try.prog 25 #[.slice A n c, .slice A' n' c'] w fun e w' => e = .returned (.bool true) ∧ w = w' :=
  (same_any B B' c c' n n' A A' xs ys w h h' hn hn').mono fun _ _ ⟨h1, h2⟩ => ⟨by rw [h1, hxy]; simp, h2⟩
theorem row_new (w : World) (g : Nat) (hg : g = w.heap.size) (t : TypeId) (bs : List UInt8) (cs : Array Value) (h : cs.toList = bs.map byteV) : Row (w.alloc (.cells cs t)) (g + 1) (some ⟨g, 0, none⟩) (bs.map byteV) := by
  subst hg
  refine Or.inr ⟨w.heap.size, 0, rfl, by omega, fun j hj => ?_⟩
  have := cell_of_row (w.alloc (.cells cs t)) w.heap.size j cs t (0, 0) (heap_alloc_new w _)
  rw [Nat.zero_add, this, ← Array.getElem?_toList, h, List.getElem?_eq_getElem hj]
theorem end_nil (w : World) : Calls Try.prog 55 #[.pointer none] w fun e w' => e = .returned (.int .i64 1) ∧ w = w' := by
  go_enter Try.func55, Try.ntmps55
  go_wp2
  go_ret
  exact ⟨rfl, rfl⟩
end Go.Proofs.Ytnljljfopelopaa
