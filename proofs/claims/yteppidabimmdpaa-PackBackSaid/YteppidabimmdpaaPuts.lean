/- What layer 2 makes of a row and of a truth, the program and the document: one contract each; the law PackPuts. -/
import Derived.Test.YteppidabimmdpaaDec2
namespace Go.Proofs.Yteppidabimmdpaa
open Go.RowKit Mem Be
set_option maxRecDepth 10000
set_option maxHeartbeats 1000000
def rowB (bs : List UInt8) : List UInt8 := numB (bs.length : Int) ++ bs
/-- A new slice of these bytes, and a number. -/
def Made2 (B : Nat) (bs : List UInt8) (k : Int) (w : World) (e : Ending) (w' : World) : Prop := ∃ A c, e = .returned (.tuple #[.slice A bs.length c, .int .i64 k]) ∧ w'.ownsRow B 5 1 (.slice A bs.length c) bs.length (bs.map byteV) ∧ Below B w w'
theorem made2_of {B : Nat} {bs : List UInt8} {n : Nat} {k : Int} {w w1 : World} {v : Value} {xs : List Value} (ho : w1.ownsRow B 5 1 v n xs) (hx : xs = bs.map byteV) (hb : Below B w w1) : Made2 B bs k w (.returned (.tuple #[v, .int .i64 k])) w1 := by
  obtain ⟨A, c, he, h1, h2⟩ := made_of ho hx hb
  injection he with he
  subst he
  exact ⟨A, c, rfl, h1, h2⟩
theorem row_any (B c n : Nat) (A : Option Addr) (bs : List UInt8) (hn : n = bs.length) (w : World) (h : Row w B A (bs.map byteV)) (hB : B ≤ w.heap.size) (hl : bs.length ≤ 65536) :
    Calls Try.prog 11 #[.slice A n c] w (Made2 w.heap.size (rowB bs) 0 w) := by
  subst hn
  obtain ⟨i0, hi0, hz0, hz1, hz2⟩ := info_parts info_b
  have HR := Lib.hid h
  have h9 := numB_le (bs.length : Int)
  have HX : Hid ((numB (bs.length : Int)).map byteV ++ bs.map byteV = (rowB bs).map byteV) := Lib.hid (by unfold rowB; rw [List.map_append])
  have hg : (bs.length : Int) ≤ 65536 := by omega
  clear h
  go_enter Try.func11, Try.ntmps11
  go_wp2_with (first
    | (go_at_call 14; refine (num_any _ _).mono ?_; rintro e w1 ⟨A1, c1, rfl, ho, hb⟩; have HO := Lib.hid ho; have HB := Lib.hid hb; clear ho hb)
    | (at_builtin; refine wpList_app _ rfl _ _ 22 rfl w.heap.size 5 i0 (.int .u8 0) 1 Try.underlying22 hi0 hz0 hz1 hz2 rfl _ _ _ rfl HO.out B _ bs.length c (bs.map byteV) rfl (by simp) (HR.out.below (HB.out.mono hB)) (byte_one bs) (by unfold maxLen; omega) (by omega) HB.out.size ?_))
  intro v' w2 hown hgr _
  have HW := Lib.hid hown
  have HB2 : Hid (Below w.heap.size w w2) := Lib.hid (HB.out.grown hgr HB.out.size (fun g hg => (HO.out.lt g hg).1))
  clear hown hgr
  go_wp2
  go_ret2
  exact made2_of HW.out HX.out HB2.out
theorem refrow_any (B c n : Nat) (A : Option Addr) (bs : List UInt8) (hn : n = bs.length) (w : World) (h : Row w B A (bs.map byteV)) (hB : B ≤ w.heap.size) (hl : bs.length ≤ 65536) :
    Calls Try.prog 12 #[.slice A n c] w (Made2 w.heap.size (rowB bs) 0 w) := by
  subst hn
  obtain ⟨i0, hi0, hz0, hz1, hz2⟩ := info_parts info_b
  have HR := Lib.hid h
  have h9 := numB_le (bs.length : Int)
  have HX : Hid ((numB (bs.length : Int)).map byteV ++ bs.map byteV = (rowB bs).map byteV) := Lib.hid (by unfold rowB; rw [List.map_append])
  have hg : (bs.length : Int) ≤ 65536 := by omega
  clear h
  go_enter Try.func12, Try.ntmps12
  go_wp2_with (first
    | (go_at_call 15; refine (refnum_any _ _).mono ?_; rintro e w1 ⟨A1, c1, rfl, ho, hb⟩; have HO := Lib.hid ho; have HB := Lib.hid hb; clear ho hb)
    | (at_builtin; refine wpList_app _ rfl _ _ 22 rfl w.heap.size 5 i0 (.int .u8 0) 1 Try.underlying22 hi0 hz0 hz1 hz2 rfl _ _ _ rfl HO.out B _ bs.length c (bs.map byteV) rfl (by simp) (HR.out.below (HB.out.mono hB)) (byte_one bs) (by unfold maxLen; omega) (by omega) HB.out.size ?_))
  intro v' w2 hown hgr _
  have HW := Lib.hid hown
  have HB2 : Hid (Below w.heap.size w w2) := Lib.hid (HB.out.grown hgr HB.out.size (fun g hg => (HO.out.lt g hg).1))
  clear hown hgr
  go_wp2
  go_ret2
  exact made2_of HW.out HX.out HB2.out
def truthB (t : Bool) : List UInt8 := [if t then 1 else 0]
theorem one_own (w : World) (b : UInt8) : (w.alloc (.cells #[byteV b] 5)).ownsRow w.heap.size 5 1 (.slice (some ⟨w.heap.size, 0, none⟩) 1 1) 1 [byteV b] :=
  ⟨rfl, Or.inr ⟨w.heap.size, 1, _, rfl, Nat.le_refl _, heap_alloc_new w _, by omega, by decide, rfl, rfl⟩⟩
theorem puttruth_any (t : Bool) (w : World) : Calls Try.prog 31 #[.bool t] w (Made w.heap.size (truthB t) w) := by
  cases t
  · go_enter Try.func31, Try.ntmps31
    go_wp2
    go_ret
    exact made_of (one_own w 0) rfl ((Below.refl _ _).alloc (Nat.le_refl _) _)
  · go_enter Try.func31, Try.ntmps31
    go_wp2
    go_ret
    exact made_of (one_own w 1) rfl ((Below.refl _ _).alloc (Nat.le_refl _) _)
theorem same_true (B B' c c' n n' : Nat) (A A' : Option Addr) (xs ys : List UInt8) (hxy : xs = ys) (w : World) (h : Row w B A (xs.map byteV)) (h' : Row w B' A' (ys.map byteV)) (hn : n = xs.length) (hn' : n' = ys.length) :
    Calls Try.prog 13 #[.slice A n c, .slice A' n' c'] w fun e w' => e = .returned (.bool true) ∧ w = w' :=
  (same_any B B' c c' n n' A A' xs ys w h h' hn hn').mono fun _ _ ⟨h1, h2⟩ => ⟨by rw [h1, hxy]; simp, h2⟩
theorem row_new (w : World) (g : Nat) (hg : g = w.heap.size) (t : TypeId) (bs : List UInt8) (cs : Array Value) (h : cs.toList = bs.map byteV) : Row (w.alloc (.cells cs t)) (g + 1) (some ⟨g, 0, none⟩) (bs.map byteV) := by
  subst hg
  refine Or.inr ⟨w.heap.size, 0, rfl, by omega, fun j hj => ?_⟩
  have := cell_of_row (w.alloc (.cells cs t)) w.heap.size j cs t (0, 0) (heap_alloc_new w _)
  rw [Nat.zero_add, this, ← Array.getElem?_toList, h, List.getElem?_eq_getElem hj]
theorem end_nil (w : World) : Calls Try.prog 25 #[.pointer none] w fun e w' => e = .returned (.int .i64 1) ∧ w = w' := by
  go_enter Try.func25, Try.ntmps25
  go_wp2
  go_ret
  exact ⟨rfl, rfl⟩
theorem known_any (w : World) : Calls Try.prog 10 #[] w fun e w' => e = .returned (.bool true) ∧ Below w.heap.size w w' := by
  have e1 : rowB [97] = [1, 1, 97] := by decide +kernel
  have e2 : numB 300 = [2, 1, 44] := by decide +kernel
  have e3 : truthB true = [1] := by decide +kernel
  have E1 := Lib.hid e1
  have E2 := Lib.hid e2
  have E3 := Lib.hid e3
  clear e1 e2 e3
  go_enter Try.func10, Try.ntmps10
  go_wp2_with fail
  refine (row_any (w.heap.size + 1) 1 1 _ [97] rfl _ (row_new w _ rfl _ [97] _ rfl) (by simp) (by decide)).mono ?_
  rintro e w1 ⟨A1, c1, rfl, ho, hb⟩
  have HB1 : Hid (Below w.heap.size w w1) := Lib.hid (((Below.refl _ _).alloc (Nat.le_refl _) _).trans (hb.mono (by simp)))
  have HR1 := Lib.hid (Row.of_own ho)
  clear ho hb
  go_wp2_with fail
  refine (num_any 300 _).mono ?_
  rintro e w2 ⟨A2, c2, rfl, ho, hb⟩
  have HB2 : Hid (Below w.heap.size w w2) := Lib.hid (HB1.out.trans (hb.mono HB1.out.size))
  have HR1' := Lib.hid (HR1.out.below hb)
  have HR2 := Lib.hid (Row.of_own ho)
  have HS := Lib.hid hb.size
  clear ho hb
  go_wp2_with fail
  refine (same_true _ _ _ _ _ _ _ _ _ [2, 1, 44] E2.out _ (HR2.out.alloc (Nat.le_refl _) _) (row_new w2 _ rfl _ [2, 1, 44] #[.int .u8 2, .int .u8 1, .int .u8 44] rfl) rfl rfl).mono ?_
  rintro e w' ⟨rfl, rfl⟩
  go_wp2_with fail
  refine (same_true _ _ _ _ _ _ _ _ _ [1, 1, 97] E1.out _ ((HR1'.out.alloc HS.out _).alloc (by have := HS.out; simp; omega) _) (row_new _ _ (by simp) _ [1, 1, 97] #[.int .u8 1, .int .u8 1, .int .u8 97] rfl) rfl rfl).mono ?_
  rintro e w' ⟨rfl, rfl⟩
  go_wp2_with fail
  refine (end_nil _).mono ?_
  rintro e w' ⟨rfl, rfl⟩
  go_wp2_with fail
  refine (puttruth_any true _).mono ?_
  rintro e w3 ⟨A3, c3, rfl, ho, hb⟩
  have HB3 : Hid (Below w.heap.size w w3) := Lib.hid (((HB2.out.alloc HB2.out.size _).alloc (by have := HB2.out.size; simp; omega) _).trans (hb.mono (by have := HB2.out.size; simp; omega)))
  have HR3 := Lib.hid (Row.of_own ho)
  clear ho hb
  go_wp2_with fail
  refine (same_true _ _ _ _ _ _ _ _ _ [1] E3.out _ (HR3.out.alloc (Nat.le_refl _) _) (row_new w3 _ rfl _ [1] #[.int .u8 1] rfl) rfl rfl).mono ?_
  rintro e w' ⟨rfl, rfl⟩
  go_wp2
  go_ret
  exact ⟨rfl, HB3.out.alloc HB3.out.size _⟩
theorem puts_walk (n : Int) (A : Option Addr) (bs : List UInt8) (m c : Nat) (hm : m = bs.length) (w : World) (h : Row w w.heap.size A (bs.map byteV)) :
    Calls Try.prog 3 #[.int .i64 n, .slice A m c] w fun e w' => e = .returned (.bool true) ∧ Below w.heap.size w w' := by
  subst hm
  by_cases h2 : 2000 < bs.length
  · have hg : (2000 : Int) < (bs.length : Int) := by omega
    clear h h2
    go_enter Try.func3, Try.ntmps3
    go_wp2_with (go_at_call 10; refine (known_any _).mono ?_; rintro e w' ⟨rfl, hb⟩; have HB := Lib.hid hb; clear hb)
    go_ret
    exact ⟨rfl, HB.out⟩
  · have hg : (bs.length : Int) ≤ 2000 := by omega
    have hl : bs.length ≤ 65536 := by omega
    have HR := Lib.hid h
    clear h h2
    go_enter Try.func3, Try.ntmps3
    go_wp2_with fail
    refine (row_any _ c _ A bs rfl _ HR.out (Nat.le_refl _) hl).mono ?_
    rintro e w1 ⟨A1, c1, rfl, ho, hb⟩
    have HB1 := Lib.hid hb
    have HR1 := Lib.hid (Row.of_own ho)
    clear ho hb
    go_wp2_with fail
    refine (refrow_any _ c _ A bs rfl _ (HR.out.below HB1.out) HB1.out.size hl).mono ?_
    rintro e w2 ⟨A2, c2, rfl, ho, hb⟩
    have HB2 : Hid (Below w.heap.size w w2) := Lib.hid (HB1.out.trans (hb.mono HB1.out.size))
    have HR1b := Lib.hid (HR1.out.below hb)
    have HR2 := Lib.hid (Row.of_own ho)
    have HS1 := Lib.hid hb.size
    clear ho hb
    go_wp2_with fail
    refine (num_any n _).mono ?_
    rintro e w3 ⟨A3, c3, rfl, ho, hb⟩
    have HB3 : Hid (Below w.heap.size w w3) := Lib.hid (HB2.out.trans (hb.mono HB2.out.size))
    have HR1c := Lib.hid (HR1b.out.below (hb.mono HS1.out))
    have HR2c := Lib.hid (HR2.out.below hb)
    have HR3 := Lib.hid (Row.of_own ho)
    have HS2 := Lib.hid hb.size
    clear ho hb
    go_wp2_with fail
    refine (refnum_any n _).mono ?_
    rintro e w4 ⟨A4, c4, rfl, ho, hb⟩
    have HB4 : Hid (Below w.heap.size w w4) := Lib.hid (HB3.out.trans (hb.mono HB3.out.size))
    have HR1d := Lib.hid (HR1c.out.below (hb.mono (Nat.le_trans HS1.out HS2.out)))
    have HR2d := Lib.hid (HR2c.out.below (hb.mono HS2.out))
    have HR3d := Lib.hid (HR3.out.below hb)
    have HR4 := Lib.hid (Row.of_own ho)
    clear ho hb
    go_wp2_with fail
    refine (same_true _ _ _ _ _ _ _ _ (numB n) (numB n) rfl _ HR3d.out HR4.out rfl rfl).mono ?_
    rintro e w' ⟨rfl, rfl⟩
    go_wp2_with fail
    refine (same_true _ _ _ _ _ _ _ _ (rowB bs) (rowB bs) rfl _ HR1d.out HR2d.out rfl rfl).mono ?_
    rintro e w' ⟨rfl, rfl⟩
    go_wp2_with fail
    refine (known_any _).mono ?_
    rintro e w5 ⟨rfl, hb⟩
    have HB5 : Hid (Below w.heap.size w w5) := Lib.hid (HB4.out.trans (hb.mono HB4.out.size))
    clear hb
    go_wp2
    go_ret
    exact ⟨rfl, HB5.out⟩
end Go.Proofs.Yteppidabimmdpaa
