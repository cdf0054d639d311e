/- BtSa: BeatSame returns true, whatever the arguments; what was there is left as it was. -/
import Derived.Test.YtkfapcigfgfeaaaBtI
namespace Go.Proofs.Ytkfapcigfgfeaaa
open Go.RowKit Flo Mem
set_option maxRecDepth 100000
set_option maxHeartbeats 2000000
set_option linter.unusedVariables false
theorem same_walk (a b now : Int) (xs ys : List Int) (n n' c c' : Nat) (A A' : Option Addr) (hn : n = xs.length) (hn' : n' = ys.length) (hw : ∀ x ∈ xs, Word x) (hw' : ∀ x ∈ ys, Word x) (w : World) (h : Row w w.heap.size A (xs.map uW)) (h' : Row w w.heap.size A' (ys.map uW)) :
    Calls Try.prog 8 #[.int .i64 a, .slice A n c, .int .i64 b, .slice A' n' c', .int .i64 now] w (Ret (.bool true) w) := by
  subst hn; subst hn'
  have hf := run_frombits
  have HB0 : Hid (Below w.heap.size w w) := Lib.hid (Below.refl _ _)
  by_cases h30 : 30 < xs.length
  · have h30' : (30 : Int) < (xs.length : Int) := by omega
    clear h h' hw hw'
    go_enter Try.func8, Try.ntmps8
    go_wp2_with (go_at_call 9; refine (known15_any _).mono ?_; rintro e w' ⟨rfl, hb⟩)
    go_ret
    exact ⟨rfl, hb⟩
  by_cases h31 : 30 < ys.length
  · have h30' : (xs.length : Int) ≤ 30 := by omega
    have h31' : (30 : Int) < (ys.length : Int) := by omega
    clear h h' hw hw'
    go_enter Try.func8, Try.ntmps8
    go_wp2_with (go_at_call 9; refine (known15_any _).mono ?_; rintro e w' ⟨rfl, hb⟩)
    go_ret
    exact ⟨rfl, hb⟩
  have h30' : (xs.length : Int) ≤ 30 := by omega
  have h31' : (ys.length : Int) ≤ 30 := by omega
  have L1 : Hid (xs.length ≤ 200) := Lib.hid (by omega)
  have L2 : Hid (ys.length ≤ 200) := Lib.hid (by omega)
  have W1 := Lib.hid hw
  have W2 := Lib.hid hw'
  have HO1 : Hid (∀ W, Row W W.heap.size A (xs.map uW) → Calls Try.prog 10 #[.int .i64 a, .slice A xs.length c] W (OfP a xs W)) := Lib.hid fun W h => of_any15 a xs xs.length c A rfl L1.out W h
  have HO2 : Hid (∀ W, Row W W.heap.size A' (ys.map uW) → Calls Try.prog 10 #[.int .i64 b, .slice A' ys.length c'] W (OfP b ys W)) := Lib.hid fun W h => of_any15 b ys ys.length c' A' rfl L2.out W h
  obtain ⟨sm, hsm⟩ : ∃ sm, sameB a xs b ys = sm := ⟨_, rfl⟩
  have HS1 : Hid (∀ W A A' c c', Row W W.heap.size A (xs.map fv) → Row W W.heap.size A' (ys.map fv) → Calls Try.prog 25 #[.agg (bC a A xs.length c), .agg (bC b A' ys.length c')] W (Ret (.bool sm) W)) := Lib.hid fun W A A' c c' h h' => by rw [← hsm]; exact samebeats_any a b _ _ c c' A A' xs ys rfl rfl L1.out L2.out W1.out W2.out W h h'
  have HS2 : Hid (∀ W A A' c c', Row W W.heap.size A (xs.map fv) → Row W W.heap.size A' (ys.map fv) → Calls Try.prog 24 #[.agg (bC a A xs.length c), .agg (bC b A' ys.length c')] W (Ret (.bool sm) W)) := Lib.hid fun W A A' c c' h h' => by rw [← hsm]; exact refsamebeats_any a b _ _ c c' A A' xs ys rfl rfl L1.out L2.out W1.out W2.out W h h'
  have HS3 : Hid (∀ W A c, Row W W.heap.size A (xs.map fv) → Calls Try.prog 25 #[.agg (bC a A xs.length c), .agg (bC a A xs.length c)] W (Ret (.bool true) W)) := Lib.hid fun W A c h => by
    have := samebeats_any a a _ _ c c A A xs xs rfl rfl L1.out L1.out W1.out W1.out W h h
    rw [show sameB a xs a xs = true from decide_eq_true ⟨rfl, rfl⟩] at this; exact this
  have w2 : Word 4611686018427387904 := ⟨by decide, by decide⟩
  have HC1 : Hid (∀ W A c, Row W W.heap.size A (xs.map fv) → Calls Try.prog 13 #[.agg (bC a A xs.length c), .int .i64 now] W (Ret (.tuple #[.float .f64 (fnat (scV a xs now)), .int .i64 (rgtE a xs now)]) W)) := Lib.hid fun W A c h => score_all a xs _ c A rfl L1.out W1.out now W h
  have HC2 : Hid (∀ W A c, Row W W.heap.size A (ys.map fv) → Calls Try.prog 13 #[.agg (bC b A ys.length c), .int .i64 now] W (Ret (.tuple #[.float .f64 (fnat (scV b ys now)), .int .i64 (rgtE b ys now)]) W)) := Lib.hid fun W A c h => score_all b ys _ c A rfl L2.out W2.out now W h
  have HU1 : Hid (∀ W A c, Row W W.heap.size A (xs.map fv) → Calls Try.prog 15 #[.agg (bC a A xs.length c), .int .i64 now, .float .f64 4611686018427387904] W (Ret (.tuple #[.bool (suV a xs now 4611686018427387904), .int .i64 (suE a xs now 4611686018427387904)]) W)) := Lib.hid fun W A c h => suspect_all a xs _ c A rfl L1.out W1.out now 4611686018427387904 w2 W h
  have HU2 : Hid (∀ W A c, Row W W.heap.size A (ys.map fv) → Calls Try.prog 15 #[.agg (bC b A ys.length c), .int .i64 now, .float .f64 4611686018427387904] W (Ret (.tuple #[.bool (suV b ys now 4611686018427387904), .int .i64 (suE b ys now 4611686018427387904)]) W)) := Lib.hid fun W A c h => suspect_all b ys _ c A rfl L2.out W2.out now 4611686018427387904 w2 W h
  have HEQ : Hid (sm = true → scV a xs now = scV b ys now ∧ rgtE a xs now = rgtE b ys now ∧ suV a xs now 4611686018427387904 = suV b ys now 4611686018427387904) := Lib.hid fun e => by
    rw [← hsm] at e
    obtain ⟨rfl, rfl⟩ := of_decide_eq_true e
    exact ⟨rfl, rfl, rfl⟩
  have f1 := scV_facts W1.out now (last := a)
  have f2 := scV_facts W2.out now (last := b)
  generalize scV a xs now = s at *
  generalize scV b ys now = t at *
  generalize rgtE a xs now = es at *
  generalize rgtE b ys now = et at *
  generalize suV a xs now 4611686018427387904 = p at *
  generalize suV b ys now 4611686018427387904 = q at *
  generalize suE a xs now 4611686018427387904 = ep at *
  generalize suE b ys now 4611686018427387904 = eq' at *
  have hbs := run_bits s ⟨f1.1, by omega⟩
  have hbt := run_bits t ⟨f2.1, by omega⟩
  have hk3 : kindZ s < 3 := by have := kind_cases (show Word s from ⟨f1.1, by omega⟩); omega
  have HRA := Lib.hid h
  have HRB := Lib.hid h'
  clear h h' hw hw' hsm w2 f1 f2
  unfold OfP bC at HO1 HO2
  unfold bC at HS1 HS2 HS3 HC1 HC2 HU1 HU2
  rcases Bool.eq_false_or_eq_true sm with hs | hs
  · obtain ⟨rfl, rfl, rfl⟩ := HEQ.out hs
    subst hs
    clear HEQ
    go_enter Try.func8, Try.ntmps8
    go_wp2_with fail
    refine (HO1.out w HRA.out).mono ?_
    rintro e1 w1 ⟨A1, c1, rfl, ho1, hb1⟩
    have HB1 := Lib.hid (HB0.out.trans (hb1.mono HB0.out.size))
    replace HRA := Lib.hid ((HRA.out.below hb1).more hb1.size)
    replace HRB := Lib.hid ((HRB.out.below hb1).more hb1.size)
    have R1 := Lib.hid (ownRow ho1)
    clear hb1
    clear ho1
    have HAKX := Lib.hid (HB1.out.alloc HB1.out.size (.cells #[.int .i64 a, .slice A1 xs.length c1] 27))
    replace HRB := Lib.hid (row_up15 HRB.out (.cells #[.int .i64 a, .slice A1 xs.length c1] 27))
    replace R1 := Lib.hid (row_up15 R1.out (.cells #[.int .i64 a, .slice A1 xs.length c1] 27))
    have KX : Hid (Blk (w1.alloc (.cells #[.int .i64 a, .slice A1 xs.length c1] 27)) w1.heap.size 27 #[.int .i64 a, .slice A1 xs.length c1]) := Lib.hid (Blk.new _ _ _)
    go_wp2_with fail
    refine (HO2.out (w1.alloc (.cells #[.int .i64 a, .slice A1 xs.length c1] 27)) HRB.out).mono ?_
    rintro e2 w2 ⟨A2, c2, rfl, ho2, hb2⟩
    have HB2 := Lib.hid (HAKX.out.trans (hb2.mono HAKX.out.size))
    replace HRB := Lib.hid ((HRB.out.below hb2).more hb2.size)
    replace R1 := Lib.hid ((R1.out.below hb2).more hb2.size)
    replace KX := Lib.hid (KX.out.below hb2 KX.out.lt)
    have R2 := Lib.hid (ownRow ho2)
    have qKX_0 : w2.cell? ⟨w1.heap.size, 0, none⟩ = some (.int .i64 a) := KX.out.cell 0
    have qKX_1 : w2.cell? ⟨w1.heap.size, 1, none⟩ = some (.slice A1 xs.length c1) := KX.out.cell 1
    have qKX_l : w1.heap.size < w2.heap.size := KX.out.lt
    clear hb2
    clear ho2
    have HAKY := Lib.hid (HB2.out.alloc HB2.out.size (.cells #[.int .i64 b, .slice A2 ys.length c2] 27))
    replace R1 := Lib.hid (row_up15 R1.out (.cells #[.int .i64 b, .slice A2 ys.length c2] 27))
    replace R2 := Lib.hid (row_up15 R2.out (.cells #[.int .i64 b, .slice A2 ys.length c2] 27))
    replace KX := Lib.hid (KX.out.alloc (.cells #[.int .i64 b, .slice A2 ys.length c2] 27))
    have KY : Hid (Blk (w2.alloc (.cells #[.int .i64 b, .slice A2 ys.length c2] 27)) w2.heap.size 27 #[.int .i64 b, .slice A2 ys.length c2]) := Lib.hid (Blk.new _ _ _)
    go_wp2_with fail
    refine (HS1.out (w2.alloc (.cells #[.int .i64 b, .slice A2 ys.length c2] 27)) A1 A2 c1 c2 R1.out R2.out).mono ?_
    rintro e3 w3 ⟨rfl, hb3⟩
    clear qKX_0 qKX_1 qKX_l
    have HB3 := Lib.hid (HAKY.out.trans (hb3.mono HAKY.out.size))
    replace R1 := Lib.hid ((R1.out.below hb3).more hb3.size)
    replace R2 := Lib.hid ((R2.out.below hb3).more hb3.size)
    replace KX := Lib.hid (KX.out.below hb3 KX.out.lt)
    replace KY := Lib.hid (KY.out.below hb3 KY.out.lt)
    have qKX_0 : w3.cell? ⟨w1.heap.size, 0, none⟩ = some (.int .i64 a) := KX.out.cell 0
    have qKX_1 : w3.cell? ⟨w1.heap.size, 1, none⟩ = some (.slice A1 xs.length c1) := KX.out.cell 1
    have qKX_l : w1.heap.size < w3.heap.size := KX.out.lt
    have qKY_0 : w3.cell? ⟨w2.heap.size, 0, none⟩ = some (.int .i64 b) := KY.out.cell 0
    have qKY_1 : w3.cell? ⟨w2.heap.size, 1, none⟩ = some (.slice A2 ys.length c2) := KY.out.cell 1
    have qKY_l : w2.heap.size < w3.heap.size := KY.out.lt
    clear hb3
    go_wp2_with fail
    refine (HS2.out w3 A1 A2 c1 c2 R1.out R2.out).mono ?_
    rintro e4 w4 ⟨rfl, hb4⟩
    clear qKX_0 qKX_1 qKX_l qKY_0 qKY_1 qKY_l
    have HB4 := Lib.hid (HB3.out.trans (hb4.mono HB3.out.size))
    replace R1 := Lib.hid ((R1.out.below hb4).more hb4.size)
    replace R2 := Lib.hid ((R2.out.below hb4).more hb4.size)
    replace KX := Lib.hid (KX.out.below hb4 KX.out.lt)
    replace KY := Lib.hid (KY.out.below hb4 KY.out.lt)
    have qKX_0 : w4.cell? ⟨w1.heap.size, 0, none⟩ = some (.int .i64 a) := KX.out.cell 0
    have qKX_1 : w4.cell? ⟨w1.heap.size, 1, none⟩ = some (.slice A1 xs.length c1) := KX.out.cell 1
    have qKX_l : w1.heap.size < w4.heap.size := KX.out.lt
    have qKY_0 : w4.cell? ⟨w2.heap.size, 0, none⟩ = some (.int .i64 b) := KY.out.cell 0
    have qKY_1 : w4.cell? ⟨w2.heap.size, 1, none⟩ = some (.slice A2 ys.length c2) := KY.out.cell 1
    have qKY_l : w2.heap.size < w4.heap.size := KY.out.lt
    clear hb4
    go_wp2_with fail
    refine (HS3.out w4 A1 c1 R1.out).mono ?_
    rintro e5 w5 ⟨rfl, hb5⟩
    clear qKX_0 qKX_1 qKX_l qKY_0 qKY_1 qKY_l
    have HB5 := Lib.hid (HB4.out.trans (hb5.mono HB4.out.size))
    replace R1 := Lib.hid ((R1.out.below hb5).more hb5.size)
    replace R2 := Lib.hid ((R2.out.below hb5).more hb5.size)
    replace KX := Lib.hid (KX.out.below hb5 KX.out.lt)
    replace KY := Lib.hid (KY.out.below hb5 KY.out.lt)
    have qKX_0 : w5.cell? ⟨w1.heap.size, 0, none⟩ = some (.int .i64 a) := KX.out.cell 0
    have qKX_1 : w5.cell? ⟨w1.heap.size, 1, none⟩ = some (.slice A1 xs.length c1) := KX.out.cell 1
    have qKX_l : w1.heap.size < w5.heap.size := KX.out.lt
    have qKY_0 : w5.cell? ⟨w2.heap.size, 0, none⟩ = some (.int .i64 b) := KY.out.cell 0
    have qKY_1 : w5.cell? ⟨w2.heap.size, 1, none⟩ = some (.slice A2 ys.length c2) := KY.out.cell 1
    have qKY_l : w2.heap.size < w5.heap.size := KY.out.lt
    clear hb5
    go_wp2_with fail
    refine (HC1.out w5 A1 c1 R1.out).mono ?_
    rintro e6 w6 ⟨rfl, hb6⟩
    clear qKX_0 qKX_1 qKX_l qKY_0 qKY_1 qKY_l
    have HB6 := Lib.hid (HB5.out.trans (hb6.mono HB5.out.size))
    replace R1 := Lib.hid ((R1.out.below hb6).more hb6.size)
    replace R2 := Lib.hid ((R2.out.below hb6).more hb6.size)
    replace KX := Lib.hid (KX.out.below hb6 KX.out.lt)
    replace KY := Lib.hid (KY.out.below hb6 KY.out.lt)
    have qKX_0 : w6.cell? ⟨w1.heap.size, 0, none⟩ = some (.int .i64 a) := KX.out.cell 0
    have qKX_1 : w6.cell? ⟨w1.heap.size, 1, none⟩ = some (.slice A1 xs.length c1) := KX.out.cell 1
    have qKX_l : w1.heap.size < w6.heap.size := KX.out.lt
    have qKY_0 : w6.cell? ⟨w2.heap.size, 0, none⟩ = some (.int .i64 b) := KY.out.cell 0
    have qKY_1 : w6.cell? ⟨w2.heap.size, 1, none⟩ = some (.slice A2 ys.length c2) := KY.out.cell 1
    have qKY_l : w2.heap.size < w6.heap.size := KY.out.lt
    clear hb6
    go_wp2_with fail
    refine (HC2.out w6 A2 c2 R2.out).mono ?_
    rintro e7 w7 ⟨rfl, hb7⟩
    clear qKX_0 qKX_1 qKX_l qKY_0 qKY_1 qKY_l
    have HB7 := Lib.hid (HB6.out.trans (hb7.mono HB6.out.size))
    replace R1 := Lib.hid ((R1.out.below hb7).more hb7.size)
    replace R2 := Lib.hid ((R2.out.below hb7).more hb7.size)
    replace KX := Lib.hid (KX.out.below hb7 KX.out.lt)
    replace KY := Lib.hid (KY.out.below hb7 KY.out.lt)
    have qKX_0 : w7.cell? ⟨w1.heap.size, 0, none⟩ = some (.int .i64 a) := KX.out.cell 0
    have qKX_1 : w7.cell? ⟨w1.heap.size, 1, none⟩ = some (.slice A1 xs.length c1) := KX.out.cell 1
    have qKX_l : w1.heap.size < w7.heap.size := KX.out.lt
    have qKY_0 : w7.cell? ⟨w2.heap.size, 0, none⟩ = some (.int .i64 b) := KY.out.cell 0
    have qKY_1 : w7.cell? ⟨w2.heap.size, 1, none⟩ = some (.slice A2 ys.length c2) := KY.out.cell 1
    have qKY_l : w2.heap.size < w7.heap.size := KY.out.lt
    clear hb7
    go_wp2_with fail
    refine (HU1.out w7 A1 c1 R1.out).mono ?_
    rintro e8 w8 ⟨rfl, hb8⟩
    clear qKX_0 qKX_1 qKX_l qKY_0 qKY_1 qKY_l
    have HB8 := Lib.hid (HB7.out.trans (hb8.mono HB7.out.size))
    replace R1 := Lib.hid ((R1.out.below hb8).more hb8.size)
    replace R2 := Lib.hid ((R2.out.below hb8).more hb8.size)
    replace KX := Lib.hid (KX.out.below hb8 KX.out.lt)
    replace KY := Lib.hid (KY.out.below hb8 KY.out.lt)
    have qKX_0 : w8.cell? ⟨w1.heap.size, 0, none⟩ = some (.int .i64 a) := KX.out.cell 0
    have qKX_1 : w8.cell? ⟨w1.heap.size, 1, none⟩ = some (.slice A1 xs.length c1) := KX.out.cell 1
    have qKX_l : w1.heap.size < w8.heap.size := KX.out.lt
    have qKY_0 : w8.cell? ⟨w2.heap.size, 0, none⟩ = some (.int .i64 b) := KY.out.cell 0
    have qKY_1 : w8.cell? ⟨w2.heap.size, 1, none⟩ = some (.slice A2 ys.length c2) := KY.out.cell 1
    have qKY_l : w2.heap.size < w8.heap.size := KY.out.lt
    clear hb8
    go_wp2_with fail
    refine (HU2.out w8 A2 c2 R2.out).mono ?_
    rintro e9 w9 ⟨rfl, hb9⟩
    clear qKX_0 qKX_1 qKX_l qKY_0 qKY_1 qKY_l
    have HB9 := Lib.hid (HB8.out.trans (hb9.mono HB8.out.size))
    replace R1 := Lib.hid ((R1.out.below hb9).more hb9.size)
    replace R2 := Lib.hid ((R2.out.below hb9).more hb9.size)
    replace KX := Lib.hid (KX.out.below hb9 KX.out.lt)
    replace KY := Lib.hid (KY.out.below hb9 KY.out.lt)
    have qKX_0 : w9.cell? ⟨w1.heap.size, 0, none⟩ = some (.int .i64 a) := KX.out.cell 0
    have qKX_1 : w9.cell? ⟨w1.heap.size, 1, none⟩ = some (.slice A1 xs.length c1) := KX.out.cell 1
    have qKX_l : w1.heap.size < w9.heap.size := KX.out.lt
    have qKY_0 : w9.cell? ⟨w2.heap.size, 0, none⟩ = some (.int .i64 b) := KY.out.cell 0
    have qKY_1 : w9.cell? ⟨w2.heap.size, 1, none⟩ = some (.slice A2 ys.length c2) := KY.out.cell 1
    have qKY_l : w2.heap.size < w9.heap.size := KY.out.lt
    clear hb9
    go_wp2_with (first | (go_at_call 20; refine (kind_any _ _).mono ?_; rintro e w' ⟨rfl, rfl⟩) | (go_at_call 9; refine (known15_any _).mono ?_; rintro e wk ⟨rfl, hbk⟩))
    go_ret
    exact ⟨rfl, HB9.out.trans (hbk.mono HB9.out.size)⟩
  · subst hs
    clear HEQ
    go_enter Try.func8, Try.ntmps8
    go_wp2_with fail
    refine (HO1.out w HRA.out).mono ?_
    rintro e1 w1 ⟨A1, c1, rfl, ho1, hb1⟩
    have HB1 := Lib.hid (HB0.out.trans (hb1.mono HB0.out.size))
    replace HRA := Lib.hid ((HRA.out.below hb1).more hb1.size)
    replace HRB := Lib.hid ((HRB.out.below hb1).more hb1.size)
    have R1 := Lib.hid (ownRow ho1)
    clear hb1
    clear ho1
    have HAKX := Lib.hid (HB1.out.alloc HB1.out.size (.cells #[.int .i64 a, .slice A1 xs.length c1] 27))
    replace HRB := Lib.hid (row_up15 HRB.out (.cells #[.int .i64 a, .slice A1 xs.length c1] 27))
    replace R1 := Lib.hid (row_up15 R1.out (.cells #[.int .i64 a, .slice A1 xs.length c1] 27))
    have KX : Hid (Blk (w1.alloc (.cells #[.int .i64 a, .slice A1 xs.length c1] 27)) w1.heap.size 27 #[.int .i64 a, .slice A1 xs.length c1]) := Lib.hid (Blk.new _ _ _)
    go_wp2_with fail
    refine (HO2.out (w1.alloc (.cells #[.int .i64 a, .slice A1 xs.length c1] 27)) HRB.out).mono ?_
    rintro e2 w2 ⟨A2, c2, rfl, ho2, hb2⟩
    have HB2 := Lib.hid (HAKX.out.trans (hb2.mono HAKX.out.size))
    replace HRB := Lib.hid ((HRB.out.below hb2).more hb2.size)
    replace R1 := Lib.hid ((R1.out.below hb2).more hb2.size)
    replace KX := Lib.hid (KX.out.below hb2 KX.out.lt)
    have R2 := Lib.hid (ownRow ho2)
    have qKX_0 : w2.cell? ⟨w1.heap.size, 0, none⟩ = some (.int .i64 a) := KX.out.cell 0
    have qKX_1 : w2.cell? ⟨w1.heap.size, 1, none⟩ = some (.slice A1 xs.length c1) := KX.out.cell 1
    have qKX_l : w1.heap.size < w2.heap.size := KX.out.lt
    clear hb2
    clear ho2
    have HAKY := Lib.hid (HB2.out.alloc HB2.out.size (.cells #[.int .i64 b, .slice A2 ys.length c2] 27))
    replace R1 := Lib.hid (row_up15 R1.out (.cells #[.int .i64 b, .slice A2 ys.length c2] 27))
    replace R2 := Lib.hid (row_up15 R2.out (.cells #[.int .i64 b, .slice A2 ys.length c2] 27))
    replace KX := Lib.hid (KX.out.alloc (.cells #[.int .i64 b, .slice A2 ys.length c2] 27))
    have KY : Hid (Blk (w2.alloc (.cells #[.int .i64 b, .slice A2 ys.length c2] 27)) w2.heap.size 27 #[.int .i64 b, .slice A2 ys.length c2]) := Lib.hid (Blk.new _ _ _)
    go_wp2_with fail
    refine (HS1.out (w2.alloc (.cells #[.int .i64 b, .slice A2 ys.length c2] 27)) A1 A2 c1 c2 R1.out R2.out).mono ?_
    rintro e3 w3 ⟨rfl, hb3⟩
    clear qKX_0 qKX_1 qKX_l
    have HB3 := Lib.hid (HAKY.out.trans (hb3.mono HAKY.out.size))
    replace R1 := Lib.hid ((R1.out.below hb3).more hb3.size)
    replace R2 := Lib.hid ((R2.out.below hb3).more hb3.size)
    replace KX := Lib.hid (KX.out.below hb3 KX.out.lt)
    replace KY := Lib.hid (KY.out.below hb3 KY.out.lt)
    have qKX_0 : w3.cell? ⟨w1.heap.size, 0, none⟩ = some (.int .i64 a) := KX.out.cell 0
    have qKX_1 : w3.cell? ⟨w1.heap.size, 1, none⟩ = some (.slice A1 xs.length c1) := KX.out.cell 1
    have qKX_l : w1.heap.size < w3.heap.size := KX.out.lt
    have qKY_0 : w3.cell? ⟨w2.heap.size, 0, none⟩ = some (.int .i64 b) := KY.out.cell 0
    have qKY_1 : w3.cell? ⟨w2.heap.size, 1, none⟩ = some (.slice A2 ys.length c2) := KY.out.cell 1
    have qKY_l : w2.heap.size < w3.heap.size := KY.out.lt
    clear hb3
    go_wp2_with fail
    refine (HS2.out w3 A1 A2 c1 c2 R1.out R2.out).mono ?_
    rintro e4 w4 ⟨rfl, hb4⟩
    clear qKX_0 qKX_1 qKX_l qKY_0 qKY_1 qKY_l
    have HB4 := Lib.hid (HB3.out.trans (hb4.mono HB3.out.size))
    replace R1 := Lib.hid ((R1.out.below hb4).more hb4.size)
    replace R2 := Lib.hid ((R2.out.below hb4).more hb4.size)
    replace KX := Lib.hid (KX.out.below hb4 KX.out.lt)
    replace KY := Lib.hid (KY.out.below hb4 KY.out.lt)
    have qKX_0 : w4.cell? ⟨w1.heap.size, 0, none⟩ = some (.int .i64 a) := KX.out.cell 0
    have qKX_1 : w4.cell? ⟨w1.heap.size, 1, none⟩ = some (.slice A1 xs.length c1) := KX.out.cell 1
    have qKX_l : w1.heap.size < w4.heap.size := KX.out.lt
    have qKY_0 : w4.cell? ⟨w2.heap.size, 0, none⟩ = some (.int .i64 b) := KY.out.cell 0
    have qKY_1 : w4.cell? ⟨w2.heap.size, 1, none⟩ = some (.slice A2 ys.length c2) := KY.out.cell 1
    have qKY_l : w2.heap.size < w4.heap.size := KY.out.lt
    clear hb4
    go_wp2_with fail
    refine (HS3.out w4 A1 c1 R1.out).mono ?_
    rintro e5 w5 ⟨rfl, hb5⟩
    clear qKX_0 qKX_1 qKX_l qKY_0 qKY_1 qKY_l
    have HB5 := Lib.hid (HB4.out.trans (hb5.mono HB4.out.size))
    replace R1 := Lib.hid ((R1.out.below hb5).more hb5.size)
    replace R2 := Lib.hid ((R2.out.below hb5).more hb5.size)
    replace KX := Lib.hid (KX.out.below hb5 KX.out.lt)
    replace KY := Lib.hid (KY.out.below hb5 KY.out.lt)
    have qKX_0 : w5.cell? ⟨w1.heap.size, 0, none⟩ = some (.int .i64 a) := KX.out.cell 0
    have qKX_1 : w5.cell? ⟨w1.heap.size, 1, none⟩ = some (.slice A1 xs.length c1) := KX.out.cell 1
    have qKX_l : w1.heap.size < w5.heap.size := KX.out.lt
    have qKY_0 : w5.cell? ⟨w2.heap.size, 0, none⟩ = some (.int .i64 b) := KY.out.cell 0
    have qKY_1 : w5.cell? ⟨w2.heap.size, 1, none⟩ = some (.slice A2 ys.length c2) := KY.out.cell 1
    have qKY_l : w2.heap.size < w5.heap.size := KY.out.lt
    clear hb5
    go_wp2_with fail
    refine (HC1.out w5 A1 c1 R1.out).mono ?_
    rintro e6 w6 ⟨rfl, hb6⟩
    clear qKX_0 qKX_1 qKX_l qKY_0 qKY_1 qKY_l
    have HB6 := Lib.hid (HB5.out.trans (hb6.mono HB5.out.size))
    replace R1 := Lib.hid ((R1.out.below hb6).more hb6.size)
    replace R2 := Lib.hid ((R2.out.below hb6).more hb6.size)
    replace KX := Lib.hid (KX.out.below hb6 KX.out.lt)
    replace KY := Lib.hid (KY.out.below hb6 KY.out.lt)
    have qKX_0 : w6.cell? ⟨w1.heap.size, 0, none⟩ = some (.int .i64 a) := KX.out.cell 0
    have qKX_1 : w6.cell? ⟨w1.heap.size, 1, none⟩ = some (.slice A1 xs.length c1) := KX.out.cell 1
    have qKX_l : w1.heap.size < w6.heap.size := KX.out.lt
    have qKY_0 : w6.cell? ⟨w2.heap.size, 0, none⟩ = some (.int .i64 b) := KY.out.cell 0
    have qKY_1 : w6.cell? ⟨w2.heap.size, 1, none⟩ = some (.slice A2 ys.length c2) := KY.out.cell 1
    have qKY_l : w2.heap.size < w6.heap.size := KY.out.lt
    clear hb6
    go_wp2_with fail
    refine (HC2.out w6 A2 c2 R2.out).mono ?_
    rintro e7 w7 ⟨rfl, hb7⟩
    clear qKX_0 qKX_1 qKX_l qKY_0 qKY_1 qKY_l
    have HB7 := Lib.hid (HB6.out.trans (hb7.mono HB6.out.size))
    replace R1 := Lib.hid ((R1.out.below hb7).more hb7.size)
    replace R2 := Lib.hid ((R2.out.below hb7).more hb7.size)
    replace KX := Lib.hid (KX.out.below hb7 KX.out.lt)
    replace KY := Lib.hid (KY.out.below hb7 KY.out.lt)
    have qKX_0 : w7.cell? ⟨w1.heap.size, 0, none⟩ = some (.int .i64 a) := KX.out.cell 0
    have qKX_1 : w7.cell? ⟨w1.heap.size, 1, none⟩ = some (.slice A1 xs.length c1) := KX.out.cell 1
    have qKX_l : w1.heap.size < w7.heap.size := KX.out.lt
    have qKY_0 : w7.cell? ⟨w2.heap.size, 0, none⟩ = some (.int .i64 b) := KY.out.cell 0
    have qKY_1 : w7.cell? ⟨w2.heap.size, 1, none⟩ = some (.slice A2 ys.length c2) := KY.out.cell 1
    have qKY_l : w2.heap.size < w7.heap.size := KY.out.lt
    clear hb7
    go_wp2_with fail
    refine (HU1.out w7 A1 c1 R1.out).mono ?_
    rintro e8 w8 ⟨rfl, hb8⟩
    clear qKX_0 qKX_1 qKX_l qKY_0 qKY_1 qKY_l
    have HB8 := Lib.hid (HB7.out.trans (hb8.mono HB7.out.size))
    replace R1 := Lib.hid ((R1.out.below hb8).more hb8.size)
    replace R2 := Lib.hid ((R2.out.below hb8).more hb8.size)
    replace KX := Lib.hid (KX.out.below hb8 KX.out.lt)
    replace KY := Lib.hid (KY.out.below hb8 KY.out.lt)
    have qKX_0 : w8.cell? ⟨w1.heap.size, 0, none⟩ = some (.int .i64 a) := KX.out.cell 0
    have qKX_1 : w8.cell? ⟨w1.heap.size, 1, none⟩ = some (.slice A1 xs.length c1) := KX.out.cell 1
    have qKX_l : w1.heap.size < w8.heap.size := KX.out.lt
    have qKY_0 : w8.cell? ⟨w2.heap.size, 0, none⟩ = some (.int .i64 b) := KY.out.cell 0
    have qKY_1 : w8.cell? ⟨w2.heap.size, 1, none⟩ = some (.slice A2 ys.length c2) := KY.out.cell 1
    have qKY_l : w2.heap.size < w8.heap.size := KY.out.lt
    clear hb8
    go_wp2_with fail
    refine (HU2.out w8 A2 c2 R2.out).mono ?_
    rintro e9 w9 ⟨rfl, hb9⟩
    clear qKX_0 qKX_1 qKX_l qKY_0 qKY_1 qKY_l
    have HB9 := Lib.hid (HB8.out.trans (hb9.mono HB8.out.size))
    replace R1 := Lib.hid ((R1.out.below hb9).more hb9.size)
    replace R2 := Lib.hid ((R2.out.below hb9).more hb9.size)
    replace KX := Lib.hid (KX.out.below hb9 KX.out.lt)
    replace KY := Lib.hid (KY.out.below hb9 KY.out.lt)
    have qKX_0 : w9.cell? ⟨w1.heap.size, 0, none⟩ = some (.int .i64 a) := KX.out.cell 0
    have qKX_1 : w9.cell? ⟨w1.heap.size, 1, none⟩ = some (.slice A1 xs.length c1) := KX.out.cell 1
    have qKX_l : w1.heap.size < w9.heap.size := KX.out.lt
    have qKY_0 : w9.cell? ⟨w2.heap.size, 0, none⟩ = some (.int .i64 b) := KY.out.cell 0
    have qKY_1 : w9.cell? ⟨w2.heap.size, 1, none⟩ = some (.slice A2 ys.length c2) := KY.out.cell 1
    have qKY_l : w2.heap.size < w9.heap.size := KY.out.lt
    clear hb9
    go_wp2_with (first | (go_at_call 20; refine (kind_any _ _).mono ?_; rintro e w' ⟨rfl, rfl⟩) | (go_at_call 9; refine (known15_any _).mono ?_; rintro e wk ⟨rfl, hbk⟩))
    go_ret
    exact ⟨rfl, HB9.out.trans (hbk.mono HB9.out.size)⟩
end Go.Proofs.Ytkfapcigfgfeaaa
