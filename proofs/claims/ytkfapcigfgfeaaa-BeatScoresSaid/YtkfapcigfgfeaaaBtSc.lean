/- BtSc: BeatScores returns true, whatever the arguments; what was there is left as it was. -/
import Derived.Test.YtkfapcigfgfeaaaBtI
import Derived.Test.YtkfapcigfgfeaaaBtL
namespace Go.Proofs.Ytkfapcigfgfeaaa
open Go.RowKit Flo Mem
set_option maxRecDepth 100000
set_option maxHeartbeats 2000000
set_option linter.unusedVariables false
theorem scores_walk (a now most : Int) (xs : List Int) (n c : Nat) (A : Option Addr) (hn : n = xs.length) (hw : ∀ x ∈ xs, Word x) (hm : Word most) (w : World) (h : Row w w.heap.size A (xs.map uW)) :
    Calls Try.prog 3 #[.int .i64 a, .slice A n c, .int .i64 now, .int .u64 most] w (Ret (.bool true) w) := by
  subst hn
  have hf := run_frombits
  have HB0 : Hid (Below w.heap.size w w) := Lib.hid (Below.refl _ _)
  by_cases h30 : 30 < xs.length
  · have h30' : (30 : Int) < (xs.length : Int) := by omega
    clear h hw
    go_enter Try.func3, Try.ntmps3
    go_wp2_with (go_at_call 9; refine (known15_any _).mono ?_; rintro e w' ⟨rfl, hb⟩)
    go_ret
    exact ⟨rfl, hb⟩
  have h30' : (xs.length : Int) ≤ 30 := by omega
  have L1 : Hid (xs.length ≤ 200) := Lib.hid (by omega)
  have W1 := Lib.hid hw
  have HM := Lib.hid hm
  have HO1 : Hid (∀ W, Row W W.heap.size A (xs.map uW) → Calls Try.prog 10 #[.int .i64 a, .slice A xs.length c] W (OfP a xs W)) := Lib.hid fun W h => of_any15 a xs xs.length c A rfl L1.out W h
  have HV1 : Hid (∀ W A c, Row W W.heap.size A (xs.map fv) → Calls Try.prog 11 #[.agg (bC a A xs.length c)] W (Ret (.tuple #[.float .f64 (fnat (usV a xs)), .int .i64 (chkE a xs)]) W)) := Lib.hid fun W A c h => usual_all a xs _ c A rfl L1.out W1.out W h
  have HV2 : Hid (∀ W A c, Row W W.heap.size A (xs.map fv) → Calls Try.prog 12 #[.agg (bC a A xs.length c)] W (Ret (.tuple #[.float .f64 (fnat (usV a xs)), .int .i64 (chkE a xs)]) W)) := Lib.hid fun W A c h => refusual_all a xs _ c A rfl L1.out W1.out W h
  have HC1 : Hid (∀ W A c, Row W W.heap.size A (xs.map fv) → Calls Try.prog 13 #[.agg (bC a A xs.length c), .int .i64 now] W (Ret (.tuple #[.float .f64 (fnat (scV a xs now)), .int .i64 (rgtE a xs now)]) W)) := Lib.hid fun W A c h => score_all a xs _ c A rfl L1.out W1.out now W h
  have HC2 : Hid (∀ W A c, Row W W.heap.size A (xs.map fv) → Calls Try.prog 14 #[.agg (bC a A xs.length c), .int .i64 now] W (Ret (.tuple #[.float .f64 (fnat (scV a xs now)), .int .i64 (rgtE a xs now)]) W)) := Lib.hid fun W A c h => refscore_all a xs _ c A rfl L1.out W1.out now W h
  have HU1 : Hid (∀ W A c, Row W W.heap.size A (xs.map fv) → Calls Try.prog 15 #[.agg (bC a A xs.length c), .int .i64 now, .float .f64 (fnat most)] W (Ret (.tuple #[.bool (suV a xs now most), .int .i64 (suE a xs now most)]) W)) := Lib.hid fun W A c h => suspect_all a xs _ c A rfl L1.out W1.out now most HM.out W h
  have HK1 : Hid (∀ W A c, Row W W.heap.size A (xs.map fv) → Calls Try.prog 18 #[.agg (bC a A xs.length c)] W (Ret (.int .i64 (chkE a xs)) W)) := Lib.hid fun W A c h => check_any a xs _ c A rfl L1.out W1.out W h
  have HK2 : Hid (∀ W A c, Row W W.heap.size A (xs.map fv) → Calls Try.prog 19 #[.agg (bC a A xs.length c)] W (Ret (.int .i64 (chkE a xs)) W)) := Lib.hid fun W A c h => refcheck_any a xs _ c A rfl L1.out W1.out W h
  have f1 := scV_facts W1.out now (last := a)
  have f2 := usV_facts W1.out (last := a)
  have HSV : Hid (suV a xs now most = if rgtE a xs now = 0 then (if kindZ most = 3 then false else decide (0 < cmpZ (scV a xs now) most)) else false) := Lib.hid (by
    unfold suV susV
    by_cases h0 : rgtE a xs now = 0
    · rw [if_pos h0, if_pos h0]; unfold scV; rw [if_pos h0]
    · rw [if_neg h0, if_neg h0])
  have HSE : Hid (suE a xs now most = if rgtE a xs now = 0 then (if kindZ most = 3 then 10 else 0) else 2) := Lib.hid rfl
  have hes : rgtE a xs now = 0 ∨ rgtE a xs now = 2 := by
    rcases rgt_cases a xs now with h | h
    · exact Or.inl h.1
    · exact Or.inr h
  have HCMP : Hid (∀ W, Calls Try.prog 21 #[.int .u64 (scV a xs now), .int .u64 most] W fun e w' => e = .returned (.int .i64 (cmpZ (scV a xs now) most)) ∧ W = w') := Lib.hid fun W => refcompare_any _ _ ⟨f1.1, by omega⟩ HM.out W
  generalize scV a xs now = s at *
  generalize usV a xs = us at *
  generalize rgtE a xs now = es at *
  generalize chkE a xs = ck at *
  generalize suV a xs now most = p at *
  generalize suE a xs now most = ep at *
  generalize cmpZ s most = cm at *
  have hbs := run_bits s ⟨f1.1, by omega⟩
  have hbu := run_bits us ⟨f2.1, by omega⟩
  have HRA := Lib.hid h
  clear h hw hm f1 f2
  unfold OfP bC at HO1
  unfold bC at HV1 HV2 HC1 HC2 HU1 HK1 HK2
  rcases hes with hes | hes
  · by_cases h3 : kindZ most = 3
    · have hp : p = false := by rw [HSV.out, if_pos hes, if_pos h3]
      have hep : ep = 10 := by rw [HSE.out, if_pos hes, if_pos h3]
      have hq : (kindZ most == 3) = true := beq_iff_eq.2 h3
      subst hes; subst hp; subst hep
      clear HSV HSE h3
      go_enter Try.func3, Try.ntmps3
      go_wp2_with fail
      refine (HO1.out w HRA.out).mono ?_
      rintro e1 w1 ⟨A1, c1, rfl, ho1, hb1⟩
      have HB1 := Lib.hid (HB0.out.trans (hb1.mono HB0.out.size))
      replace HRA := Lib.hid ((HRA.out.below hb1).more hb1.size)
      have R1 := Lib.hid (ownRow ho1)
      clear hb1
      clear ho1
      have HAKX := Lib.hid (HB1.out.alloc HB1.out.size (.cells #[.int .i64 a, .slice A1 xs.length c1] 27))
      replace R1 := Lib.hid (row_up15 R1.out (.cells #[.int .i64 a, .slice A1 xs.length c1] 27))
      have KX : Hid (Blk (w1.alloc (.cells #[.int .i64 a, .slice A1 xs.length c1] 27)) w1.heap.size 27 #[.int .i64 a, .slice A1 xs.length c1]) := Lib.hid (Blk.new _ _ _)
      go_wp2_with fail
      refine (HV1.out (w1.alloc (.cells #[.int .i64 a, .slice A1 xs.length c1] 27)) A1 c1 R1.out).mono ?_
      rintro e2 w2 ⟨rfl, hb2⟩
      have HB2 := Lib.hid (HAKX.out.trans (hb2.mono HAKX.out.size))
      replace R1 := Lib.hid ((R1.out.below hb2).more hb2.size)
      replace KX := Lib.hid (KX.out.below hb2 KX.out.lt)
      have qKX_0 : w2.cell? ⟨w1.heap.size, 0, none⟩ = some (.int .i64 a) := KX.out.cell 0
      have qKX_1 : w2.cell? ⟨w1.heap.size, 1, none⟩ = some (.slice A1 xs.length c1) := KX.out.cell 1
      have qKX_l : w1.heap.size < w2.heap.size := KX.out.lt
      clear hb2
      go_wp2_with fail
      refine (HV2.out w2 A1 c1 R1.out).mono ?_
      rintro e3 w3 ⟨rfl, hb3⟩
      clear qKX_0 qKX_1 qKX_l
      have HB3 := Lib.hid (HB2.out.trans (hb3.mono HB2.out.size))
      replace R1 := Lib.hid ((R1.out.below hb3).more hb3.size)
      replace KX := Lib.hid (KX.out.below hb3 KX.out.lt)
      have qKX_0 : w3.cell? ⟨w1.heap.size, 0, none⟩ = some (.int .i64 a) := KX.out.cell 0
      have qKX_1 : w3.cell? ⟨w1.heap.size, 1, none⟩ = some (.slice A1 xs.length c1) := KX.out.cell 1
      have qKX_l : w1.heap.size < w3.heap.size := KX.out.lt
      clear hb3
      go_wp2_with fail
      refine (HC1.out w3 A1 c1 R1.out).mono ?_
      rintro e4 w4 ⟨rfl, hb4⟩
      clear qKX_0 qKX_1 qKX_l
      have HB4 := Lib.hid (HB3.out.trans (hb4.mono HB3.out.size))
      replace R1 := Lib.hid ((R1.out.below hb4).more hb4.size)
      replace KX := Lib.hid (KX.out.below hb4 KX.out.lt)
      have qKX_0 : w4.cell? ⟨w1.heap.size, 0, none⟩ = some (.int .i64 a) := KX.out.cell 0
      have qKX_1 : w4.cell? ⟨w1.heap.size, 1, none⟩ = some (.slice A1 xs.length c1) := KX.out.cell 1
      have qKX_l : w1.heap.size < w4.heap.size := KX.out.lt
      clear hb4
      go_wp2_with fail
      refine (HC2.out w4 A1 c1 R1.out).mono ?_
      rintro e5 w5 ⟨rfl, hb5⟩
      clear qKX_0 qKX_1 qKX_l
      have HB5 := Lib.hid (HB4.out.trans (hb5.mono HB4.out.size))
      replace R1 := Lib.hid ((R1.out.below hb5).more hb5.size)
      replace KX := Lib.hid (KX.out.below hb5 KX.out.lt)
      have qKX_0 : w5.cell? ⟨w1.heap.size, 0, none⟩ = some (.int .i64 a) := KX.out.cell 0
      have qKX_1 : w5.cell? ⟨w1.heap.size, 1, none⟩ = some (.slice A1 xs.length c1) := KX.out.cell 1
      have qKX_l : w1.heap.size < w5.heap.size := KX.out.lt
      clear hb5
      go_wp2_with fail
      clear qKX_0 qKX_1 qKX_l
      have lKX_0 := later_blk_cell KX.out 0 _ rfl
      have lKX_1 := later_blk_cell KX.out 1 _ rfl
      have LKX := Lib.hid (later_blk KX.out)
      refine wp_region_later (by kernel_rfl) (by kernel_rfl) ?_
      repeat (first | (go_big_quiet_want; refine quiet_loadrow 27 _ rfl (w1.heap.size) rfl LKX.out Try.underlying27 rfl (by kernel_rfl) ?_; simp only [Act.put, List.setIfInBounds_toArray, List.set_cons_succ, List.set_cons_zero]; go_big_quiet_on) | (go_big_quiet_want; refine quiet_run 16 _ _ rfl #[.int .u64 most] ?_ (.float .f64 (fnat most)) (hf most) ?_; (· simp [Act.eval]); simp only [Act.put, List.setIfInBounds_toArray, List.set_cons_succ, List.set_cons_zero]; go_big_quiet_on) | go_big_quiet_step (first | (go_at_call 15; exact later_of (HU1.out _ A1 c1 ((R1.out.below (Later.bel _)).more (Later.bel _).size)))))
      refine wpQuiet_nil ?_
      intro w6 hw6
      obtain ⟨p6, hp6⟩ := hw6
      have hb6 : Below w5.heap.size w5 w6 := by rw [hp6]; exact p6.bel
      clear hp6 p6 lKX_0 lKX_1 LKX
      have HB6 := Lib.hid (HB5.out.trans (hb6.mono HB5.out.size))
      replace R1 := Lib.hid ((R1.out.below hb6).more hb6.size)
      replace KX := Lib.hid (KX.out.below hb6 KX.out.lt)
      have qKX_0 : w6.cell? ⟨w1.heap.size, 0, none⟩ = some (.int .i64 a) := KX.out.cell 0
      have qKX_1 : w6.cell? ⟨w1.heap.size, 1, none⟩ = some (.slice A1 xs.length c1) := KX.out.cell 1
      have qKX_l : w1.heap.size < w6.heap.size := KX.out.lt
      clear hb6
      go_wp2_with fail
      clear qKX_0 qKX_1 qKX_l
      have lKX_0 := later_blk_cell KX.out 0 _ rfl
      have lKX_1 := later_blk_cell KX.out 1 _ rfl
      have LKX := Lib.hid (later_blk KX.out)
      refine wp_region_later (by kernel_rfl) (by kernel_rfl) ?_
      repeat (first | (go_big_quiet_want; refine quiet_loadrow 27 _ rfl (w1.heap.size) rfl LKX.out Try.underlying27 rfl (by kernel_rfl) ?_; simp only [Act.put, List.setIfInBounds_toArray, List.set_cons_succ, List.set_cons_zero]; go_big_quiet_on) | (go_big_quiet_want; refine quiet_run 17 _ _ rfl #[.float .f64 (fnat us)] ?_ (.int .u64 us) hbu ?_; (· simp [Act.eval]); simp only [Act.put, List.setIfInBounds_toArray, List.set_cons_succ, List.set_cons_zero]; go_big_quiet_on) | (go_big_quiet_want; refine quiet_run 17 _ _ rfl #[.float .f64 (fnat s)] ?_ (.int .u64 s) hbs ?_; (· simp [Act.eval]); simp only [Act.put, List.setIfInBounds_toArray, List.set_cons_succ, List.set_cons_zero]; go_big_quiet_on) | go_big_quiet_step (first | (go_at_call 18; exact later_of (HK1.out _ A1 c1 ((R1.out.below (Later.bel _)).more (Later.bel _).size))) | (go_at_call 19; exact later_of (HK2.out _ A1 c1 ((R1.out.below (Later.bel _)).more (Later.bel _).size)))))
      refine wpQuiet_nil ?_
      intro w7 hw7
      obtain ⟨p7, hp7⟩ := hw7
      have hb7 : Below w6.heap.size w6 w7 := by rw [hp7]; exact p7.bel
      clear hp7 p7 lKX_0 lKX_1 LKX
      have HB7 := Lib.hid (HB6.out.trans (hb7.mono HB6.out.size))
      replace R1 := Lib.hid ((R1.out.below hb7).more hb7.size)
      replace KX := Lib.hid (KX.out.below hb7 KX.out.lt)
      have qKX_0 : w7.cell? ⟨w1.heap.size, 0, none⟩ = some (.int .i64 a) := KX.out.cell 0
      have qKX_1 : w7.cell? ⟨w1.heap.size, 1, none⟩ = some (.slice A1 xs.length c1) := KX.out.cell 1
      have qKX_l : w1.heap.size < w7.heap.size := KX.out.lt
      clear hb7
      go_wp2_with (first | (go_at_call 20; refine (kind_any _ _).mono ?_; rintro e w' ⟨rfl, rfl⟩) | (go_at_call 21; refine (HCMP.out _).mono ?_; rintro e w' ⟨rfl, rfl⟩) | (go_at_call 9; refine (known15_any _).mono ?_; rintro e wk ⟨rfl, hbk⟩))
      go_ret
      exact ⟨rfl, HB7.out.trans (hbk.mono HB7.out.size)⟩
    · have hp : p = decide (0 < cm) := by rw [HSV.out, if_pos hes, if_neg h3]
      have hep : ep = 0 := by rw [HSE.out, if_pos hes, if_neg h3]
      have hq : (kindZ most == 3) = false := beq_false_of_ne h3
      subst hes; subst hp; subst hep
      clear HSV HSE h3
      go_enter Try.func3, Try.ntmps3
      go_wp2_with fail
      refine (HO1.out w HRA.out).mono ?_
      rintro e1 w1 ⟨A1, c1, rfl, ho1, hb1⟩
      have HB1 := Lib.hid (HB0.out.trans (hb1.mono HB0.out.size))
      replace HRA := Lib.hid ((HRA.out.below hb1).more hb1.size)
      have R1 := Lib.hid (ownRow ho1)
      clear hb1
      clear ho1
      have HAKX := Lib.hid (HB1.out.alloc HB1.out.size (.cells #[.int .i64 a, .slice A1 xs.length c1] 27))
      replace R1 := Lib.hid (row_up15 R1.out (.cells #[.int .i64 a, .slice A1 xs.length c1] 27))
      have KX : Hid (Blk (w1.alloc (.cells #[.int .i64 a, .slice A1 xs.length c1] 27)) w1.heap.size 27 #[.int .i64 a, .slice A1 xs.length c1]) := Lib.hid (Blk.new _ _ _)
      go_wp2_with fail
      refine (HV1.out (w1.alloc (.cells #[.int .i64 a, .slice A1 xs.length c1] 27)) A1 c1 R1.out).mono ?_
      rintro e2 w2 ⟨rfl, hb2⟩
      have HB2 := Lib.hid (HAKX.out.trans (hb2.mono HAKX.out.size))
      replace R1 := Lib.hid ((R1.out.below hb2).more hb2.size)
      replace KX := Lib.hid (KX.out.below hb2 KX.out.lt)
      have qKX_0 : w2.cell? ⟨w1.heap.size, 0, none⟩ = some (.int .i64 a) := KX.out.cell 0
      have qKX_1 : w2.cell? ⟨w1.heap.size, 1, none⟩ = some (.slice A1 xs.length c1) := KX.out.cell 1
      have qKX_l : w1.heap.size < w2.heap.size := KX.out.lt
      clear hb2
      go_wp2_with fail
      refine (HV2.out w2 A1 c1 R1.out).mono ?_
      rintro e3 w3 ⟨rfl, hb3⟩
      clear qKX_0 qKX_1 qKX_l
      have HB3 := Lib.hid (HB2.out.trans (hb3.mono HB2.out.size))
      replace R1 := Lib.hid ((R1.out.below hb3).more hb3.size)
      replace KX := Lib.hid (KX.out.below hb3 KX.out.lt)
      have qKX_0 : w3.cell? ⟨w1.heap.size, 0, none⟩ = some (.int .i64 a) := KX.out.cell 0
      have qKX_1 : w3.cell? ⟨w1.heap.size, 1, none⟩ = some (.slice A1 xs.length c1) := KX.out.cell 1
      have qKX_l : w1.heap.size < w3.heap.size := KX.out.lt
      clear hb3
      go_wp2_with fail
      refine (HC1.out w3 A1 c1 R1.out).mono ?_
      rintro e4 w4 ⟨rfl, hb4⟩
      clear qKX_0 qKX_1 qKX_l
      have HB4 := Lib.hid (HB3.out.trans (hb4.mono HB3.out.size))
      replace R1 := Lib.hid ((R1.out.below hb4).more hb4.size)
      replace KX := Lib.hid (KX.out.below hb4 KX.out.lt)
      have qKX_0 : w4.cell? ⟨w1.heap.size, 0, none⟩ = some (.int .i64 a) := KX.out.cell 0
      have qKX_1 : w4.cell? ⟨w1.heap.size, 1, none⟩ = some (.slice A1 xs.length c1) := KX.out.cell 1
      have qKX_l : w1.heap.size < w4.heap.size := KX.out.lt
      clear hb4
      go_wp2_with fail
      refine (HC2.out w4 A1 c1 R1.out).mono ?_
      rintro e5 w5 ⟨rfl, hb5⟩
      clear qKX_0 qKX_1 qKX_l
      have HB5 := Lib.hid (HB4.out.trans (hb5.mono HB4.out.size))
      replace R1 := Lib.hid ((R1.out.below hb5).more hb5.size)
      replace KX := Lib.hid (KX.out.below hb5 KX.out.lt)
      have qKX_0 : w5.cell? ⟨w1.heap.size, 0, none⟩ = some (.int .i64 a) := KX.out.cell 0
      have qKX_1 : w5.cell? ⟨w1.heap.size, 1, none⟩ = some (.slice A1 xs.length c1) := KX.out.cell 1
      have qKX_l : w1.heap.size < w5.heap.size := KX.out.lt
      clear hb5
      go_wp2_with fail
      clear qKX_0 qKX_1 qKX_l
      have lKX_0 := later_blk_cell KX.out 0 _ rfl
      have lKX_1 := later_blk_cell KX.out 1 _ rfl
      have LKX := Lib.hid (later_blk KX.out)
      refine wp_region_later (by kernel_rfl) (by kernel_rfl) ?_
      repeat (first | (go_big_quiet_want; refine quiet_loadrow 27 _ rfl (w1.heap.size) rfl LKX.out Try.underlying27 rfl (by kernel_rfl) ?_; simp only [Act.put, List.setIfInBounds_toArray, List.set_cons_succ, List.set_cons_zero]; go_big_quiet_on) | (go_big_quiet_want; refine quiet_run 16 _ _ rfl #[.int .u64 most] ?_ (.float .f64 (fnat most)) (hf most) ?_; (· simp [Act.eval]); simp only [Act.put, List.setIfInBounds_toArray, List.set_cons_succ, List.set_cons_zero]; go_big_quiet_on) | go_big_quiet_step (first | (go_at_call 15; exact later_of (HU1.out _ A1 c1 ((R1.out.below (Later.bel _)).more (Later.bel _).size)))))
      refine wpQuiet_nil ?_
      intro w6 hw6
      obtain ⟨p6, hp6⟩ := hw6
      have hb6 : Below w5.heap.size w5 w6 := by rw [hp6]; exact p6.bel
      clear hp6 p6 lKX_0 lKX_1 LKX
      have HB6 := Lib.hid (HB5.out.trans (hb6.mono HB5.out.size))
      replace R1 := Lib.hid ((R1.out.below hb6).more hb6.size)
      replace KX := Lib.hid (KX.out.below hb6 KX.out.lt)
      have qKX_0 : w6.cell? ⟨w1.heap.size, 0, none⟩ = some (.int .i64 a) := KX.out.cell 0
      have qKX_1 : w6.cell? ⟨w1.heap.size, 1, none⟩ = some (.slice A1 xs.length c1) := KX.out.cell 1
      have qKX_l : w1.heap.size < w6.heap.size := KX.out.lt
      clear hb6
      go_wp2_with fail
      clear qKX_0 qKX_1 qKX_l
      have lKX_0 := later_blk_cell KX.out 0 _ rfl
      have lKX_1 := later_blk_cell KX.out 1 _ rfl
      have LKX := Lib.hid (later_blk KX.out)
      refine wp_region_later (by kernel_rfl) (by kernel_rfl) ?_
      repeat (first | (go_big_quiet_want; refine quiet_loadrow 27 _ rfl (w1.heap.size) rfl LKX.out Try.underlying27 rfl (by kernel_rfl) ?_; simp only [Act.put, List.setIfInBounds_toArray, List.set_cons_succ, List.set_cons_zero]; go_big_quiet_on) | (go_big_quiet_want; refine quiet_run 17 _ _ rfl #[.float .f64 (fnat us)] ?_ (.int .u64 us) hbu ?_; (· simp [Act.eval]); simp only [Act.put, List.setIfInBounds_toArray, List.set_cons_succ, List.set_cons_zero]; go_big_quiet_on) | (go_big_quiet_want; refine quiet_run 17 _ _ rfl #[.float .f64 (fnat s)] ?_ (.int .u64 s) hbs ?_; (· simp [Act.eval]); simp only [Act.put, List.setIfInBounds_toArray, List.set_cons_succ, List.set_cons_zero]; go_big_quiet_on) | go_big_quiet_step (first | (go_at_call 18; exact later_of (HK1.out _ A1 c1 ((R1.out.below (Later.bel _)).more (Later.bel _).size))) | (go_at_call 19; exact later_of (HK2.out _ A1 c1 ((R1.out.below (Later.bel _)).more (Later.bel _).size)))))
      refine wpQuiet_nil ?_
      intro w7 hw7
      obtain ⟨p7, hp7⟩ := hw7
      have hb7 : Below w6.heap.size w6 w7 := by rw [hp7]; exact p7.bel
      clear hp7 p7 lKX_0 lKX_1 LKX
      have HB7 := Lib.hid (HB6.out.trans (hb7.mono HB6.out.size))
      replace R1 := Lib.hid ((R1.out.below hb7).more hb7.size)
      replace KX := Lib.hid (KX.out.below hb7 KX.out.lt)
      have qKX_0 : w7.cell? ⟨w1.heap.size, 0, none⟩ = some (.int .i64 a) := KX.out.cell 0
      have qKX_1 : w7.cell? ⟨w1.heap.size, 1, none⟩ = some (.slice A1 xs.length c1) := KX.out.cell 1
      have qKX_l : w1.heap.size < w7.heap.size := KX.out.lt
      clear hb7
      go_wp2_with (first | (go_at_call 20; refine (kind_any _ _).mono ?_; rintro e w' ⟨rfl, rfl⟩) | (go_at_call 21; refine (HCMP.out _).mono ?_; rintro e w' ⟨rfl, rfl⟩) | (go_at_call 9; refine (known15_any _).mono ?_; rintro e wk ⟨rfl, hbk⟩))
      go_ret
      exact ⟨rfl, HB7.out.trans (hbk.mono HB7.out.size)⟩
  · have hp : p = false := by rw [HSV.out, if_neg (by omega)]
    have hep : ep = 2 := by rw [HSE.out, if_neg (by omega)]
    subst hes; subst hp; subst hep
    clear HSV HSE
    go_enter Try.func3, Try.ntmps3
    go_wp2_with fail
    refine (HO1.out w HRA.out).mono ?_
    rintro e1 w1 ⟨A1, c1, rfl, ho1, hb1⟩
    have HB1 := Lib.hid (HB0.out.trans (hb1.mono HB0.out.size))
    replace HRA := Lib.hid ((HRA.out.below hb1).more hb1.size)
    have R1 := Lib.hid (ownRow ho1)
    clear hb1
    clear ho1
    have HAKX := Lib.hid (HB1.out.alloc HB1.out.size (.cells #[.int .i64 a, .slice A1 xs.length c1] 27))
    replace R1 := Lib.hid (row_up15 R1.out (.cells #[.int .i64 a, .slice A1 xs.length c1] 27))
    have KX : Hid (Blk (w1.alloc (.cells #[.int .i64 a, .slice A1 xs.length c1] 27)) w1.heap.size 27 #[.int .i64 a, .slice A1 xs.length c1]) := Lib.hid (Blk.new _ _ _)
    go_wp2_with fail
    refine (HV1.out (w1.alloc (.cells #[.int .i64 a, .slice A1 xs.length c1] 27)) A1 c1 R1.out).mono ?_
    rintro e2 w2 ⟨rfl, hb2⟩
    have HB2 := Lib.hid (HAKX.out.trans (hb2.mono HAKX.out.size))
    replace R1 := Lib.hid ((R1.out.below hb2).more hb2.size)
    replace KX := Lib.hid (KX.out.below hb2 KX.out.lt)
    have qKX_0 : w2.cell? ⟨w1.heap.size, 0, none⟩ = some (.int .i64 a) := KX.out.cell 0
    have qKX_1 : w2.cell? ⟨w1.heap.size, 1, none⟩ = some (.slice A1 xs.length c1) := KX.out.cell 1
    have qKX_l : w1.heap.size < w2.heap.size := KX.out.lt
    clear hb2
    go_wp2_with fail
    refine (HV2.out w2 A1 c1 R1.out).mono ?_
    rintro e3 w3 ⟨rfl, hb3⟩
    clear qKX_0 qKX_1 qKX_l
    have HB3 := Lib.hid (HB2.out.trans (hb3.mono HB2.out.size))
    replace R1 := Lib.hid ((R1.out.below hb3).more hb3.size)
    replace KX := Lib.hid (KX.out.below hb3 KX.out.lt)
    have qKX_0 : w3.cell? ⟨w1.heap.size, 0, none⟩ = some (.int .i64 a) := KX.out.cell 0
    have qKX_1 : w3.cell? ⟨w1.heap.size, 1, none⟩ = some (.slice A1 xs.length c1) := KX.out.cell 1
    have qKX_l : w1.heap.size < w3.heap.size := KX.out.lt
    clear hb3
    go_wp2_with fail
    refine (HC1.out w3 A1 c1 R1.out).mono ?_
    rintro e4 w4 ⟨rfl, hb4⟩
    clear qKX_0 qKX_1 qKX_l
    have HB4 := Lib.hid (HB3.out.trans (hb4.mono HB3.out.size))
    replace R1 := Lib.hid ((R1.out.below hb4).more hb4.size)
    replace KX := Lib.hid (KX.out.below hb4 KX.out.lt)
    have qKX_0 : w4.cell? ⟨w1.heap.size, 0, none⟩ = some (.int .i64 a) := KX.out.cell 0
    have qKX_1 : w4.cell? ⟨w1.heap.size, 1, none⟩ = some (.slice A1 xs.length c1) := KX.out.cell 1
    have qKX_l : w1.heap.size < w4.heap.size := KX.out.lt
    clear hb4
    go_wp2_with fail
    refine (HC2.out w4 A1 c1 R1.out).mono ?_
    rintro e5 w5 ⟨rfl, hb5⟩
    clear qKX_0 qKX_1 qKX_l
    have HB5 := Lib.hid (HB4.out.trans (hb5.mono HB4.out.size))
    replace R1 := Lib.hid ((R1.out.below hb5).more hb5.size)
    replace KX := Lib.hid (KX.out.below hb5 KX.out.lt)
    have qKX_0 : w5.cell? ⟨w1.heap.size, 0, none⟩ = some (.int .i64 a) := KX.out.cell 0
    have qKX_1 : w5.cell? ⟨w1.heap.size, 1, none⟩ = some (.slice A1 xs.length c1) := KX.out.cell 1
    have qKX_l : w1.heap.size < w5.heap.size := KX.out.lt
    clear hb5
    go_wp2_with fail
    clear qKX_0 qKX_1 qKX_l
    have lKX_0 := later_blk_cell KX.out 0 _ rfl
    have lKX_1 := later_blk_cell KX.out 1 _ rfl
    have LKX := Lib.hid (later_blk KX.out)
    refine wp_region_later (by kernel_rfl) (by kernel_rfl) ?_
    repeat (first | (go_big_quiet_want; refine quiet_loadrow 27 _ rfl (w1.heap.size) rfl LKX.out Try.underlying27 rfl (by kernel_rfl) ?_; simp only [Act.put, List.setIfInBounds_toArray, List.set_cons_succ, List.set_cons_zero]; go_big_quiet_on) | (go_big_quiet_want; refine quiet_run 16 _ _ rfl #[.int .u64 most] ?_ (.float .f64 (fnat most)) (hf most) ?_; (· simp [Act.eval]); simp only [Act.put, List.setIfInBounds_toArray, List.set_cons_succ, List.set_cons_zero]; go_big_quiet_on) | go_big_quiet_step (first | (go_at_call 15; exact later_of (HU1.out _ A1 c1 ((R1.out.below (Later.bel _)).more (Later.bel _).size)))))
    refine wpQuiet_nil ?_
    intro w6 hw6
    obtain ⟨p6, hp6⟩ := hw6
    have hb6 : Below w5.heap.size w5 w6 := by rw [hp6]; exact p6.bel
    clear hp6 p6 lKX_0 lKX_1 LKX
    have HB6 := Lib.hid (HB5.out.trans (hb6.mono HB5.out.size))
    replace R1 := Lib.hid ((R1.out.below hb6).more hb6.size)
    replace KX := Lib.hid (KX.out.below hb6 KX.out.lt)
    have qKX_0 : w6.cell? ⟨w1.heap.size, 0, none⟩ = some (.int .i64 a) := KX.out.cell 0
    have qKX_1 : w6.cell? ⟨w1.heap.size, 1, none⟩ = some (.slice A1 xs.length c1) := KX.out.cell 1
    have qKX_l : w1.heap.size < w6.heap.size := KX.out.lt
    clear hb6
    go_wp2_with fail
    clear qKX_0 qKX_1 qKX_l
    have lKX_0 := later_blk_cell KX.out 0 _ rfl
    have lKX_1 := later_blk_cell KX.out 1 _ rfl
    have LKX := Lib.hid (later_blk KX.out)
    refine wp_region_later (by kernel_rfl) (by kernel_rfl) ?_
    repeat (first | (go_big_quiet_want; refine quiet_loadrow 27 _ rfl (w1.heap.size) rfl LKX.out Try.underlying27 rfl (by kernel_rfl) ?_; simp only [Act.put, List.setIfInBounds_toArray, List.set_cons_succ, List.set_cons_zero]; go_big_quiet_on) | (go_big_quiet_want; refine quiet_run 17 _ _ rfl #[.float .f64 (fnat us)] ?_ (.int .u64 us) hbu ?_; (· simp [Act.eval]); simp only [Act.put, List.setIfInBounds_toArray, List.set_cons_succ, List.set_cons_zero]; go_big_quiet_on) | (go_big_quiet_want; refine quiet_run 17 _ _ rfl #[.float .f64 (fnat s)] ?_ (.int .u64 s) hbs ?_; (· simp [Act.eval]); simp only [Act.put, List.setIfInBounds_toArray, List.set_cons_succ, List.set_cons_zero]; go_big_quiet_on) | go_big_quiet_step (first | (go_at_call 18; exact later_of (HK1.out _ A1 c1 ((R1.out.below (Later.bel _)).more (Later.bel _).size))) | (go_at_call 19; exact later_of (HK2.out _ A1 c1 ((R1.out.below (Later.bel _)).more (Later.bel _).size)))))
    refine wpQuiet_nil ?_
    intro w7 hw7
    obtain ⟨p7, hp7⟩ := hw7
    have hb7 : Below w6.heap.size w6 w7 := by rw [hp7]; exact p7.bel
    clear hp7 p7 lKX_0 lKX_1 LKX
    have HB7 := Lib.hid (HB6.out.trans (hb7.mono HB6.out.size))
    replace R1 := Lib.hid ((R1.out.below hb7).more hb7.size)
    replace KX := Lib.hid (KX.out.below hb7 KX.out.lt)
    have qKX_0 : w7.cell? ⟨w1.heap.size, 0, none⟩ = some (.int .i64 a) := KX.out.cell 0
    have qKX_1 : w7.cell? ⟨w1.heap.size, 1, none⟩ = some (.slice A1 xs.length c1) := KX.out.cell 1
    have qKX_l : w1.heap.size < w7.heap.size := KX.out.lt
    clear hb7
    go_wp2_with (first | (go_at_call 20; refine (kind_any _ _).mono ?_; rintro e w' ⟨rfl, rfl⟩) | (go_at_call 21; refine (HCMP.out _).mono ?_; rintro e w' ⟨rfl, rfl⟩) | (go_at_call 9; refine (known15_any _).mono ?_; rintro e wk ⟨rfl, hbk⟩))
    go_ret
    exact ⟨rfl, HB7.out.trans (hbk.mono HB7.out.size)⟩
end Go.Proofs.Ytkfapcigfgfeaaa
