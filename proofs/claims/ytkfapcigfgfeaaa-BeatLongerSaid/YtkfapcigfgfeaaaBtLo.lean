/- BtLo: BeatLonger returns true, whatever the arguments; what was there is left as it was. -/
import Derived.Test.YtkfapcigfgfeaaaBtI
import Derived.Test.YtkfapcigfgfeaaaBtL
namespace Go.Proofs.Ytkfapcigfgfeaaa
open Go.RowKit Flo Mem
set_option maxRecDepth 100000
set_option maxHeartbeats 2000000
set_option linter.unusedVariables false
theorem cmp_up {s t m : Int} (h0 : 0 ≤ s) (h : s ≤ t) (h1 : t ≤ 9218868437227405312) (hc : 0 < cmpZ s m) : 0 < cmpZ t m := by
  unfold cmpZ at *
  rw [can_plain h0 (by omega)] at hc
  rw [can_plain (by omega) h1]
  have k1 : keyZ s = s + 9223372036854775808 := by unfold keyZ; rw [if_neg (by omega)]
  have k2 : keyZ t = t + 9223372036854775808 := by unfold keyZ; rw [if_neg (by omega)]
  rw [k1] at hc
  rw [k2]
  have a1 := cmp3_range (s + 9223372036854775808) (keyZ (canZ m))
  have a2 := cmp3_range (t + 9223372036854775808) (keyZ (canZ m))
  omega
theorem longer_walk (last a b most : Int) (xs : List Int) (n c : Nat) (A : Option Addr) (hn : n = xs.length) (hw : ∀ x ∈ xs, Word x) (hm : Word most) (ha : 0 ≤ a) (ha2 : a ≤ 4294967295) (hb0 : 0 ≤ b) (hb2 : b ≤ 4294967295) (w : World) (h : Row w w.heap.size A (xs.map uW)) :
    Calls Try.prog 6 #[.int .i64 last, .slice A n c, .int .u32 a, .int .u32 b, .int .u64 most] w (Ret (.bool true) w) := by
  subst hn
  have hf := run_frombits
  have HB0 : Hid (Below w.heap.size w w) := Lib.hid (Below.refl _ _)
  by_cases h30 : 30 < xs.length
  · have h30' : (30 : Int) < (xs.length : Int) := by omega
    clear h hw
    go_enter Try.func6, Try.ntmps6
    go_wp2_with (go_at_call 9; refine (known15_any _).mono ?_; rintro e w' ⟨rfl, hb⟩)
    go_ret
    exact ⟨rfl, hb⟩
  have h30' : (xs.length : Int) ≤ 30 := by omega
  have L1 : Hid (xs.length ≤ 200) := Lib.hid (by omega)
  have W1 := Lib.hid hw
  have HM := Lib.hid hm
  have HO1 : Hid (∀ W, Row W W.heap.size A (xs.map uW) → Calls Try.prog 10 #[.int .i64 last, .slice A xs.length c] W (OfP last xs W)) := Lib.hid fun W h => of_any15 last xs xs.length c A rfl L1.out W h
  have HK2 : Hid (∀ W A c, Row W W.heap.size A (xs.map fv) → Calls Try.prog 19 #[.agg (bC last A xs.length c)] W (Ret (.int .i64 (chkE last xs)) W)) := Lib.hid fun W A c h => refcheck_any last xs _ c A rfl L1.out W1.out W h
  have HRA := Lib.hid h
  unfold OfP bC at HO1
  unfold bC at HK2
  clear h hw hm h30
  rcases chk_cases last xs with ⟨hc, ok⟩ | ⟨hc, _⟩
  rotate_left
  · rw [hc] at HK2
    clear hc
    go_enter Try.func6, Try.ntmps6
    go_wp2_with fail
    refine (HO1.out w HRA.out).mono ?_
    rintro e1 w1 ⟨A1, c1, rfl, ho1, hb1⟩
    have HB1 := Lib.hid (HB0.out.trans (hb1.mono HB0.out.size))
    replace HRA := Lib.hid ((HRA.out.below hb1).more hb1.size)
    have R1 := Lib.hid (ownRow ho1)
    clear hb1
    clear ho1
    have HAKX := Lib.hid (HB1.out.alloc HB1.out.size (.cells #[.int .i64 last, .slice A1 xs.length c1] 27))
    replace R1 := Lib.hid (row_up15 R1.out (.cells #[.int .i64 last, .slice A1 xs.length c1] 27))
    have KX : Hid (Blk (w1.alloc (.cells #[.int .i64 last, .slice A1 xs.length c1] 27)) w1.heap.size 27 #[.int .i64 last, .slice A1 xs.length c1]) := Lib.hid (Blk.new _ _ _)
    go_wp2_with fail
    refine (HK2.out (w1.alloc (.cells #[.int .i64 last, .slice A1 xs.length c1] 27)) A1 c1 R1.out).mono ?_
    rintro e2 w2 ⟨rfl, hb2⟩
    have HB2 := Lib.hid (HAKX.out.trans (hb2.mono HAKX.out.size))
    replace R1 := Lib.hid ((R1.out.below hb2).more hb2.size)
    replace KX := Lib.hid (KX.out.below hb2 KX.out.lt)
    have qKX_0 : w2.cell? ⟨w1.heap.size, 0, none⟩ = some (.int .i64 last) := KX.out.cell 0
    have qKX_1 : w2.cell? ⟨w1.heap.size, 1, none⟩ = some (.slice A1 xs.length c1) := KX.out.cell 1
    have qKX_l : w1.heap.size < w2.heap.size := KX.out.lt
    clear hb2
    go_wp2_with (first | (go_at_call 20; refine (kind_any _ _).mono ?_; rintro e w' ⟨rfl, rfl⟩) | (go_at_call 21; refine (HCMP.out _).mono ?_; rintro e w' ⟨rfl, rfl⟩) | (go_at_call 9; refine (known15_any _).mono ?_; rintro e wk ⟨rfl, hbk⟩))
    go_ret
    exact ⟨rfl, HB2.out.trans (hbk.mono HB2.out.size)⟩
  rw [hc] at HK2
  have o1 := ok.1
  have o2 := ok.2.1
  by_cases hbig : 1099511627775 < last + a + b
  · clear hc ok
    go_enter Try.func6, Try.ntmps6
    go_wp2_with fail
    refine (HO1.out w HRA.out).mono ?_
    rintro e1 w1 ⟨A1, c1, rfl, ho1, hb1⟩
    have HB1 := Lib.hid (HB0.out.trans (hb1.mono HB0.out.size))
    replace HRA := Lib.hid ((HRA.out.below hb1).more hb1.size)
    have R1 := Lib.hid (ownRow ho1)
    clear hb1
    clear ho1
    have HAKX := Lib.hid (HB1.out.alloc HB1.out.size (.cells #[.int .i64 last, .slice A1 xs.length c1] 27))
    replace R1 := Lib.hid (row_up15 R1.out (.cells #[.int .i64 last, .slice A1 xs.length c1] 27))
    have KX : Hid (Blk (w1.alloc (.cells #[.int .i64 last, .slice A1 xs.length c1] 27)) w1.heap.size 27 #[.int .i64 last, .slice A1 xs.length c1]) := Lib.hid (Blk.new _ _ _)
    go_wp2_with fail
    refine (HK2.out (w1.alloc (.cells #[.int .i64 last, .slice A1 xs.length c1] 27)) A1 c1 R1.out).mono ?_
    rintro e2 w2 ⟨rfl, hb2⟩
    have HB2 := Lib.hid (HAKX.out.trans (hb2.mono HAKX.out.size))
    replace R1 := Lib.hid ((R1.out.below hb2).more hb2.size)
    replace KX := Lib.hid (KX.out.below hb2 KX.out.lt)
    have qKX_0 : w2.cell? ⟨w1.heap.size, 0, none⟩ = some (.int .i64 last) := KX.out.cell 0
    have qKX_1 : w2.cell? ⟨w1.heap.size, 1, none⟩ = some (.slice A1 xs.length c1) := KX.out.cell 1
    have qKX_l : w1.heap.size < w2.heap.size := KX.out.lt
    clear hb2
    go_wp2_with (first | (go_at_call 20; refine (kind_any _ _).mono ?_; rintro e w' ⟨rfl, rfl⟩) | (go_at_call 21; refine (HCMP.out _).mono ?_; rintro e w' ⟨rfl, rfl⟩) | (go_at_call 9; refine (known15_any _).mono ?_; rintro e wk ⟨rfl, hbk⟩))
    go_ret
    exact ⟨rfl, HB2.out.trans (hbk.mono HB2.out.size)⟩
  have hr1 : rgtE last xs (last + a) = 0 := rgt_ok hc (by omega) (by omega)
  have hr2 : rgtE last xs (last + a + b) = 0 := rgt_ok hc (by omega) (by omega)
  have hr3 : rgtE last xs last = 0 := rgt_ok hc (by omega) (by omega)
  have HC1 : Hid (∀ W A c, Row W W.heap.size A (xs.map fv) → Calls Try.prog 13 #[.agg (bC last A xs.length c), .int .i64 (last + a)] W (Ret (.tuple #[.float .f64 (fnat (scZ xs a)), .int .i64 0]) W)) := Lib.hid fun W A c h => by
    have := score_ok last xs _ c A rfl L1.out W1.out (last + a) hr1 W h
    rw [show last + a - last = a by omega] at this; exact this
  have HC2 : Hid (∀ W A c, Row W W.heap.size A (xs.map fv) → Calls Try.prog 13 #[.agg (bC last A xs.length c), .int .i64 (last + a + b)] W (Ret (.tuple #[.float .f64 (fnat (scZ xs (a + b))), .int .i64 0]) W)) := Lib.hid fun W A c h => by
    have := score_ok last xs _ c A rfl L1.out W1.out (last + a + b) hr2 W h
    rw [show last + a + b - last = a + b by omega] at this; exact this
  have HC3 : Hid (∀ W A c, Row W W.heap.size A (xs.map fv) → Calls Try.prog 13 #[.agg (bC last A xs.length c), .int .i64 last] W (Ret (.tuple #[.float .f64 0, .int .i64 0]) W)) := Lib.hid fun W A c h => by
    have := score_ok last xs _ c A rfl L1.out W1.out last hr3 W h
    rw [show last - last = 0 by omega, sc_nought W1.out ok] at this; exact this
  have HU1 : Hid (∀ W A c, Row W W.heap.size A (xs.map fv) → Calls Try.prog 15 #[.agg (bC last A xs.length c), .int .i64 (last + a), .float .f64 (fnat most)] W (Ret (.tuple #[.bool (susV xs a most), .int .i64 (susE most)]) W)) := Lib.hid fun W A c h => by
    have := suspect_ok last xs _ c A rfl L1.out W1.out (last + a) most HM.out hr1 W h
    rw [show last + a - last = a by omega] at this; exact this
  have HU2 : Hid (∀ W A c, Row W W.heap.size A (xs.map fv) → Calls Try.prog 15 #[.agg (bC last A xs.length c), .int .i64 (last + a + b), .float .f64 (fnat most)] W (Ret (.tuple #[.bool (susV xs (a + b) most), .int .i64 (susE most)]) W)) := Lib.hid fun W A c h => by
    have := suspect_ok last xs _ c A rfl L1.out W1.out (last + a + b) most HM.out hr2 W h
    rw [show last + a + b - last = a + b by omega] at this; exact this
  have hab : a + b ≤ 1099511627775 := by omega
  have f1 := sc_facts W1.out ok (d := a) ha (by omega)
  have f2 := sc_facts W1.out ok (d := a + b) (by omega) hab
  have f3 := sc_mono W1.out ok (d := a) (d' := a + b) ha (by omega) hab
  have hpq : susV xs a most = false ∨ (susV xs a most = true ∧ susV xs (a + b) most = true) := by
    unfold susV
    by_cases h3 : kindZ most = 3
    · rw [if_pos h3]; exact Or.inl rfl
    · rw [if_neg h3, if_neg h3]
      by_cases hc : 0 < cmpZ (scZ xs a) most
      · exact Or.inr ⟨decide_eq_true hc, decide_eq_true (cmp_up f1.1 f3 f2.2 hc)⟩
      · exact Or.inl (decide_eq_false hc)
  generalize scZ xs a = s at *
  generalize scZ xs (a + b) = t at *
  generalize susV xs a most = p at *
  generalize susV xs (a + b) most = q at *
  generalize susE most = ep at *
  have ps := plain_word f1.1 f1.2
  have pt := plain_word f2.1 f2.2
  have g1 : (FloatKind.f64.format.order (fnat t) (fnat s) == some .lt) = false := by
    have := lt_num pt.1 ps.1 pt.2.1 ps.2.1
    unfold ltB at this
    rw [this, ps.2.2, pt.2.2]; exact decide_eq_false (by omega)
  have g2 : (FloatKind.f64.format.order (fnat s) (fnat s) != some .eq) = false := by rw [ne_self ps.1]; exact decide_eq_false ps.2.1
  have g3 : (FloatKind.f64.format.order (fnat t) (fnat t) != some .eq) = false := by rw [ne_self pt.1]; exact decide_eq_false pt.2.1
  have g4 := run_bits0
  unfold bC at HC1 HC2 HC3 HU1 HU2
  clear hc ok f1 f2 f3 ps pt hr1 hr2 hr3 hab
  rcases hpq with hp | ⟨hp, hq⟩
  · subst hp
    go_enter Try.func6, Try.ntmps6
    go_wp2_with fail
    refine (HO1.out w HRA.out).mono ?_
    rintro e1 w1 ⟨A1, c1, rfl, ho1, hb1⟩
    have HB1 := Lib.hid (HB0.out.trans (hb1.mono HB0.out.size))
    replace HRA := Lib.hid ((HRA.out.below hb1).more hb1.size)
    have R1 := Lib.hid (ownRow ho1)
    clear hb1
    clear ho1
    have HAKX := Lib.hid (HB1.out.alloc HB1.out.size (.cells #[.int .i64 last, .slice A1 xs.length c1] 27))
    replace R1 := Lib.hid (row_up15 R1.out (.cells #[.int .i64 last, .slice A1 xs.length c1] 27))
    have KX : Hid (Blk (w1.alloc (.cells #[.int .i64 last, .slice A1 xs.length c1] 27)) w1.heap.size 27 #[.int .i64 last, .slice A1 xs.length c1]) := Lib.hid (Blk.new _ _ _)
    go_wp2_with fail
    refine (HK2.out (w1.alloc (.cells #[.int .i64 last, .slice A1 xs.length c1] 27)) A1 c1 R1.out).mono ?_
    rintro e2 w2 ⟨rfl, hb2⟩
    have HB2 := Lib.hid (HAKX.out.trans (hb2.mono HAKX.out.size))
    replace R1 := Lib.hid ((R1.out.below hb2).more hb2.size)
    replace KX := Lib.hid (KX.out.below hb2 KX.out.lt)
    have qKX_0 : w2.cell? ⟨w1.heap.size, 0, none⟩ = some (.int .i64 last) := KX.out.cell 0
    have qKX_1 : w2.cell? ⟨w1.heap.size, 1, none⟩ = some (.slice A1 xs.length c1) := KX.out.cell 1
    have qKX_l : w1.heap.size < w2.heap.size := KX.out.lt
    clear hb2
    go_wp2_with fail
    refine (HC1.out w2 A1 c1 R1.out).mono ?_
    rintro e3 w3 ⟨rfl, hb3⟩
    clear qKX_0 qKX_1 qKX_l
    have HB3 := Lib.hid (HB2.out.trans (hb3.mono HB2.out.size))
    replace R1 := Lib.hid ((R1.out.below hb3).more hb3.size)
    replace KX := Lib.hid (KX.out.below hb3 KX.out.lt)
    have qKX_0 : w3.cell? ⟨w1.heap.size, 0, none⟩ = some (.int .i64 last) := KX.out.cell 0
    have qKX_1 : w3.cell? ⟨w1.heap.size, 1, none⟩ = some (.slice A1 xs.length c1) := KX.out.cell 1
    have qKX_l : w1.heap.size < w3.heap.size := KX.out.lt
    clear hb3
    go_wp2_with fail
    refine (HC2.out w3 A1 c1 R1.out).mono ?_
    rintro e4 w4 ⟨rfl, hb4⟩
    clear qKX_0 qKX_1 qKX_l
    have HB4 := Lib.hid (HB3.out.trans (hb4.mono HB3.out.size))
    replace R1 := Lib.hid ((R1.out.below hb4).more hb4.size)
    replace KX := Lib.hid (KX.out.below hb4 KX.out.lt)
    have qKX_0 : w4.cell? ⟨w1.heap.size, 0, none⟩ = some (.int .i64 last) := KX.out.cell 0
    have qKX_1 : w4.cell? ⟨w1.heap.size, 1, none⟩ = some (.slice A1 xs.length c1) := KX.out.cell 1
    have qKX_l : w1.heap.size < w4.heap.size := KX.out.lt
    clear hb4
    go_wp2_with fail
    refine (HC3.out w4 A1 c1 R1.out).mono ?_
    rintro e5 w5 ⟨rfl, hb5⟩
    clear qKX_0 qKX_1 qKX_l
    have HB5 := Lib.hid (HB4.out.trans (hb5.mono HB4.out.size))
    replace R1 := Lib.hid ((R1.out.below hb5).more hb5.size)
    replace KX := Lib.hid (KX.out.below hb5 KX.out.lt)
    have qKX_0 : w5.cell? ⟨w1.heap.size, 0, none⟩ = some (.int .i64 last) := KX.out.cell 0
    have qKX_1 : w5.cell? ⟨w1.heap.size, 1, none⟩ = some (.slice A1 xs.length c1) := KX.out.cell 1
    have qKX_l : w1.heap.size < w5.heap.size := KX.out.lt
    clear hb5
    go_wp2_with fail
    clear qKX_0 qKX_1 qKX_l
    have lKX_0 := later_blk_cell KX.out 0 _ rfl
    have lKX_1 := later_blk_cell KX.out 1 _ rfl
    have LKX := Lib.hid (later_blk KX.out)
    refine wp_region_later (by kernel_rfl) (by kernel_rfl) ?_
    repeat (first | (go_big_quiet_want; refine quiet_loadrow 27 _ rfl (w1.heap.size) rfl LKX.out Try.underlying27 rfl (by kernel_rfl) ?_; simp only [Act.put, List.setIfInBounds_toArray, List.set_cons_succ, List.set_cons_zero]; go_big_quiet_on) | (go_big_quiet_want; refine quiet_run 16 _ _ rfl #[.int .u64 most] ?_ (.float .f64 (fnat most)) (hf most) ?_; (· simp [Act.eval]); simp only [Act.put, List.setIfInBounds_toArray, List.set_cons_succ, List.set_cons_zero]; go_big_quiet_on) | go_big_quiet_step (first | (go_at_call 15; exact later_of (HU1.out _ A1 c1 ((R1.out.below (Later.bel _)).more (Later.bel _).size)))))
    refine wpQuiet_nil ?_
    intro w6 hw6
    obtain ⟨p6, hp6⟩ := hw6
    have hb6 : Below w5.heap.size w5 w6 := by rw [hp6]; exact p6.bel
    clear hp6 p6 lKX_0 lKX_1 LKX
    have HB6 := Lib.hid (HB5.out.trans (hb6.mono HB5.out.size))
    replace R1 := Lib.hid ((R1.out.below hb6).more hb6.size)
    replace KX := Lib.hid (KX.out.below hb6 KX.out.lt)
    have qKX_0 : w6.cell? ⟨w1.heap.size, 0, none⟩ = some (.int .i64 last) := KX.out.cell 0
    have qKX_1 : w6.cell? ⟨w1.heap.size, 1, none⟩ = some (.slice A1 xs.length c1) := KX.out.cell 1
    have qKX_l : w1.heap.size < w6.heap.size := KX.out.lt
    clear hb6
    go_wp2_with fail
    clear qKX_0 qKX_1 qKX_l
    have lKX_0 := later_blk_cell KX.out 0 _ rfl
    have lKX_1 := later_blk_cell KX.out 1 _ rfl
    have LKX := Lib.hid (later_blk KX.out)
    refine wp_region_later (by kernel_rfl) (by kernel_rfl) ?_
    repeat (first | (go_big_quiet_want; refine quiet_loadrow 27 _ rfl (w1.heap.size) rfl LKX.out Try.underlying27 rfl (by kernel_rfl) ?_; simp only [Act.put, List.setIfInBounds_toArray, List.set_cons_succ, List.set_cons_zero]; go_big_quiet_on) | (go_big_quiet_want; refine quiet_run 16 _ _ rfl #[.int .u64 most] ?_ (.float .f64 (fnat most)) (hf most) ?_; (· simp [Act.eval]); simp only [Act.put, List.setIfInBounds_toArray, List.set_cons_succ, List.set_cons_zero]; go_big_quiet_on) | go_big_quiet_step (first | (go_at_call 15; exact later_of (HU2.out _ A1 c1 ((R1.out.below (Later.bel _)).more (Later.bel _).size)))))
    refine wpQuiet_nil ?_
    intro w7 hw7
    obtain ⟨p7, hp7⟩ := hw7
    have hb7 : Below w6.heap.size w6 w7 := by rw [hp7]; exact p7.bel
    clear hp7 p7 lKX_0 lKX_1 LKX
    have HB7 := Lib.hid (HB6.out.trans (hb7.mono HB6.out.size))
    replace R1 := Lib.hid ((R1.out.below hb7).more hb7.size)
    replace KX := Lib.hid (KX.out.below hb7 KX.out.lt)
    have qKX_0 : w7.cell? ⟨w1.heap.size, 0, none⟩ = some (.int .i64 last) := KX.out.cell 0
    have qKX_1 : w7.cell? ⟨w1.heap.size, 1, none⟩ = some (.slice A1 xs.length c1) := KX.out.cell 1
    have qKX_l : w1.heap.size < w7.heap.size := KX.out.lt
    clear hb7
    go_wp2_with (first | (go_at_call 20; refine (kind_any _ _).mono ?_; rintro e w' ⟨rfl, rfl⟩) | (go_at_call 21; refine (HCMP.out _).mono ?_; rintro e w' ⟨rfl, rfl⟩) | (go_at_call 9; refine (known15_any _).mono ?_; rintro e wk ⟨rfl, hbk⟩))
    go_ret
    exact ⟨rfl, HB7.out.trans (hbk.mono HB7.out.size)⟩
  · subst hp; subst hq
    go_enter Try.func6, Try.ntmps6
    go_wp2_with fail
    refine (HO1.out w HRA.out).mono ?_
    rintro e1 w1 ⟨A1, c1, rfl, ho1, hb1⟩
    have HB1 := Lib.hid (HB0.out.trans (hb1.mono HB0.out.size))
    replace HRA := Lib.hid ((HRA.out.below hb1).more hb1.size)
    have R1 := Lib.hid (ownRow ho1)
    clear hb1
    clear ho1
    have HAKX := Lib.hid (HB1.out.alloc HB1.out.size (.cells #[.int .i64 last, .slice A1 xs.length c1] 27))
    replace R1 := Lib.hid (row_up15 R1.out (.cells #[.int .i64 last, .slice A1 xs.length c1] 27))
    have KX : Hid (Blk (w1.alloc (.cells #[.int .i64 last, .slice A1 xs.length c1] 27)) w1.heap.size 27 #[.int .i64 last, .slice A1 xs.length c1]) := Lib.hid (Blk.new _ _ _)
    go_wp2_with fail
    refine (HK2.out (w1.alloc (.cells #[.int .i64 last, .slice A1 xs.length c1] 27)) A1 c1 R1.out).mono ?_
    rintro e2 w2 ⟨rfl, hb2⟩
    have HB2 := Lib.hid (HAKX.out.trans (hb2.mono HAKX.out.size))
    replace R1 := Lib.hid ((R1.out.below hb2).more hb2.size)
    replace KX := Lib.hid (KX.out.below hb2 KX.out.lt)
    have qKX_0 : w2.cell? ⟨w1.heap.size, 0, none⟩ = some (.int .i64 last) := KX.out.cell 0
    have qKX_1 : w2.cell? ⟨w1.heap.size, 1, none⟩ = some (.slice A1 xs.length c1) := KX.out.cell 1
    have qKX_l : w1.heap.size < w2.heap.size := KX.out.lt
    clear hb2
    go_wp2_with fail
    refine (HC1.out w2 A1 c1 R1.out).mono ?_
    rintro e3 w3 ⟨rfl, hb3⟩
    clear qKX_0 qKX_1 qKX_l
    have HB3 := Lib.hid (HB2.out.trans (hb3.mono HB2.out.size))
    replace R1 := Lib.hid ((R1.out.below hb3).more hb3.size)
    replace KX := Lib.hid (KX.out.below hb3 KX.out.lt)
    have qKX_0 : w3.cell? ⟨w1.heap.size, 0, none⟩ = some (.int .i64 last) := KX.out.cell 0
    have qKX_1 : w3.cell? ⟨w1.heap.size, 1, none⟩ = some (.slice A1 xs.length c1) := KX.out.cell 1
    have qKX_l : w1.heap.size < w3.heap.size := KX.out.lt
    clear hb3
    go_wp2_with fail
    refine (HC2.out w3 A1 c1 R1.out).mono ?_
    rintro e4 w4 ⟨rfl, hb4⟩
    clear qKX_0 qKX_1 qKX_l
    have HB4 := Lib.hid (HB3.out.trans (hb4.mono HB3.out.size))
    replace R1 := Lib.hid ((R1.out.below hb4).more hb4.size)
    replace KX := Lib.hid (KX.out.below hb4 KX.out.lt)
    have qKX_0 : w4.cell? ⟨w1.heap.size, 0, none⟩ = some (.int .i64 last) := KX.out.cell 0
    have qKX_1 : w4.cell? ⟨w1.heap.size, 1, none⟩ = some (.slice A1 xs.length c1) := KX.out.cell 1
    have qKX_l : w1.heap.size < w4.heap.size := KX.out.lt
    clear hb4
    go_wp2_with fail
    refine (HC3.out w4 A1 c1 R1.out).mono ?_
    rintro e5 w5 ⟨rfl, hb5⟩
    clear qKX_0 qKX_1 qKX_l
    have HB5 := Lib.hid (HB4.out.trans (hb5.mono HB4.out.size))
    replace R1 := Lib.hid ((R1.out.below hb5).more hb5.size)
    replace KX := Lib.hid (KX.out.below hb5 KX.out.lt)
    have qKX_0 : w5.cell? ⟨w1.heap.size, 0, none⟩ = some (.int .i64 last) := KX.out.cell 0
    have qKX_1 : w5.cell? ⟨w1.heap.size, 1, none⟩ = some (.slice A1 xs.length c1) := KX.out.cell 1
    have qKX_l : w1.heap.size < w5.heap.size := KX.out.lt
    clear hb5
    go_wp2_with fail
    clear qKX_0 qKX_1 qKX_l
    have lKX_0 := later_blk_cell KX.out 0 _ rfl
    have lKX_1 := later_blk_cell KX.out 1 _ rfl
    have LKX := Lib.hid (later_blk KX.out)
    refine wp_region_later (by kernel_rfl) (by kernel_rfl) ?_
    repeat (first | (go_big_quiet_want; refine quiet_loadrow 27 _ rfl (w1.heap.size) rfl LKX.out Try.underlying27 rfl (by kernel_rfl) ?_; simp only [Act.put, List.setIfInBounds_toArray, List.set_cons_succ, List.set_cons_zero]; go_big_quiet_on) | (go_big_quiet_want; refine quiet_run 16 _ _ rfl #[.int .u64 most] ?_ (.float .f64 (fnat most)) (hf most) ?_; (· simp [Act.eval]); simp only [Act.put, List.setIfInBounds_toArray, List.set_cons_succ, List.set_cons_zero]; go_big_quiet_on) | go_big_quiet_step (first | (go_at_call 15; exact later_of (HU1.out _ A1 c1 ((R1.out.below (Later.bel _)).more (Later.bel _).size)))))
    refine wpQuiet_nil ?_
    intro w6 hw6
    obtain ⟨p6, hp6⟩ := hw6
    have hb6 : Below w5.heap.size w5 w6 := by rw [hp6]; exact p6.bel
    clear hp6 p6 lKX_0 lKX_1 LKX
    have HB6 := Lib.hid (HB5.out.trans (hb6.mono HB5.out.size))
    replace R1 := Lib.hid ((R1.out.below hb6).more hb6.size)
    replace KX := Lib.hid (KX.out.below hb6 KX.out.lt)
    have qKX_0 : w6.cell? ⟨w1.heap.size, 0, none⟩ = some (.int .i64 last) := KX.out.cell 0
    have qKX_1 : w6.cell? ⟨w1.heap.size, 1, none⟩ = some (.slice A1 xs.length c1) := KX.out.cell 1
    have qKX_l : w1.heap.size < w6.heap.size := KX.out.lt
    clear hb6
    go_wp2_with fail
    clear qKX_0 qKX_1 qKX_l
    have lKX_0 := later_blk_cell KX.out 0 _ rfl
    have lKX_1 := later_blk_cell KX.out 1 _ rfl
    have LKX := Lib.hid (later_blk KX.out)
    refine wp_region_later (by kernel_rfl) (by kernel_rfl) ?_
    repeat (first | (go_big_quiet_want; refine quiet_loadrow 27 _ rfl (w1.heap.size) rfl LKX.out Try.underlying27 rfl (by kernel_rfl) ?_; simp only [Act.put, List.setIfInBounds_toArray, List.set_cons_succ, List.set_cons_zero]; go_big_quiet_on) | (go_big_quiet_want; refine quiet_run 16 _ _ rfl #[.int .u64 most] ?_ (.float .f64 (fnat most)) (hf most) ?_; (· simp [Act.eval]); simp only [Act.put, List.setIfInBounds_toArray, List.set_cons_succ, List.set_cons_zero]; go_big_quiet_on) | go_big_quiet_step (first | (go_at_call 15; exact later_of (HU2.out _ A1 c1 ((R1.out.below (Later.bel _)).more (Later.bel _).size)))))
    refine wpQuiet_nil ?_
    intro w7 hw7
    obtain ⟨p7, hp7⟩ := hw7
    have hb7 : Below w6.heap.size w6 w7 := by rw [hp7]; exact p7.bel
    clear hp7 p7 lKX_0 lKX_1 LKX
    have HB7 := Lib.hid (HB6.out.trans (hb7.mono HB6.out.size))
    replace R1 := Lib.hid ((R1.out.below hb7).more hb7.size)
    replace KX := Lib.hid (KX.out.below hb7 KX.out.lt)
    have qKX_0 : w7.cell? ⟨w1.heap.size, 0, none⟩ = some (.int .i64 last) := KX.out.cell 0
    have qKX_1 : w7.cell? ⟨w1.heap.size, 1, none⟩ = some (.slice A1 xs.length c1) := KX.out.cell 1
    have qKX_l : w1.heap.size < w7.heap.size := KX.out.lt
    clear hb7
    go_wp2_with (first | (go_at_call 20; refine (kind_any _ _).mono ?_; rintro e w' ⟨rfl, rfl⟩) | (go_at_call 21; refine (HCMP.out _).mono ?_; rintro e w' ⟨rfl, rfl⟩) | (go_at_call 9; refine (known15_any _).mono ?_; rintro e wk ⟨rfl, hbk⟩))
    go_ret
    exact ⟨rfl, HB7.out.trans (hbk.mono HB7.out.size)⟩
end Go.Proofs.Ytkfapcigfgfeaaa
