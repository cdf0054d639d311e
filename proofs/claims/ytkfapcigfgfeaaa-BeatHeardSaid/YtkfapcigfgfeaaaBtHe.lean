/- BtHe: BeatHeard returns true, whatever the arguments; what was there is left as it was. -/
import Derived.Test.YtkfapcigfgfeaaaBtV
import Derived.Test.YtkfapcigfgfeaaaBtL
import Derived.Deep.DeepCutAuto
import Derived.Deep.RegionLaw
namespace Go.Proofs.Ytkfapcigfgfeaaa
open Go.RowKit Flo Mem
set_option maxRecDepth 100000
set_option maxHeartbeats 2000000
set_option linter.unusedVariables false
theorem hY_facts {last now : Int} {xs : List Int} (hw : ∀ x ∈ xs, Word x) : (∀ x ∈ hY last xs now, Word x) ∧ (hY last xs now).length ≤ 16 ∧ (rgtE last xs now = 0 → hL last xs now = now ∧ OkB now (hY last xs now)) := by
  unfold hY hL
  rcases rgt_cases last xs now with ⟨h0, ok, h1, h2⟩ | h0
  · rw [if_pos h0, if_pos h0]
    exact ⟨next_word hw (tm_facts (d := now - last) (by omega) (by have := ok.1; omega)).1, next_len ok.2.2.1, fun _ => ⟨rfl, next_ok ok h1 h2⟩⟩
  · rw [if_neg (by omega), if_neg (by omega)]
    exact ⟨fun x hx => (by cases hx), by simp, fun e => by omega⟩
theorem heard_walk (last : Int) (zs ts : List Int) (n c0 nt ct : Nat) (A0 AT : Option Addr) (hn : n = zs.length) (hnt : nt = ts.length) (hw : ∀ x ∈ zs, Word x) (w : World) (h : Row w w.heap.size A0 (zs.map uW)) (ht : Row w w.heap.size AT (ts.map iV)) :
    Calls Try.prog 4 #[.int .i64 last, .slice A0 n c0, .slice AT nt ct] w (Ret (.bool true) w) := by
  subst hn; subst hnt
  by_cases h30 : 30 < zs.length
  · have h30' : (30 : Int) < (zs.length : Int) := by omega
    clear h hw ht
    go_enter Try.func4, Try.ntmps4
    go_wp2_with (go_at_call 9; refine (known15_any _).mono ?_; rintro e w' ⟨rfl, hb⟩)
    go_ret
    exact ⟨rfl, hb⟩
  have h30' : (zs.length : Int) ≤ 30 := by omega
  by_cases h60 : 60 < ts.length
  · have h60' : (60 : Int) < (ts.length : Int) := by omega
    clear h hw ht
    go_enter Try.func4, Try.ntmps4
    go_wp2_with (go_at_call 9; refine (known15_any _).mono ?_; rintro e w' ⟨rfl, hb⟩)
    go_ret
    exact ⟨rfl, hb⟩
  have h60' : (ts.length : Int) ≤ 60 := by omega
  have L1 : Hid (zs.length ≤ 200) := Lib.hid (by omega)
  have W0 := Lib.hid hw
  have HO1 : Hid (∀ W, Row W W.heap.size A0 (zs.map uW) → Calls Try.prog 10 #[.int .i64 last, .slice A0 zs.length c0] W (OfP last zs W)) := Lib.hid fun W h => of_any15 last zs zs.length c0 A0 rfl L1.out W h
  unfold OfP bC at HO1
  have HT := Lib.hid ht
  have HRA := Lib.hid h
  have hl30 : zs.length ≤ 30 := by omega
  clear h ht hw h30 h60
  go_enter Try.func4, Try.ntmps4
  go_wp2_with fail
  refine (HO1.out _ HRA.out).mono ?_
  rintro e1 w1 ⟨A1, c1, rfl, ho1, hb1⟩
  have HI0 := Lib.hid (UsH.start (last := last) hb1 ho1)
  clear hb1 ho1
  go_wp2
  go_loopw [8] (fun iv wr => ∃ (i : Nat) (L : Int) (xs : List Int) (A : Option Addr) (c : Nat), i ≤ ts.length ∧ iv = .int .i64 i ∧ xs.length ≤ 30 ∧ Hid (∀ x ∈ xs, Word x) ∧ Hid (UsH w wr w1.heap.size L xs A c)) (fun iv _ => ts.length - (intOf iv).toNat)
  case atStart => exact ⟨0, last, zs, A1, c1, by omega, rfl, hl30, W0, HI0⟩
  case round =>
    obtain ⟨i, L, xs, A, c, hi, rfl, hx30, HX, HI⟩ := hrel
    have hi0 : (0 : Int) ≤ (i : Int) := by omega
    have q0 : wr.cell? ⟨w1.heap.size, 0, none⟩ = some (.int .i64 L) := HI.out.hk.cell 0
    have q1 : wr.cell? ⟨w1.heap.size, 1, none⟩ = some (.slice A xs.length c) := HI.out.hk.cell 1
    have ql : w1.heap.size < wr.heap.size := HI.out.hk.lt
    by_cases hlt : i < ts.length
    rotate_left
    · have hlt2 : (ts.length : Int) ≤ (i : Int) := by omega
      have HNEW := Lib.hid fun W => new_any15 last W
      by_cases h0 : 0 ≤ last
      · by_cases h1 : last ≤ 1099511627775
        · rw [if_pos ⟨h0, h1⟩, if_pos ⟨h0, h1⟩] at HNEW
          go_wp2_with fail
          refine (HNEW.out _).mono ?_
          rintro e2 w2 ⟨rfl, hb2⟩
          have HB2 := Lib.hid (HI.out.hb.trans (hb2.mono HI.out.hb.size))
          clear hb2
          go_wp2_with (go_at_call 9; refine (known15_any _).mono ?_; rintro e wk ⟨rfl, hbk⟩)
          go_ret
          exact ⟨rfl, (HB2.out.alloc HB2.out.size _).trans (hbk.mono (HB2.out.alloc HB2.out.size _).size)⟩
        · rw [if_neg (fun h => h1 h.2), if_neg (fun h => h1 h.2)] at HNEW
          have h1' : 1099511627775 < last := by omega
          have hd1 : decide (last ≤ 1099511627775) = false := decide_eq_false h1
          clear h1
          go_wp2_with fail
          refine (HNEW.out _).mono ?_
          rintro e2 w2 ⟨rfl, hb2⟩
          have HB2 := Lib.hid (HI.out.hb.trans (hb2.mono HI.out.hb.size))
          clear hb2
          go_wp2_with (go_at_call 9; refine (known15_any _).mono ?_; rintro e wk ⟨rfl, hbk⟩)
          go_ret
          exact ⟨rfl, (HB2.out.alloc HB2.out.size _).trans (hbk.mono (HB2.out.alloc HB2.out.size _).size)⟩
      · rw [if_neg (fun h => h0 h.1), if_neg (fun h => h0 h.1)] at HNEW
        have h0' : last < 0 := by omega
        go_wp2_with fail
        refine (HNEW.out _).mono ?_
        rintro e2 w2 ⟨rfl, hb2⟩
        have HB2 := Lib.hid (HI.out.hb.trans (hb2.mono HI.out.hb.size))
        clear hb2
        go_wp2_with (go_at_call 9; refine (known15_any _).mono ?_; rintro e wk ⟨rfl, hbk⟩)
        go_ret
        exact ⟨rfl, (HB2.out.alloc HB2.out.size _).trans (hbk.mono (HB2.out.alloc HB2.out.size _).size)⟩
    have hlt2 : (i : Int) < (ts.length : Int) := by omega
    obtain ⟨bt, ot, rfl, hbt, hct⟩ := HT.out.open_ (by simp; omega)
    obtain ⟨t, htt⟩ : ∃ t, ts[i] = t := ⟨_, rfl⟩
    have HCT : Hid (w.cell? ⟨bt, ot + i, none⟩ = some (.int .i64 t)) := Lib.hid ((hct i (by simpa using hlt)).trans (by rw [← htt]; exact congrArg some (List.getElem_map (f := iV) (h := by simpa using hlt))))
    have HCL : Hid (bt < w.heap.size) := Lib.hid hbt
    clear hct htt hbt
    have hcell : wr.cell? ⟨bt, ot + i, none⟩ = some (.int .i64 t) := (HI.out.hb.cell (p := ⟨bt, ot + i, none⟩) HCL.out).trans HCT.out
    have hbl : bt < wr.heap.size := Nat.lt_of_lt_of_le HCL.out HI.out.hb.size
    have HF := Lib.hid (hY_facts (last := L) (now := t) HX.out)
    have HH1 : Hid (∀ W A c, xs.length ≤ c → Row W W.heap.size A (xs.map fv) → Calls Try.prog 22 #[.agg (bC L A xs.length c), .int .i64 t] W (HrdQ (hL L xs t) (hY L xs t) (rgtE L xs t) W)) := Lib.hid fun W A c hc h => heard_all L xs _ c A rfl (by omega) hc HX.out t W h
    have HH2 : Hid (∀ W A c, xs.length ≤ c → Row W W.heap.size A (xs.map fv) → Calls Try.prog 23 #[.agg (bC L A xs.length c), .int .i64 t] W (HrdQ (hL L xs t) (hY L xs t) (rgtE L xs t) W)) := Lib.hid fun W A c hc h => refheard_all L xs _ c A rfl (by omega) hc HX.out t W h
    have hes : rgtE L xs t = 0 ∨ rgtE L xs t = 2 := by
      rcases rgt_cases L xs t with h | h
      · exact Or.inl h.1
      · exact Or.inr h
    generalize hL L xs t = L2 at *
    generalize hY L xs t = ys at *
    generalize rgtE L xs t = er at *
    have HS1 : Hid (∀ W A A' c c', Row W W.heap.size A (ys.map fv) → Row W W.heap.size A' (ys.map fv) → Calls Try.prog 25 #[.agg (bC L2 A ys.length c), .agg (bC L2 A' ys.length c')] W (Ret (.bool true) W)) := Lib.hid fun W A A' c c' h h' => by
      have := samebeats_any L2 L2 _ _ c c' A A' ys ys rfl rfl (by have := HF.out.2.1; omega) (by have := HF.out.2.1; omega) HF.out.1 HF.out.1 W h h'
      rw [show sameB L2 ys L2 ys = true from decide_eq_true ⟨rfl, rfl⟩] at this; exact this
    have HS2 : Hid (∀ W A A' c c', Row W W.heap.size A (ys.map fv) → Row W W.heap.size A' (ys.map fv) → Calls Try.prog 24 #[.agg (bC L2 A ys.length c), .agg (bC L2 A' ys.length c')] W (Ret (.bool true) W)) := Lib.hid fun W A A' c c' h h' => by
      have := refsamebeats_any L2 L2 _ _ c c' A A' ys ys rfl rfl (by have := HF.out.2.1; omega) (by have := HF.out.2.1; omega) HF.out.1 HF.out.1 W h h'
      rw [show sameB L2 ys L2 ys = true from decide_eq_true ⟨rfl, rfl⟩] at this; exact this
    unfold bC HrdQ at HH1 HH2
    unfold bC at HS1 HS2
    go_upto_region 7 with fail
    go_cut [9, 10] (fun pc ec wx => ec = .int .i64 er ∧ ∃ gc A2 c2, pc = .pointer (some ⟨gc, 0, none⟩) ∧ CB wr wx gc L2 ys A2 c2)
    case first =>
      go_region_law (first
        | (go_simp; go_at_call 22; refine (HH1.out _ A c HI.out.hc ?_).mono ?_; exact (HI.out.hr.below (Below.refl _ _).drew).row; rintro e2 w2 ⟨A2, c2, rfl, ho2, hb2⟩; (have HBW : Hid (Below wr.heap.size wr w2) := Lib.hid (((Below.refl _ _).drew).trans hb2)); (have HOW : Hid (OwnF wr.heap.size ys (.slice A2 ys.length c2) w2) := Lib.hid ho2); clear ho2 hb2)
        | (go_simp; go_at_call 22; refine (HH1.out _ A c HI.out.hc ?_).mono ?_; exact (HI.out.hr.below (((Below.refl _ _).alloc (Nat.le_refl _) (.cells #[.int .i64 0, .slice none 0 0] 27)).drew)).row; rintro e2 w2 ⟨A2, c2, rfl, ho2, hb2⟩; (have hsz : wr.heap.size + 1 = (wr.alloc (.cells #[.int .i64 0, .slice none 0 0] 27)).drew.heap.size := (World.size_alloc _ _).symm); (have HBW : Hid (Below wr.heap.size wr w2) := Lib.hid ((((Below.refl _ _).alloc (Nat.le_refl _) (.cells #[.int .i64 0, .slice none 0 0] 27)).drew).trans (hb2.mono (by omega)))); (have HOX : Hid (OwnF (wr.heap.size + 1) ys (.slice A2 ys.length c2) w2) := Lib.hid (ownBase ho2 (by omega))); (have HZX : Hid (Blk w2 wr.heap.size 27 #[.int .i64 0, .slice none 0 0]) := Lib.hid (Blk.below (w := (wr.alloc (.cells #[.int .i64 0, .slice none 0 0] 27)).drew) (Blk.new wr 27 #[.int .i64 0, .slice none 0 0]) hb2 (by omega))); (have y0 : w2.cell? ⟨wr.heap.size, 0, none⟩ = some (.int .i64 0) := HZX.out.cell 0); (have y1 : w2.cell? ⟨wr.heap.size, 1, none⟩ = some (.slice none 0 0) := HZX.out.cell 1); (have x0 := HZX.out.frozen 0); (have x1 := HZX.out.frozen 1); clear ho2 hb2 hsz))
      all_goals
        go_wp2_with fail
        go_meet
        first
          | exact ⟨rfl, _, _, _, rfl, CB.first HOW.out HBW.out⟩
          | exact ⟨rfl, _, _, _, rfl, CB.second HOX.out HBW.out HZX.out⟩
    obtain ⟨rfl, gc, A2, c2, rfl, hC⟩ := hcut
    obtain ⟨w7, hw7⟩ : ∃ w7, w7 = wc := ⟨_, rfl⟩
    subst hw7
    have HI7 := Lib.hid (HI.out.below hC.hb)
    have HC7 := Lib.hid hC
    clear hC q0 q1 ql hcell hbl
    have q0 : w7.cell? ⟨w1.heap.size, 0, none⟩ = some (.int .i64 L) := HI7.out.hk.cell 0
    have q1 : w7.cell? ⟨w1.heap.size, 1, none⟩ = some (.slice A xs.length c) := HI7.out.hk.cell 1
    have ql : w1.heap.size < w7.heap.size := HI7.out.hk.lt
    have qf0 := HI7.out.hk.frozen 0
    have qf1 := HI7.out.hk.frozen 1
    have hcell : w7.cell? ⟨bt, ot + i, none⟩ = some (.int .i64 t) := (HI7.out.hb.cell (p := ⟨bt, ot + i, none⟩) HCL.out).trans HCT.out
    have hbl : bt < w7.heap.size := Nat.lt_of_lt_of_le HCL.out HI7.out.hb.size
    clear qf0 qf1
    go_upto_region 8 with fail
    go_cut [11, 12] (fun pd ed wx => ed = .int .i64 er ∧ ∃ gd A3 c3, pd = .pointer (some ⟨gd, 0, none⟩) ∧ CB w7 wx gd L2 ys A3 c3)
    case first =>
      go_region_law (first
        | (go_simp; go_at_call 23; refine (HH2.out _ A c HI7.out.hc ?_).mono ?_; exact (HI7.out.hr.below (Below.refl _ _).drew).row; rintro e2 w2 ⟨A2, c2, rfl, ho2, hb2⟩; (have HBW : Hid (Below w7.heap.size w7 w2) := Lib.hid (((Below.refl _ _).drew).trans hb2)); (have HOW : Hid (OwnF w7.heap.size ys (.slice A2 ys.length c2) w2) := Lib.hid ho2); clear ho2 hb2)
        | (go_simp; go_at_call 23; refine (HH2.out _ A c HI7.out.hc ?_).mono ?_; exact (HI7.out.hr.below (((Below.refl _ _).alloc (Nat.le_refl _) (.cells #[.int .i64 0, .slice none 0 0] 27)).drew)).row; rintro e2 w2 ⟨A2, c2, rfl, ho2, hb2⟩; (have hsz : w7.heap.size + 1 = (w7.alloc (.cells #[.int .i64 0, .slice none 0 0] 27)).drew.heap.size := (World.size_alloc _ _).symm); (have HBW : Hid (Below w7.heap.size w7 w2) := Lib.hid ((((Below.refl _ _).alloc (Nat.le_refl _) (.cells #[.int .i64 0, .slice none 0 0] 27)).drew).trans (hb2.mono (by omega)))); (have HOX : Hid (OwnF (w7.heap.size + 1) ys (.slice A2 ys.length c2) w2) := Lib.hid (ownBase ho2 (by omega))); (have HZX : Hid (Blk w2 w7.heap.size 27 #[.int .i64 0, .slice none 0 0]) := Lib.hid (Blk.below (w := (w7.alloc (.cells #[.int .i64 0, .slice none 0 0] 27)).drew) (Blk.new w7 27 #[.int .i64 0, .slice none 0 0]) hb2 (by omega))); (have y0 : w2.cell? ⟨w7.heap.size, 0, none⟩ = some (.int .i64 0) := HZX.out.cell 0); (have y1 : w2.cell? ⟨w7.heap.size, 1, none⟩ = some (.slice none 0 0) := HZX.out.cell 1); (have x0 := HZX.out.frozen 0); (have x1 := HZX.out.frozen 1); clear ho2 hb2 hsz))
      all_goals
        go_wp2_with fail
        go_meet
        first
          | exact ⟨rfl, _, _, _, rfl, CB.first HOW.out HBW.out⟩
          | exact ⟨rfl, _, _, _, rfl, CB.second HOX.out HBW.out HZX.out⟩
    obtain ⟨rfl, gd, A3, c3, rfl, hD⟩ := hcut
    obtain ⟨w8, hw8⟩ : ∃ w8, w8 = wc := ⟨_, rfl⟩
    subst hw8
    have HI8 := Lib.hid (HI7.out.below hD.hb)
    have HC8 := Lib.hid (HC7.out.below hD.hb)
    have HD8 := Lib.hid hD
    clear hD q0 q1 ql hcell hbl HI7 HC7
    rcases hes with rfl | rfl
    · have q0 : w8.cell? ⟨w1.heap.size, 0, none⟩ = some (.int .i64 L) := HI8.out.hk.cell 0
      have q1 : w8.cell? ⟨w1.heap.size, 1, none⟩ = some (.slice A xs.length c) := HI8.out.hk.cell 1
      have ql : w1.heap.size < w8.heap.size := HI8.out.hk.lt
      have qf0 := HI8.out.hk.frozen 0
      have qf1 := HI8.out.hk.frozen 1
      have u0 : w8.cell? ⟨gc, 0, none⟩ = some (.int .i64 L2) := HC8.out.hk.cell 0
      have u1 : w8.cell? ⟨gc, 1, none⟩ = some (.slice A2 ys.length c2) := HC8.out.hk.cell 1
      have ul : gc < w8.heap.size := HC8.out.hk.lt
      have v0 : w8.cell? ⟨gd, 0, none⟩ = some (.int .i64 L2) := HD8.out.hk.cell 0
      have v1 : w8.cell? ⟨gd, 1, none⟩ = some (.slice A3 ys.length c3) := HD8.out.hk.cell 1
      have vl : gd < w8.heap.size := HD8.out.hk.lt
      go_wp2_with fail
      refine (HS2.out _ A2 A3 c2 c3 (ownRow HC8.out.ho) (ownRow HD8.out.ho)).mono ?_
      rintro e9 w9 ⟨rfl, hb9⟩
      clear q0 q1 ql qf0 qf1 u0 u1 ul v0 v1 vl
      have HI9 := Lib.hid (HI8.out.below hb9)
      have HC9 := Lib.hid (HC8.out.below hb9)
      have HD9 := Lib.hid (HD8.out.below hb9)
      clear hb9 HI8 HC8 HD8
      have q0 : w9.cell? ⟨w1.heap.size, 0, none⟩ = some (.int .i64 L) := HI9.out.hk.cell 0
      have q1 : w9.cell? ⟨w1.heap.size, 1, none⟩ = some (.slice A xs.length c) := HI9.out.hk.cell 1
      have ql : w1.heap.size < w9.heap.size := HI9.out.hk.lt
      have qf0 := HI9.out.hk.frozen 0
      have qf1 := HI9.out.hk.frozen 1
      have u0 : w9.cell? ⟨gc, 0, none⟩ = some (.int .i64 L2) := HC9.out.hk.cell 0
      have u1 : w9.cell? ⟨gc, 1, none⟩ = some (.slice A2 ys.length c2) := HC9.out.hk.cell 1
      have ul : gc < w9.heap.size := HC9.out.hk.lt
      have v0 : w9.cell? ⟨gd, 0, none⟩ = some (.int .i64 L2) := HD9.out.hk.cell 0
      have v1 : w9.cell? ⟨gd, 1, none⟩ = some (.slice A3 ys.length c3) := HD9.out.hk.cell 1
      have vl : gd < w9.heap.size := HD9.out.hk.lt
      go_wp2_with fail
      refine (HS1.out _ A2 A3 c2 c3 (ownRow HC9.out.ho) (ownRow HD9.out.ho)).mono ?_
      rintro e10 w10 ⟨rfl, hb10⟩
      clear q0 q1 ql qf0 qf1 u0 u1 ul v0 v1 vl
      have HI10 := Lib.hid (HI9.out.below hb10)
      have HC10 := Lib.hid (HC9.out.below hb10)
      have HD10 := Lib.hid (HD9.out.below hb10)
      clear hb10 HI9 HC9 HD9
      have q0 : w10.cell? ⟨w1.heap.size, 0, none⟩ = some (.int .i64 L) := HI10.out.hk.cell 0
      have q1 : w10.cell? ⟨w1.heap.size, 1, none⟩ = some (.slice A xs.length c) := HI10.out.hk.cell 1
      have ql : w1.heap.size < w10.heap.size := HI10.out.hk.lt
      have qf0 := HI10.out.hk.frozen 0
      have qf1 := HI10.out.hk.frozen 1
      have u0 : w10.cell? ⟨gc, 0, none⟩ = some (.int .i64 L2) := HC10.out.hk.cell 0
      have u1 : w10.cell? ⟨gc, 1, none⟩ = some (.slice A2 ys.length c2) := HC10.out.hk.cell 1
      have ul : gc < w10.heap.size := HC10.out.hk.lt
      have HU := Lib.hid (HI.out.take HC10.out)
      have HFK := Lib.hid (HF.out.2.2 (by trivial))
      go_wp2_with fail
      generalize hWZ : World.setCell (World.setCell w10 _ _) _ _ = wz
      rw [hWZ] at HU
      clear hWZ q0 q1 ql qf0 qf1 u0 u1 ul
      obtain ⟨hLt, hok⟩ := HFK.out
      have HOK := Lib.hid hok
      have HLT := Lib.hid hLt
      clear hok hLt
      have HK1 : Hid (∀ W A c, Row W W.heap.size A (ys.map fv) → Calls Try.prog 18 #[.agg #[.int .i64 L2, .slice A ys.length c]] W (Ret (.int .i64 0) W)) := Lib.hid fun W A c h => by
        have := check_any L2 ys _ c A rfl (by have := HF.out.2.1; omega) HF.out.1 W h
        rw [chk_good (by rw [HLT.out]; exact HOK.out)] at this; exact this
      have hcz : wz.cell? ⟨bt, ot + i, none⟩ = some (.int .i64 L2) := by rw [HLT.out]; exact (HU.out.hb.cell (p := ⟨bt, ot + i, none⟩) HCL.out).trans HCT.out
      have lt0 := later_cell hcz
      have l0 := later_blk_cell HU.out.hk 0 _ rfl
      have l1 := later_blk_cell HU.out.hk 1 _ rfl
      have LK := Lib.hid (later_blk HU.out.hk)
      have hy16 : (ys.length : Int) ≤ 16 := by have := HF.out.2.1; omega
      have hd16 : decide ((16 : Int) < (ys.length : Int)) = false := decide_eq_false (by omega)
      refine wp_region_later (by kernel_rfl) (by kernel_rfl) ?_
      repeat (first | (go_big_quiet_want; refine quiet_loadrow 27 _ rfl (w1.heap.size) rfl LK.out Try.underlying27 rfl (by kernel_rfl) ?_; simp only [Act.put, List.setIfInBounds_toArray, List.set_cons_succ, List.set_cons_zero]; go_big_quiet_on) | go_big_quiet_step (first | (go_at_call 18; exact later_of (HK1.out _ A2 c2 ((HU.out.hr.below (Later.bel _)).row)))))
      refine wpQuiet_nil ?_
      intro w13 hw13
      obtain ⟨p13, hp13⟩ := hw13
      have hb13 : Below wz.heap.size wz w13 := by rw [hp13]; exact p13.bel
      clear hp13 p13 lt0 l0 l1 LK
      have HU13 := Lib.hid (HU.out.below hb13)
      clear hb13
      go_wp2
      go_roundw
      case rel => exact ⟨i + 1, L2, ys, A2, c2, by omega, by go_num, by have := HF.out.2.1; omega, Lib.hid HF.out.1, HU13⟩
      case measure => simp [intOf]; omega
    · have q0 : w8.cell? ⟨w1.heap.size, 0, none⟩ = some (.int .i64 L) := HI8.out.hk.cell 0
      have q1 : w8.cell? ⟨w1.heap.size, 1, none⟩ = some (.slice A xs.length c) := HI8.out.hk.cell 1
      have ql : w1.heap.size < w8.heap.size := HI8.out.hk.lt
      have qf0 := HI8.out.hk.frozen 0
      have qf1 := HI8.out.hk.frozen 1
      have u0 : w8.cell? ⟨gc, 0, none⟩ = some (.int .i64 L2) := HC8.out.hk.cell 0
      have u1 : w8.cell? ⟨gc, 1, none⟩ = some (.slice A2 ys.length c2) := HC8.out.hk.cell 1
      have ul : gc < w8.heap.size := HC8.out.hk.lt
      have v0 : w8.cell? ⟨gd, 0, none⟩ = some (.int .i64 L2) := HD8.out.hk.cell 0
      have v1 : w8.cell? ⟨gd, 1, none⟩ = some (.slice A3 ys.length c3) := HD8.out.hk.cell 1
      have vl : gd < w8.heap.size := HD8.out.hk.lt
      go_wp2_with fail
      refine (HS2.out _ A2 A3 c2 c3 (ownRow HC8.out.ho) (ownRow HD8.out.ho)).mono ?_
      rintro e9 w9 ⟨rfl, hb9⟩
      clear q0 q1 ql qf0 qf1 u0 u1 ul v0 v1 vl
      have HI9 := Lib.hid (HI8.out.below hb9)
      have HC9 := Lib.hid (HC8.out.below hb9)
      have HD9 := Lib.hid (HD8.out.below hb9)
      clear hb9 HI8 HC8 HD8
      have q0 : w9.cell? ⟨w1.heap.size, 0, none⟩ = some (.int .i64 L) := HI9.out.hk.cell 0
      have q1 : w9.cell? ⟨w1.heap.size, 1, none⟩ = some (.slice A xs.length c) := HI9.out.hk.cell 1
      have ql : w1.heap.size < w9.heap.size := HI9.out.hk.lt
      have qf0 := HI9.out.hk.frozen 0
      have qf1 := HI9.out.hk.frozen 1
      have u0 : w9.cell? ⟨gc, 0, none⟩ = some (.int .i64 L2) := HC9.out.hk.cell 0
      have u1 : w9.cell? ⟨gc, 1, none⟩ = some (.slice A2 ys.length c2) := HC9.out.hk.cell 1
      have ul : gc < w9.heap.size := HC9.out.hk.lt
      have v0 : w9.cell? ⟨gd, 0, none⟩ = some (.int .i64 L2) := HD9.out.hk.cell 0
      have v1 : w9.cell? ⟨gd, 1, none⟩ = some (.slice A3 ys.length c3) := HD9.out.hk.cell 1
      have vl : gd < w9.heap.size := HD9.out.hk.lt
      go_wp2_with fail
      refine (HS1.out _ A2 A3 c2 c3 (ownRow HC9.out.ho) (ownRow HD9.out.ho)).mono ?_
      rintro e10 w10 ⟨rfl, hb10⟩
      clear q0 q1 ql qf0 qf1 u0 u1 ul v0 v1 vl
      have HI10 := Lib.hid (HI9.out.below hb10)
      have HC10 := Lib.hid (HC9.out.below hb10)
      have HD10 := Lib.hid (HD9.out.below hb10)
      clear hb10 HI9 HC9 HD9
      have q0 : w10.cell? ⟨w1.heap.size, 0, none⟩ = some (.int .i64 L) := HI10.out.hk.cell 0
      have q1 : w10.cell? ⟨w1.heap.size, 1, none⟩ = some (.slice A xs.length c) := HI10.out.hk.cell 1
      have ql : w1.heap.size < w10.heap.size := HI10.out.hk.lt
      have qf0 := HI10.out.hk.frozen 0
      have qf1 := HI10.out.hk.frozen 1
      have u0 : w10.cell? ⟨gc, 0, none⟩ = some (.int .i64 L2) := HC10.out.hk.cell 0
      have u1 : w10.cell? ⟨gc, 1, none⟩ = some (.slice A2 ys.length c2) := HC10.out.hk.cell 1
      have ul : gc < w10.heap.size := HC10.out.hk.lt
      go_wp2
      go_roundw
      case rel => exact ⟨i + 1, L, xs, A, c, by omega, by go_num, hx30, HX, HI10⟩
      case measure => simp [intOf]; omega
end Go.Proofs.Ytkfapcigfgfeaaa
