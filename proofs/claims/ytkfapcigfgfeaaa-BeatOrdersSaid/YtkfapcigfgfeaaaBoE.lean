/- BoE: Indexes in order of their scores, by the document. -/
import Derived.Test.YtkfapcigfgfeaaaBoD
namespace Go.Proofs.Ytkfapcigfgfeaaa
open Go.RowKit Flo Mem
set_option maxRecDepth 100000
set_option maxHeartbeats 1500000
set_option linter.unusedVariables false
theorem iN_one (l : List Nat) : ∀ u ∈ l.map iN, u.oneCell' = true := by
  intro u hu
  obtain ⟨x, _, rfl⟩ := List.mem_map.1 hu
  rfl
theorem refless15 (a b : Int) (ha : Word a) (hb : Word b) (w : World) :
    Calls Try.prog 48 #[.float .f64 (fnat a), .float .f64 (fnat b)] w fun e w' => e = .returned (.bool (decide (0 < cmpZ a b))) ∧ w = w' := by
  have h1 := run_bits a ha
  have h2 := run_bits b hb
  have HC := Lib.hid (fun W => refcompare_any a b ha hb W)
  clear ha hb
  go_enter Try.func48, Try.ntmps48
  go_wp2_with fail
  refine (HC.out _).mono ?_
  rintro e w' ⟨rfl, rfl⟩
  go_wp2
  go_ret
  exact ⟨rfl, rfl⟩
theorem cmp_turn (a b : Int) : 0 < cmpZ a b ↔ cmpZ b a < 0 := by
  unfold cmpZ; rw [cmp3_swap (keyZ (canZ a)) (keyZ (canZ b))]; omega
theorem reforder_any15 (now : Int) (rs : List BtV) (A : Option Addr) (n c : Nat) (hn : n = rs.length) (hl : rs.length ≤ 20) (h30 : ∀ r ∈ rs, r.2.2.1.length ≤ 30) (w : World) (h : Row w w.heap.size A (btsC rs)) (hbt : Bts_ w rs) :
    Calls Try.prog 28 #[.int .i64 now, .slice A n c] w (OrdP rs now w) := by
  obtain ⟨i0, hi0, hz0, hz1, hz2⟩ := info_parts info_i15
  obtain ⟨j0, hj0, hy0, hy1, hy2⟩ := info_parts info_f
  have hn20 : n ≤ 20 := by omega
  have HR := Lib.hid h
  have HBT := Lib.hid hbt
  have HN := Lib.hid hn
  have H30 := Lib.hid h30
  have HSW := Lib.hid (fun y => scF_word (rs := rs) (now := now) (fun r hr => (hbt r hr).2.2) y)
  obtain ⟨sc, hsc⟩ : ∃ sc, scF rs now = sc := ⟨_, rfl⟩
  rw [hsc] at HSW
  have HSC := Lib.hid hsc
  have hn20' : (n : Int) ≤ 20 := by omega
  clear h hbt hn h30 hsc
  go_enter Try.func28, Try.ntmps28
  go_wp2
  go_loopw [6, 7, 8] (fun ov sv iv wr => ∃ (k : Nat) (Ao : Option Addr) (co : Nat) (A7 : Option Addr) (c7 : Nat), k ≤ n ∧ iv = .int .i64 (k : Int) ∧ ov = .slice Ao k co ∧ sv = .slice A7 k c7 ∧ Hid (∀ y, y < k → erF rs now y = 0) ∧ Hid (Row wr wr.heap.size Ao ((ordS sc k).map iN)) ∧ Hid (k ≤ co) ∧ Hid (wr.ownsRow w.heap.size 29 1 (.slice A7 k c7) k (((List.range k).map sc).map fv)) ∧ Hid (Below w.heap.size w wr)) (fun _ _ iv _ => n - (intOf iv).toNat)
  case atStart => exact ⟨0, none, 0, none, 0, by omega, rfl, rfl, rfl, Lib.hid (fun y hy => by omega), Lib.hid (Or.inl rfl), Lib.hid (Nat.le_refl _), Lib.hid (World.ownsRow_nil _ _ _ _), Lib.hid (Below.refl _ _)⟩
  case round =>
    obtain ⟨k, Ao, co, A7, c7, hk, rfl, rfl, rfl, HE, HRO, HCO, HO7, HB⟩ := hrel
    have hk0 : (0 : Int) ≤ (k : Int) := by omega
    by_cases hlt : k < n
    rotate_left
    · obtain rfl : k = n := by omega
      have HOK : Hid (∀ y, y < rs.length → erF rs now y = 0) := Lib.hid (by rw [← HN.out]; exact HE.out)
      go_wp2
      go_ret2
      exact Or.inl ⟨HOK.out, Ao, co, by rw [← HN.out]; rfl, by rw [HSC.out, ← HN.out]; exact HRO.out, by have := HN.out; have := HCO.out; omega, HB.out⟩
    have hlt2 : (k : Int) < (n : Int) := by omega
    have hkr : k < rs.length := by rw [← HN.out]; exact hlt
    obtain ⟨b, o, rfl, hbl, hc⟩ := bts_open (HR.out.below HB.out) (by omega)
    obtain ⟨e0, e1⟩ := hc k hkr
    have hmem := List.getElem_mem hkr
    obtain ⟨r, hr⟩ : ∃ r, rs[k] = r := ⟨_, rfl⟩
    have HSK : Hid (sc k = scV r.1 r.2.2.1 now) := Lib.hid (by rw [← HSC.out]; unfold scF; rw [List.getElem?_eq_getElem hkr, hr])
    have HEK : Hid (erF rs now k = rgtE r.1 r.2.2.1 now) := Lib.hid (by unfold erF; rw [List.getElem?_eq_getElem hkr, hr])
    rw [hr] at e0 e1 hmem
    have HB3 := bts_below HBT.out HB.out r hmem
    have HL30 := H30.out r hmem
    obtain ⟨L, Ax, xs, cx⟩ := r
    simp only at e0 e1 HSK HEK HB3 HL30
    have HRX := Lib.hid HB3.1
    have HC := Lib.hid (fun W hr => refscore_all L xs _ cx Ax rfl (by omega) HB3.2.2 now W hr)
    unfold bC at HC
    have hes : rgtE L xs now = 0 ∨ rgtE L xs now = 2 := by
      rcases rgt_cases L xs now with h | h
      · exact Or.inl h.1
      · exact Or.inr h
    rw [← HSK.out] at HC
    generalize rgtE L xs now = er at *
    obtain ⟨z, hz⟩ : ∃ z, sc k = z := ⟨_, rfl⟩
    rw [hz] at HC
    have HZ := Lib.hid hz
    clear hc hr hmem HB3 HL30 HSK hz
    rcases hes with rfl | rfl
    rotate_left
    · go_wp2_with fail
      refine (HC.out _ HRX.out).mono ?_
      rintro e w2 ⟨rfl, hb2⟩
      have HB2 := Lib.hid (HB.out.trans (hb2.mono HB.out.size))
      clear hb2
      go_wp2
      go_ret2
      exact Or.inr ⟨fun h => by have := h k (by omega); rw [HEK.out] at this; omega, rfl, HB2.out⟩
    go_wp2_with fail
    refine (HC.out _ HRX.out).mono ?_
    rintro e w2 ⟨rfl, hb2⟩
    have HB2 := Lib.hid (HB.out.trans (hb2.mono HB.out.size))
    have HRO2 := Lib.hid ((HRO.out.below hb2).more hb2.size)
    have HO72 := Lib.hid (ownLater HO7.out hb2)
    clear hb2 e0 e1
    have HE2 : Hid (∀ y, y < k + 1 → erF rs now y = 0) := Lib.hid (fun y hy => by
      rcases Nat.lt_or_ge y k with h | h
      · exact HE.out y h
      · rw [show y = k by omega]; exact HEK.out)
    obtain ⟨l, hll⟩ : ∃ l, ordS sc k = l := ⟨_, rfl⟩
    have hlen : l.length = k := by rw [← hll]; exact ordS_len sc k
    have HM : Hid (∀ x ∈ l, x < k) := Lib.hid (by rw [← hll]; exact ordS_mem sc k)
    have HNX : Hid (ordS sc (k + 1) = insS sc l k) := Lib.hid (by rw [← hll]; rfl)
    rw [hll] at HRO2
    obtain ⟨p, hp⟩ : ∃ p : Nat → Bool, (fun j => lessS sc (l.getD j 0) k) = p := ⟨_, rfl⟩
    have HPL : Hid (placeS sc l k = atE p k) := Lib.hid (by unfold placeS; rw [hp, hlen])
    have HPK : Hid (∀ j, p j = decide (cmpZ (sc (l.getD j 0)) (sc k) < 0)) := Lib.hid fun j => by rw [← hp]; rfl
    obtain ⟨m, hm⟩ : ∃ m, atE p k = m := ⟨_, rfl⟩
    have HMK : Hid (m ≤ k) := Lib.hid (by rw [← hm]; exact atE_le _ _)
    have HINS : Hid (ordS sc (k + 1) = l.take m ++ k :: l.drop m) := Lib.hid (by rw [HNX.out]; unfold insS; rw [HPL.out, hm])
    have HMM := Lib.hid hm
    have HLL := Lib.hid hlen
    have HZW : Hid (Word z) := Lib.hid (by have := HSW.out k; rw [HZ.out] at this; exact ⟨this.1, by omega⟩)
    have hmk : (m : Int) ≤ (k : Int) := by have := HMK.out; omega
    have hm0 : (0 : Int) ≤ (m : Int) := by omega
    have HTL : Hid ((l.take m).length = m) := Lib.hid (by rw [List.length_take]; have := HMK.out; omega)
    have HDL : Hid ((l.drop m).length = k - m) := Lib.hid (by rw [List.length_drop, hlen])
    have HRT : Hid (Row w2 w2.heap.size Ao ((l.take m).map iN)) := Lib.hid (by rw [List.map_take]; exact take_row HRO2.out m)
    have HRD : Hid (Row w2 w2.heap.size (cutA Ao m co) ((l.drop m).map iN)) := Lib.hid (by rw [List.map_drop]; exact cut_row HRO2.out m co (by rw [List.length_map, hlen]; exact HCO.out))
    have cut1 := fun W => run_cut_h (P := Try.prog) (w := W) 46 3 _ _ Try.underlying46 info_i15 Ao k co m (by have := HMK.out; have := HCO.out; omega)
    have cut2 := fun W => run_cut_l (P := Try.prog) (w := W) 46 3 _ _ Try.underlying46 info_i15 Ao k co m HMK.out
    generalize cutA Ao m co = A3 at *
    have HMK3 : Hid (((l.drop m).map iN).length = k - m) := Lib.hid (by rw [List.length_map]; exact HDL.out)
    clear hp hm hlen hll hlt
    go_wp2
    go_loop [11] (fun jv => ∃ j : Nat, j ≤ k ∧ jv = .int .i64 (j : Int) ∧ Hid (atE p j = m)) (fun jv => (intOf jv).toNat)
    case atStart => exact ⟨k, by omega, rfl, HMM⟩
    case round =>
      obtain ⟨j, hj, rfl, HAT⟩ := hrel
      rcases Nat.eq_zero_or_pos j with h0 | h0
      · subst h0
        have hme : m = 0 := HAT.out.symm
        have ez : (m : Int) = 0 := by omega
        have c1z : ∀ W, Sem.run Try.prog (Instr.slice 46 (.slice Ao k co) none (some (.int .i64 0)) none) W = .ok (.slice Ao m co) W := fun W => by have h := cut1 W; rw [ez] at h; exact h
        have c2z : ∀ W, Sem.run Try.prog (Instr.slice 46 (.slice Ao k co) (some (.int .i64 0)) none none) W = .ok (.slice A3 (k - m) (co - m)) W := fun W => by have h := cut2 W; rw [ez] at h; exact h
        clear hme ez cut1 cut2
        go_wp2_with (at_builtin; refine wpList_app _ rfl _ _ 46 rfl w2.heap.size 3 i0 (.int .i64 0) 8 Try.underlying46 hi0 hz0 hz1 hz2 rfl (.slice none 0 0) 0 [] rfl (World.ownsRow_nil _ _ _ _) w2.heap.size _ m co ((l.take m).map iN) rfl (by rw [List.length_map]; exact HTL.out) HRT.out (iN_one _) (by unfold maxLen; omega) (by omega) (Nat.le_refl _) ?_)
        intro v1 w5 hown1 hgr1 _
        have HB5 : Hid (Below w2.heap.size w2 w5) := Lib.hid ((Below.refl _ _).grown hgr1 (Nat.le_refl _) fun g hg => by simp [Value.ownBlock] at hg)
        have HO5 : Hid (w5.ownsRow w2.heap.size 3 1 v1 m ((l.take m).map iN)) := Lib.hid (by rw [List.map_take]; first | exact hown1 | (have h2 := hown1; rw [Nat.zero_add] at h2; exact h2))
        have HR5 : Hid (Row (w5.alloc (.cells #[.int .i64 (k : Int)] 3)) (w5.heap.size + 1) (some ⟨w5.heap.size, 0, none⟩) ([k].map iN)) := Lib.hid (row_cells (cs := #[.int .i64 (k : Int)]) rfl)
        clear hown1 hgr1
        go_wp2_with (at_builtin; refine wpList_app _ rfl _ _ 46 rfl w2.heap.size 3 i0 (.int .i64 0) 8 Try.underlying46 hi0 hz0 hz1 hz2 rfl v1 m ((l.take m).map iN) rfl (HO5.out.alloc _) (w5.heap.size + 1) _ 1 1 ([k].map iN) rfl rfl HR5.out (iN_one _) (by unfold maxLen; omega) (by omega) (by have := HB5.out.size; rw [World.size_alloc]; omega) ?_)
        intro v2 w6 hown2 hgr2 _
        have HB6 : Hid (Below w2.heap.size w2 w6) := Lib.hid ((HB5.out.alloc HB5.out.size _).grown hgr2 (by have := HB5.out.size; rw [World.size_alloc]; omega) fun g hg => (HO5.out.lt g hg).1)
        have HO6 : Hid (w6.ownsRow w2.heap.size 3 1 v2 (m + 1) ((l.take m ++ [k]).map iN)) := Lib.hid (by rw [List.map_append, List.map_take]; exact hown2)
        have HD6 : Hid (Row w6 w2.heap.size A3 ((l.drop m).map iN)) := Lib.hid (HRD.out.below HB6.out)
        clear hown2 hgr2
        go_wp2_with (at_builtin; refine wpList_app _ rfl _ _ 46 rfl w2.heap.size 3 i0 (.int .i64 0) 8 Try.underlying46 hi0 hz0 hz1 hz2 rfl v2 (m + 1) ((l.take m ++ [k]).map iN) rfl HO6.out w2.heap.size _ (k - m) (co - m) ((l.drop m).map iN) rfl HMK3.out HD6.out (iN_one _) (by unfold maxLen; omega) (by omega) HB6.out.size ?_)
        intro v3 w7 hown3 hgr3 _
        have HB7 : Hid (Below w2.heap.size w2 w7) := Lib.hid (HB6.out.grown hgr3 HB6.out.size fun g hg => (HO6.out.lt g hg).1)
        have hle3 : m + 1 + (k - m) = k + 1 := by have := HMK.out; omega
        have HO8 : Hid (w7.ownsRow w2.heap.size 3 1 v3 (k + 1) ((ordS sc (k + 1)).map iN)) := Lib.hid (by
          rw [HINS.out, ← hle3, List.map_append, List.map_take, List.map_cons, List.map_drop]; exact hown3)
        obtain ⟨Av, cv, rfl, hcv, _⟩ := ownShape HO8.out
        have HCV := Lib.hid hcv
        have HOF : Hid (w7.ownsRow w.heap.size 29 1 (.slice A7 k c7) k (((List.range k).map sc).map fv)) := Lib.hid (ownLater HO72.out HB7.out)
        have HR8 : Hid (Row (w7.alloc (.cells #[.float .f64 (fnat z)] 29)) (w7.heap.size + 1) (some ⟨w7.heap.size, 0, none⟩) ([z].map fv)) := Lib.hid (row_cells (cs := #[.float .f64 (fnat z)]) rfl)
        have HBW : Hid (Below w.heap.size w w7) := Lib.hid (HB2.out.trans (HB7.out.mono HB2.out.size))
        clear hown3 hgr3 hle3 hcv
        go_wp2_with (at_builtin; refine wpList_app _ rfl _ _ 25 rfl w.heap.size 29 j0 (.float .f64 0) 8 Try.underlying25 hj0 hy0 hy1 hy2 rfl (.slice A7 k c7) k (((List.range k).map sc).map fv) rfl (HOF.out.alloc _) (w7.heap.size + 1) _ 1 1 ([z].map fv) rfl rfl HR8.out (fv_one _) (by unfold maxLen; omega) (by omega) (by have := HBW.out.size; rw [World.size_alloc]; omega) ?_)
        intro v8 w8 hown4 hgr4 _
        obtain ⟨A8, c8, rfl, _, _⟩ := ownShape hown4
        have HFIN : Hid (Row w8 w8.heap.size Av ((ordS sc (k + 1)).map iN) ∧ w8.ownsRow w.heap.size 29 1 (.slice A8 (k + 1) c8) (k + 1) (((List.range (k + 1)).map sc).map fv) ∧ Below w.heap.size w w8) := Lib.hid (by
          have ho : w8.ownsRow w2.heap.size 3 1 (.slice Av (k + 1) cv) (k + 1) ((ordS sc (k + 1)).map iN) := by
            refine World.ownsRow.kept (World.ownsRow.alloc HO8.out _) hgr4 ?_
            rcases HO8.out.2 with ⟨h1, _⟩ | ⟨g', cap, cur, h1, hb, _⟩
            · exact Or.inl (by rw [h1]; rfl)
            · refine Or.inr fun e => ?_
              rw [h1] at e
              have e' : (Value.slice A7 k c7).ownBlock = some g' := by rw [← e]; rfl
              have := (HO72.out.lt g' e').2
              omega
          refine ⟨ownRow ho, ?_, (HBW.out.alloc HBW.out.size _).grown hgr4 (by have := HBW.out.size; rw [World.size_alloc]; omega) fun g hg => (HOF.out.lt g hg).1⟩
          rw [List.range_succ, List.map_append, List.map_append, List.map_singleton, HZ.out, List.map_map]
          exact hown4)
        clear hown4 hgr4
        go_wp2
        go_roundw
        case rel => exact ⟨k + 1, Av, cv, A8, c8, by omega, by go_num, rfl, rfl, HE2, Lib.hid HFIN.out.1, Lib.hid HCV.out, Lib.hid HFIN.out.2.1, Lib.hid HFIN.out.2.2⟩
        case measure => simp [intOf]; omega
      · obtain ⟨q, rfl⟩ : ∃ q, j = q + 1 := ⟨j - 1, by omega⟩
        have hql : q < l.length := by have := HLL.out; omega
        obtain ⟨y, hy⟩ : ∃ y, l.getD q 0 = y := ⟨_, rfl⟩
        have hym : y < k := by
          rw [← hy, List.getD_eq_getElem?_getD, List.getElem?_eq_getElem hql]
          exact HM.out _ (List.getElem_mem hql)
        have HPY := HPK.out q
        rw [hy, HZ.out] at HPY
        obtain ⟨bo, oo, hAo, _, hco⟩ := HRO2.out.open_ (by rw [List.length_map]; omega)
        obtain ⟨bf, of, hAf, _, hcf⟩ := (ownRow HO72.out).open_ (by simp; omega)
        have d0 : w2.cell? ⟨bo, oo + q, none⟩ = some (.int .i64 (y : Int)) := (hco q (by rw [List.length_map]; exact hql)).trans (by
          rw [List.getElem_map]
          have e : l[q] = y := by rw [← hy, List.getD_eq_getElem?_getD, List.getElem?_eq_getElem hql]; rfl
          rw [e]; rfl)
        have d1 : w2.cell? ⟨bf, of + y, none⟩ = some (.float .f64 (fnat (sc y))) := (hcf y (by simp; exact hym)).trans (by simp [fv])
        have HYW : Hid (Word (sc y)) := Lib.hid (by have := HSW.out y; exact ⟨this.1, by omega⟩)
        have HLS := Lib.hid (fun W => refless15 z (sc y) HZW.out HYW.out W)
        have ek : ((q + 1 : Nat) : Int) = (q : Int) + 1 := by omega
        rw [ek]
        have hq0 : (0 : Int) ≤ (q : Int) := by omega
        have hq1 : (q : Int) < (k : Int) := by omega
        have hy0' : (0 : Int) ≤ (y : Int) := by omega
        have hy1' : (y : Int) < (k : Int) := by omega
        have htu := cmp_turn z (sc y)
        subst hAo
        subst hAf
        clear hco hcf hy
        by_cases hcm : cmpZ (sc y) z < 0
        · have hpk : p q = true := by rw [HPY]; exact decide_eq_true hcm
          have HAT2 : Hid (atE p q = m) := Lib.hid (by have h := HAT.out; have e : atE p (q + 1) = atE p q := (by show (if p q then atE p q else q + 1) = _; rw [if_pos hpk]); rw [e] at h; exact h)
          have hd1 : decide (0 < cmpZ z (sc y)) = true := decide_eq_true (htu.2 hcm)
          clear HPY hpk hql htu hcm
          go_wp2_with (go_at_call 48; refine (HLS.out _).mono ?_; rintro e w' ⟨rfl, rfl⟩)
          go_round
          case rel => exact ⟨q, by omega, by go_num, HAT2⟩
          case measure => simp [intOf]
        · have hpk : p q = false := by rw [HPY]; exact decide_eq_false hcm
          have hme : m = q + 1 := by have h := HAT.out; have e : atE p (q + 1) = q + 1 := (by show (if p q then atE p q else q + 1) = _; rw [if_neg (by rw [hpk]; decide)]); omega
          have hd1 : decide (0 < cmpZ z (sc y)) = false := decide_eq_false (fun h => hcm (htu.1 h))
          have emk : (q : Int) + 1 = (m : Int) := by omega
          rw [emk]
          have hqm : (m : Int) - 1 = (q : Int) := by omega
          have hmp : (0 : Int) < (m : Int) := by omega
          have HME := Lib.hid hme
          clear HPY hpk hql htu hcm ek emk hme
          go_wp2_with (first | (go_at_call 48; refine (HLS.out _).mono ?_; rintro e w' ⟨rfl, rfl⟩) | (at_builtin; refine wpList_app _ rfl _ _ 46 rfl w2.heap.size 3 i0 (.int .i64 0) 8 Try.underlying46 hi0 hz0 hz1 hz2 rfl (.slice none 0 0) 0 [] rfl (World.ownsRow_nil _ _ _ _) w2.heap.size _ m co ((l.take m).map iN) rfl (by rw [List.length_map]; exact HTL.out) HRT.out (iN_one _) (by unfold maxLen; omega) (by omega) (Nat.le_refl _) ?_))
          intro v1 w5 hown1 hgr1 _
          have HB5 : Hid (Below w2.heap.size w2 w5) := Lib.hid ((Below.refl _ _).grown hgr1 (Nat.le_refl _) fun g hg => by simp [Value.ownBlock] at hg)
          have HO5 : Hid (w5.ownsRow w2.heap.size 3 1 v1 m ((l.take m).map iN)) := Lib.hid (by rw [List.map_take]; first | exact hown1 | (have h2 := hown1; rw [Nat.zero_add] at h2; exact h2))
          have HR5 : Hid (Row (w5.alloc (.cells #[.int .i64 (k : Int)] 3)) (w5.heap.size + 1) (some ⟨w5.heap.size, 0, none⟩) ([k].map iN)) := Lib.hid (row_cells (cs := #[.int .i64 (k : Int)]) rfl)
          clear hown1 hgr1
          go_wp2_with (at_builtin; refine wpList_app _ rfl _ _ 46 rfl w2.heap.size 3 i0 (.int .i64 0) 8 Try.underlying46 hi0 hz0 hz1 hz2 rfl v1 m ((l.take m).map iN) rfl (HO5.out.alloc _) (w5.heap.size + 1) _ 1 1 ([k].map iN) rfl rfl HR5.out (iN_one _) (by unfold maxLen; omega) (by omega) (by have := HB5.out.size; rw [World.size_alloc]; omega) ?_)
          intro v2 w6 hown2 hgr2 _
          have HB6 : Hid (Below w2.heap.size w2 w6) := Lib.hid ((HB5.out.alloc HB5.out.size _).grown hgr2 (by have := HB5.out.size; rw [World.size_alloc]; omega) fun g hg => (HO5.out.lt g hg).1)
          have HO6 : Hid (w6.ownsRow w2.heap.size 3 1 v2 (m + 1) ((l.take m ++ [k]).map iN)) := Lib.hid (by rw [List.map_append, List.map_take]; exact hown2)
          have HD6 : Hid (Row w6 w2.heap.size A3 ((l.drop m).map iN)) := Lib.hid (HRD.out.below HB6.out)
          clear hown2 hgr2
          go_wp2_with (at_builtin; refine wpList_app _ rfl _ _ 46 rfl w2.heap.size 3 i0 (.int .i64 0) 8 Try.underlying46 hi0 hz0 hz1 hz2 rfl v2 (m + 1) ((l.take m ++ [k]).map iN) rfl HO6.out w2.heap.size _ (k - m) (co - m) ((l.drop m).map iN) rfl HMK3.out HD6.out (iN_one _) (by unfold maxLen; omega) (by omega) HB6.out.size ?_)
          intro v3 w7 hown3 hgr3 _
          have HB7 : Hid (Below w2.heap.size w2 w7) := Lib.hid (HB6.out.grown hgr3 HB6.out.size fun g hg => (HO6.out.lt g hg).1)
          have hle3 : m + 1 + (k - m) = k + 1 := by have := HMK.out; omega
          have HO8 : Hid (w7.ownsRow w2.heap.size 3 1 v3 (k + 1) ((ordS sc (k + 1)).map iN)) := Lib.hid (by
            rw [HINS.out, ← hle3, List.map_append, List.map_take, List.map_cons, List.map_drop]; exact hown3)
          obtain ⟨Av, cv, rfl, hcv, _⟩ := ownShape HO8.out
          have HCV := Lib.hid hcv
          have HOF : Hid (w7.ownsRow w.heap.size 29 1 (.slice (some ⟨bf, of, none⟩) k c7) k (((List.range k).map sc).map fv)) := Lib.hid (ownLater HO72.out HB7.out)
          have HR8 : Hid (Row (w7.alloc (.cells #[.float .f64 (fnat z)] 29)) (w7.heap.size + 1) (some ⟨w7.heap.size, 0, none⟩) ([z].map fv)) := Lib.hid (row_cells (cs := #[.float .f64 (fnat z)]) rfl)
          have HBW : Hid (Below w.heap.size w w7) := Lib.hid (HB2.out.trans (HB7.out.mono HB2.out.size))
          clear hown3 hgr3 hle3 hcv
          go_wp2_with (at_builtin; refine wpList_app _ rfl _ _ 25 rfl w.heap.size 29 j0 (.float .f64 0) 8 Try.underlying25 hj0 hy0 hy1 hy2 rfl (.slice (some ⟨bf, of, none⟩) k c7) k (((List.range k).map sc).map fv) rfl (HOF.out.alloc _) (w7.heap.size + 1) _ 1 1 ([z].map fv) rfl rfl HR8.out (fv_one _) (by unfold maxLen; omega) (by omega) (by have := HBW.out.size; rw [World.size_alloc]; omega) ?_)
          intro v8 w8 hown4 hgr4 _
          obtain ⟨A8, c8, rfl, _, _⟩ := ownShape hown4
          have HFIN : Hid (Row w8 w8.heap.size Av ((ordS sc (k + 1)).map iN) ∧ w8.ownsRow w.heap.size 29 1 (.slice A8 (k + 1) c8) (k + 1) (((List.range (k + 1)).map sc).map fv) ∧ Below w.heap.size w w8) := Lib.hid (by
            have ho : w8.ownsRow w2.heap.size 3 1 (.slice Av (k + 1) cv) (k + 1) ((ordS sc (k + 1)).map iN) := by
              refine World.ownsRow.kept (World.ownsRow.alloc HO8.out _) hgr4 ?_
              rcases HO8.out.2 with ⟨h1, _⟩ | ⟨g', cap, cur, h1, hb, _⟩
              · exact Or.inl (by rw [h1]; rfl)
              · refine Or.inr fun e => ?_
                rw [h1] at e
                have e' : (Value.slice (some ⟨bf, of, none⟩) k c7).ownBlock = some g' := by rw [← e]; rfl
                have := (HO72.out.lt g' e').2
                omega
            refine ⟨ownRow ho, ?_, (HBW.out.alloc HBW.out.size _).grown hgr4 (by have := HBW.out.size; rw [World.size_alloc]; omega) fun g hg => (HOF.out.lt g hg).1⟩
            rw [List.range_succ, List.map_append, List.map_append, List.map_singleton, HZ.out, List.map_map]
            exact hown4)
          clear hown4 hgr4
          go_wp2
          go_roundw
          case rel => exact ⟨k + 1, Av, cv, A8, c8, by omega, by go_num, rfl, rfl, HE2, Lib.hid HFIN.out.1, Lib.hid HCV.out, Lib.hid HFIN.out.2.1, Lib.hid HFIN.out.2.2⟩
          case measure => simp [intOf]; omega
end Go.Proofs.Ytkfapcigfgfeaaa
