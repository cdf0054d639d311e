/- A table keeps its room, and what is not clean. -/
import Derived.Test.YtkljcoecgmpgpaaCl1
import Derived.Test.YtkljcoecgmpgpaaCl4
import Derived.Test.YtkljcoecgmpgpaaCl2
namespace Go.Proofs.Ytkljcoecgmpgpaa
open Go.RowKit Go.ChangeShapes Mem Be Word Rg Go.Maps
set_option maxRecDepth 100000
set_option maxHeartbeats 16000000
set_option linter.unusedVariables false
set_option linter.unusedSimpArgs false
theorem room_walk (rc rb nb : Int) (fr : Bool) (A : Option Addr) (n c : Nat) (rs : List D11) (hn : n = rs.length) (hl : n ≤ 1700000000000) (w : World) (h : InD11 w A rs) :
    Calls Try.prog 3 #[.agg #[.int .i64 rc, .int .i64 rb, .int .i64 nb, .bool fr], .slice A n c] w (IsB true w) := by
  have HR := Lib.hid h
  have HN := Lib.hid hn
  have HL : Hid (n ≤ 1700000000000) := Lib.hid hl
  have hni : (n : Int) ≤ 1700000000000 := by omega
  have hni0 : (0 : Int) ≤ (n : Int) := by omega
  have HLG := Lib.hid fun W (hb : Below w.heap.size w W) => long11_any n c A rs hn (by unfold maxLen; omega) W (h.at_ hb)
  have HBR := Lib.hid (Blk.new w 23 #[.int .i64 rc, .int .i64 rb, .int .i64 nb, .bool fr])
  have HBX : Hid (Below w.heap.size w (w.alloc (.cells #[.int .i64 rc, .int .i64 rb, .int .i64 nb, .bool fr] 23))) := Lib.hid ((Below.refl _ _).alloc (Nat.le_refl _) _)
  clear h hn hl
  by_cases hok : RoomOk rc rb nb
  rotate_left
  · have HNW := Lib.hid (new_bad11 rc rb nb fr hok (w.alloc (.cells #[.int .i64 rc, .int .i64 rb, .int .i64 nb, .bool fr] 23)))
    clear hok
    go_enter Try.func3, Try.ntmps3
    go_wp2_with fail
    refine HNW.out.mono ?_
    rintro e1 w1 ⟨rfl, hb1⟩
    have HB1 : Hid (Below w.heap.size w w1) := Lib.hid (HBX.out.trans (hb1.mono HBX.out.size))
    clear hb1 HNW
    go_wp2_with fail
    refine (HLG.out w1 HB1.out).mono ?_
    rintro e2 w2 ⟨⟨z2, rfl⟩, hb2⟩
    have HB2 : Hid (Below w.heap.size w w2) := Lib.hid (HB1.out.trans (hb2.mono HB1.out.size))
    clear hb2 
    by_cases b1 : 1500 < z2
    · go_wp2_with (go_at_call 11; refine (known11_any _).mono ?_; rintro e3 w3 ⟨rfl, hb3⟩)
      go_ret
      exact ⟨rfl, HB2.out.trans (hb3.mono HB2.out.size)⟩
    · go_wp2_with (go_at_call 11; refine (known11_any _).mono ?_; rintro e3 w3 ⟨rfl, hb3⟩)
      go_ret
      exact ⟨rfl, HB2.out.trans (hb3.mono HB2.out.size)⟩
  obtain ⟨nb, rfl⟩ : ∃ k : Nat, nb = (k : Int) := ⟨nb.toNat, by have := hok.2.2.1; omega⟩
  have HNW := Lib.hid (new_ok11 rc rb nb fr hok (w.alloc (.cells #[.int .i64 rc, .int .i64 rb, .int .i64 (nb : Int), .bool fr] 23)))
  have HOK := Lib.hid (ok_newS (fr := fr) hok)
  obtain ⟨S0, hS0⟩ : ∃ S0, newS rc rb nb fr = S0 := ⟨_, rfl⟩
  have HS0 := Lib.hid hS0
  rw [hS0] at HNW HOK
  clear hok hS0
  go_enter Try.func3, Try.ntmps3
  go_wp2_with fail
  refine HNW.out.mono ?_
  intro e1 w1 hx
  obtain ⟨g, b, tk, rfl, ht, hnr, hb1⟩ := tb1_new2 HBX.out hx HOK.out
  have HT := Lib.hid ht
  have HB1 : Hid (Below w.heap.size w w1) := Lib.hid ht.bel
  have HNR : Hid (¬ Own3 g b tk w.heap.size) := Lib.hid (hnr _ (by simp))
  replace HBR := Lib.hid (HBR.out.below hb1 HBR.out.lt)
  clear hx ht hnr hb1 HNW
  go_wp2_with fail
  refine (HLG.out w1 HB1.out).mono ?_
  rintro e2 w2 ⟨⟨z2, rfl⟩, hb2⟩
  have HB2 : Hid (Below w.heap.size w w2) := Lib.hid (HB1.out.trans (hb2.mono HB1.out.size))
  replace HT := Lib.hid (HT.out.below hb2)
  replace HBR := Lib.hid (HBR.out.below hb2 HBR.out.lt)
  clear hb2 
  by_cases b1 : 1500 < z2
  · go_wp2_with (go_at_call 11; refine (known11_any _).mono ?_; rintro e3 w3 ⟨rfl, hb3⟩)
    go_ret
    exact ⟨rfl, HB2.out.trans (hb3.mono HB2.out.size)⟩
  have HRM0 : Hid (S0.rc = rc ∧ S0.rb = rb) := Lib.hid (by rw [← HS0.out]; exact ⟨(newS_room rc rb nb _).1, (newS_room rc rb nb _).2.1⟩)
  go_wp2_with fail
  go_loopw [7] (fun i wr => ∃ (ix : Nat) (S : Cl), ix ≤ n ∧ i = .int .i64 (ix : Int) ∧ Hid (Tb1 w wr (Own3 g b tk) g b tk S (1 + ix)) ∧ Hid (S.rc = rc ∧ S.rb = rb) ∧ Hid (Blk wr w.heap.size 23 #[.int .i64 rc, .int .i64 rb, .int .i64 (nb : Int), .bool fr]) ∧ Hid (Below w.heap.size w wr)) (fun i _ => n - (intOf i).toNat)
  case atStart => exact ⟨0, S0, by omega, rfl, HT, HRM0, HBR, HB2⟩
  case round =>
    obtain ⟨ix, S, hk, rfl, HTL, HRM, HBR, HBL⟩ := hrel
    by_cases hlt : ix < n
    · have hki : (0 : Int) ≤ (ix : Int) := by omega
      have hki2 : (ix : Int) < (n : Int) := by omega
      go_wp2_with fail
      refine (HTL.out.cellsC).mono ?_
      rintro e21 w21 ⟨us, Au, cu, hus, rfl, hcu, hlu, hb21⟩
      have HB21 : Hid (Below w.heap.size w w21) := Lib.hid (HBL.out.trans (hb21.mono HBL.out.size))
      replace HTL := Lib.hid (HTL.out.below hb21)
      replace HBR := Lib.hid (HBR.out.below hb21 HBR.out.lt)
      have HUS := Lib.hid hus
      have HCU := Lib.hid hcu
      have HLU := Lib.hid hlu
      clear hb21 hus hcu hlu
      go_wp2_with fail
      refine (HTL.out.tokens).mono ?_
      rintro e22 w22 ⟨At, ct, rfl, hrt, hb22⟩
      have HB22 : Hid (Below w.heap.size w w22) := Lib.hid (HB21.out.trans (hb22.mono HB21.out.size))
      replace HTL := Lib.hid (HTL.out.below hb22)
      replace HBR := Lib.hid (HBR.out.below hb22 HBR.out.lt)
      replace HCU := Lib.hid (HCU.out.below hb22)
      have HRT := Lib.hid hrt
      clear hb22 hrt
      have hk1 : ix < rs.length := by rw [← HN.out]; exact hlt
      obtain ⟨bb, o, hA, hbl, hc⟩ := d11s_open (HR.out w22 HB22.out).1 (by omega)
      subst hA
      have hc := hc ix hk1
      have HD := Lib.hid (done11_round HR.out HTL.out hk1 (by have h1 := HL.out; omega))
      obtain ⟨d, hd⟩ : ∃ d, rs[ix] = d := ⟨_, rfl⟩
      rw [hd] at hc HD
      have f0 := hc 0 _ rfl
      rw [Nat.add_zero] at f0
      have f1 := hc 1 _ rfl
      have f2 := hc 2 _ rfl
      have f3 := hc 3 _ rfl
      have f4 := hc 4 _ rfl
      have f5 := hc 5 _ rfl
      have f6 := hc 6 _ rfl
      have f7 := hc 7 _ rfl
      clear hc hd hk1
      unfold dV11 at HD
      obtain ⟨R, hR⟩ : ∃ R, d11S S d = R := ⟨_, rfl⟩
      rw [hR] at HD
      have HSO : Hid (OkC S) := Lib.hid HTL.out.ok
      have HKD : Hid (KeepD S R.1) := Lib.hid (by rw [← hR]; exact keep_do HSO.out _ _ _)
      have HBS : Hid (R.2.2.2 = 30 → R.1 = S) := Lib.hid (by rw [← hR]; exact busy_do HSO.out _ _ _)
      have HRM2 : Hid (R.1.rc = rc ∧ R.1.rb = rb) := Lib.hid (by
        have h1 : SameR S R.1 := by rw [← hR]; exact sameR_do HSO.out.srt _ _ _
        exact ⟨h1.1.trans HRM.out.1, h1.2.1.trans HRM.out.2⟩)
      clear hR
      go_wp2_with fail
      refine (HD.out).mono ?_
      rintro e23 w23 ⟨Ad23, cd23, rfl, _, ht23, tu23⟩
      replace HBR := Lib.hid (HBR.out.touchT tu23 (HNR.out))
      replace HCU := Lib.hid (HCU.out.touch tu23)
      replace HRT := Lib.hid (HRT.out.touch tu23)
      replace HTL := Lib.hid ht23
      have HB23 : Hid (Below w.heap.size w w23) := Lib.hid ht23.bel
      clear ht23 tu23  HD
      unfold repV
      have HND : Hid (¬ Own3 g b tk w23.heap.size) := Lib.hid fun hk => by have := (HTL.out.own _ hk).2; omega
      obtain ⟨w24, hv24⟩ : ∃ V, w23.alloc (.cells #[.string ⟨R.2.1.e.k.toArray⟩, .int .i64 R.2.1.e.s, .int .i64 R.2.1.e.u, .int .i64 R.2.1.e.o, .bool R.2.1.e.has, .slice Ad23 R.2.1.e.v.length cd23, .bool R.2.1.wh, .int .i64 R.2.1.tok] 43) = V := ⟨_, rfl⟩
      have hb24 : Below w23.heap.size w23 w24 := by rw [← hv24]; exact (Below.refl _ _).alloc (Nat.le_refl _) _
      have HBD : Hid (Blk w24 w23.heap.size 43 #[.string ⟨R.2.1.e.k.toArray⟩, .int .i64 R.2.1.e.s, .int .i64 R.2.1.e.u, .int .i64 R.2.1.e.o, .bool R.2.1.e.has, .slice Ad23 R.2.1.e.v.length cd23, .bool R.2.1.wh, .int .i64 R.2.1.tok]) := Lib.hid (by rw [← hv24]; exact Blk.new _ _ _)
      have HB24 : Hid (Below w.heap.size w w24) := Lib.hid (HB23.out.trans (hb24.mono HB23.out.size))
      replace HTL := Lib.hid (HTL.out.below hb24)
      replace HBR := Lib.hid (HBR.out.below hb24 HBR.out.lt)
      replace HCU := Lib.hid (HCU.out.below hb24)
      replace HRT := Lib.hid (HRT.out.belowC hb24)
      clear hb24
      go_wp2_with fail
      refine (HTL.out.cellsC).mono ?_
      rintro e25 w25 ⟨vs, Av, cv, hvs, rfl, hcv, hlv, hb25⟩
      have HB25 : Hid (Below w.heap.size w w25) := Lib.hid (HB24.out.trans (hb25.mono HB24.out.size))
      replace HTL := Lib.hid (HTL.out.below hb25)
      replace HBR := Lib.hid (HBR.out.below hb25 HBR.out.lt)
      replace HCU := Lib.hid (HCU.out.below hb25)
      replace HRT := Lib.hid (HRT.out.belowC hb25)
      replace HBD := Lib.hid (HBD.out.below hb25 HBD.out.lt)
      have HVS := Lib.hid hvs
      have HCV := Lib.hid hcv
      have HLV := Lib.hid hlv
      clear hb25 hvs hcv hlv
      obtain ⟨sm, hsm⟩ : ∃ sm : Int, (sumC R.1.T : Int) = sm := ⟨_, rfl⟩
      have HSM := Lib.hid hsm
      have hvl : (vs.length : Int) = (R.1.T.length : Int) := by rw [← HVS.out]; simp
      have HVL := Lib.hid hvl
      have g1 : (vs.length : Int) ≤ rc := by rw [hvl, ← HRM2.out.1]; exact HTL.out.ok.len
      have g2 : sm ≤ rb := by rw [← hsm, ← HRM2.out.2]; exact HTL.out.ok.sum
      have hlu2 : (us.length : Int) ≤ 4096 := by have := HLU.out; omega
      have hlv2 : (vs.length : Int) ≤ 4096 := by have := HLV.out; omega
      clear hvl hsm
      go_wp2_with fail
      refine (HTL.out.size (vs.length : Int) sm HVL.out.symm HSM.out).mono ?_
      rintro e26 w26 ⟨rfl, hb26⟩
      have HB26 : Hid (Below w.heap.size w w26) := Lib.hid (HB25.out.trans (hb26.mono HB25.out.size))
      replace HTL := Lib.hid (HTL.out.below hb26)
      replace HBR := Lib.hid (HBR.out.below hb26 HBR.out.lt)
      replace HCU := Lib.hid (HCU.out.below hb26)
      replace HRT := Lib.hid (HRT.out.belowC hb26)
      replace HBD := Lib.hid (HBD.out.below hb26 HBD.out.lt)
      replace HCV := Lib.hid (HCV.out.below hb26)
      clear hb26 
      have r0 := HBR.out.is 0 _ rfl
      have r1 := HBR.out.is 1 _ rfl
      by_cases h30 : R.2.2.2 = 30
      · have HES : Hid (R.1 = S) := Lib.hid (HBS.out h30)
        rw [h30]
        clear h30
        go_wp2_with fail
        refine (samecells_true _ cu _ cv Au Av us vs rfl rfl (HUS.out.trans ((congrArg Cl.T HES.out).symm.trans HVS.out.symm)) (by have := HLU.out; omega) w26 HCU.out.cev HCV.out.cev).mono ?_
        rintro e27 w27 ⟨rfl, hb27⟩
        have HB27 : Hid (Below w.heap.size w w27) := Lib.hid (HB26.out.trans (hb27.mono HB26.out.size))
        replace HTL := Lib.hid (HTL.out.below hb27)
        replace HBR := Lib.hid (HBR.out.below hb27 HBR.out.lt)
        replace HCU := Lib.hid (HCU.out.below hb27)
        replace HRT := Lib.hid (HRT.out.belowC hb27)
        replace HBD := Lib.hid (HBD.out.below hb27 HBD.out.lt)
        replace HCV := Lib.hid (HCV.out.below hb27)
        clear r0 r1
        clear hb27 
        have r0 := HBR.out.is 0 _ rfl
        have r1 := HBR.out.is 1 _ rfl
        go_wp2_with fail
        refine (HTL.out.tokens).mono ?_
        rintro e28 w28 ⟨At2, ct2, rfl, hrt2, hb28⟩
        have HB28 : Hid (Below w.heap.size w w28) := Lib.hid (HB27.out.trans (hb28.mono HB27.out.size))
        replace HTL := Lib.hid (HTL.out.below hb28)
        replace HBR := Lib.hid (HBR.out.below hb28 HBR.out.lt)
        replace HCU := Lib.hid (HCU.out.below hb28)
        replace HRT := Lib.hid (HRT.out.belowC hb28)
        replace HBD := Lib.hid (HBD.out.below hb28 HBD.out.lt)
        replace HCV := Lib.hid (HCV.out.below hb28)
        have HRT2 := Lib.hid hrt2
        clear r0 r1
        clear hb28 hrt2
        have r0 := HBR.out.is 0 _ rfl
        have r1 := HBR.out.is 1 _ rfl
        rw [HES.out]
        rw [HES.out] at HRT2
        go_wp2_with fail
        refine (sameints_true11 _ _ ct2 ct S.nb S.nb At2 At S.tok w28 HRT2.out.row HRT.out.row HSO.out.tl.symm HSO.out.tl.symm (by have := HSO.out.tl; have := HSO.out.nb; omega)).mono ?_
        rintro e29 w29 ⟨rfl, hb29⟩
        have HB29 : Hid (Below w.heap.size w w29) := Lib.hid (HB28.out.trans (hb29.mono HB28.out.size))
        replace HTL := Lib.hid (HTL.out.below hb29)
        replace HBR := Lib.hid (HBR.out.below hb29 HBR.out.lt)
        replace HCU := Lib.hid (HCU.out.below hb29)
        replace HRT := Lib.hid (HRT.out.belowC hb29)
        replace HBD := Lib.hid (HBD.out.below hb29 HBD.out.lt)
        replace HCV := Lib.hid (HCV.out.below hb29)
        replace HRT2 := Lib.hid (HRT2.out.belowC hb29)
        clear r0 r1
        clear hb29 
        have r0 := HBR.out.is 0 _ rfl
        have r1 := HBR.out.is 1 _ rfl
        go_wp2_with fail
        clear r0 r1
        have HRD : Hid (∀ W, Below w29.heap.size w29 W → CeV W Au us ∧ CeV W Av vs) := Lib.hid fun W hb => ⟨HCU.out.cev.below hb, HCV.out.cev.below hb⟩
        have HKV : Hid (∀ x ∈ us, x.1.cl = false → ∃ (j : Nat) (h : j < vs.length), vs[j].1.e.k = x.1.e.k ∧ GeT (tg vs[j].1.e) (tg x.1.e)) := Lib.hid fun x hx hc => by
          obtain ⟨y, hy, h1, h2⟩ := HKD.out x.1 (by rw [← HUS.out]; exact List.mem_map_of_mem hx) hc
          rw [← HVS.out] at hy
          obtain ⟨z, hz, rfl⟩ := List.mem_map.1 hy
          obtain ⟨j, hj, rfl⟩ := List.getElem_of_mem hz
          exact ⟨j, hj, h1, h2⟩
        have HB0 := Lib.hid (Below.refl w29.heap.size w29)
        obtain ⟨wv2, hwv2⟩ : ∃ v, v = wr := ⟨_, rfl⟩
        go_loopw [16] (fun i wr => ∃ iy : Nat, iy ≤ us.length ∧ i = .int .i64 (iy : Int) ∧ Hid (Below w29.heap.size w29 wr)) (fun i _ => us.length - (intOf i).toNat)
        case atStart => exact ⟨0, by omega, rfl, HB0⟩
        case round =>
          obtain ⟨iy, hiy, rfl, HBY⟩ := hrel
          by_cases hly : iy < us.length
          · have hyi : (0 : Int) ≤ (iy : Int) := by omega
            have hyi2 : (iy : Int) < (us.length : Int) := by omega
            have hu := (HRD.out wr HBY.out).1
            have HKX := Lib.hid (HKV.out us[iy] (List.getElem_mem hly))
            obtain ⟨b1, o1, hA1, hc1⟩ := hu.at_ (by omega)
            subst hA1
            have hc1 := hc1 iy hly
            have l7 := hc1.2 7 _ rfl
            obtain ⟨⟨⟨⟨xk, xs, xu, xo, xh, xv⟩, xw, xc, xn⟩, A1, c1⟩, hx⟩ : ∃ p, us[iy]'hly = p := ⟨_, rfl⟩
            have HX := Lib.hid hx
            rw [hx] at l7 HKX
            clear hc1 hu
            cases hxc : xc
            rotate_left
            · subst hxc
              go_wp2_with fail
              go_roundw
              case rel => exact ⟨iy + 1, by omega, by go_num, HBY⟩
              case measure => simp [intOf]; omega
            subst hxc
            replace HKX := Lib.hid (HKX.out rfl)
            go_wp2_with fail
            have HB1 := Lib.hid (Below.refl wr.heap.size wr)
            obtain ⟨wv3, hwv3⟩ : ∃ v, v = wr := ⟨_, rfl⟩
            go_loopw [17, 18] (fun bs i wr => ∃ (iz : Nat) (bv : Bool), iz ≤ vs.length ∧ bs = .bool bv ∧ i = .int .i64 (iz : Int) ∧ Hid (∀ j (h : j < vs.length), j < iz → vs[j].1.e.k = xk → GeT (tg vs[j].1.e) (xs, xu, xo) → bv = true) ∧ Hid (Below wv3.heap.size wv3 wr)) (fun _ i _ => vs.length - (intOf i).toNat)
            case atStart => exact ⟨0, false, by omega, rfl, rfl, Lib.hid (fun j h1 h2 => absurd h2 (by omega)), by rw [hwv3]; exact HB1⟩
            case round =>
              obtain ⟨iz, bv, hiz, rfl, rfl, HBV, HBZ⟩ := hrel
              by_cases hlz : iz < vs.length
              · have hzi : (0 : Int) ≤ (iz : Int) := by omega
                have hzi2 : (iz : Int) < (vs.length : Int) := by omega
                cases hbv : bv
                rotate_left
                · subst hbv
                  go_wp2_with fail
                  refine wp_region_later (by kernel_rfl) (by kernel_rfl) ?_
                  repeat (go_big_quiet_step (fail))
                  refine wpQuiet_nil ?_
                  intro w' hw'
                  obtain ⟨p, rfl⟩ := hw'
                  go_wp2
                  go_roundw
                  case rel => exact ⟨iz + 1, true, by omega, rfl, by go_num, Lib.hid (fun _ _ _ _ _ => rfl), Lib.hid (HBZ.out.trans (p.bel.mono HBZ.out.size))⟩
                  case measure => simp [intOf]; omega
                subst hbv
                have HBT : Hid (Below w29.heap.size w29 wr) := Lib.hid ((show Below w29.heap.size w29 wv3 by rw [hwv3]; exact HBY.out).trans (HBZ.out.mono (by rw [hwv3]; exact HBY.out.size)))
                obtain ⟨hu, hv⟩ := HRD.out wr HBT.out
                obtain ⟨b1', o1', hA1, hc1⟩ := hu.at_ (by omega)
                simp only [Option.some.injEq, Addr.mk.injEq] at hA1
                obtain ⟨rfl, rfl, _⟩ := hA1
                have hc1 := hc1 iy hly
                rw [hx] at hc1
                obtain ⟨b2, o2, hA2, hc2⟩ := hv.at_ (by omega)
                subst hA2
                have hc2 := hc2 iz hlz
                obtain ⟨⟨⟨⟨yk, ys, yu, yo, yh, yv⟩, yw, yc, yn⟩, A2, c2⟩, hy⟩ : ∃ p, vs[iz]'hlz = p := ⟨_, rfl⟩
                have HY := Lib.hid hy
                rw [hy] at hc2
                have l0 := later_cell hc1.1
                have m0 := later_cell hc2.1
                by_cases hkk : yk = xk
                · obtain ⟨cv, hcv⟩ : ∃ cv, cmpT ys yu yo xs xu xo = cv := ⟨_, rfl⟩
                  have HCV2 := Lib.hid hcv
                  have HNG : Hid (¬ 0 ≤ cv → ¬ GeT (ys, yu, yo) (xs, xu, xo)) := Lib.hid fun h1 h2 => h1 (by rw [← hcv]; exact (geT_iff _ _ _ _ _ _).2 h2)
                  have HC := Lib.hid (fun p : Later wr => refcompare_val ys yu yo xs xu xo cv HCV2 p.world)
                  have l1 := later_cell (hc1.2 1 _ rfl)
                  have m1 := later_cell (hc2.2 1 _ rfl)
                  have l2 := later_cell (hc1.2 2 _ rfl)
                  have m2 := later_cell (hc2.2 2 _ rfl)
                  have l3 := later_cell (hc1.2 3 _ rfl)
                  have m3 := later_cell (hc2.2 3 _ rfl)
                  subst hkk
                  clear hc1 hc2 hu hv hx hy hcv
                  by_cases hcz : 0 ≤ cv
                  · go_wp2_with fail
                    refine wp_region_later (by kernel_rfl) (by kernel_rfl) ?_
                    repeat (go_big_quiet_step (first
                      | (go_at_call 18; exact later_of (HC.out _))))
                    refine wpQuiet_nil ?_
                    intro w' hw'
                    obtain ⟨p, rfl⟩ := hw'
                    go_wp2
                    go_roundw
                    case rel => exact ⟨iz + 1, true, by omega, rfl, by go_num, Lib.hid (fun _ _ _ _ _ => rfl), Lib.hid (HBZ.out.trans (p.bel.mono HBZ.out.size))⟩
                    case measure => simp [intOf]; omega
                  · have HCN : Hid (¬ GeT (ys, yu, yo) (xs, xu, xo)) := Lib.hid (HNG.out hcz)
                    have g5 : decide (0 ≤ cv) = false := decide_eq_false hcz
                    clear hcz
                    go_wp2_with fail
                    refine wp_region_later (by kernel_rfl) (by kernel_rfl) ?_
                    repeat (go_big_quiet_step (first
                      | (go_at_call 18; exact later_of (HC.out _))))
                    refine wpQuiet_nil ?_
                    intro w' hw'
                    obtain ⟨p, rfl⟩ := hw'
                    go_wp2
                    go_roundw
                    case rel => exact ⟨iz + 1, false, by omega, rfl, by go_num, Lib.hid (fun j h1 h2 h3 h4 => by
                      rcases Nat.lt_or_ge j iz with h5 | h5
                      · exact HBV.out j h1 h5 h3 h4
                      · have h6 : j = iz := by omega
                        subst h6
                        rw [HY.out] at h4
                        exact (HCN.out h4).elim), Lib.hid (HBZ.out.trans (p.bel.mono HBZ.out.size))⟩
                    case measure => simp [intOf]; omega
                · have e5 := list_ne (a := ⟨yk.toArray⟩) (b := ⟨xk.toArray⟩) (by intro e; apply hkk; have := congrArg (fun z => z.data.toList) e; simpa using this)
                  have e6 : (yk == xk) = false := by simpa using hkk
                  have HNK := Lib.hid hkk
                  clear hc1 hc2 hu hv hx hy hkk
                  go_wp2_with fail
                  refine wp_region_later (by kernel_rfl) (by kernel_rfl) ?_
                  repeat (go_big_quiet_step (fail))
                  refine wpQuiet_nil ?_
                  intro w' hw'
                  obtain ⟨p, rfl⟩ := hw'
                  go_wp2
                  go_roundw
                  case rel => exact ⟨iz + 1, false, by omega, rfl, by go_num, Lib.hid (fun j h1 h2 h3 h4 => by
                    rcases Nat.lt_or_ge j iz with h5 | h5
                    · exact HBV.out j h1 h5 h3 h4
                    · have h6 : j = iz := by omega
                      subst h6
                      rw [HY.out] at h3
                      exact absurd h3 HNK.out), Lib.hid (HBZ.out.trans (p.bel.mono HBZ.out.size))⟩
                  case measure => simp [intOf]; omega
              · have hzi2 : ¬ (iz : Int) < (vs.length : Int) := by omega
                have hbt : bv = true := by
                  obtain ⟨j, hj, h1, h2⟩ := HKX.out
                  exact HBV.out j hj (by omega) h1 h2
                subst hbt
                go_wp2_with fail
                go_roundw
                case rel => exact ⟨iy + 1, by omega, by go_num, Lib.hid ((show Below w29.heap.size w29 wv3 by rw [hwv3]; exact HBY.out).trans (HBZ.out.mono (by rw [hwv3]; exact HBY.out.size)))⟩
                case measure => simp [intOf]; omega
          · have hyi2 : ¬ (iy : Int) < (us.length : Int) := by omega
            replace HTL := Lib.hid (HTL.out.below HBY.out)
            replace HBR := Lib.hid (HBR.out.below HBY.out HBR.out.lt)
            have HBF : Hid (Below w.heap.size w wr) := Lib.hid (HB29.out.trans (HBY.out.mono HB29.out.size))
            clear HBD HCU HCV HRT
            go_wp2_with fail
            go_roundw
            case rel => exact ⟨ix + 1, _, by omega, by go_num, Lib.hid (by have := HTL.out; rwa [Nat.add_assoc] at this), HRM2, HBR, HBF⟩
            case measure => simp [intOf]; omega
      · have g30 : (R.2.2.2 == 30) = false := by simpa using h30
        clear h30
        go_wp2_with fail
        clear r0 r1
        have HRD : Hid (∀ W, Below w26.heap.size w26 W → CeV W Au us ∧ CeV W Av vs) := Lib.hid fun W hb => ⟨HCU.out.cev.below hb, HCV.out.cev.below hb⟩
        have HKV : Hid (∀ x ∈ us, x.1.cl = false → ∃ (j : Nat) (h : j < vs.length), vs[j].1.e.k = x.1.e.k ∧ GeT (tg vs[j].1.e) (tg x.1.e)) := Lib.hid fun x hx hc => by
          obtain ⟨y, hy, h1, h2⟩ := HKD.out x.1 (by rw [← HUS.out]; exact List.mem_map_of_mem hx) hc
          rw [← HVS.out] at hy
          obtain ⟨z, hz, rfl⟩ := List.mem_map.1 hy
          obtain ⟨j, hj, rfl⟩ := List.getElem_of_mem hz
          exact ⟨j, hj, h1, h2⟩
        have HB0 := Lib.hid (Below.refl w26.heap.size w26)
        obtain ⟨wv2, hwv2⟩ : ∃ v, v = wr := ⟨_, rfl⟩
        go_loopw [16] (fun i wr => ∃ iy : Nat, iy ≤ us.length ∧ i = .int .i64 (iy : Int) ∧ Hid (Below w26.heap.size w26 wr)) (fun i _ => us.length - (intOf i).toNat)
        case atStart => exact ⟨0, by omega, rfl, HB0⟩
        case round =>
          obtain ⟨iy, hiy, rfl, HBY⟩ := hrel
          by_cases hly : iy < us.length
          · have hyi : (0 : Int) ≤ (iy : Int) := by omega
            have hyi2 : (iy : Int) < (us.length : Int) := by omega
            have hu := (HRD.out wr HBY.out).1
            have HKX := Lib.hid (HKV.out us[iy] (List.getElem_mem hly))
            obtain ⟨b1, o1, hA1, hc1⟩ := hu.at_ (by omega)
            subst hA1
            have hc1 := hc1 iy hly
            have l7 := hc1.2 7 _ rfl
            obtain ⟨⟨⟨⟨xk, xs, xu, xo, xh, xv⟩, xw, xc, xn⟩, A1, c1⟩, hx⟩ : ∃ p, us[iy]'hly = p := ⟨_, rfl⟩
            have HX := Lib.hid hx
            rw [hx] at l7 HKX
            clear hc1 hu
            cases hxc : xc
            rotate_left
            · subst hxc
              go_wp2_with fail
              go_roundw
              case rel => exact ⟨iy + 1, by omega, by go_num, HBY⟩
              case measure => simp [intOf]; omega
            subst hxc
            replace HKX := Lib.hid (HKX.out rfl)
            go_wp2_with fail
            have HB1 := Lib.hid (Below.refl wr.heap.size wr)
            obtain ⟨wv3, hwv3⟩ : ∃ v, v = wr := ⟨_, rfl⟩
            go_loopw [17, 18] (fun bs i wr => ∃ (iz : Nat) (bv : Bool), iz ≤ vs.length ∧ bs = .bool bv ∧ i = .int .i64 (iz : Int) ∧ Hid (∀ j (h : j < vs.length), j < iz → vs[j].1.e.k = xk → GeT (tg vs[j].1.e) (xs, xu, xo) → bv = true) ∧ Hid (Below wv3.heap.size wv3 wr)) (fun _ i _ => vs.length - (intOf i).toNat)
            case atStart => exact ⟨0, false, by omega, rfl, rfl, Lib.hid (fun j h1 h2 => absurd h2 (by omega)), by rw [hwv3]; exact HB1⟩
            case round =>
              obtain ⟨iz, bv, hiz, rfl, rfl, HBV, HBZ⟩ := hrel
              by_cases hlz : iz < vs.length
              · have hzi : (0 : Int) ≤ (iz : Int) := by omega
                have hzi2 : (iz : Int) < (vs.length : Int) := by omega
                cases hbv : bv
                rotate_left
                · subst hbv
                  go_wp2_with fail
                  refine wp_region_later (by kernel_rfl) (by kernel_rfl) ?_
                  repeat (go_big_quiet_step (fail))
                  refine wpQuiet_nil ?_
                  intro w' hw'
                  obtain ⟨p, rfl⟩ := hw'
                  go_wp2
                  go_roundw
                  case rel => exact ⟨iz + 1, true, by omega, rfl, by go_num, Lib.hid (fun _ _ _ _ _ => rfl), Lib.hid (HBZ.out.trans (p.bel.mono HBZ.out.size))⟩
                  case measure => simp [intOf]; omega
                subst hbv
                have HBT : Hid (Below w26.heap.size w26 wr) := Lib.hid ((show Below w26.heap.size w26 wv3 by rw [hwv3]; exact HBY.out).trans (HBZ.out.mono (by rw [hwv3]; exact HBY.out.size)))
                obtain ⟨hu, hv⟩ := HRD.out wr HBT.out
                obtain ⟨b1', o1', hA1, hc1⟩ := hu.at_ (by omega)
                simp only [Option.some.injEq, Addr.mk.injEq] at hA1
                obtain ⟨rfl, rfl, _⟩ := hA1
                have hc1 := hc1 iy hly
                rw [hx] at hc1
                obtain ⟨b2, o2, hA2, hc2⟩ := hv.at_ (by omega)
                subst hA2
                have hc2 := hc2 iz hlz
                obtain ⟨⟨⟨⟨yk, ys, yu, yo, yh, yv⟩, yw, yc, yn⟩, A2, c2⟩, hy⟩ : ∃ p, vs[iz]'hlz = p := ⟨_, rfl⟩
                have HY := Lib.hid hy
                rw [hy] at hc2
                have l0 := later_cell hc1.1
                have m0 := later_cell hc2.1
                by_cases hkk : yk = xk
                · obtain ⟨cv, hcv⟩ : ∃ cv, cmpT ys yu yo xs xu xo = cv := ⟨_, rfl⟩
                  have HCV2 := Lib.hid hcv
                  have HNG : Hid (¬ 0 ≤ cv → ¬ GeT (ys, yu, yo) (xs, xu, xo)) := Lib.hid fun h1 h2 => h1 (by rw [← hcv]; exact (geT_iff _ _ _ _ _ _).2 h2)
                  have HC := Lib.hid (fun p : Later wr => refcompare_val ys yu yo xs xu xo cv HCV2 p.world)
                  have l1 := later_cell (hc1.2 1 _ rfl)
                  have m1 := later_cell (hc2.2 1 _ rfl)
                  have l2 := later_cell (hc1.2 2 _ rfl)
                  have m2 := later_cell (hc2.2 2 _ rfl)
                  have l3 := later_cell (hc1.2 3 _ rfl)
                  have m3 := later_cell (hc2.2 3 _ rfl)
                  subst hkk
                  clear hc1 hc2 hu hv hx hy hcv
                  by_cases hcz : 0 ≤ cv
                  · go_wp2_with fail
                    refine wp_region_later (by kernel_rfl) (by kernel_rfl) ?_
                    repeat (go_big_quiet_step (first
                      | (go_at_call 18; exact later_of (HC.out _))))
                    refine wpQuiet_nil ?_
                    intro w' hw'
                    obtain ⟨p, rfl⟩ := hw'
                    go_wp2
                    go_roundw
                    case rel => exact ⟨iz + 1, true, by omega, rfl, by go_num, Lib.hid (fun _ _ _ _ _ => rfl), Lib.hid (HBZ.out.trans (p.bel.mono HBZ.out.size))⟩
                    case measure => simp [intOf]; omega
                  · have HCN : Hid (¬ GeT (ys, yu, yo) (xs, xu, xo)) := Lib.hid (HNG.out hcz)
                    have g5 : decide (0 ≤ cv) = false := decide_eq_false hcz
                    clear hcz
                    go_wp2_with fail
                    refine wp_region_later (by kernel_rfl) (by kernel_rfl) ?_
                    repeat (go_big_quiet_step (first
                      | (go_at_call 18; exact later_of (HC.out _))))
                    refine wpQuiet_nil ?_
                    intro w' hw'
                    obtain ⟨p, rfl⟩ := hw'
                    go_wp2
                    go_roundw
                    case rel => exact ⟨iz + 1, false, by omega, rfl, by go_num, Lib.hid (fun j h1 h2 h3 h4 => by
                      rcases Nat.lt_or_ge j iz with h5 | h5
                      · exact HBV.out j h1 h5 h3 h4
                      · have h6 : j = iz := by omega
                        subst h6
                        rw [HY.out] at h4
                        exact (HCN.out h4).elim), Lib.hid (HBZ.out.trans (p.bel.mono HBZ.out.size))⟩
                    case measure => simp [intOf]; omega
                · have e5 := list_ne (a := ⟨yk.toArray⟩) (b := ⟨xk.toArray⟩) (by intro e; apply hkk; have := congrArg (fun z => z.data.toList) e; simpa using this)
                  have e6 : (yk == xk) = false := by simpa using hkk
                  have HNK := Lib.hid hkk
                  clear hc1 hc2 hu hv hx hy hkk
                  go_wp2_with fail
                  refine wp_region_later (by kernel_rfl) (by kernel_rfl) ?_
                  repeat (go_big_quiet_step (fail))
                  refine wpQuiet_nil ?_
                  intro w' hw'
                  obtain ⟨p, rfl⟩ := hw'
                  go_wp2
                  go_roundw
                  case rel => exact ⟨iz + 1, false, by omega, rfl, by go_num, Lib.hid (fun j h1 h2 h3 h4 => by
                    rcases Nat.lt_or_ge j iz with h5 | h5
                    · exact HBV.out j h1 h5 h3 h4
                    · have h6 : j = iz := by omega
                      subst h6
                      rw [HY.out] at h3
                      exact absurd h3 HNK.out), Lib.hid (HBZ.out.trans (p.bel.mono HBZ.out.size))⟩
                  case measure => simp [intOf]; omega
              · have hzi2 : ¬ (iz : Int) < (vs.length : Int) := by omega
                have hbt : bv = true := by
                  obtain ⟨j, hj, h1, h2⟩ := HKX.out
                  exact HBV.out j hj (by omega) h1 h2
                subst hbt
                go_wp2_with fail
                go_roundw
                case rel => exact ⟨iy + 1, by omega, by go_num, Lib.hid ((show Below w26.heap.size w26 wv3 by rw [hwv3]; exact HBY.out).trans (HBZ.out.mono (by rw [hwv3]; exact HBY.out.size)))⟩
                case measure => simp [intOf]; omega
          · have hyi2 : ¬ (iy : Int) < (us.length : Int) := by omega
            replace HTL := Lib.hid (HTL.out.below HBY.out)
            replace HBR := Lib.hid (HBR.out.below HBY.out HBR.out.lt)
            have HBF : Hid (Below w.heap.size w wr) := Lib.hid (HB26.out.trans (HBY.out.mono HB26.out.size))
            clear HBD HCU HCV HRT
            go_wp2_with fail
            go_roundw
            case rel => exact ⟨ix + 1, _, by omega, by go_num, Lib.hid (by have := HTL.out; rwa [Nat.add_assoc] at this), HRM2, HBR, HBF⟩
            case measure => simp [intOf]; omega
    · have hki2 : ¬ (ix : Int) < (n : Int) := by omega
      go_wp2_with (go_at_call 11; refine (known11_any _).mono ?_; rintro e81 w81 ⟨rfl, hb81⟩)
      go_ret
      exact ⟨rfl, HBL.out.trans (hb81.mono HBL.out.size)⟩
end Go.Proofs.Ytkljcoecgmpgpaa
