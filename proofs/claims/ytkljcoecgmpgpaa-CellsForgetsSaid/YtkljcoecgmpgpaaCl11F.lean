/- What a table tells once it forgot. -/
import Derived.Test.YtkljcoecgmpgpaaCl1
namespace Go.Proofs.Ytkljcoecgmpgpaa
open Go.RowKit Go.ChangeShapes Mem Be Word Rg Go.Maps
set_option maxRecDepth 100000
set_option maxHeartbeats 16000000
set_option linter.unusedVariables false
set_option linter.unusedSimpArgs false
theorem forgets_walk (rc rb nb : Int) (fr : Bool) (A : Option Addr) (n c : Nat) (rs : List D11) (hn : n = rs.length) (hl : n ≤ 1700000000000) (k : List UInt8) (hkm : k.length ≤ maxLen) (w : World) (h : InD11 w A rs) :
    Calls Try.prog 8 #[.agg #[.int .i64 rc, .int .i64 rb, .int .i64 nb, .bool fr], .slice A n c, .string ⟨k.toArray⟩] w (IsB true w) := by
  have HR := Lib.hid h
  have HN := Lib.hid hn
  have HL : Hid (n ≤ 1700000000000) := Lib.hid hl
  have hni : (n : Int) ≤ 1700000000000 := by omega
  have hni0 : (0 : Int) ≤ (n : Int) := by omega
  have HLG := Lib.hid fun W (hb : Below w.heap.size w W) => long11_any n c A rs hn (by unfold maxLen; omega) W (h.at_ hb)
  have hkz : ((⟨k.toArray⟩ : ByteArray).size : Int) = (k.length : Int) := ba_len k
  have HKM : Hid (k.length ≤ maxLen) := Lib.hid hkm
  have hkm2 : (k.length : Int) ≤ 9223372036854775807 := by unfold maxLen at hkm; omega
  have hkm0 : (0 : Int) ≤ (k.length : Int) := by omega
  clear hkm
  have HBR := Lib.hid (Blk.new w 23 #[.int .i64 rc, .int .i64 rb, .int .i64 nb, .bool fr])
  have HBX : Hid (Below w.heap.size w (w.alloc (.cells #[.int .i64 rc, .int .i64 rb, .int .i64 nb, .bool fr] 23))) := Lib.hid ((Below.refl _ _).alloc (Nat.le_refl _) _)
  clear h hn hl
  by_cases hok : RoomOk rc rb nb
  rotate_left
  · have HNW := Lib.hid (new_bad11 rc rb nb fr hok (w.alloc (.cells #[.int .i64 rc, .int .i64 rb, .int .i64 nb, .bool fr] 23)))
    clear hok
    go_enter Try.func8, Try.ntmps8
    go_wp2_with fail
    refine HNW.out.mono ?_
    rintro e1 w1 ⟨rfl, hb1⟩
    have HB1 : Hid (Below w.heap.size w w1) := Lib.hid (HBX.out.trans (hb1.mono HBX.out.size))
    clear hb1 HNW
    go_wp2_with fail
    refine (HLG.out w1 HB1.out).mono ?_
    rintro e2 w2 ⟨⟨z2, rfl⟩, hb2⟩
    have HB2 : Hid (Below w.heap.size w w2) := Lib.hid (HB1.out.trans (hb2.mono HB1.out.size))
    clear hb2 
    by_cases b1 : 1500 < z2
    · go_wp2_with (go_at_call 11; refine (known11_any _).mono ?_; rintro e3 w3 ⟨rfl, hb3⟩)
      go_ret
      exact ⟨rfl, HB2.out.trans (hb3.mono HB2.out.size)⟩
    · go_wp2_with (go_at_call 11; refine (known11_any _).mono ?_; rintro e3 w3 ⟨rfl, hb3⟩)
      go_ret
      exact ⟨rfl, HB2.out.trans (hb3.mono HB2.out.size)⟩
  obtain ⟨nb, rfl⟩ : ∃ k : Nat, nb = (k : Int) := ⟨nb.toNat, by have := hok.2.2.1; omega⟩
  have HNW := Lib.hid (new_ok11 rc rb nb fr hok (w.alloc (.cells #[.int .i64 rc, .int .i64 rb, .int .i64 (nb : Int), .bool fr] 23)))
  have HOK := Lib.hid (ok_newS (fr := fr) hok)
  obtain ⟨S0, hS0⟩ : ∃ S0, newS rc rb nb fr = S0 := ⟨_, rfl⟩
  have HS0 := Lib.hid hS0
  rw [hS0] at HNW HOK
  clear hok hS0
  go_enter Try.func8, Try.ntmps8
  go_wp2_with fail
  refine HNW.out.mono ?_
  intro e1 w1 hx
  obtain ⟨g, b, tk, rfl, ht, hnr, hb1⟩ := tb1_new2 HBX.out hx HOK.out
  have HT := Lib.hid ht
  have HB1 : Hid (Below w.heap.size w w1) := Lib.hid ht.bel
  have HNR : Hid (¬ Own3 g b tk w.heap.size) := Lib.hid (hnr _ (by simp))
  replace HBR := Lib.hid (HBR.out.below hb1 HBR.out.lt)
  clear hx ht hnr hb1 HNW
  go_wp2_with fail
  refine (HLG.out w1 HB1.out).mono ?_
  rintro e2 w2 ⟨⟨z2, rfl⟩, hb2⟩
  have HB2 : Hid (Below w.heap.size w w2) := Lib.hid (HB1.out.trans (hb2.mono HB1.out.size))
  replace HT := Lib.hid (HT.out.below hb2)
  replace HBR := Lib.hid (HBR.out.below hb2 HBR.out.lt)
  clear hb2 
  by_cases b1 : 1500 < z2
  · go_wp2_with (go_at_call 11; refine (known11_any _).mono ?_; rintro e3 w3 ⟨rfl, hb3⟩)
    go_ret
    exact ⟨rfl, HB2.out.trans (hb3.mono HB2.out.size)⟩
  by_cases b2 : (k.length : Int) = 0
  · have e2 : ((k.length : Int) == 0) = true := by simpa using b2
    have e2n : k = [] := List.eq_nil_of_length_eq_zero (by omega)
    subst e2n
    go_wp2_with (go_at_call 11; refine (known11_any _).mono ?_; rintro e3 w3 ⟨rfl, hb3⟩)
    go_ret
    exact ⟨rfl, HB2.out.trans (hb3.mono HB2.out.size)⟩
  have e2 : ((k.length : Int) == 0) = false := by simpa using b2
  have e2n : k.isEmpty = false := by
    cases k with
    | nil => exact absurd rfl b2
    | cons a r => rfl
  by_cases b3 : 250 < (k.length : Int)
  · go_wp2_with (go_at_call 11; refine (known11_any _).mono ?_; rintro e3 w3 ⟨rfl, hb3⟩)
    go_ret
    exact ⟨rfl, HB2.out.trans (hb3.mono HB2.out.size)⟩
  have HK0 : Hid (k ≠ [] ∧ k.length ≤ 250) := Lib.hid ⟨fun e => b2 (by rw [e]; rfl), by omega⟩
  have HQ1 : Hid (1 ≤ 10000000000000) := Lib.hid (by first | omega | (have h1 := HL.out; omega) | (have h1 := HL.out; have h2 := HL2.out; omega))
  go_wp2_with fail
  go_loopw [9] (fun i wr => ∃ (ix : Nat) (S : Cl), ix ≤ n ∧ i = .int .i64 (ix : Int) ∧ Hid (Tb1 w wr (Own3 g b tk) g b tk S (1 + ix)) ∧ Hid (rs.take ix |>.foldl (fun S d => (d11S S d).1) S0 |> (· = S)) ∧ Hid (Blk wr w.heap.size 23 #[.int .i64 rc, .int .i64 rb, .int .i64 (nb : Int), .bool fr]) ∧ Hid (Below w.heap.size w wr)) (fun i _ => n - (intOf i).toNat)
  case atStart => exact ⟨0, S0, by omega, rfl, HT, Lib.hid rfl, HBR, HB2⟩
  case round =>
    obtain ⟨ix, S, hk, rfl, HTL, HFO, HBR, HBL⟩ := hrel
    by_cases hlt : ix < n
    · have hk1 : ix < rs.length := by rw [← HN.out]; exact hlt
      obtain ⟨bb, o, hA, hbl, hc⟩ := d11s_open (HR.out wr HBL.out).1 (by omega)
      subst hA
      have hc := hc ix hk1
      have HD := Lib.hid (done11_round HR.out HTL.out hk1 (by have h1 := HL.out; have h2 := HQ1.out; omega))
      have hstep : rs.take (ix + 1) = rs.take ix ++ [rs[ix]] := List.take_succ_eq_append_getElem hk1
      have HFO2 : Hid (rs.take (ix + 1) |>.foldl (fun S d => (d11S S d).1) S0 |> (· = (d11S S rs[ix]).1)) := Lib.hid (by
        have h1 := HFO.out
        simp only at h1 ⊢
        rw [hstep, List.foldl_append, h1]
        rfl)
      obtain ⟨d, hd⟩ : ∃ d, rs[ix] = d := ⟨_, rfl⟩
      rw [hd] at hc HD HFO2
      have f0 := hc 0 _ rfl
      rw [Nat.add_zero] at f0
      have f1 := hc 1 _ rfl
      have f2 := hc 2 _ rfl
      have f3 := hc 3 _ rfl
      have f4 := hc 4 _ rfl
      have f5 := hc 5 _ rfl
      have f6 := hc 6 _ rfl
      have f7 := hc 7 _ rfl
      have hki : (0 : Int) ≤ (ix : Int) := by omega
      have hki2 : (ix : Int) < (n : Int) := by omega
      clear hc hstep hd hk1
      unfold dV11 at HD
      go_wp2_with fail
      refine (HD.out).mono ?_
      rintro e21 w21 ⟨Ad21, cd21, rfl, _, ht21, tu21⟩
      replace HBR := Lib.hid (HBR.out.touchT tu21 (HNR.out))
      replace HTL := Lib.hid ht21
      have HB21 : Hid (Below w.heap.size w w21) := Lib.hid ht21.bel
      clear ht21 tu21 
      go_wp2
      go_roundw
      case rel => exact ⟨ix + 1, _, by omega, by go_num, Lib.hid (by have := HTL.out; rwa [Nat.add_assoc] at this), HFO2, HBR, HB21⟩
      case measure => simp [intOf]; omega
    · obtain ⟨S1, hS1⟩ : ∃ S1, S1 = S := ⟨_, rfl⟩
      have hkn : ix = n := by omega
      have hkc : (ix : Int) = (n : Int) := by omega
      rw [hkn] at HTL HFO
      rw [hkc]
      have HF1 : Hid (rs.foldl (fun S d => (d11S S d).1) S0 = S) := Lib.hid (by have h1 := HFO.out; simp only at h1; rw [HN.out, List.take_of_length_le (Nat.le_refl _)] at h1; exact h1)
      clear hkn hkc hlt hk HFO hS1 S1
      obtain ⟨wv, hwv⟩ : ∃ v, v = wr := ⟨_, rfl⟩
      have HT := HTL
      clear HTL
      have HSO : Hid (OkC S) := Lib.hid HT.out.ok
      have HQB : Hid (1 + n ≤ 20000000000000) := Lib.hid (by have := HL.out; omega)
      go_wp2_with fail
      refine (HT.out.cellsC).mono ?_
      rintro e33 w33 ⟨us, Au, cu, hus, rfl, hcu, hlu, hb33⟩
      have HB33 : Hid (Below w.heap.size w w33) := Lib.hid (HBL.out.trans (hb33.mono HBL.out.size))
      replace HT := Lib.hid (HT.out.below hb33)
      replace HBR := Lib.hid (HBR.out.below hb33 HBR.out.lt)
      have HUS := Lib.hid hus
      have HCU := Lib.hid hcu
      have HLU := Lib.hid hlu
      clear hb33 hus hcu hlu
      go_wp2_with fail
      refine (HT.out.tokens).mono ?_
      rintro e34 w34 ⟨At, ct, rfl, hrt, hb34⟩
      have HB34 : Hid (Below w.heap.size w w34) := Lib.hid (HB33.out.trans (hb34.mono HB33.out.size))
      replace HT := Lib.hid (HT.out.below hb34)
      replace HBR := Lib.hid (HBR.out.below hb34 HBR.out.lt)
      replace HCU := Lib.hid (HCU.out.below hb34)
      have HRT := Lib.hid hrt
      clear hb34 hrt
      go_wp2_with fail
      refine (HT.out.forget (by have := HQB.out; omega)).mono ?_
      rintro e35 w35 ⟨rfl, ht35, tu35⟩
      replace HBR := Lib.hid (HBR.out.touchT tu35 (HNR.out))
      replace HCU := Lib.hid (HCU.out.touch tu35)
      replace HRT := Lib.hid (HRT.out.touch tu35)
      replace HT := Lib.hid ht35
      have HB35 : Hid (Below w.heap.size w w35) := Lib.hid ht35.bel
      clear ht35 tu35 
      go_wp2_with fail
      refine (HT.out.cellsC).mono ?_
      rintro e36 w36 ⟨vs, Av, cv, hvs, rfl, hcv, hlv, hb36⟩
      have HB36 : Hid (Below w.heap.size w w36) := Lib.hid (HB35.out.trans (hb36.mono HB35.out.size))
      replace HT := Lib.hid (HT.out.below hb36)
      replace HBR := Lib.hid (HBR.out.below hb36 HBR.out.lt)
      replace HCU := Lib.hid (HCU.out.below hb36)
      replace HRT := Lib.hid (HRT.out.belowC hb36)
      have HVS := Lib.hid hvs
      have HCV := Lib.hid hcv
      have HLV := Lib.hid hlv
      clear hb36 hvs hcv hlv
      go_wp2_with fail
      refine (HT.out.query k HKM.out (by have := HQB.out; omega)).mono ?_
      rintro e37 w37 ⟨Aq, cq, rfl, _, _, ht37, tu37⟩
      replace HBR := Lib.hid (HBR.out.touchT tu37 (HNR.out))
      replace HCU := Lib.hid (HCU.out.touch tu37)
      replace HRT := Lib.hid (HRT.out.touch tu37)
      replace HCV := Lib.hid (HCV.out.touch tu37)
      replace HT := Lib.hid ht37
      have HB37 : Hid (Below w.heap.size w w37) := Lib.hid ht37.bel
      clear ht37 tu37 
      have hq1 : (queryS (forgetS S) k).2.2 = 0 := (query_ok HK0.out.1 HK0.out.2).1
      have HQT : Hid ((queryS (forgetS S) k).2.1.tok = tokK (queryS (forgetS S) k).1 k ∧ (queryS (forgetS S) k).1.tok = S.tok.map (· + 1) ∧ (queryS (forgetS S) k).1.nb = S.nb) := Lib.hid (by
        obtain ⟨_, h2, h3, h4, _⟩ := query_ok (S := forgetS S) HK0.out.1 HK0.out.2
        refine ⟨?_, h3, h4⟩
        rw [h2]; unfold tokK; rw [h3, h4])
      have HQW := Lib.hid (forget_query HSO.out k)
      obtain ⟨R, hR⟩ : ∃ R, queryS (forgetS S) k = R := ⟨_, rfl⟩
      rw [hR] at hq1 HQT HQW HT ⊢
      rw [hq1]
      clear hR hq1
      unfold repV
      rw [HQW.out]
      have HNQ : Hid (¬ Own3 g b tk w37.heap.size) := Lib.hid fun hk => by have := (HT.out.own _ hk).2; omega
      obtain ⟨tq, htq⟩ : ∃ tq, R.2.1.tok = tq := ⟨_, rfl⟩
      rw [htq]
      have HTQ : Hid (tq = tokK R.1 k) := Lib.hid (htq.symm.trans HQT.out.1)
      have htq0 : 0 ≤ tq := by rw [HTQ.out]; exact HT.out.ok.t0 _ (tokK_mem HT.out.ok k)
      have htq1 : tq ≤ 4611686018427300000 := by rw [HTQ.out]; exact (HT.out.us (by have := HQB.out; omega)).2 _ (tokK_mem HT.out.ok k)
      have HLEN : Hid (vs.length = us.length) := Lib.hid (by
        have h1 := congrArg List.length HUS.out
        have h2 := congrArg List.length HVS.out
        rw [List.length_map] at h1 h2
        rw [h1, h2]
        exact List.length_map _)
      have HNBE : Hid (S.nb = nb) := Lib.hid (by rw [← HF1.out, (fold_room (q := 1) rs S0 HOK.out).2.2, ← HS0.out]; exact (newS_room rc rb nb _).2.2)
      have g1 : ((vs.length : Int) != (us.length : Int)) = false := by rw [HLEN.out]; simp
      have g2 : ((S.nb : Int) != (nb : Int)) = false := by rw [HNBE.out]; simp
      have hlu2 : (us.length : Int) ≤ 4096 := by have := HLU.out; omega
      have hlv2 : (vs.length : Int) ≤ 4096 := by have := HLV.out; omega
      have hlv3 : (0 : Int) ≤ (vs.length : Int) := by omega
      obtain ⟨w38, hv38⟩ : ∃ V, w37.alloc (.cells #[.string ⟨R.2.1.e.k.toArray⟩, .int .i64 R.2.1.e.s, .int .i64 R.2.1.e.u, .int .i64 R.2.1.e.o, .bool R.2.1.e.has, .slice Aq R.2.1.e.v.length cq, .bool false, .int .i64 tq] 43) = V := ⟨_, rfl⟩
      have hb38 : Below w37.heap.size w37 w38 := by rw [← hv38]; exact (Below.refl _ _).alloc (Nat.le_refl _) _
      have HBQ : Hid (Blk w38 w37.heap.size 43 #[.string ⟨R.2.1.e.k.toArray⟩, .int .i64 R.2.1.e.s, .int .i64 R.2.1.e.u, .int .i64 R.2.1.e.o, .bool R.2.1.e.has, .slice Aq R.2.1.e.v.length cq, .bool false, .int .i64 tq]) := Lib.hid (by rw [← hv38]; exact Blk.new _ _ _)
      have HB38 : Hid (Below w.heap.size w w38) := Lib.hid (HB37.out.trans (hb38.mono HB37.out.size))
      replace HT := Lib.hid (HT.out.below hb38)
      replace HBR := Lib.hid (HBR.out.below hb38 HBR.out.lt)
      replace HCU := Lib.hid (HCU.out.below hb38)
      replace HRT := Lib.hid (HRT.out.belowC hb38)
      replace HCV := Lib.hid (HCV.out.below hb38)
      clear hb38
      have r2 := HBR.out.is 2 _ rfl
      have x6 := HBQ.out.is 6 _ rfl
      have x7 := HBQ.out.is 7 _ rfl
      go_wp2_with fail
      refine (HT.out.tokens).mono ?_
      rintro e39 w39 ⟨At2, ct2, rfl, hrt2, hb39⟩
      have HB39 : Hid (Below w.heap.size w w39) := Lib.hid (HB38.out.trans (hb39.mono HB38.out.size))
      replace HT := Lib.hid (HT.out.below hb39)
      replace HBR := Lib.hid (HBR.out.below hb39 HBR.out.lt)
      replace HCU := Lib.hid (HCU.out.below hb39)
      replace HRT := Lib.hid (HRT.out.belowC hb39)
      replace HCV := Lib.hid (HCV.out.below hb39)
      replace HBQ := Lib.hid (HBQ.out.below hb39 HBQ.out.lt)
      have HRT2 := Lib.hid hrt2
      clear r2 x6 x7
      clear hb39 hrt2
      have r2 := HBR.out.is 2 _ rfl
      have x6 := HBQ.out.is 6 _ rfl
      have x7 := HBQ.out.is 7 _ rfl
      have HSI := Lib.hid (sameints_first _ _ ct2 ct R.1.nb At2 At R.1.tok S.tok w39 HRT2.out.row HRT.out.row HT.out.ok.tl.symm (by rw [HQT.out.2.2]; exact HSO.out.tl.symm) (by have := HT.out.ok.nb; omega) (by have := HT.out.ok.nb; omega) (fun i h1 h2 => by have := HQT.out.2.1; simp only [this]; exact map_inc_ne i _ h2))
      rw [HQT.out.2.2] at HSI ⊢
      go_wp2_with fail
      refine (HSI.out).mono ?_
      rintro e40 w40 ⟨rfl, hb40⟩
      have HB40 : Hid (Below w.heap.size w w40) := Lib.hid (HB39.out.trans (hb40.mono HB39.out.size))
      replace HT := Lib.hid (HT.out.below hb40)
      replace HBR := Lib.hid (HBR.out.below hb40 HBR.out.lt)
      replace HCU := Lib.hid (HCU.out.below hb40)
      replace HRT := Lib.hid (HRT.out.belowC hb40)
      replace HCV := Lib.hid (HCV.out.below hb40)
      replace HBQ := Lib.hid (HBQ.out.below hb40 HBQ.out.lt)
      replace HRT2 := Lib.hid (HRT2.out.belowC hb40)
      clear r2 x6 x7
      clear hb40  HSI
      have r2 := HBR.out.is 2 _ rfl
      have x6 := HBQ.out.is 6 _ rfl
      have x7 := HBQ.out.is 7 _ rfl
      clear r2 x6 x7
      go_wp2_with fail
      have HRD : Hid (∀ W, Below w40.heap.size w40 W → CeV W Au us ∧ CeV W Av vs) := Lib.hid fun W hb => ⟨HCU.out.cev.below hb, HCV.out.cev.below hb⟩
      have HB0 := Lib.hid (Below.refl w40.heap.size w40)
      have HEQ : Hid (∀ i (h1 : i < us.length) (h2 : i < vs.length), vs[i].1 = unW us[i].1) := Lib.hid fun i h1 h2 => by
        have e1 : vs.map Prod.fst = (us.map Prod.fst).map unW := by rw [HUS.out, HVS.out]; rfl
        have := List.getElem_of_eq e1 (i := i) (by simpa using h2)
        simpa using this
      obtain ⟨wv2, hwv2⟩ : ∃ v, v = wr := ⟨_, rfl⟩
      go_loopw [15] (fun i wr => ∃ ix : Nat, ix ≤ vs.length ∧ i = .int .i64 (ix : Int) ∧ Hid (Below w40.heap.size w40 wr)) (fun i _ => vs.length - (intOf i).toNat)
      case atStart => exact ⟨0, by omega, rfl, HB0⟩
      case round =>
        obtain ⟨ix, hix, rfl, HBZ⟩ := hrel
        by_cases hlt : ix < vs.length
        · have hk1 : ix < us.length := by rw [← HLEN.out]; exact hlt
          obtain ⟨hu, hv⟩ := HRD.out wr HBZ.out
          have hee := HEQ.out ix hk1 hlt
          have v1 := hu.val us[ix] (List.getElem_mem hk1)
          have v2 := hv.val vs[ix] (List.getElem_mem hlt)
          obtain ⟨b1', o1, hA1, hc1⟩ := hu.at_ (by omega)
          obtain ⟨b2', o2, hA2, hc2⟩ := hv.at_ (by omega)
          subst hA1
          subst hA2
          have hc1 := hc1 ix hk1
          have hc2 := hc2 ix hlt
          obtain ⟨⟨⟨x, wh, cl, us'⟩, A1, c1⟩, hx⟩ : ∃ p, us[ix]'hk1 = p := ⟨_, rfl⟩
          obtain ⟨⟨⟨y, wh2, cl2, us2⟩, A2, c2⟩, hy⟩ : ∃ p, vs[ix]'hlt = p := ⟨_, rfl⟩
          rw [hx] at hc1 v1 hee
          rw [hy] at hc2 v2 hee
          unfold unW at hee
          simp only [CP.mk.injEq] at hc1 hc2 v1 v2 hee
          obtain ⟨rfl, rfl, rfl, rfl⟩ := hee
          have HC := Lib.hid (fun p : Later wr => refsame_self11 ⟨y.k.toArray⟩ y.s y.u y.o y.has A2 A1 y.v c2 c1 y.v.length y.v.length rfl rfl p.world (v2.below p.bel) (v1.below p.bel))
          have l0 := later_cell hc1.1
          have m0 := later_cell hc2.1
          have l1 := later_cell (hc1.2 1 _ rfl)
          have m1 := later_cell (hc2.2 1 _ rfl)
          have l2 := later_cell (hc1.2 2 _ rfl)
          have m2 := later_cell (hc2.2 2 _ rfl)
          have l3 := later_cell (hc1.2 3 _ rfl)
          have m3 := later_cell (hc2.2 3 _ rfl)
          have l4 := later_cell (hc1.2 4 _ rfl)
          have m4 := later_cell (hc2.2 4 _ rfl)
          have l5 := later_cell (hc1.2 5 _ rfl)
          have m5 := later_cell (hc2.2 5 _ rfl)
          have l6 := later_cell (hc1.2 6 _ rfl)
          have m6 := later_cell (hc2.2 6 _ rfl)
          have l7 := later_cell (hc1.2 7 _ rfl)
          have m7 := later_cell (hc2.2 7 _ rfl)
          have hki : (0 : Int) ≤ (ix : Int) := by omega
          have hki2 : (ix : Int) < (vs.length : Int) := by omega
          have hki3 : (ix : Int) < (us.length : Int) := by omega
          have e1 : (cl2 != cl2) = false := by simp
          clear hc1 hc2 hx hy v1 v2 hu hv
          go_wp2_with fail
          refine wp_region_later (by kernel_rfl) (by kernel_rfl) ?_
          repeat (go_big_quiet_step (first
            | (go_at_call 27; exact later_of (HC.out _))))
          refine wpQuiet_nil ?_
          intro w' hw'
          obtain ⟨p, rfl⟩ := hw'
          go_wp2
          go_roundw
          case rel => exact ⟨ix + 1, by omega, by go_num, Lib.hid (HBZ.out.trans (p.bel.mono HBZ.out.size))⟩
          case measure => simp [intOf]; omega
        · have hki2 : ¬ (ix : Int) < (vs.length : Int) := by omega
          have HBZ2 : Hid (Below w.heap.size w wr) := Lib.hid (HB40.out.trans (HBZ.out.mono HB40.out.size))
          replace HT := Lib.hid (HT.out.below HBZ.out)
          replace HBR := Lib.hid (HBR.out.below HBZ.out HBR.out.lt)
          replace HCU := Lib.hid (HCU.out.below HBZ.out)
          replace HRT := Lib.hid (HRT.out.belowC HBZ.out)
          replace HCV := Lib.hid (HCV.out.below HBZ.out)
          replace HBQ := Lib.hid (HBQ.out.below HBZ.out HBQ.out.lt)
          replace HRT2 := Lib.hid (HRT2.out.belowC HBZ.out)
          have x7 := HBQ.out.is 7 _ rfl
          have HFW : Hid ((fillS R.1 (entN k) (tq - 1)).2.1 = false) := Lib.hid (fill_wrong (by show tq - 1 ≠ tokK R.1 k; rw [← HTQ.out]; omega)).1
          have HFL := Lib.hid (HT.out.fill (entN k, none, 0) (tq - 1) ⟨Nat.le_refl _, by simp [maxLen]⟩ HKM.out (Or.inl rfl) (by have := HQB.out; omega))
          simp only [entN, List.length_nil] at HFL HFW
          rw [HFW.out] at HFL
          go_wp2_with fail
          refine (HFL.out).mono ?_
          rintro e61 w61 ⟨rfl, ht61, tu61⟩
          replace HBR := Lib.hid (HBR.out.touchT tu61 (HNR.out))
          replace HCU := Lib.hid (HCU.out.touch tu61)
          replace HRT := Lib.hid (HRT.out.touch tu61)
          replace HCV := Lib.hid (HCV.out.touch tu61)
          replace HBQ := Lib.hid (HBQ.out.touchT tu61 (HNQ.out))
          replace HRT2 := Lib.hid (HRT2.out.touch tu61)
          replace HT := Lib.hid ht61
          have HB61 : Hid (Below w.heap.size w w61) := Lib.hid ht61.bel
          clear x7
          clear ht61 tu61  HFL HFW
          have x7 := HBQ.out.is 7 _ rfl
          go_wp2_with (go_at_call 11; refine (known11_any _).mono ?_; rintro e62 w62 ⟨rfl, hb62⟩)
          go_ret
          exact ⟨rfl, HB61.out.trans (hb62.mono HB61.out.size)⟩
end Go.Proofs.Ytkljcoecgmpgpaa
