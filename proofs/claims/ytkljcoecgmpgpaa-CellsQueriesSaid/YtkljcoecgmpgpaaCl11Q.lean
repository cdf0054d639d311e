/- What a table tells when it is asked. -/
import Derived.Test.YtkljcoecgmpgpaaCl1
import Derived.Test.YtkljcoecgmpgpaaCl4
namespace Go.Proofs.Ytkljcoecgmpgpaa
open Go.RowKit Go.ChangeShapes Mem Be Word Rg Go.Maps
set_option maxRecDepth 100000
set_option maxHeartbeats 16000000
set_option linter.unusedVariables false
set_option linter.unusedSimpArgs false
theorem queries_walk (rc rb nb : Int) (fr : Bool) (A : Option Addr) (n c : Nat) (rs : List D11) (hn : n = rs.length) (hl : n ≤ 1700000000000) (k : List UInt8) (hkm : k.length ≤ maxLen) (w : World) (h : InD11 w A rs) :
    Calls Try.prog 6 #[.agg #[.int .i64 rc, .int .i64 rb, .int .i64 nb, .bool fr], .slice A n c, .string ⟨k.toArray⟩] w (IsB true w) := by
  have HR := Lib.hid h
  have HN := Lib.hid hn
  have HL : Hid (n ≤ 1700000000000) := Lib.hid hl
  have hni : (n : Int) ≤ 1700000000000 := by omega
  have hni0 : (0 : Int) ≤ (n : Int) := by omega
  have HLG := Lib.hid fun W (hb : Below w.heap.size w W) => long11_any n c A rs hn (by unfold maxLen; omega) W (h.at_ hb)
  have hkz : ((⟨k.toArray⟩ : ByteArray).size : Int) = (k.length : Int) := ba_len k
  have HKM : Hid (k.length ≤ maxLen) := Lib.hid hkm
  have hkm2 : (k.length : Int) ≤ 9223372036854775807 := by unfold maxLen at hkm; omega
  have hkm0 : (0 : Int) ≤ (k.length : Int) := by omega
  clear hkm
  have HBR := Lib.hid (Blk.new w 23 #[.int .i64 rc, .int .i64 rb, .int .i64 nb, .bool fr])
  have HBX : Hid (Below w.heap.size w (w.alloc (.cells #[.int .i64 rc, .int .i64 rb, .int .i64 nb, .bool fr] 23))) := Lib.hid ((Below.refl _ _).alloc (Nat.le_refl _) _)
  clear h hn hl
  by_cases hok : RoomOk rc rb nb
  rotate_left
  · have HNW := Lib.hid (new_bad11 rc rb nb fr hok (w.alloc (.cells #[.int .i64 rc, .int .i64 rb, .int .i64 nb, .bool fr] 23)))
    clear hok
    go_enter Try.func6, Try.ntmps6
    go_wp2_with fail
    refine HNW.out.mono ?_
    rintro e1 w1 ⟨rfl, hb1⟩
    have HB1 : Hid (Below w.heap.size w w1) := Lib.hid (HBX.out.trans (hb1.mono HBX.out.size))
    clear hb1 HNW
    go_wp2_with fail
    refine (HLG.out w1 HB1.out).mono ?_
    rintro e2 w2 ⟨⟨z2, rfl⟩, hb2⟩
    have HB2 : Hid (Below w.heap.size w w2) := Lib.hid (HB1.out.trans (hb2.mono HB1.out.size))
    clear hb2 
    by_cases b1 : 1500 < z2
    · go_wp2_with (go_at_call 11; refine (known11_any _).mono ?_; rintro e3 w3 ⟨rfl, hb3⟩)
      go_ret
      exact ⟨rfl, HB2.out.trans (hb3.mono HB2.out.size)⟩
    · go_wp2_with (go_at_call 11; refine (known11_any _).mono ?_; rintro e3 w3 ⟨rfl, hb3⟩)
      go_ret
      exact ⟨rfl, HB2.out.trans (hb3.mono HB2.out.size)⟩
  obtain ⟨nb, rfl⟩ : ∃ k : Nat, nb = (k : Int) := ⟨nb.toNat, by have := hok.2.2.1; omega⟩
  have HNW := Lib.hid (new_ok11 rc rb nb fr hok (w.alloc (.cells #[.int .i64 rc, .int .i64 rb, .int .i64 (nb : Int), .bool fr] 23)))
  have HOK := Lib.hid (ok_newS (fr := fr) hok)
  obtain ⟨S0, hS0⟩ : ∃ S0, newS rc rb nb fr = S0 := ⟨_, rfl⟩
  have HS0 := Lib.hid hS0
  rw [hS0] at HNW HOK
  clear hok hS0
  go_enter Try.func6, Try.ntmps6
  go_wp2_with fail
  refine HNW.out.mono ?_
  intro e1 w1 hx
  obtain ⟨g, b, tk, rfl, ht, hnr, hb1⟩ := tb1_new2 HBX.out hx HOK.out
  have HT := Lib.hid ht
  have HB1 : Hid (Below w.heap.size w w1) := Lib.hid ht.bel
  have HNR : Hid (¬ Own3 g b tk w.heap.size) := Lib.hid (hnr _ (by simp))
  replace HBR := Lib.hid (HBR.out.below hb1 HBR.out.lt)
  clear hx ht hnr hb1 HNW
  go_wp2_with fail
  refine (HLG.out w1 HB1.out).mono ?_
  rintro e2 w2 ⟨⟨z2, rfl⟩, hb2⟩
  have HB2 : Hid (Below w.heap.size w w2) := Lib.hid (HB1.out.trans (hb2.mono HB1.out.size))
  replace HT := Lib.hid (HT.out.below hb2)
  replace HBR := Lib.hid (HBR.out.below hb2 HBR.out.lt)
  clear hb2 
  by_cases b1 : 1500 < z2
  · go_wp2_with (go_at_call 11; refine (known11_any _).mono ?_; rintro e3 w3 ⟨rfl, hb3⟩)
    go_ret
    exact ⟨rfl, HB2.out.trans (hb3.mono HB2.out.size)⟩
  by_cases b2 : (k.length : Int) = 0
  · have e2 : ((k.length : Int) == 0) = true := by simpa using b2
    have e2n : k = [] := List.eq_nil_of_length_eq_zero (by omega)
    subst e2n
    go_wp2_with (go_at_call 11; refine (known11_any _).mono ?_; rintro e3 w3 ⟨rfl, hb3⟩)
    go_ret
    exact ⟨rfl, HB2.out.trans (hb3.mono HB2.out.size)⟩
  have e2 : ((k.length : Int) == 0) = false := by simpa using b2
  have e2n : k.isEmpty = false := by
    cases k with
    | nil => exact absurd rfl b2
    | cons a r => rfl
  by_cases b3 : 250 < (k.length : Int)
  · go_wp2_with (go_at_call 11; refine (known11_any _).mono ?_; rintro e3 w3 ⟨rfl, hb3⟩)
    go_ret
    exact ⟨rfl, HB2.out.trans (hb3.mono HB2.out.size)⟩
  have HK0 : Hid (k ≠ [] ∧ k.length ≤ 250) := Lib.hid ⟨fun e => b2 (by rw [e]; rfl), by omega⟩
  have HQ1 : Hid (1 ≤ 10000000000000) := Lib.hid (by first | omega | (have h1 := HL.out; omega) | (have h1 := HL.out; have h2 := HL2.out; omega))
  go_wp2_with fail
  go_loopw [9] (fun i wr => ∃ (ix : Nat) (S : Cl), ix ≤ n ∧ i = .int .i64 (ix : Int) ∧ Hid (Tb1 w wr (Own3 g b tk) g b tk S (1 + ix)) ∧ Hid (rs.take ix |>.foldl (fun S d => (d11S S d).1) S0 |> (· = S)) ∧ Hid (Blk wr w.heap.size 23 #[.int .i64 rc, .int .i64 rb, .int .i64 (nb : Int), .bool fr]) ∧ Hid (Below w.heap.size w wr)) (fun i _ => n - (intOf i).toNat)
  case atStart => exact ⟨0, S0, by omega, rfl, HT, Lib.hid rfl, HBR, HB2⟩
  case round =>
    obtain ⟨ix, S, hk, rfl, HTL, HFO, HBR, HBL⟩ := hrel
    by_cases hlt : ix < n
    · have hk1 : ix < rs.length := by rw [← HN.out]; exact hlt
      obtain ⟨bb, o, hA, hbl, hc⟩ := d11s_open (HR.out wr HBL.out).1 (by omega)
      subst hA
      have hc := hc ix hk1
      have HD := Lib.hid (done11_round HR.out HTL.out hk1 (by have h1 := HL.out; have h2 := HQ1.out; omega))
      have hstep : rs.take (ix + 1) = rs.take ix ++ [rs[ix]] := List.take_succ_eq_append_getElem hk1
      have HFO2 : Hid (rs.take (ix + 1) |>.foldl (fun S d => (d11S S d).1) S0 |> (· = (d11S S rs[ix]).1)) := Lib.hid (by
        have h1 := HFO.out
        simp only at h1 ⊢
        rw [hstep, List.foldl_append, h1]
        rfl)
      obtain ⟨d, hd⟩ : ∃ d, rs[ix] = d := ⟨_, rfl⟩
      rw [hd] at hc HD HFO2
      have f0 := hc 0 _ rfl
      rw [Nat.add_zero] at f0
      have f1 := hc 1 _ rfl
      have f2 := hc 2 _ rfl
      have f3 := hc 3 _ rfl
      have f4 := hc 4 _ rfl
      have f5 := hc 5 _ rfl
      have f6 := hc 6 _ rfl
      have f7 := hc 7 _ rfl
      have hki : (0 : Int) ≤ (ix : Int) := by omega
      have hki2 : (ix : Int) < (n : Int) := by omega
      clear hc hstep hd hk1
      unfold dV11 at HD
      go_wp2_with fail
      refine (HD.out).mono ?_
      rintro e21 w21 ⟨Ad21, cd21, rfl, _, ht21, tu21⟩
      replace HBR := Lib.hid (HBR.out.touchT tu21 (HNR.out))
      replace HTL := Lib.hid ht21
      have HB21 : Hid (Below w.heap.size w w21) := Lib.hid ht21.bel
      clear ht21 tu21 
      go_wp2
      go_roundw
      case rel => exact ⟨ix + 1, _, by omega, by go_num, Lib.hid (by have := HTL.out; rwa [Nat.add_assoc] at this), HFO2, HBR, HB21⟩
      case measure => simp [intOf]; omega
    · obtain ⟨S1, hS1⟩ : ∃ S1, S1 = S := ⟨_, rfl⟩
      have hkn : ix = n := by omega
      have hkc : (ix : Int) = (n : Int) := by omega
      rw [hkn] at HTL HFO
      rw [hkc]
      have HF1 : Hid (rs.foldl (fun S d => (d11S S d).1) S0 = S) := Lib.hid (by have h1 := HFO.out; simp only at h1; rw [HN.out, List.take_of_length_le (Nat.le_refl _)] at h1; exact h1)
      clear hkn hkc hlt hk HFO hS1 S1
      obtain ⟨wv, hwv⟩ : ∃ v, v = wr := ⟨_, rfl⟩
      have HT := HTL
      clear HTL
      have HQB : Hid (1 + n ≤ 20000000000000) := Lib.hid (by have := HL.out; omega)
      have HSO : Hid (OkC S) := Lib.hid HT.out.ok
      obtain ⟨S2, s, u, o, has, wh, v, t, hq1, hq2, hlen, hsum, hall, hnone, hvl⟩ := query_twice HSO.out HK0.out.1 HK0.out.2
      obtain ⟨S1, hS1⟩ : ∃ S1, (queryS S k).1 = S1 := ⟨_, rfl⟩
      rw [hS1] at hq1 hq2
      obtain ⟨ln, hln⟩ : ∃ ln : Int, (S.T.length : Int) = ln := ⟨_, rfl⟩
      obtain ⟨sm, hsm⟩ : ∃ sm : Int, (sumC S.T : Int) = sm := ⟨_, rfl⟩
      have HLN : Hid ((S.T.length : Int) = ln ∧ (sumC S.T : Int) = sm) := Lib.hid ⟨hln, hsm⟩
      have HLN2 : Hid ((S2.T.length : Int) = ln ∧ (sumC S2.T : Int) = sm) := Lib.hid ⟨by rw [hlen]; exact hln, by rw [hsum]; exact hsm⟩
      have HQ1E := Lib.hid hq1
      have HQ2E := Lib.hid hq2
      have HALL := Lib.hid hall
      have HNONE := Lib.hid hnone
      have HVL := Lib.hid hvl
      have hvl0 : (0 : Int) ≤ (v.length : Int) := by omega
      have hvl2 : (v.length : Int) ≤ 60000 := by omega
      clear hS1 hq1 hq2 hlen hsum hall hnone hvl hln hsm
      go_wp2_with fail
      refine (HT.out.size ln sm HLN.out.1 HLN.out.2).mono ?_
      rintro e33 w33 ⟨rfl, hb33⟩
      have HB33 : Hid (Below w.heap.size w w33) := Lib.hid (HBL.out.trans (hb33.mono HBL.out.size))
      replace HT := Lib.hid (HT.out.below hb33)
      replace HBR := Lib.hid (HBR.out.below hb33 HBR.out.lt)
      clear hb33 
      go_wp2_with fail
      refine (HT.out.queryX HKM.out (by have := HQB.out; omega) HQ1E.out).mono ?_
      rintro e34 w34 ⟨Aq, cq, rfl, hrq, hcq, ht34, tu34⟩
      replace HBR := Lib.hid (HBR.out.touchT tu34 (HNR.out))
      replace HT := Lib.hid ht34
      have HB34 : Hid (Below w.heap.size w w34) := Lib.hid ht34.bel
      have HRQ := Lib.hid hrq
      have HCQ := Lib.hid hcq
      clear ht34 tu34 hrq hcq
      have HNQ : Hid (¬ Own3 g b tk w34.heap.size) := Lib.hid fun hk => by have := (HT.out.own _ hk).2; omega
      obtain ⟨w35, hv35⟩ : ∃ V, w34.alloc (.cells #[.string ⟨k.toArray⟩, .int .i64 s, .int .i64 u, .int .i64 o, .bool has, .slice Aq v.length cq, .bool wh, .int .i64 t] 43) = V := ⟨_, rfl⟩
      have hb35 : Below w34.heap.size w34 w35 := by rw [← hv35]; exact (Below.refl _ _).alloc (Nat.le_refl _) _
      have HBQ : Hid (Blk w35 w34.heap.size 43 #[.string ⟨k.toArray⟩, .int .i64 s, .int .i64 u, .int .i64 o, .bool has, .slice Aq v.length cq, .bool wh, .int .i64 t]) := Lib.hid (by rw [← hv35]; exact Blk.new _ _ _)
      have HB35 : Hid (Below w.heap.size w w35) := Lib.hid (HB34.out.trans (hb35.mono HB34.out.size))
      replace HT := Lib.hid (HT.out.below hb35)
      replace HBR := Lib.hid (HBR.out.below hb35 HBR.out.lt)
      replace HRQ := Lib.hid (HRQ.out.belowC hb35)
      clear hb35
      go_wp2_with fail
      refine (HT.out.queryX HKM.out (by have := HQB.out; omega) HQ2E.out).mono ?_
      rintro e36 w36 ⟨Az, cz, rfl, hrz, hcz, ht36, tu36⟩
      replace HBR := Lib.hid (HBR.out.touchT tu36 (HNR.out))
      replace HRQ := Lib.hid (HRQ.out.touch tu36)
      replace HBQ := Lib.hid (HBQ.out.touchT tu36 (HNQ.out))
      replace HT := Lib.hid ht36
      have HB36 : Hid (Below w.heap.size w w36) := Lib.hid ht36.bel
      have HRZ := Lib.hid hrz
      have HCZ := Lib.hid hcz
      clear ht36 tu36 hrz hcz
      have HNZ : Hid (¬ Own3 g b tk w36.heap.size) := Lib.hid fun hk => by have := (HT.out.own _ hk).2; omega
      obtain ⟨w37, hv37⟩ : ∃ V, w36.alloc (.cells #[.string ⟨k.toArray⟩, .int .i64 s, .int .i64 u, .int .i64 o, .bool has, .slice Az v.length cz, .bool wh, .int .i64 t] 43) = V := ⟨_, rfl⟩
      have hb37 : Below w36.heap.size w36 w37 := by rw [← hv37]; exact (Below.refl _ _).alloc (Nat.le_refl _) _
      have HBZ : Hid (Blk w37 w36.heap.size 43 #[.string ⟨k.toArray⟩, .int .i64 s, .int .i64 u, .int .i64 o, .bool has, .slice Az v.length cz, .bool wh, .int .i64 t]) := Lib.hid (by rw [← hv37]; exact Blk.new _ _ _)
      have HB37 : Hid (Below w.heap.size w w37) := Lib.hid (HB36.out.trans (hb37.mono HB36.out.size))
      replace HT := Lib.hid (HT.out.below hb37)
      replace HBR := Lib.hid (HBR.out.below hb37 HBR.out.lt)
      replace HRQ := Lib.hid (HRQ.out.belowC hb37)
      replace HBQ := Lib.hid (HBQ.out.below hb37 HBQ.out.lt)
      replace HRZ := Lib.hid (HRZ.out.belowC hb37)
      clear hb37
      go_wp2_with fail
      refine (HT.out.size ln sm HLN2.out.1 HLN2.out.2).mono ?_
      rintro e38 w38 ⟨rfl, hb38⟩
      have HB38 : Hid (Below w.heap.size w w38) := Lib.hid (HB37.out.trans (hb38.mono HB37.out.size))
      replace HT := Lib.hid (HT.out.below hb38)
      replace HBR := Lib.hid (HBR.out.below hb38 HBR.out.lt)
      replace HRQ := Lib.hid (HRQ.out.belowC hb38)
      replace HBQ := Lib.hid (HBQ.out.below hb38 HBQ.out.lt)
      replace HRZ := Lib.hid (HRZ.out.belowC hb38)
      replace HBZ := Lib.hid (HBZ.out.below hb38 HBZ.out.lt)
      clear hb38 
      go_wp2_with fail
      refine (HT.out.cellsC).mono ?_
      rintro e39 w39 ⟨us, Au, cu, hus, rfl, hcu, hlu, hb39⟩
      have HB39 : Hid (Below w.heap.size w w39) := Lib.hid (HB38.out.trans (hb39.mono HB38.out.size))
      replace HT := Lib.hid (HT.out.below hb39)
      replace HBR := Lib.hid (HBR.out.below hb39 HBR.out.lt)
      replace HRQ := Lib.hid (HRQ.out.belowC hb39)
      replace HBQ := Lib.hid (HBQ.out.below hb39 HBQ.out.lt)
      replace HRZ := Lib.hid (HRZ.out.belowC hb39)
      replace HBZ := Lib.hid (HBZ.out.below hb39 HBZ.out.lt)
      have HUS := Lib.hid hus
      have HCU := Lib.hid hcu
      have HLU := Lib.hid hlu
      clear hb39 hus hcu hlu
      have hlu2 : (us.length : Int) ≤ 4096 := by have := HLU.out; omega
      go_wp2_with fail
      have HRD : Hid (∀ W, Below w39.heap.size w39 W → CeV W Au us) := Lib.hid fun W hb => HCU.out.cev.below hb
      have HVD : Hid (∀ W, Below w39.heap.size w39 W → ValOk W has Aq v cq) := Lib.hid fun W hb => ⟨(HRQ.out.belowC hb).row, by have := HVL.out; omega, HCQ.out.1⟩
      have HB0 := Lib.hid (Below.refl w39.heap.size w39)
      obtain ⟨wv2, hwv2⟩ : ∃ v, v = wr := ⟨_, rfl⟩
      go_loopw [19, 20] (fun bs i wr => ∃ (ix : Nat) (bv : Bool), ix ≤ us.length ∧ bs = .bool bv ∧ i = .int .i64 (ix : Int) ∧ Hid (∀ j (h : j < us.length), j < ix → us[j].1.e.k = k → bv = true) ∧ Hid (Below w39.heap.size w39 wr)) (fun _ i _ => us.length - (intOf i).toNat)
      case atStart => exact ⟨0, false, by omega, rfl, rfl, Lib.hid (fun j h1 h2 => absurd h2 (by omega)), HB0⟩
      case round =>
        obtain ⟨ix, bv, hix, rfl, rfl, HBV, HBY⟩ := hrel
        by_cases hlt : ix < us.length
        · have hki : (0 : Int) ≤ (ix : Int) := by omega
          have hki2 : (ix : Int) < (us.length : Int) := by omega
          cases hbv : bv
          rotate_left
          · subst hbv
            go_wp2_with fail
            refine wp_region_later (by kernel_rfl) (by kernel_rfl) ?_
            repeat (go_big_quiet_step (fail))
            refine wpQuiet_nil ?_
            intro w' hw'
            obtain ⟨p, rfl⟩ := hw'
            go_wp2
            go_roundw
            case rel => exact ⟨ix + 1, true, by omega, rfl, by go_num, Lib.hid (fun _ _ _ _ => rfl), Lib.hid (HBY.out.trans (p.bel.mono HBY.out.size))⟩
            case measure => simp [intOf]; omega
          subst hbv
          have hu := HRD.out wr HBY.out
          have v1 := hu.val us[ix] (List.getElem_mem hlt)
          have hcm : us[ix].1 ∈ S2.T := by rw [← HUS.out]; exact List.mem_map_of_mem (List.getElem_mem hlt)
          have hae := HALL.out _ hcm
          obtain ⟨b1', o1, hA1, hc1⟩ := hu.at_ (by omega)
          subst hA1
          have hc1 := hc1 ix hlt
          obtain ⟨⟨⟨⟨xk, xs, xu, xo, xh, xv⟩, xw, xc, xn⟩, A1, c1⟩, hx⟩ : ∃ p, us[ix]'hlt = p := ⟨_, rfl⟩
          have HX := Lib.hid hx
          rw [hx] at hc1 v1 hae
          have l0 := later_cell hc1.1
          by_cases hkk : xk = k
          · have hee := hae hkk
            simp only [EntP.mk.injEq] at hee
            obtain ⟨rfl, rfl, rfl, rfl, rfl, rfl⟩ := hee
            have hv2 := HVD.out wr HBY.out
            have HC := Lib.hid (fun p : Later wr => refsame_self11 ⟨xk.toArray⟩ xs xu xo xh A1 Aq xv c1 cq xv.length xv.length rfl rfl p.world (v1.below p.bel) (hv2.below p.bel))
            have HBW := Lib.hid (HBQ.out.below HBY.out HBQ.out.lt)
            have l1 := later_cell (hc1.2 1 _ rfl)
            have l2 := later_cell (hc1.2 2 _ rfl)
            have l3 := later_cell (hc1.2 3 _ rfl)
            have l4 := later_cell (hc1.2 4 _ rfl)
            have l5 := later_cell (hc1.2 5 _ rfl)
            have m0 := later_cell (HBW.out.is 0 _ rfl)
            have m1 := later_cell (HBW.out.is 1 _ rfl)
            have m2 := later_cell (HBW.out.is 2 _ rfl)
            have m3 := later_cell (HBW.out.is 3 _ rfl)
            have m4 := later_cell (HBW.out.is 4 _ rfl)
            have m5 := later_cell (HBW.out.is 5 _ rfl)
            clear hc1 hx v1 hu hae hv2 hcm
            go_wp2_with fail
            refine wp_region_later (by kernel_rfl) (by kernel_rfl) ?_
            repeat (go_big_quiet_step (first
              | (go_at_call 27; exact later_of (HC.out _))))
            refine wpQuiet_nil ?_
            intro w' hw'
            obtain ⟨p, rfl⟩ := hw'
            go_wp2
            go_roundw
            case rel => exact ⟨ix + 1, true, by omega, rfl, by go_num, Lib.hid (fun _ _ _ _ => rfl), Lib.hid (HBY.out.trans (p.bel.mono HBY.out.size))⟩
            case measure => simp [intOf]; omega
          · have e5 := list_ne (a := ⟨xk.toArray⟩) (b := ⟨k.toArray⟩) (by intro e; apply hkk; have := congrArg (fun z => z.data.toList) e; simpa using this)
            have e6 : (xk == k) = false := by simpa using hkk
            have HNK := Lib.hid hkk
            clear hc1 hx v1 hu hae hcm hkk
            go_wp2_with fail
            refine wp_region_later (by kernel_rfl) (by kernel_rfl) ?_
            repeat (go_big_quiet_step (fail))
            refine wpQuiet_nil ?_
            intro w' hw'
            obtain ⟨p, rfl⟩ := hw'
            go_wp2
            go_roundw
            case rel => exact ⟨ix + 1, false, by omega, rfl, by go_num, Lib.hid (fun j h1 h2 h3 => by
              rcases Nat.lt_or_ge j ix with h4 | h4
              · exact HBV.out j h1 h4 h3
              · have h5 : j = ix := by omega
                subst h5
                rw [HX.out] at h3
                exact absurd h3 HNK.out), Lib.hid (HBY.out.trans (p.bel.mono HBY.out.size))⟩
            case measure => simp [intOf]; omega
        · have hki2 : ¬ (ix : Int) < (us.length : Int) := by omega
          have HEN : Hid (bv = true ∨ (s = 0 ∧ has = false)) := Lib.hid (by
            cases hbv : bv
            · refine Or.inr (HNONE.out fun z hz hzk => ?_)
              rw [← HUS.out] at hz
              obtain ⟨y, hy, rfl⟩ := List.mem_map.1 hz
              obtain ⟨j, hj, rfl⟩ := List.getElem_of_mem hy
              have := HBV.out j hj (by omega) hzk
              rw [hbv] at this; cases this
            · exact Or.inl rfl)
          have HBY2 : Hid (Below w.heap.size w wr) := Lib.hid (HB39.out.trans (HBY.out.mono HB39.out.size))
          replace HT := Lib.hid (HT.out.below HBY.out)
          replace HBR := Lib.hid (HBR.out.below HBY.out HBR.out.lt)
          replace HRQ := Lib.hid (HRQ.out.belowC HBY.out)
          replace HBQ := Lib.hid (HBQ.out.below HBY.out HBQ.out.lt)
          replace HRZ := Lib.hid (HRZ.out.belowC HBY.out)
          replace HBZ := Lib.hid (HBZ.out.below HBY.out HBZ.out.lt)
          replace HCU := Lib.hid (HCU.out.below HBY.out)
          cases hbv : bv
          rotate_left
          · subst hbv
            clear HEN HBV
            have x0 := HBQ.out.is 0 _ rfl
            have x1 := HBQ.out.is 1 _ rfl
            have x2 := HBQ.out.is 2 _ rfl
            have x3 := HBQ.out.is 3 _ rfl
            have x4 := HBQ.out.is 4 _ rfl
            have x5 := HBQ.out.is 5 _ rfl
            have x6 := HBQ.out.is 6 _ rfl
            have x7 := HBQ.out.is 7 _ rfl
            have y0 := HBZ.out.is 0 _ rfl
            have y1 := HBZ.out.is 1 _ rfl
            have y2 := HBZ.out.is 2 _ rfl
            have y3 := HBZ.out.is 3 _ rfl
            have y4 := HBZ.out.is 4 _ rfl
            have y5 := HBZ.out.is 5 _ rfl
            have y6 := HBZ.out.is 6 _ rfl
            have y7 := HBZ.out.is 7 _ rfl
            go_wp2_with fail
            refine (samereply_true ⟨k, s, u, o, has, v⟩ wh t Aq Az cq cz wr ⟨HRQ.out.row, by have := HVL.out; show (v.length : Int) ≤ _; omega, HCQ.out.1⟩ ⟨HRZ.out.row, by have := HVL.out; show (v.length : Int) ≤ _; omega, HCZ.out.1⟩).mono ?_
            rintro e60 w60 ⟨rfl, hb60⟩
            have HB60 : Hid (Below w.heap.size w w60) := Lib.hid (HBY2.out.trans (hb60.mono HBY2.out.size))
            replace HT := Lib.hid (HT.out.below hb60)
            replace HBR := Lib.hid (HBR.out.below hb60 HBR.out.lt)
            replace HRQ := Lib.hid (HRQ.out.belowC hb60)
            replace HBQ := Lib.hid (HBQ.out.below hb60 HBQ.out.lt)
            replace HRZ := Lib.hid (HRZ.out.belowC hb60)
            replace HBZ := Lib.hid (HBZ.out.below hb60 HBZ.out.lt)
            replace HCU := Lib.hid (HCU.out.below hb60)
            clear x0 x1 x2 x3 x4 x5 x6 x7 y0 y1 y2 y3 y4 y5 y6 y7
            clear hb60 
            have x0 := HBQ.out.is 0 _ rfl
            have x1 := HBQ.out.is 1 _ rfl
            have x2 := HBQ.out.is 2 _ rfl
            have x3 := HBQ.out.is 3 _ rfl
            have x4 := HBQ.out.is 4 _ rfl
            have x5 := HBQ.out.is 5 _ rfl
            have x6 := HBQ.out.is 6 _ rfl
            have x7 := HBQ.out.is 7 _ rfl
            have y0 := HBZ.out.is 0 _ rfl
            have y1 := HBZ.out.is 1 _ rfl
            have y2 := HBZ.out.is 2 _ rfl
            have y3 := HBZ.out.is 3 _ rfl
            have y4 := HBZ.out.is 4 _ rfl
            have y5 := HBZ.out.is 5 _ rfl
            have y6 := HBZ.out.is 6 _ rfl
            have y7 := HBZ.out.is 7 _ rfl
            go_wp2_with (go_at_call 11; refine (known11_any _).mono ?_; rintro e61 w61 ⟨rfl, hb61⟩)
            go_ret
            exact ⟨rfl, HB60.out.trans (hb61.mono HB60.out.size)⟩
          · obtain ⟨hs0, hh0⟩ := HEN.out.resolve_left (by rw [hbv]; simp)
            subst hbv
            subst hs0
            subst hh0
            clear HEN HBV
            have x0 := HBQ.out.is 0 _ rfl
            have x1 := HBQ.out.is 1 _ rfl
            have x2 := HBQ.out.is 2 _ rfl
            have x3 := HBQ.out.is 3 _ rfl
            have x4 := HBQ.out.is 4 _ rfl
            have x5 := HBQ.out.is 5 _ rfl
            have x6 := HBQ.out.is 6 _ rfl
            have x7 := HBQ.out.is 7 _ rfl
            have y0 := HBZ.out.is 0 _ rfl
            have y1 := HBZ.out.is 1 _ rfl
            have y2 := HBZ.out.is 2 _ rfl
            have y3 := HBZ.out.is 3 _ rfl
            have y4 := HBZ.out.is 4 _ rfl
            have y5 := HBZ.out.is 5 _ rfl
            have y6 := HBZ.out.is 6 _ rfl
            have y7 := HBZ.out.is 7 _ rfl
            go_wp2_with fail
            refine (samereply_true ⟨k, 0, u, o, false, v⟩ wh t Aq Az cq cz wr ⟨HRQ.out.row, by have := HVL.out; show (v.length : Int) ≤ _; omega, HCQ.out.1⟩ ⟨HRZ.out.row, by have := HVL.out; show (v.length : Int) ≤ _; omega, HCZ.out.1⟩).mono ?_
            rintro e60 w60 ⟨rfl, hb60⟩
            have HB60 : Hid (Below w.heap.size w w60) := Lib.hid (HBY2.out.trans (hb60.mono HBY2.out.size))
            replace HT := Lib.hid (HT.out.below hb60)
            replace HBR := Lib.hid (HBR.out.below hb60 HBR.out.lt)
            replace HRQ := Lib.hid (HRQ.out.belowC hb60)
            replace HBQ := Lib.hid (HBQ.out.below hb60 HBQ.out.lt)
            replace HRZ := Lib.hid (HRZ.out.belowC hb60)
            replace HBZ := Lib.hid (HBZ.out.below hb60 HBZ.out.lt)
            replace HCU := Lib.hid (HCU.out.below hb60)
            clear x0 x1 x2 x3 x4 x5 x6 x7 y0 y1 y2 y3 y4 y5 y6 y7
            clear hb60 
            have x0 := HBQ.out.is 0 _ rfl
            have x1 := HBQ.out.is 1 _ rfl
            have x2 := HBQ.out.is 2 _ rfl
            have x3 := HBQ.out.is 3 _ rfl
            have x4 := HBQ.out.is 4 _ rfl
            have x5 := HBQ.out.is 5 _ rfl
            have x6 := HBQ.out.is 6 _ rfl
            have x7 := HBQ.out.is 7 _ rfl
            have y0 := HBZ.out.is 0 _ rfl
            have y1 := HBZ.out.is 1 _ rfl
            have y2 := HBZ.out.is 2 _ rfl
            have y3 := HBZ.out.is 3 _ rfl
            have y4 := HBZ.out.is 4 _ rfl
            have y5 := HBZ.out.is 5 _ rfl
            have y6 := HBZ.out.is 6 _ rfl
            have y7 := HBZ.out.is 7 _ rfl
            go_wp2_with (go_at_call 11; refine (known11_any _).mono ?_; rintro e61 w61 ⟨rfl, hb61⟩)
            go_ret
            exact ⟨rfl, HB60.out.trans (hb61.mono HB60.out.size)⟩
end Go.Proofs.Ytkljcoecgmpgpaa
