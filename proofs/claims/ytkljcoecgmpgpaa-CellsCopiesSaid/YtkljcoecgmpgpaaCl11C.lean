/- A copy goes on as the other one does. -/
import Derived.Test.YtkljcoecgmpgpaaCl1
import Derived.Test.YtkljcoecgmpgpaaCl2
namespace Go.Proofs.Ytkljcoecgmpgpaa
open Go.RowKit Go.ChangeShapes Mem Be Word Rg Go.Maps
set_option maxRecDepth 100000
set_option maxHeartbeats 16000000
set_option linter.unusedVariables false
set_option linter.unusedSimpArgs false
theorem copies_walk (rc rb nb : Int) (fr : Bool) (A : Option Addr) (n c : Nat) (rs : List D11) (hn : n = rs.length) (hl : n ≤ 1700000000000) (A2 : Option Addr) (n2 c2 : Nat) (rs2 : List D11) (hn2 : n2 = rs2.length) (hl2 : n2 ≤ 1700000000000) (w : World) (h : InD11 w A rs) (h2 : InD11 w A2 rs2) :
    Calls Try.prog 5 #[.agg #[.int .i64 rc, .int .i64 rb, .int .i64 nb, .bool fr], .slice A n c, .slice A2 n2 c2] w (IsB true w) := by
  have HR := Lib.hid h
  have HN := Lib.hid hn
  have HL : Hid (n ≤ 1700000000000) := Lib.hid hl
  have hni : (n : Int) ≤ 1700000000000 := by omega
  have hni0 : (0 : Int) ≤ (n : Int) := by omega
  have HLG := Lib.hid fun W (hb : Below w.heap.size w W) => long11_any n c A rs hn (by unfold maxLen; omega) W (h.at_ hb)
  have HR2 := Lib.hid h2
  have HN2 := Lib.hid hn2
  have HL2 : Hid (n2 ≤ 1700000000000) := Lib.hid hl2
  have hni2 : (n2 : Int) ≤ 1700000000000 := by omega
  have hni02 : (0 : Int) ≤ (n2 : Int) := by omega
  have HLG2 := Lib.hid fun W (hb : Below w.heap.size w W) => long11_any n2 c2 A2 rs2 hn2 (by unfold maxLen; omega) W (h2.at_ hb)
  have HBR := Lib.hid (Blk.new w 23 #[.int .i64 rc, .int .i64 rb, .int .i64 nb, .bool fr])
  have HBX : Hid (Below w.heap.size w (w.alloc (.cells #[.int .i64 rc, .int .i64 rb, .int .i64 nb, .bool fr] 23))) := Lib.hid ((Below.refl _ _).alloc (Nat.le_refl _) _)
  clear h hn hl h2 hn2 hl2
  by_cases hok : RoomOk rc rb nb
  rotate_left
  · have HNW := Lib.hid (new_bad11 rc rb nb fr hok (w.alloc (.cells #[.int .i64 rc, .int .i64 rb, .int .i64 nb, .bool fr] 23)))
    clear hok
    go_enter Try.func5, Try.ntmps5
    go_wp2_with fail
    refine HNW.out.mono ?_
    rintro e1 w1 ⟨rfl, hb1⟩
    have HB1 : Hid (Below w.heap.size w w1) := Lib.hid (HBX.out.trans (hb1.mono HBX.out.size))
    clear hb1 HNW
    go_wp2_with fail
    refine (HLG.out w1 HB1.out).mono ?_
    rintro e2 w2 ⟨⟨z2, rfl⟩, hb2⟩
    have HB2 : Hid (Below w.heap.size w w2) := Lib.hid (HB1.out.trans (hb2.mono HB1.out.size))
    clear hb2 
    go_wp2_with fail
    refine (HLG2.out w2 HB2.out).mono ?_
    rintro e3 w3 ⟨⟨z3, rfl⟩, hb3⟩
    have HB3 : Hid (Below w.heap.size w w3) := Lib.hid (HB2.out.trans (hb3.mono HB2.out.size))
    clear hb3 
    obtain ⟨zz, hzz⟩ : ∃ zz, IntKind.i64.wrap (z2 + z3) = zz := ⟨_, rfl⟩
    by_cases b1 : 1500 < zz
    · go_wp2_with (go_at_call 11; refine (known11_any _).mono ?_; rintro e4 w4 ⟨rfl, hb4⟩)
      go_ret
      exact ⟨rfl, HB3.out.trans (hb4.mono HB3.out.size)⟩
    · go_wp2_with (go_at_call 11; refine (known11_any _).mono ?_; rintro e4 w4 ⟨rfl, hb4⟩)
      go_ret
      exact ⟨rfl, HB3.out.trans (hb4.mono HB3.out.size)⟩
  obtain ⟨nb, rfl⟩ : ∃ k : Nat, nb = (k : Int) := ⟨nb.toNat, by have := hok.2.2.1; omega⟩
  have HNW := Lib.hid (new_ok11 rc rb nb fr hok (w.alloc (.cells #[.int .i64 rc, .int .i64 rb, .int .i64 (nb : Int), .bool fr] 23)))
  have HOK := Lib.hid (ok_newS (fr := fr) hok)
  obtain ⟨S0, hS0⟩ : ∃ S0, newS rc rb nb fr = S0 := ⟨_, rfl⟩
  have HS0 := Lib.hid hS0
  rw [hS0] at HNW HOK
  clear hok hS0
  go_enter Try.func5, Try.ntmps5
  go_wp2_with fail
  refine HNW.out.mono ?_
  intro e1 w1 hx
  obtain ⟨g, b, tk, rfl, ht, hnr, hb1⟩ := tb1_new2 HBX.out hx HOK.out
  have HT := Lib.hid ht
  have HB1 : Hid (Below w.heap.size w w1) := Lib.hid ht.bel
  have HNR : Hid (¬ Own3 g b tk w.heap.size) := Lib.hid (hnr _ (by simp))
  replace HBR := Lib.hid (HBR.out.below hb1 HBR.out.lt)
  clear hx ht hnr hb1 HNW
  go_wp2_with fail
  refine (HLG.out w1 HB1.out).mono ?_
  rintro e2 w2 ⟨⟨z2, rfl⟩, hb2⟩
  have HB2 : Hid (Below w.heap.size w w2) := Lib.hid (HB1.out.trans (hb2.mono HB1.out.size))
  replace HT := Lib.hid (HT.out.below hb2)
  replace HBR := Lib.hid (HBR.out.below hb2 HBR.out.lt)
  clear hb2 
  go_wp2_with fail
  refine (HLG2.out w2 HB2.out).mono ?_
  rintro e3 w3 ⟨⟨z3, rfl⟩, hb3⟩
  have HB3 : Hid (Below w.heap.size w w3) := Lib.hid (HB2.out.trans (hb3.mono HB2.out.size))
  replace HT := Lib.hid (HT.out.below hb3)
  replace HBR := Lib.hid (HBR.out.below hb3 HBR.out.lt)
  clear hb3 
  obtain ⟨zz, hzz⟩ : ∃ zz, IntKind.i64.wrap (z2 + z3) = zz := ⟨_, rfl⟩
  by_cases b1 : 1500 < zz
  · go_wp2_with (go_at_call 11; refine (known11_any _).mono ?_; rintro e4 w4 ⟨rfl, hb4⟩)
    go_ret
    exact ⟨rfl, HB3.out.trans (hb4.mono HB3.out.size)⟩
  have HQ1 : Hid (1 ≤ 10000000000000) := Lib.hid (by first | omega | (have h1 := HL.out; omega) | (have h1 := HL.out; have h2 := HL2.out; omega))
  go_wp2_with fail
  go_loopw [9] (fun i wr => ∃ (ix : Nat) (S : Cl), ix ≤ n ∧ i = .int .i64 (ix : Int) ∧ Hid (Tb1 w wr (Own3 g b tk) g b tk S (1 + ix)) ∧ Hid (rs.take ix |>.foldl (fun S d => (d11S S d).1) S0 |> (· = S)) ∧ Hid (Below w.heap.size w wr)) (fun i _ => n - (intOf i).toNat)
  case atStart => exact ⟨0, S0, by omega, rfl, HT, Lib.hid rfl, HB3⟩
  case round =>
    obtain ⟨ix, S, hk, rfl, HTL, HFO, HBL⟩ := hrel
    by_cases hlt : ix < n
    · have hk1 : ix < rs.length := by rw [← HN.out]; exact hlt
      obtain ⟨bb, o, hA, hbl, hc⟩ := d11s_open (HR.out wr HBL.out).1 (by omega)
      subst hA
      have hc := hc ix hk1
      have HD := Lib.hid (done11_round HR.out HTL.out hk1 (by have h1 := HL.out; have h2 := HQ1.out; omega))
      have hstep : rs.take (ix + 1) = rs.take ix ++ [rs[ix]] := List.take_succ_eq_append_getElem hk1
      have HFO2 : Hid (rs.take (ix + 1) |>.foldl (fun S d => (d11S S d).1) S0 |> (· = (d11S S rs[ix]).1)) := Lib.hid (by
        have h1 := HFO.out
        simp only at h1 ⊢
        rw [hstep, List.foldl_append, h1]
        rfl)
      obtain ⟨d, hd⟩ : ∃ d, rs[ix] = d := ⟨_, rfl⟩
      rw [hd] at hc HD HFO2
      have f0 := hc 0 _ rfl
      rw [Nat.add_zero] at f0
      have f1 := hc 1 _ rfl
      have f2 := hc 2 _ rfl
      have f3 := hc 3 _ rfl
      have f4 := hc 4 _ rfl
      have f5 := hc 5 _ rfl
      have f6 := hc 6 _ rfl
      have f7 := hc 7 _ rfl
      have hki : (0 : Int) ≤ (ix : Int) := by omega
      have hki2 : (ix : Int) < (n : Int) := by omega
      clear hc hstep hd hk1
      unfold dV11 at HD
      go_wp2_with fail
      refine (HD.out).mono ?_
      rintro e21 w21 ⟨Ad21, cd21, rfl, _, ht21, tu21⟩
      replace HTL := Lib.hid ht21
      have HB21 : Hid (Below w.heap.size w w21) := Lib.hid ht21.bel
      clear ht21 tu21 
      go_wp2
      go_roundw
      case rel => exact ⟨ix + 1, _, by omega, by go_num, Lib.hid (by have := HTL.out; rwa [Nat.add_assoc] at this), HFO2, HB21⟩
      case measure => simp [intOf]; omega
    · obtain ⟨S1, hS1⟩ : ∃ S1, S1 = S := ⟨_, rfl⟩
      have hkn : ix = n := by omega
      have hkc : (ix : Int) = (n : Int) := by omega
      rw [hkn] at HTL HFO
      rw [hkc]
      have HF1 : Hid (rs.foldl (fun S d => (d11S S d).1) S0 = S) := Lib.hid (by have h1 := HFO.out; simp only at h1; rw [HN.out, List.take_of_length_le (Nat.le_refl _)] at h1; exact h1)
      clear hkn hkc hlt hk HFO hS1 S1
      obtain ⟨wv, hwv⟩ : ∃ v, v = wr := ⟨_, rfl⟩
      have HT := HTL
      clear HTL
      have HQB : Hid (1 + n + n2 ≤ 20000000000000) := Lib.hid (by have := HL.out; have := HL2.out; omega)
      go_wp2_with fail
      refine (HT.out.cellsC).mono ?_
      rintro e34 w34 ⟨us, Au, cu, hus, rfl, hcu, hlu, hb34⟩
      have HB34 : Hid (Below w.heap.size w w34) := Lib.hid (HBL.out.trans (hb34.mono HBL.out.size))
      replace HT := Lib.hid (HT.out.below hb34)
      have HUS := Lib.hid hus
      have HCU := Lib.hid hcu
      have HLU := Lib.hid hlu
      clear hb34 hus hcu hlu
      go_wp2_with fail
      refine (HT.out.tokens).mono ?_
      rintro e35 w35 ⟨At, ct, rfl, hrt, hb35⟩
      have HB35 : Hid (Below w.heap.size w w35) := Lib.hid (HB34.out.trans (hb35.mono HB34.out.size))
      replace HT := Lib.hid (HT.out.below hb35)
      replace HCU := Lib.hid (HCU.out.below hb35)
      have HRT := Lib.hid hrt
      clear hb35 hrt
      go_wp2_with fail
      refine HT.out.copy.mono ?_
      rintro e36 w36 ⟨g2, b2, tk2, rfl, hnw, ht1, ht2, hb36⟩
      have HDJ : Hid (∀ k, Own3 g b tk k → ¬ Own3 g2 b2 tk2 k) := Lib.hid fun k h1 h2 => by
        have := (HT.out.own k h1).2
        rcases h2 with rfl | rfl | rfl <;> omega
      replace HCU := Lib.hid (HCU.out.grow (both_grow hnw) (Touch.ofBelow hb36))
      replace HRT := Lib.hid (HRT.out.later11 (both_grow hnw) (Touch.ofBelow hb36))
      have HB36 : Hid (Below w.heap.size w w36) := Lib.hid (HB35.out.trans (hb36.mono HB35.out.size))
      replace HT := Lib.hid ht1
      have HC := Lib.hid ht2
      clear hnw ht1 ht2 hb36
      have HQ2 : Hid ((1 + n) ≤ 10000000000000) := Lib.hid (by first | omega | (have h1 := HL.out; omega) | (have h1 := HL.out; have h2 := HL2.out; omega))
      go_wp2_with fail
      go_loopw [13] (fun i wr => ∃ (ix : Nat) (Sc : Cl), ix ≤ n2 ∧ i = .int .i64 (ix : Int) ∧ Hid (Tb1 w wr (Both g b tk g2 b2 tk2) g2 b2 tk2 Sc ((1 + n) + ix)) ∧ Hid (rs2.take ix |>.foldl (fun S d => (d11S S d).1) S |> (· = Sc)) ∧ Hid (Tb1 w wr (Both g b tk g2 b2 tk2) g b tk S (1 + n)) ∧ Hid (CeN (Both g b tk g2 b2 tk2) wr Au us) ∧ Hid (RowN (Both g b tk g2 b2 tk2) wr At (S.tok.map iV)) ∧ Hid (Below w.heap.size w wr)) (fun i _ => n2 - (intOf i).toNat)
      case atStart => exact ⟨0, S, by omega, rfl, HC, Lib.hid rfl, HT, HCU, HRT, HB36⟩
      case round =>
        obtain ⟨ix, Sc, hk, rfl, HTL, HFO, HT, HCU, HRT, HBL⟩ := hrel
        by_cases hlt : ix < n2
        · have hk1 : ix < rs2.length := by rw [← HN2.out]; exact hlt
          obtain ⟨bb, o, hA, hbl, hc⟩ := d11s_open (HR2.out wr HBL.out).1 (by omega)
          subst hA
          have hc := hc ix hk1
          have HD := Lib.hid (done11_round HR2.out HTL.out hk1 (by have h1 := HL2.out; have h2 := HQ2.out; omega))
          have hstep : rs2.take (ix + 1) = rs2.take ix ++ [rs2[ix]] := List.take_succ_eq_append_getElem hk1
          have HFO2 : Hid (rs2.take (ix + 1) |>.foldl (fun S d => (d11S S d).1) S |> (· = (d11S Sc rs2[ix]).1)) := Lib.hid (by
            have h1 := HFO.out
            simp only at h1 ⊢
            rw [hstep, List.foldl_append, h1]
            rfl)
          obtain ⟨d, hd⟩ : ∃ d, rs2[ix] = d := ⟨_, rfl⟩
          rw [hd] at hc HD HFO2
          have f0 := hc 0 _ rfl
          rw [Nat.add_zero] at f0
          have f1 := hc 1 _ rfl
          have f2 := hc 2 _ rfl
          have f3 := hc 3 _ rfl
          have f4 := hc 4 _ rfl
          have f5 := hc 5 _ rfl
          have f6 := hc 6 _ rfl
          have f7 := hc 7 _ rfl
          have hki : (0 : Int) ≤ (ix : Int) := by omega
          have hki2 : (ix : Int) < (n2 : Int) := by omega
          clear hc hstep hd hk1
          unfold dV11 at HD
          go_wp2_with fail
          refine (HD.out).mono ?_
          rintro e21 w21 ⟨Ad21, cd21, rfl, _, ht21, tu21⟩
          replace HT := Lib.hid (HT.out.touch tu21 HDJ.out (fun k hk => Or.inr hk))
          replace HCU := Lib.hid (HCU.out.touch (tu21.mono fun k hk => Or.inr hk))
          replace HRT := Lib.hid (HRT.out.touch (tu21.mono fun k hk => Or.inr hk))
          replace HTL := Lib.hid ht21
          have HB21 : Hid (Below w.heap.size w w21) := Lib.hid ht21.bel
          clear ht21 tu21 
          go_wp2
          go_roundw
          case rel => exact ⟨ix + 1, _, by omega, by go_num, Lib.hid (by have := HTL.out; rwa [Nat.add_assoc] at this), HFO2, HT, HCU, HRT, HB21⟩
          case measure => simp [intOf]; omega
        · obtain ⟨S1, hS1⟩ : ∃ S1, S1 = Sc := ⟨_, rfl⟩
          have hkn : ix = n2 := by omega
          have hkc : (ix : Int) = (n2 : Int) := by omega
          rw [hkn] at HTL HFO
          rw [hkc]
          have HF2 : Hid (rs2.foldl (fun S d => (d11S S d).1) S = Sc) := Lib.hid (by have h1 := HFO.out; simp only at h1; rw [HN2.out, List.take_of_length_le (Nat.le_refl _)] at h1; exact h1)
          clear hkn hkc hlt hk HFO hS1 S1
          obtain ⟨wv, hwv⟩ : ∃ v, v = wr := ⟨_, rfl⟩
          have HC := HTL
          clear HTL
          go_wp2_with fail
          refine (HT.out.cellsF).mono ?_
          rintro e67 w67 ⟨us2, Au2, cu2, hus2, rfl, hcu2, hlu2, hb67⟩
          have HB67 : Hid (Below w.heap.size w w67) := Lib.hid (HBL.out.trans (hb67.mono HBL.out.size))
          replace HT := Lib.hid (HT.out.below hb67)
          replace HC := Lib.hid (HC.out.below hb67)
          replace HCU := Lib.hid (HCU.out.below hb67)
          replace HRT := Lib.hid (HRT.out.belowC hb67)
          have HUS2 := Lib.hid hus2
          have HCU2 := Lib.hid hcu2
          have HLU2 := Lib.hid hlu2
          clear hb67 hus2 hcu2 hlu2
          go_wp2_with fail
          refine (samecells_true _ cu2 _ cu Au2 Au us2 us rfl rfl (HUS2.out.trans HUS.out.symm) (by have := HLU2.out; omega) w67 HCU2.out.cev HCU.out.cev).mono ?_
          rintro e68 w68 ⟨rfl, hb68⟩
          have HB68 : Hid (Below w.heap.size w w68) := Lib.hid (HB67.out.trans (hb68.mono HB67.out.size))
          replace HT := Lib.hid (HT.out.below hb68)
          replace HC := Lib.hid (HC.out.below hb68)
          replace HCU := Lib.hid (HCU.out.below hb68)
          replace HRT := Lib.hid (HRT.out.belowC hb68)
          replace HCU2 := Lib.hid (HCU2.out.below hb68)
          clear hb68 
          go_wp2_with fail
          refine (HT.out.tokens).mono ?_
          rintro e69 w69 ⟨At2, ct2, rfl, hrt2, hb69⟩
          have HB69 : Hid (Below w.heap.size w w69) := Lib.hid (HB68.out.trans (hb69.mono HB68.out.size))
          replace HT := Lib.hid (HT.out.below hb69)
          replace HC := Lib.hid (HC.out.below hb69)
          replace HCU := Lib.hid (HCU.out.below hb69)
          replace HRT := Lib.hid (HRT.out.belowC hb69)
          replace HCU2 := Lib.hid (HCU2.out.below hb69)
          have HRT2 := Lib.hid hrt2
          clear hb69 hrt2
          go_wp2_with fail
          refine (sameints_true11 _ _ ct2 ct S.nb S.nb At2 At S.tok w69 HRT2.out.row HRT.out.row HT.out.ok.tl.symm HT.out.ok.tl.symm (by have := HT.out.ok.tl; have := HT.out.ok.nb; omega)).mono ?_
          rintro e70 w70 ⟨rfl, hb70⟩
          have HB70 : Hid (Below w.heap.size w w70) := Lib.hid (HB69.out.trans (hb70.mono HB69.out.size))
          replace HT := Lib.hid (HT.out.below hb70)
          replace HC := Lib.hid (HC.out.below hb70)
          replace HCU := Lib.hid (HCU.out.below hb70)
          replace HRT := Lib.hid (HRT.out.belowC hb70)
          replace HCU2 := Lib.hid (HCU2.out.below hb70)
          replace HRT2 := Lib.hid (HRT2.out.belowC hb70)
          clear hb70 
          have HQ3 : Hid ((1 + n) ≤ 10000000000000) := Lib.hid (by first | omega | (have h1 := HL.out; omega) | (have h1 := HL.out; have h2 := HL2.out; omega))
          go_wp2_with fail
          go_loopw [14] (fun i wr => ∃ (ix : Nat) (Sd : Cl), ix ≤ n2 ∧ i = .int .i64 (ix : Int) ∧ Hid (Tb1 w wr (Both g b tk g2 b2 tk2) g b tk Sd ((1 + n) + ix)) ∧ Hid (rs2.take ix |>.foldl (fun S d => (d11S S d).1) S |> (· = Sd)) ∧ Hid (Tb1 w wr (Both g b tk g2 b2 tk2) g2 b2 tk2 Sc (1 + n + n2)) ∧ Hid (Below w.heap.size w wr)) (fun i _ => n2 - (intOf i).toNat)
          case atStart => exact ⟨0, S, by omega, rfl, HT, Lib.hid rfl, HC, HB70⟩
          case round =>
            obtain ⟨ix, Sd, hk, rfl, HTL, HFO, HC, HBL⟩ := hrel
            by_cases hlt : ix < n2
            · have hk1 : ix < rs2.length := by rw [← HN2.out]; exact hlt
              obtain ⟨bb, o, hA, hbl, hc⟩ := d11s_open (HR2.out wr HBL.out).1 (by omega)
              subst hA
              have hc := hc ix hk1
              have HD := Lib.hid (done11_round HR2.out HTL.out hk1 (by have h1 := HL2.out; have h2 := HQ3.out; omega))
              have hstep : rs2.take (ix + 1) = rs2.take ix ++ [rs2[ix]] := List.take_succ_eq_append_getElem hk1
              have HFO2 : Hid (rs2.take (ix + 1) |>.foldl (fun S d => (d11S S d).1) S |> (· = (d11S Sd rs2[ix]).1)) := Lib.hid (by
                have h1 := HFO.out
                simp only at h1 ⊢
                rw [hstep, List.foldl_append, h1]
                rfl)
              obtain ⟨d, hd⟩ : ∃ d, rs2[ix] = d := ⟨_, rfl⟩
              rw [hd] at hc HD HFO2
              have f0 := hc 0 _ rfl
              rw [Nat.add_zero] at f0
              have f1 := hc 1 _ rfl
              have f2 := hc 2 _ rfl
              have f3 := hc 3 _ rfl
              have f4 := hc 4 _ rfl
              have f5 := hc 5 _ rfl
              have f6 := hc 6 _ rfl
              have f7 := hc 7 _ rfl
              have hki : (0 : Int) ≤ (ix : Int) := by omega
              have hki2 : (ix : Int) < (n2 : Int) := by omega
              clear hc hstep hd hk1
              unfold dV11 at HD
              go_wp2_with fail
              refine (HD.out).mono ?_
              rintro e21 w21 ⟨Ad21, cd21, rfl, _, ht21, tu21⟩
              replace HC := Lib.hid (HC.out.touch tu21 (fun k h1 h2 => HDJ.out k h2 h1) (fun k hk => Or.inl hk))
              replace HTL := Lib.hid ht21
              have HB21 : Hid (Below w.heap.size w w21) := Lib.hid ht21.bel
              clear ht21 tu21 
              go_wp2
              go_roundw
              case rel => exact ⟨ix + 1, _, by omega, by go_num, Lib.hid (by have := HTL.out; rwa [Nat.add_assoc] at this), HFO2, HC, HB21⟩
              case measure => simp [intOf]; omega
            · obtain ⟨S1, hS1⟩ : ∃ S1, S1 = Sd := ⟨_, rfl⟩
              have hkn : ix = n2 := by omega
              have hkc : (ix : Int) = (n2 : Int) := by omega
              rw [hkn] at HTL HFO
              rw [hkc]
              have HF3 : Hid (rs2.foldl (fun S d => (d11S S d).1) S = Sd) := Lib.hid (by have h1 := HFO.out; simp only at h1; rw [HN2.out, List.take_of_length_le (Nat.le_refl _)] at h1; exact h1)
              clear hkn hkc hlt hk HFO hS1 S1
              obtain ⟨wv, hwv⟩ : ∃ v, v = wr := ⟨_, rfl⟩
              have HT := HTL
              clear HTL
              have HSS : Hid (Sc = Sd) := Lib.hid (by have h1 := HF2.out; have h2 := HF3.out; exact h1.symm.trans h2)
              rw [HSS.out] at HC
              go_wp2_with fail
              refine (HT.out.cellsF).mono ?_
              rintro e101 w101 ⟨us3, Au3, cu3, hus3, rfl, hcu3, hlu3, hb101⟩
              have HB101 : Hid (Below w.heap.size w w101) := Lib.hid (HBL.out.trans (hb101.mono HBL.out.size))
              replace HT := Lib.hid (HT.out.below hb101)
              replace HC := Lib.hid (HC.out.below hb101)
              have HUS3 := Lib.hid hus3
              have HCU3 := Lib.hid hcu3
              have HLU3 := Lib.hid hlu3
              clear hb101 hus3 hcu3 hlu3
              go_wp2_with fail
              refine (HC.out.cellsF).mono ?_
              rintro e102 w102 ⟨us4, Au4, cu4, hus4, rfl, hcu4, hlu4, hb102⟩
              have HB102 : Hid (Below w.heap.size w w102) := Lib.hid (HB101.out.trans (hb102.mono HB101.out.size))
              replace HT := Lib.hid (HT.out.below hb102)
              replace HC := Lib.hid (HC.out.below hb102)
              replace HCU3 := Lib.hid (HCU3.out.below hb102)
              have HUS4 := Lib.hid hus4
              have HCU4 := Lib.hid hcu4
              have HLU4 := Lib.hid hlu4
              clear hb102 hus4 hcu4 hlu4
              go_wp2_with fail
              refine (samecells_true _ cu3 _ cu4 Au3 Au4 us3 us4 rfl rfl (HUS3.out.trans HUS4.out.symm) (by have := HLU3.out; omega) w102 HCU3.out.cev HCU4.out.cev).mono ?_
              rintro e103 w103 ⟨rfl, hb103⟩
              have HB103 : Hid (Below w.heap.size w w103) := Lib.hid (HB102.out.trans (hb103.mono HB102.out.size))
              replace HT := Lib.hid (HT.out.below hb103)
              replace HC := Lib.hid (HC.out.below hb103)
              replace HCU3 := Lib.hid (HCU3.out.below hb103)
              replace HCU4 := Lib.hid (HCU4.out.below hb103)
              clear hb103 
              go_wp2_with fail
              refine (HT.out.tokens).mono ?_
              rintro e104 w104 ⟨At3, ct3, rfl, hrt3, hb104⟩
              have HB104 : Hid (Below w.heap.size w w104) := Lib.hid (HB103.out.trans (hb104.mono HB103.out.size))
              replace HT := Lib.hid (HT.out.below hb104)
              replace HC := Lib.hid (HC.out.below hb104)
              replace HCU3 := Lib.hid (HCU3.out.below hb104)
              replace HCU4 := Lib.hid (HCU4.out.below hb104)
              have HRT3 := Lib.hid hrt3
              clear hb104 hrt3
              go_wp2_with fail
              refine (HC.out.tokens).mono ?_
              rintro e105 w105 ⟨At4, ct4, rfl, hrt4, hb105⟩
              have HB105 : Hid (Below w.heap.size w w105) := Lib.hid (HB104.out.trans (hb105.mono HB104.out.size))
              replace HT := Lib.hid (HT.out.below hb105)
              replace HC := Lib.hid (HC.out.below hb105)
              replace HCU3 := Lib.hid (HCU3.out.below hb105)
              replace HCU4 := Lib.hid (HCU4.out.below hb105)
              replace HRT3 := Lib.hid (HRT3.out.belowC hb105)
              have HRT4 := Lib.hid hrt4
              clear hb105 hrt4
              go_wp2_with fail
              refine (sameints_true11 _ _ ct3 ct4 Sd.nb Sd.nb At3 At4 Sd.tok w105 HRT3.out.row HRT4.out.row HT.out.ok.tl.symm HT.out.ok.tl.symm (by have := HT.out.ok.tl; have := HT.out.ok.nb; omega)).mono ?_
              rintro e106 w106 ⟨rfl, hb106⟩
              have HB106 : Hid (Below w.heap.size w w106) := Lib.hid (HB105.out.trans (hb106.mono HB105.out.size))
              replace HT := Lib.hid (HT.out.below hb106)
              replace HC := Lib.hid (HC.out.below hb106)
              replace HCU3 := Lib.hid (HCU3.out.below hb106)
              replace HCU4 := Lib.hid (HCU4.out.below hb106)
              replace HRT3 := Lib.hid (HRT3.out.belowC hb106)
              replace HRT4 := Lib.hid (HRT4.out.belowC hb106)
              clear hb106 
              go_wp2_with (go_at_call 11; refine (known11_any _).mono ?_; rintro e107 w107 ⟨rfl, hb107⟩)
              go_ret
              exact ⟨rfl, HB106.out.trans (hb107.mono HB106.out.size)⟩
end Go.Proofs.Ytkljcoecgmpgpaa
