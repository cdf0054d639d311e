/- What was filled in is told whole; by any other token nothing changes. -/
import Derived.Test.YtkljcoecgmpgpaaCl1
import Derived.Test.YtkljcoecgmpgpaaCl3
namespace Go.Proofs.Ytkljcoecgmpgpaa
open Go.RowKit Go.ChangeShapes Mem Be Word Rg Go.Maps
set_option maxRecDepth 100000
set_option maxHeartbeats 16000000
set_option linter.unusedVariables false
set_option linter.unusedSimpArgs false
theorem fills_walk (rc rb nb : Int) (fr : Bool) (A : Option Addr) (n c : Nat) (rs : List D11) (hn : n = rs.length) (hl : n ≤ 1700000000000) (x : EV) (hx1 : x.1.v.length ≤ x.2.2) (hx2 : x.2.2 ≤ maxLen) (hx3 : x.1.k.length ≤ maxLen) (oth : Int) (w : World) (h : InD11 w A rs) (hxr : Row w w.heap.size x.2.1 (x.1.v.map byteV)) :
    Calls Try.prog 7 #[.agg #[.int .i64 rc, .int .i64 rb, .int .i64 nb, .bool fr], .slice A n c, .agg #[.string ⟨x.1.k.toArray⟩, .int .i64 x.1.s, .int .i64 x.1.u, .int .i64 x.1.o, .bool x.1.has, .slice x.2.1 x.1.v.length x.2.2], .int .i64 oth] w (IsB true w) := by
  have HR := Lib.hid h
  have HN := Lib.hid hn
  have HL : Hid (n ≤ 1700000000000) := Lib.hid hl
  have hni : (n : Int) ≤ 1700000000000 := by omega
  have hni0 : (0 : Int) ≤ (n : Int) := by omega
  have HLG := Lib.hid fun W (hb : Below w.heap.size w W) => long11_any n c A rs hn (by unfold maxLen; omega) W (h.at_ hb)
  have HXV : Hid ((x.1.v.length ≤ x.2.2 ∧ x.2.2 ≤ maxLen) ∧ x.1.k.length ≤ maxLen) := Lib.hid ⟨⟨hx1, hx2⟩, hx3⟩
  have hvl : (x.1.v.length : Int) ≤ 9223372036854775807 := by unfold maxLen at hx2; omega
  have hvl0 : (0 : Int) ≤ (x.1.v.length : Int) := by omega
  have HXR := Lib.hid hxr
  have HBX : Hid (Below w.heap.size w ((w.alloc (.cells #[.int .i64 rc, .int .i64 rb, .int .i64 nb, .bool fr] 23)).alloc (.cells #[.string ⟨x.1.k.toArray⟩, .int .i64 x.1.s, .int .i64 x.1.u, .int .i64 x.1.o, .bool x.1.has, .slice x.2.1 x.1.v.length x.2.2] 41))) := Lib.hid (((Below.refl _ _).alloc (Nat.le_refl _) _).alloc (by simp) _)
  have HBE := Lib.hid (blk_at (g' := w.heap.size + 1) (by simp) (Blk.new (w.alloc (.cells #[.int .i64 rc, .int .i64 rb, .int .i64 nb, .bool fr] 23)) 41 #[.string ⟨x.1.k.toArray⟩, .int .i64 x.1.s, .int .i64 x.1.u, .int .i64 x.1.o, .bool x.1.has, .slice x.2.1 x.1.v.length x.2.2]))
  clear h hn hl hx1 hx2 hx3 hxr
  by_cases hok : RoomOk rc rb nb
  rotate_left
  · have HNW := Lib.hid (new_bad11 rc rb nb fr hok ((w.alloc (.cells #[.int .i64 rc, .int .i64 rb, .int .i64 nb, .bool fr] 23)).alloc (.cells #[.string ⟨x.1.k.toArray⟩, .int .i64 x.1.s, .int .i64 x.1.u, .int .i64 x.1.o, .bool x.1.has, .slice x.2.1 x.1.v.length x.2.2] 41)))
    clear hok
    go_enter Try.func7, Try.ntmps7
    go_wp2_with fail
    refine HNW.out.mono ?_
    rintro e1 w1 ⟨rfl, hb1⟩
    have HB1 : Hid (Below w.heap.size w w1) := Lib.hid (HBX.out.trans (hb1.mono HBX.out.size))
    clear hb1 HNW
    go_wp2_with fail
    refine (HLG.out w1 HB1.out).mono ?_
    rintro e2 w2 ⟨⟨z2, rfl⟩, hb2⟩
    have HB2 : Hid (Below w.heap.size w w2) := Lib.hid (HB1.out.trans (hb2.mono HB1.out.size))
    clear hb2 
    by_cases b1 : 1500 < z2
    · go_wp2_with (go_at_call 11; refine (known11_any _).mono ?_; rintro e3 w3 ⟨rfl, hb3⟩)
      go_ret
      exact ⟨rfl, HB2.out.trans (hb3.mono HB2.out.size)⟩
    · go_wp2_with (go_at_call 11; refine (known11_any _).mono ?_; rintro e3 w3 ⟨rfl, hb3⟩)
      go_ret
      exact ⟨rfl, HB2.out.trans (hb3.mono HB2.out.size)⟩
  obtain ⟨nb, rfl⟩ : ∃ k : Nat, nb = (k : Int) := ⟨nb.toNat, by have := hok.2.2.1; omega⟩
  have HNW := Lib.hid (new_ok11 rc rb nb fr hok ((w.alloc (.cells #[.int .i64 rc, .int .i64 rb, .int .i64 (nb : Int), .bool fr] 23)).alloc (.cells #[.string ⟨x.1.k.toArray⟩, .int .i64 x.1.s, .int .i64 x.1.u, .int .i64 x.1.o, .bool x.1.has, .slice x.2.1 x.1.v.length x.2.2] 41)))
  have HOK := Lib.hid (ok_newS (fr := fr) hok)
  obtain ⟨S0, hS0⟩ : ∃ S0, newS rc rb nb fr = S0 := ⟨_, rfl⟩
  rw [hS0] at HNW HOK
  clear hok hS0
  go_enter Try.func7, Try.ntmps7
  go_wp2_with fail
  refine HNW.out.mono ?_
  intro e1 w1 hx
  obtain ⟨g, b, tk, rfl, ht, hnr, hb1⟩ := tb1_new2 HBX.out hx HOK.out
  have HT := Lib.hid ht
  have HB1 : Hid (Below w.heap.size w w1) := Lib.hid ht.bel
  have HNE : Hid (¬ Own3 g b tk (w.heap.size + 1)) := Lib.hid (hnr _ (by simp))
  replace HBE := Lib.hid (HBE.out.below hb1 HBE.out.lt)
  clear hx ht hnr hb1 HNW
  have e5 := HBE.out.is 5 _ rfl
  go_wp2_with fail
  refine (HLG.out w1 HB1.out).mono ?_
  rintro e2 w2 ⟨⟨z2, rfl⟩, hb2⟩
  have HB2 : Hid (Below w.heap.size w w2) := Lib.hid (HB1.out.trans (hb2.mono HB1.out.size))
  replace HT := Lib.hid (HT.out.below hb2)
  replace HBE := Lib.hid (HBE.out.below hb2 HBE.out.lt)
  clear e5
  clear hb2 
  have e5 := HBE.out.is 5 _ rfl
  by_cases b1 : 1500 < z2
  · go_wp2_with (go_at_call 11; refine (known11_any _).mono ?_; rintro e3 w3 ⟨rfl, hb3⟩)
    go_ret
    exact ⟨rfl, HB2.out.trans (hb3.mono HB2.out.size)⟩
  by_cases b2 : 300 < (x.1.v.length : Int)
  · go_wp2_with (go_at_call 11; refine (known11_any _).mono ?_; rintro e3 w3 ⟨rfl, hb3⟩)
    go_ret
    exact ⟨rfl, HB2.out.trans (hb3.mono HB2.out.size)⟩
  have HQ1 : Hid (1 ≤ 10000000000000) := Lib.hid (by first | omega | (have h1 := HL.out; omega) | (have h1 := HL.out; have h2 := HL2.out; omega))
  go_wp2_with fail
  clear e5
  go_loopw [11] (fun i wr => ∃ (ix : Nat) (S : Cl), ix ≤ n ∧ i = .int .i64 (ix : Int) ∧ Hid (Tb1 w wr (Own3 g b tk) g b tk S (1 + ix)) ∧ Hid (rs.take ix |>.foldl (fun S d => (d11S S d).1) S0 |> (· = S)) ∧ Hid (Blk wr (w.heap.size + 1) 41 #[.string ⟨x.1.k.toArray⟩, .int .i64 x.1.s, .int .i64 x.1.u, .int .i64 x.1.o, .bool x.1.has, .slice x.2.1 x.1.v.length x.2.2]) ∧ Hid (Below w.heap.size w wr)) (fun i _ => n - (intOf i).toNat)
  case atStart => exact ⟨0, S0, by omega, rfl, HT, Lib.hid rfl, HBE, HB2⟩
  case round =>
    obtain ⟨ix, S, hk, rfl, HTL, HFO, HBE, HBL⟩ := hrel
    by_cases hlt : ix < n
    · have hk1 : ix < rs.length := by rw [← HN.out]; exact hlt
      obtain ⟨bb, o, hA, hbl, hc⟩ := d11s_open (HR.out wr HBL.out).1 (by omega)
      subst hA
      have hc := hc ix hk1
      have HD := Lib.hid (done11_round HR.out HTL.out hk1 (by have h1 := HL.out; have h2 := HQ1.out; omega))
      have hstep : rs.take (ix + 1) = rs.take ix ++ [rs[ix]] := List.take_succ_eq_append_getElem hk1
      have HFO2 : Hid (rs.take (ix + 1) |>.foldl (fun S d => (d11S S d).1) S0 |> (· = (d11S S rs[ix]).1)) := Lib.hid (by
        have h1 := HFO.out
        simp only at h1 ⊢
        rw [hstep, List.foldl_append, h1]
        rfl)
      obtain ⟨d, hd⟩ : ∃ d, rs[ix] = d := ⟨_, rfl⟩
      rw [hd] at hc HD HFO2
      have f0 := hc 0 _ rfl
      rw [Nat.add_zero] at f0
      have f1 := hc 1 _ rfl
      have f2 := hc 2 _ rfl
      have f3 := hc 3 _ rfl
      have f4 := hc 4 _ rfl
      have f5 := hc 5 _ rfl
      have f6 := hc 6 _ rfl
      have f7 := hc 7 _ rfl
      have hki : (0 : Int) ≤ (ix : Int) := by omega
      have hki2 : (ix : Int) < (n : Int) := by omega
      clear hc hstep hd hk1
      unfold dV11 at HD
      go_wp2_with fail
      refine (HD.out).mono ?_
      rintro e21 w21 ⟨Ad21, cd21, rfl, _, ht21, tu21⟩
      replace HBE := Lib.hid (HBE.out.touchT tu21 (HNE.out))
      replace HTL := Lib.hid ht21
      have HB21 : Hid (Below w.heap.size w w21) := Lib.hid ht21.bel
      clear ht21 tu21 
      go_wp2
      go_roundw
      case rel => exact ⟨ix + 1, _, by omega, by go_num, Lib.hid (by have := HTL.out; rwa [Nat.add_assoc] at this), HFO2, HBE, HB21⟩
      case measure => simp [intOf]; omega
    · obtain ⟨S1, hS1⟩ : ∃ S1, S1 = S := ⟨_, rfl⟩
      have hkn : ix = n := by omega
      have hkc : (ix : Int) = (n : Int) := by omega
      rw [hkn] at HTL HFO
      rw [hkc]
      have HF1 : Hid (rs.foldl (fun S d => (d11S S d).1) S0 = S) := Lib.hid (by have h1 := HFO.out; simp only at h1; rw [HN.out, List.take_of_length_le (Nat.le_refl _)] at h1; exact h1)
      clear hkn hkc hlt hk HFO hS1 S1
      obtain ⟨wv, hwv⟩ : ∃ v, v = wr := ⟨_, rfl⟩
      have HT := HTL
      clear HTL
      have HQB : Hid (1 + n ≤ 20000000000000) := Lib.hid (by have := HL.out; omega)
      have HSO : Hid (OkC S) := Lib.hid HT.out.ok
      have e0 := HBE.out.is 0 _ rfl
      have HQS := Lib.hid (HT.out.query x.1.k HXV.out.2 (by have := HQB.out; omega))
      obtain ⟨R, hR⟩ : ∃ R, queryS S x.1.k = R := ⟨_, rfl⟩
      have HRE := Lib.hid hR
      rw [hR] at HQS
      unfold QueryT at HQS
      by_cases hq0 : R.2.2 = 0
      rotate_left
      · have g0 : (R.2.2 != 0) = true := by simpa using hq0
        clear hR hq0
        go_wp2_with fail
        refine (HQS.out).mono ?_
        rintro e33 w33 ⟨Aq, cq, rfl, _, _, ht33, tu33⟩
        replace HBE := Lib.hid (HBE.out.touchT tu33 (HNE.out))
        replace HT := Lib.hid ht33
        have HB33 : Hid (Below w.heap.size w w33) := Lib.hid ht33.bel
        clear e0
        clear ht33 tu33  HQS
        have e0 := HBE.out.is 0 _ rfl
        unfold repV
        obtain ⟨w34, hv34⟩ : ∃ V, w33.alloc (.cells #[.string ⟨R.2.1.e.k.toArray⟩, .int .i64 R.2.1.e.s, .int .i64 R.2.1.e.u, .int .i64 R.2.1.e.o, .bool R.2.1.e.has, .slice Aq R.2.1.e.v.length cq, .bool R.2.1.wh, .int .i64 R.2.1.tok] 43) = V := ⟨_, rfl⟩
        have hb34 : Below w33.heap.size w33 w34 := by rw [← hv34]; exact (Below.refl _ _).alloc (Nat.le_refl _) _
        have HBQ0 : Hid (Blk w34 w33.heap.size 43 #[.string ⟨R.2.1.e.k.toArray⟩, .int .i64 R.2.1.e.s, .int .i64 R.2.1.e.u, .int .i64 R.2.1.e.o, .bool R.2.1.e.has, .slice Aq R.2.1.e.v.length cq, .bool R.2.1.wh, .int .i64 R.2.1.tok]) := Lib.hid (by rw [← hv34]; exact Blk.new _ _ _)
        have HB34 : Hid (Below w.heap.size w w34) := Lib.hid (HB33.out.trans (hb34.mono HB33.out.size))
        replace HT := Lib.hid (HT.out.below hb34)
        replace HBE := Lib.hid (HBE.out.below hb34 HBE.out.lt)
        clear e0
        clear hb34
        have e0 := HBE.out.is 0 _ rfl
        go_wp2_with (go_at_call 11; refine (known11_any _).mono ?_; rintro e35 w35 ⟨rfl, hb35⟩)
        go_ret
        exact ⟨rfl, HB34.out.trans (hb35.mono HB34.out.size)⟩
      have HK0 : Hid (R.2.1.tok = tokK R.1 x.1.k ∧ OkC R.1) := Lib.hid (by
        have hkk : x.1.k ≠ [] ∧ x.1.k.length ≤ 250 := by
          have h1 : (queryS S x.1.k).2.2 = 0 := by rw [hR]; exact hq0
          unfold queryS at h1
          split at h1
          · cases h1
          · rename_i h2
            exact ⟨fun e => h2 (Or.inl e), by have : ¬ 250 < x.1.k.length := fun e => h2 (Or.inr e); omega⟩
        obtain ⟨_, h2, h3, h4, _⟩ := query_ok (S := S) hkk.1 hkk.2
        rw [hR] at h2 h3 h4
        refine ⟨by rw [h2]; unfold tokK; rw [h3, h4], ?_⟩
        have := (ok_query ⟨HT.out.ok, HT.out.lim⟩ x.1.k).1
        rwa [hR] at this)
      rw [hq0] at HQS
      clear hR hq0
      go_wp2_with fail
      refine (HQS.out).mono ?_
      rintro e33 w33 ⟨Aq, cq, rfl, _, _, ht33, tu33⟩
      replace HBE := Lib.hid (HBE.out.touchT tu33 (HNE.out))
      replace HT := Lib.hid ht33
      have HB33 : Hid (Below w.heap.size w w33) := Lib.hid ht33.bel
      clear e0
      clear ht33 tu33  HQS
      have e0 := HBE.out.is 0 _ rfl
      obtain ⟨tq, htq⟩ : ∃ tq, R.2.1.tok = tq := ⟨_, rfl⟩
      have HTQ : Hid (tq = tokK R.1 x.1.k) := Lib.hid (htq.symm.trans HK0.out.1)
      unfold repV
      rw [htq]
      clear htq
      have HNQ : Hid (¬ Own3 g b tk w33.heap.size) := Lib.hid fun hk => by have := (HT.out.own _ hk).2; omega
      obtain ⟨w34, hv34⟩ : ∃ V, w33.alloc (.cells #[.string ⟨R.2.1.e.k.toArray⟩, .int .i64 R.2.1.e.s, .int .i64 R.2.1.e.u, .int .i64 R.2.1.e.o, .bool R.2.1.e.has, .slice Aq R.2.1.e.v.length cq, .bool R.2.1.wh, .int .i64 tq] 43) = V := ⟨_, rfl⟩
      have hb34 : Below w33.heap.size w33 w34 := by rw [← hv34]; exact (Below.refl _ _).alloc (Nat.le_refl _) _
      have HBQ : Hid (Blk w34 w33.heap.size 43 #[.string ⟨R.2.1.e.k.toArray⟩, .int .i64 R.2.1.e.s, .int .i64 R.2.1.e.u, .int .i64 R.2.1.e.o, .bool R.2.1.e.has, .slice Aq R.2.1.e.v.length cq, .bool R.2.1.wh, .int .i64 tq]) := Lib.hid (by rw [← hv34]; exact Blk.new _ _ _)
      have HB34 : Hid (Below w.heap.size w w34) := Lib.hid (HB33.out.trans (hb34.mono HB33.out.size))
      replace HT := Lib.hid (HT.out.below hb34)
      replace HBE := Lib.hid (HBE.out.below hb34 HBE.out.lt)
      clear e0
      clear hb34
      have e0 := HBE.out.is 0 _ rfl
      have x7 := HBQ.out.is 7 _ rfl
      go_wp2_with fail
      refine (HT.out.cellsC).mono ?_
      rintro e35 w35 ⟨us, Au, cu, hus, rfl, hcu, hlu, hb35⟩
      have HB35 : Hid (Below w.heap.size w w35) := Lib.hid (HB34.out.trans (hb35.mono HB34.out.size))
      replace HT := Lib.hid (HT.out.below hb35)
      replace HBE := Lib.hid (HBE.out.below hb35 HBE.out.lt)
      replace HBQ := Lib.hid (HBQ.out.below hb35 HBQ.out.lt)
      have HUS := Lib.hid hus
      have HCU := Lib.hid hcu
      have HLU := Lib.hid hlu
      clear e0 x7
      clear hb35 hus hcu hlu
      have e0 := HBE.out.is 0 _ rfl
      have x7 := HBQ.out.is 7 _ rfl
      clear e0 x7
      have x7 := HBQ.out.is 7 _ rfl
      have e0 := HBE.out.is 0 _ rfl
      have e1 := HBE.out.is 1 _ rfl
      have e2 := HBE.out.is 2 _ rfl
      have e3 := HBE.out.is 3 _ rfl
      have e4 := HBE.out.is 4 _ rfl
      have e5 := HBE.out.is 5 _ rfl
      by_cases hot : oth = tq
      · have g1 : (oth != tq) = false := by simpa using hot
        clear hot
        have HFL := Lib.hid (HT.out.fill x tq HXV.out.1 HXV.out.2 (RowN.of_low (HXR.out.below HT.out.bel) HT.out.bel.size fun k hk => (HT.out.own k hk).1) (by have := HQB.out; omega))
        obtain ⟨R2, hR2⟩ : ∃ R2, fillS R.1 x.1 tq = R2 := ⟨_, rfl⟩
        have HR2E := Lib.hid hR2
        rw [hR2] at HFL
        by_cases hf : R2.2.1 = true
        rotate_left
        · have hff : R2.2.1 = false := by simpa using hf
          have HFW := Lib.hid (fill_fails HK0.out.2 x.1 (by rw [hR2]; exact hff) HTQ.out)
          rw [hR2] at HFW
          rw [hff] at HFL
          clear hf hR2 hff
          go_wp2_with fail
          refine (HFL.out).mono ?_
          rintro e36 w36 ⟨rfl, ht36, tu36⟩
          replace HBE := Lib.hid (HBE.out.touchT tu36 (HNE.out))
          replace HBQ := Lib.hid (HBQ.out.touchT tu36 (HNQ.out))
          replace HCU := Lib.hid (HCU.out.touch tu36)
          replace HT := Lib.hid ht36
          have HB36 : Hid (Below w.heap.size w w36) := Lib.hid ht36.bel
          clear x7 e0 e1 e2 e3 e4 e5
          clear ht36 tu36  HFL
          have x7 := HBQ.out.is 7 _ rfl
          have e0 := HBE.out.is 0 _ rfl
          have e1 := HBE.out.is 1 _ rfl
          have e2 := HBE.out.is 2 _ rfl
          have e3 := HBE.out.is 3 _ rfl
          have e4 := HBE.out.is 4 _ rfl
          have e5 := HBE.out.is 5 _ rfl
          have hfe := HFW.out.2
          rcases hfe with hfe | hfe
          · rw [hfe]
            clear hfe
            go_wp2_with fail
            refine (HT.out.cellsC).mono ?_
            rintro e37 w37 ⟨us3, Au3, cu3, hus3, rfl, hcu3, hlu3, hb37⟩
            have HB37 : Hid (Below w.heap.size w w37) := Lib.hid (HB36.out.trans (hb37.mono HB36.out.size))
            replace HT := Lib.hid (HT.out.below hb37)
            replace HBE := Lib.hid (HBE.out.below hb37 HBE.out.lt)
            replace HBQ := Lib.hid (HBQ.out.below hb37 HBQ.out.lt)
            replace HCU := Lib.hid (HCU.out.below hb37)
            have HUS3 := Lib.hid hus3
            have HCU3 := Lib.hid hcu3
            have HLU3 := Lib.hid hlu3
            clear x7 e0 e1 e2 e3 e4 e5
            clear hb37 hus3 hcu3 hlu3
            have x7 := HBQ.out.is 7 _ rfl
            have e0 := HBE.out.is 0 _ rfl
            have e1 := HBE.out.is 1 _ rfl
            have e2 := HBE.out.is 2 _ rfl
            have e3 := HBE.out.is 3 _ rfl
            have e4 := HBE.out.is 4 _ rfl
            have e5 := HBE.out.is 5 _ rfl
            go_wp2_with fail
            refine (samecells_true _ cu3 _ cu Au3 Au us3 us rfl rfl (HUS3.out.trans ((congrArg Cl.T HFW.out.1).trans HUS.out.symm)) (by have := HLU3.out; omega) w37 HCU3.out.cev HCU.out.cev).mono ?_
            rintro e38 w38 ⟨rfl, hb38⟩
            have HB38 : Hid (Below w.heap.size w w38) := Lib.hid (HB37.out.trans (hb38.mono HB37.out.size))
            replace HT := Lib.hid (HT.out.below hb38)
            replace HBE := Lib.hid (HBE.out.below hb38 HBE.out.lt)
            replace HBQ := Lib.hid (HBQ.out.below hb38 HBQ.out.lt)
            replace HCU := Lib.hid (HCU.out.below hb38)
            replace HCU3 := Lib.hid (HCU3.out.below hb38)
            clear x7 e0 e1 e2 e3 e4 e5
            clear hb38 
            have x7 := HBQ.out.is 7 _ rfl
            have e0 := HBE.out.is 0 _ rfl
            have e1 := HBE.out.is 1 _ rfl
            have e2 := HBE.out.is 2 _ rfl
            have e3 := HBE.out.is 3 _ rfl
            have e4 := HBE.out.is 4 _ rfl
            have e5 := HBE.out.is 5 _ rfl
            go_wp2_with (go_at_call 11; refine (known11_any _).mono ?_; rintro e39 w39 ⟨rfl, hb39⟩)
            go_ret
            exact ⟨rfl, HB38.out.trans (hb39.mono HB38.out.size)⟩
          · rw [hfe]
            clear hfe
            go_wp2_with fail
            refine (HT.out.cellsC).mono ?_
            rintro e37 w37 ⟨us3, Au3, cu3, hus3, rfl, hcu3, hlu3, hb37⟩
            have HB37 : Hid (Below w.heap.size w w37) := Lib.hid (HB36.out.trans (hb37.mono HB36.out.size))
            replace HT := Lib.hid (HT.out.below hb37)
            replace HBE := Lib.hid (HBE.out.below hb37 HBE.out.lt)
            replace HBQ := Lib.hid (HBQ.out.below hb37 HBQ.out.lt)
            replace HCU := Lib.hid (HCU.out.below hb37)
            have HUS3 := Lib.hid hus3
            have HCU3 := Lib.hid hcu3
            have HLU3 := Lib.hid hlu3
            clear x7 e0 e1 e2 e3 e4 e5
            clear hb37 hus3 hcu3 hlu3
            have x7 := HBQ.out.is 7 _ rfl
            have e0 := HBE.out.is 0 _ rfl
            have e1 := HBE.out.is 1 _ rfl
            have e2 := HBE.out.is 2 _ rfl
            have e3 := HBE.out.is 3 _ rfl
            have e4 := HBE.out.is 4 _ rfl
            have e5 := HBE.out.is 5 _ rfl
            go_wp2_with fail
            refine (samecells_true _ cu3 _ cu Au3 Au us3 us rfl rfl (HUS3.out.trans ((congrArg Cl.T HFW.out.1).trans HUS.out.symm)) (by have := HLU3.out; omega) w37 HCU3.out.cev HCU.out.cev).mono ?_
            rintro e38 w38 ⟨rfl, hb38⟩
            have HB38 : Hid (Below w.heap.size w w38) := Lib.hid (HB37.out.trans (hb38.mono HB37.out.size))
            replace HT := Lib.hid (HT.out.below hb38)
            replace HBE := Lib.hid (HBE.out.below hb38 HBE.out.lt)
            replace HBQ := Lib.hid (HBQ.out.below hb38 HBQ.out.lt)
            replace HCU := Lib.hid (HCU.out.below hb38)
            replace HCU3 := Lib.hid (HCU3.out.below hb38)
            clear x7 e0 e1 e2 e3 e4 e5
            clear hb38 
            have x7 := HBQ.out.is 7 _ rfl
            have e0 := HBE.out.is 0 _ rfl
            have e1 := HBE.out.is 1 _ rfl
            have e2 := HBE.out.is 2 _ rfl
            have e3 := HBE.out.is 3 _ rfl
            have e4 := HBE.out.is 4 _ rfl
            have e5 := HBE.out.is 5 _ rfl
            go_wp2_with (go_at_call 11; refine (known11_any _).mono ?_; rintro e39 w39 ⟨rfl, hb39⟩)
            go_ret
            exact ⟨rfl, HB38.out.trans (hb39.mono HB38.out.size)⟩
        have HFG := Lib.hid (fill_tells HK0.out.2 x.1 (by rw [hR2]; exact hf))
        rw [hR2] at HFG
        have hf0 := HFG.out.1
        rw [hf, hf0] at HFL
        clear hf hR2 hf0
        go_wp2_with fail
        refine (HFL.out).mono ?_
        rintro e36 w36 ⟨rfl, ht36, tu36⟩
        replace HBE := Lib.hid (HBE.out.touchT tu36 (HNE.out))
        replace HBQ := Lib.hid (HBQ.out.touchT tu36 (HNQ.out))
        replace HCU := Lib.hid (HCU.out.touch tu36)
        replace HT := Lib.hid ht36
        have HB36 : Hid (Below w.heap.size w w36) := Lib.hid ht36.bel
        clear x7 e0 e1 e2 e3 e4 e5
        clear ht36 tu36  HFL
        have x7 := HBQ.out.is 7 _ rfl
        have e0 := HBE.out.is 0 _ rfl
        have e1 := HBE.out.is 1 _ rfl
        have e2 := HBE.out.is 2 _ rfl
        have e3 := HBE.out.is 3 _ rfl
        have e4 := HBE.out.is 4 _ rfl
        have e5 := HBE.out.is 5 _ rfl
        have HQ2 := Lib.hid (HT.out.query x.1.k HXV.out.2 (by have := HQB.out; omega))
        obtain ⟨R3, hR3⟩ : ∃ R3, queryS R2.1 x.1.k = R3 := ⟨_, rfl⟩
        rw [hR3] at HQ2 HFG
        unfold QueryT at HQ2
        obtain ⟨hg1, hg2, hg3⟩ := HFG.out.2
        rw [hg1] at HQ2
        obtain ⟨cv, hcv⟩ : ∃ cv, cmpT R3.2.1.e.s R3.2.1.e.u R3.2.1.e.o x.1.s x.1.u x.1.o = cv := ⟨_, rfl⟩
        have HCV : Hid (cmpT R3.2.1.e.s R3.2.1.e.u R3.2.1.e.o x.1.s x.1.u x.1.o = cv) := Lib.hid hcv
        have hcv0 : 0 ≤ cv := by rw [← hcv]; exact hg3
        clear hcv hg1 hg3 hR3
        go_wp2_with fail
        refine (HQ2.out).mono ?_
        rintro e37 w37 ⟨Az, cz, rfl, _, _, ht37, tu37⟩
        replace HBE := Lib.hid (HBE.out.touchT tu37 (HNE.out))
        replace HBQ := Lib.hid (HBQ.out.touchT tu37 (HNQ.out))
        replace HCU := Lib.hid (HCU.out.touch tu37)
        replace HT := Lib.hid ht37
        have HB37 : Hid (Below w.heap.size w w37) := Lib.hid ht37.bel
        clear x7 e0 e1 e2 e3 e4 e5
        clear ht37 tu37  HQ2
        have x7 := HBQ.out.is 7 _ rfl
        have e0 := HBE.out.is 0 _ rfl
        have e1 := HBE.out.is 1 _ rfl
        have e2 := HBE.out.is 2 _ rfl
        have e3 := HBE.out.is 3 _ rfl
        have e4 := HBE.out.is 4 _ rfl
        have e5 := HBE.out.is 5 _ rfl
        unfold repV
        rw [hg2]
        have HNZ : Hid (¬ Own3 g b tk w37.heap.size) := Lib.hid fun hk => by have := (HT.out.own _ hk).2; omega
        obtain ⟨w38, hv38⟩ : ∃ V, w37.alloc (.cells #[.string ⟨R3.2.1.e.k.toArray⟩, .int .i64 R3.2.1.e.s, .int .i64 R3.2.1.e.u, .int .i64 R3.2.1.e.o, .bool R3.2.1.e.has, .slice Az R3.2.1.e.v.length cz, .bool true, .int .i64 R3.2.1.tok] 43) = V := ⟨_, rfl⟩
        have hb38 : Below w37.heap.size w37 w38 := by rw [← hv38]; exact (Below.refl _ _).alloc (Nat.le_refl _) _
        have HBZ : Hid (Blk w38 w37.heap.size 43 #[.string ⟨R3.2.1.e.k.toArray⟩, .int .i64 R3.2.1.e.s, .int .i64 R3.2.1.e.u, .int .i64 R3.2.1.e.o, .bool R3.2.1.e.has, .slice Az R3.2.1.e.v.length cz, .bool true, .int .i64 R3.2.1.tok]) := Lib.hid (by rw [← hv38]; exact Blk.new _ _ _)
        have HB38 : Hid (Below w.heap.size w w38) := Lib.hid (HB37.out.trans (hb38.mono HB37.out.size))
        replace HT := Lib.hid (HT.out.below hb38)
        replace HBE := Lib.hid (HBE.out.below hb38 HBE.out.lt)
        replace HBQ := Lib.hid (HBQ.out.below hb38 HBQ.out.lt)
        replace HCU := Lib.hid (HCU.out.below hb38)
        clear x7 e0 e1 e2 e3 e4 e5
        clear hb38
        have e1 := HBE.out.is 1 _ rfl
        have e2 := HBE.out.is 2 _ rfl
        have e3 := HBE.out.is 3 _ rfl
        have y1 := HBZ.out.is 1 _ rfl
        have y2 := HBZ.out.is 2 _ rfl
        have y3 := HBZ.out.is 3 _ rfl
        have y6 := HBZ.out.is 6 _ rfl
        go_wp2_with fail
        refine (refcompare_val _ _ _ _ _ _ _ HCV w38).mono ?_
        rintro e39 w39 ⟨rfl, hb39⟩
        have HB39 : Hid (Below w.heap.size w w39) := Lib.hid (HB38.out.trans (hb39.mono HB38.out.size))
        replace HT := Lib.hid (HT.out.below hb39)
        replace HBE := Lib.hid (HBE.out.below hb39 HBE.out.lt)
        replace HBQ := Lib.hid (HBQ.out.below hb39 HBQ.out.lt)
        replace HCU := Lib.hid (HCU.out.below hb39)
        replace HBZ := Lib.hid (HBZ.out.below hb39 HBZ.out.lt)
        clear e1 e2 e3 y1 y2 y3 y6
        clear hb39 
        have e1 := HBE.out.is 1 _ rfl
        have e2 := HBE.out.is 2 _ rfl
        have e3 := HBE.out.is 3 _ rfl
        have y1 := HBZ.out.is 1 _ rfl
        have y2 := HBZ.out.is 2 _ rfl
        have y3 := HBZ.out.is 3 _ rfl
        have y6 := HBZ.out.is 6 _ rfl
        go_wp2_with (go_at_call 11; refine (known11_any _).mono ?_; rintro e40 w40 ⟨rfl, hb40⟩)
        go_ret
        exact ⟨rfl, HB39.out.trans (hb40.mono HB39.out.size)⟩
      · have g1 : (oth != tq) = true := by simpa using hot
        have HFW : Hid ((fillS R.1 x.1 oth).2.1 = false ∧ (fillS R.1 x.1 oth).1 = R.1) := Lib.hid (fill_wrong (by rw [← HTQ.out]; exact hot))
        clear hot
        have HFL := Lib.hid (HT.out.fill x oth HXV.out.1 HXV.out.2 (RowN.of_low (HXR.out.below HT.out.bel) HT.out.bel.size fun k hk => (HT.out.own k hk).1) (by have := HQB.out; omega))
        rw [HFW.out.1, HFW.out.2] at HFL
        go_wp2_with fail
        refine (HFL.out).mono ?_
        rintro e36 w36 ⟨rfl, ht36, tu36⟩
        replace HBE := Lib.hid (HBE.out.touchT tu36 (HNE.out))
        replace HBQ := Lib.hid (HBQ.out.touchT tu36 (HNQ.out))
        replace HCU := Lib.hid (HCU.out.touch tu36)
        replace HT := Lib.hid ht36
        have HB36 : Hid (Below w.heap.size w w36) := Lib.hid ht36.bel
        clear x7 e0 e1 e2 e3 e4 e5
        clear ht36 tu36  HFL
        have x7 := HBQ.out.is 7 _ rfl
        have e0 := HBE.out.is 0 _ rfl
        have e1 := HBE.out.is 1 _ rfl
        have e2 := HBE.out.is 2 _ rfl
        have e3 := HBE.out.is 3 _ rfl
        have e4 := HBE.out.is 4 _ rfl
        have e5 := HBE.out.is 5 _ rfl
        go_wp2_with fail
        refine (HT.out.cellsC).mono ?_
        rintro e37 w37 ⟨us2, Au2, cu2, hus2, rfl, hcu2, hlu2, hb37⟩
        have HB37 : Hid (Below w.heap.size w w37) := Lib.hid (HB36.out.trans (hb37.mono HB36.out.size))
        replace HT := Lib.hid (HT.out.below hb37)
        replace HBE := Lib.hid (HBE.out.below hb37 HBE.out.lt)
        replace HBQ := Lib.hid (HBQ.out.below hb37 HBQ.out.lt)
        replace HCU := Lib.hid (HCU.out.below hb37)
        have HUS2 := Lib.hid hus2
        have HCU2 := Lib.hid hcu2
        have HLU2 := Lib.hid hlu2
        clear x7 e0 e1 e2 e3 e4 e5
        clear hb37 hus2 hcu2 hlu2
        have x7 := HBQ.out.is 7 _ rfl
        have e0 := HBE.out.is 0 _ rfl
        have e1 := HBE.out.is 1 _ rfl
        have e2 := HBE.out.is 2 _ rfl
        have e3 := HBE.out.is 3 _ rfl
        have e4 := HBE.out.is 4 _ rfl
        have e5 := HBE.out.is 5 _ rfl
        go_wp2_with fail
        refine (samecells_true _ cu2 _ cu Au2 Au us2 us rfl rfl (HUS2.out.trans HUS.out.symm) (by have := HLU2.out; omega) w37 HCU2.out.cev HCU.out.cev).mono ?_
        rintro e38 w38 ⟨rfl, hb38⟩
        have HB38 : Hid (Below w.heap.size w w38) := Lib.hid (HB37.out.trans (hb38.mono HB37.out.size))
        replace HT := Lib.hid (HT.out.below hb38)
        replace HBE := Lib.hid (HBE.out.below hb38 HBE.out.lt)
        replace HBQ := Lib.hid (HBQ.out.below hb38 HBQ.out.lt)
        replace HCU := Lib.hid (HCU.out.below hb38)
        replace HCU2 := Lib.hid (HCU2.out.below hb38)
        clear x7 e0 e1 e2 e3 e4 e5
        clear hb38 
        have x7 := HBQ.out.is 7 _ rfl
        have e0 := HBE.out.is 0 _ rfl
        have e1 := HBE.out.is 1 _ rfl
        have e2 := HBE.out.is 2 _ rfl
        have e3 := HBE.out.is 3 _ rfl
        have e4 := HBE.out.is 4 _ rfl
        have e5 := HBE.out.is 5 _ rfl
        have HFL := Lib.hid (HT.out.fill x tq HXV.out.1 HXV.out.2 (RowN.of_low (HXR.out.below HT.out.bel) HT.out.bel.size fun k hk => (HT.out.own k hk).1) (by have := HQB.out; omega))
        obtain ⟨R2, hR2⟩ : ∃ R2, fillS R.1 x.1 tq = R2 := ⟨_, rfl⟩
        have HR2E := Lib.hid hR2
        rw [hR2] at HFL
        by_cases hf : R2.2.1 = true
        rotate_left
        · have hff : R2.2.1 = false := by simpa using hf
          have HFW := Lib.hid (fill_fails HK0.out.2 x.1 (by rw [hR2]; exact hff) HTQ.out)
          rw [hR2] at HFW
          rw [hff] at HFL
          clear hf hR2 hff
          go_wp2_with fail
          refine (HFL.out).mono ?_
          rintro e39 w39 ⟨rfl, ht39, tu39⟩
          replace HBE := Lib.hid (HBE.out.touchT tu39 (HNE.out))
          replace HBQ := Lib.hid (HBQ.out.touchT tu39 (HNQ.out))
          replace HCU := Lib.hid (HCU.out.touch tu39)
          replace HCU2 := Lib.hid (HCU2.out.touch tu39)
          replace HT := Lib.hid ht39
          have HB39 : Hid (Below w.heap.size w w39) := Lib.hid ht39.bel
          clear x7 e0 e1 e2 e3 e4 e5
          clear ht39 tu39  HFL
          have x7 := HBQ.out.is 7 _ rfl
          have e0 := HBE.out.is 0 _ rfl
          have e1 := HBE.out.is 1 _ rfl
          have e2 := HBE.out.is 2 _ rfl
          have e3 := HBE.out.is 3 _ rfl
          have e4 := HBE.out.is 4 _ rfl
          have e5 := HBE.out.is 5 _ rfl
          have hfe := HFW.out.2
          rcases hfe with hfe | hfe
          · rw [hfe]
            clear hfe
            go_wp2_with fail
            refine (HT.out.cellsC).mono ?_
            rintro e40 w40 ⟨us3, Au3, cu3, hus3, rfl, hcu3, hlu3, hb40⟩
            have HB40 : Hid (Below w.heap.size w w40) := Lib.hid (HB39.out.trans (hb40.mono HB39.out.size))
            replace HT := Lib.hid (HT.out.below hb40)
            replace HBE := Lib.hid (HBE.out.below hb40 HBE.out.lt)
            replace HBQ := Lib.hid (HBQ.out.below hb40 HBQ.out.lt)
            replace HCU := Lib.hid (HCU.out.below hb40)
            replace HCU2 := Lib.hid (HCU2.out.below hb40)
            have HUS3 := Lib.hid hus3
            have HCU3 := Lib.hid hcu3
            have HLU3 := Lib.hid hlu3
            clear x7 e0 e1 e2 e3 e4 e5
            clear hb40 hus3 hcu3 hlu3
            have x7 := HBQ.out.is 7 _ rfl
            have e0 := HBE.out.is 0 _ rfl
            have e1 := HBE.out.is 1 _ rfl
            have e2 := HBE.out.is 2 _ rfl
            have e3 := HBE.out.is 3 _ rfl
            have e4 := HBE.out.is 4 _ rfl
            have e5 := HBE.out.is 5 _ rfl
            go_wp2_with fail
            refine (samecells_true _ cu3 _ cu Au3 Au us3 us rfl rfl (HUS3.out.trans ((congrArg Cl.T HFW.out.1).trans HUS.out.symm)) (by have := HLU3.out; omega) w40 HCU3.out.cev HCU.out.cev).mono ?_
            rintro e41 w41 ⟨rfl, hb41⟩
            have HB41 : Hid (Below w.heap.size w w41) := Lib.hid (HB40.out.trans (hb41.mono HB40.out.size))
            replace HT := Lib.hid (HT.out.below hb41)
            replace HBE := Lib.hid (HBE.out.below hb41 HBE.out.lt)
            replace HBQ := Lib.hid (HBQ.out.below hb41 HBQ.out.lt)
            replace HCU := Lib.hid (HCU.out.below hb41)
            replace HCU2 := Lib.hid (HCU2.out.below hb41)
            replace HCU3 := Lib.hid (HCU3.out.below hb41)
            clear x7 e0 e1 e2 e3 e4 e5
            clear hb41 
            have x7 := HBQ.out.is 7 _ rfl
            have e0 := HBE.out.is 0 _ rfl
            have e1 := HBE.out.is 1 _ rfl
            have e2 := HBE.out.is 2 _ rfl
            have e3 := HBE.out.is 3 _ rfl
            have e4 := HBE.out.is 4 _ rfl
            have e5 := HBE.out.is 5 _ rfl
            go_wp2_with (go_at_call 11; refine (known11_any _).mono ?_; rintro e42 w42 ⟨rfl, hb42⟩)
            go_ret
            exact ⟨rfl, HB41.out.trans (hb42.mono HB41.out.size)⟩
          · rw [hfe]
            clear hfe
            go_wp2_with fail
            refine (HT.out.cellsC).mono ?_
            rintro e40 w40 ⟨us3, Au3, cu3, hus3, rfl, hcu3, hlu3, hb40⟩
            have HB40 : Hid (Below w.heap.size w w40) := Lib.hid (HB39.out.trans (hb40.mono HB39.out.size))
            replace HT := Lib.hid (HT.out.below hb40)
            replace HBE := Lib.hid (HBE.out.below hb40 HBE.out.lt)
            replace HBQ := Lib.hid (HBQ.out.below hb40 HBQ.out.lt)
            replace HCU := Lib.hid (HCU.out.below hb40)
            replace HCU2 := Lib.hid (HCU2.out.below hb40)
            have HUS3 := Lib.hid hus3
            have HCU3 := Lib.hid hcu3
            have HLU3 := Lib.hid hlu3
            clear x7 e0 e1 e2 e3 e4 e5
            clear hb40 hus3 hcu3 hlu3
            have x7 := HBQ.out.is 7 _ rfl
            have e0 := HBE.out.is 0 _ rfl
            have e1 := HBE.out.is 1 _ rfl
            have e2 := HBE.out.is 2 _ rfl
            have e3 := HBE.out.is 3 _ rfl
            have e4 := HBE.out.is 4 _ rfl
            have e5 := HBE.out.is 5 _ rfl
            go_wp2_with fail
            refine (samecells_true _ cu3 _ cu Au3 Au us3 us rfl rfl (HUS3.out.trans ((congrArg Cl.T HFW.out.1).trans HUS.out.symm)) (by have := HLU3.out; omega) w40 HCU3.out.cev HCU.out.cev).mono ?_
            rintro e41 w41 ⟨rfl, hb41⟩
            have HB41 : Hid (Below w.heap.size w w41) := Lib.hid (HB40.out.trans (hb41.mono HB40.out.size))
            replace HT := Lib.hid (HT.out.below hb41)
            replace HBE := Lib.hid (HBE.out.below hb41 HBE.out.lt)
            replace HBQ := Lib.hid (HBQ.out.below hb41 HBQ.out.lt)
            replace HCU := Lib.hid (HCU.out.below hb41)
            replace HCU2 := Lib.hid (HCU2.out.below hb41)
            replace HCU3 := Lib.hid (HCU3.out.below hb41)
            clear x7 e0 e1 e2 e3 e4 e5
            clear hb41 
            have x7 := HBQ.out.is 7 _ rfl
            have e0 := HBE.out.is 0 _ rfl
            have e1 := HBE.out.is 1 _ rfl
            have e2 := HBE.out.is 2 _ rfl
            have e3 := HBE.out.is 3 _ rfl
            have e4 := HBE.out.is 4 _ rfl
            have e5 := HBE.out.is 5 _ rfl
            go_wp2_with (go_at_call 11; refine (known11_any _).mono ?_; rintro e42 w42 ⟨rfl, hb42⟩)
            go_ret
            exact ⟨rfl, HB41.out.trans (hb42.mono HB41.out.size)⟩
        have HFG := Lib.hid (fill_tells HK0.out.2 x.1 (by rw [hR2]; exact hf))
        rw [hR2] at HFG
        have hf0 := HFG.out.1
        rw [hf, hf0] at HFL
        clear hf hR2 hf0
        go_wp2_with fail
        refine (HFL.out).mono ?_
        rintro e39 w39 ⟨rfl, ht39, tu39⟩
        replace HBE := Lib.hid (HBE.out.touchT tu39 (HNE.out))
        replace HBQ := Lib.hid (HBQ.out.touchT tu39 (HNQ.out))
        replace HCU := Lib.hid (HCU.out.touch tu39)
        replace HCU2 := Lib.hid (HCU2.out.touch tu39)
        replace HT := Lib.hid ht39
        have HB39 : Hid (Below w.heap.size w w39) := Lib.hid ht39.bel
        clear x7 e0 e1 e2 e3 e4 e5
        clear ht39 tu39  HFL
        have x7 := HBQ.out.is 7 _ rfl
        have e0 := HBE.out.is 0 _ rfl
        have e1 := HBE.out.is 1 _ rfl
        have e2 := HBE.out.is 2 _ rfl
        have e3 := HBE.out.is 3 _ rfl
        have e4 := HBE.out.is 4 _ rfl
        have e5 := HBE.out.is 5 _ rfl
        have HQ2 := Lib.hid (HT.out.query x.1.k HXV.out.2 (by have := HQB.out; omega))
        obtain ⟨R3, hR3⟩ : ∃ R3, queryS R2.1 x.1.k = R3 := ⟨_, rfl⟩
        rw [hR3] at HQ2 HFG
        unfold QueryT at HQ2
        obtain ⟨hg1, hg2, hg3⟩ := HFG.out.2
        rw [hg1] at HQ2
        obtain ⟨cv, hcv⟩ : ∃ cv, cmpT R3.2.1.e.s R3.2.1.e.u R3.2.1.e.o x.1.s x.1.u x.1.o = cv := ⟨_, rfl⟩
        have HCV : Hid (cmpT R3.2.1.e.s R3.2.1.e.u R3.2.1.e.o x.1.s x.1.u x.1.o = cv) := Lib.hid hcv
        have hcv0 : 0 ≤ cv := by rw [← hcv]; exact hg3
        clear hcv hg1 hg3 hR3
        go_wp2_with fail
        refine (HQ2.out).mono ?_
        rintro e40 w40 ⟨Az, cz, rfl, _, _, ht40, tu40⟩
        replace HBE := Lib.hid (HBE.out.touchT tu40 (HNE.out))
        replace HBQ := Lib.hid (HBQ.out.touchT tu40 (HNQ.out))
        replace HCU := Lib.hid (HCU.out.touch tu40)
        replace HCU2 := Lib.hid (HCU2.out.touch tu40)
        replace HT := Lib.hid ht40
        have HB40 : Hid (Below w.heap.size w w40) := Lib.hid ht40.bel
        clear x7 e0 e1 e2 e3 e4 e5
        clear ht40 tu40  HQ2
        have x7 := HBQ.out.is 7 _ rfl
        have e0 := HBE.out.is 0 _ rfl
        have e1 := HBE.out.is 1 _ rfl
        have e2 := HBE.out.is 2 _ rfl
        have e3 := HBE.out.is 3 _ rfl
        have e4 := HBE.out.is 4 _ rfl
        have e5 := HBE.out.is 5 _ rfl
        unfold repV
        rw [hg2]
        have HNZ : Hid (¬ Own3 g b tk w40.heap.size) := Lib.hid fun hk => by have := (HT.out.own _ hk).2; omega
        obtain ⟨w41, hv41⟩ : ∃ V, w40.alloc (.cells #[.string ⟨R3.2.1.e.k.toArray⟩, .int .i64 R3.2.1.e.s, .int .i64 R3.2.1.e.u, .int .i64 R3.2.1.e.o, .bool R3.2.1.e.has, .slice Az R3.2.1.e.v.length cz, .bool true, .int .i64 R3.2.1.tok] 43) = V := ⟨_, rfl⟩
        have hb41 : Below w40.heap.size w40 w41 := by rw [← hv41]; exact (Below.refl _ _).alloc (Nat.le_refl _) _
        have HBZ : Hid (Blk w41 w40.heap.size 43 #[.string ⟨R3.2.1.e.k.toArray⟩, .int .i64 R3.2.1.e.s, .int .i64 R3.2.1.e.u, .int .i64 R3.2.1.e.o, .bool R3.2.1.e.has, .slice Az R3.2.1.e.v.length cz, .bool true, .int .i64 R3.2.1.tok]) := Lib.hid (by rw [← hv41]; exact Blk.new _ _ _)
        have HB41 : Hid (Below w.heap.size w w41) := Lib.hid (HB40.out.trans (hb41.mono HB40.out.size))
        replace HT := Lib.hid (HT.out.below hb41)
        replace HBE := Lib.hid (HBE.out.below hb41 HBE.out.lt)
        replace HBQ := Lib.hid (HBQ.out.below hb41 HBQ.out.lt)
        replace HCU := Lib.hid (HCU.out.below hb41)
        replace HCU2 := Lib.hid (HCU2.out.below hb41)
        clear x7 e0 e1 e2 e3 e4 e5
        clear hb41
        have e1 := HBE.out.is 1 _ rfl
        have e2 := HBE.out.is 2 _ rfl
        have e3 := HBE.out.is 3 _ rfl
        have y1 := HBZ.out.is 1 _ rfl
        have y2 := HBZ.out.is 2 _ rfl
        have y3 := HBZ.out.is 3 _ rfl
        have y6 := HBZ.out.is 6 _ rfl
        go_wp2_with fail
        refine (refcompare_val _ _ _ _ _ _ _ HCV w41).mono ?_
        rintro e42 w42 ⟨rfl, hb42⟩
        have HB42 : Hid (Below w.heap.size w w42) := Lib.hid (HB41.out.trans (hb42.mono HB41.out.size))
        replace HT := Lib.hid (HT.out.below hb42)
        replace HBE := Lib.hid (HBE.out.below hb42 HBE.out.lt)
        replace HBQ := Lib.hid (HBQ.out.below hb42 HBQ.out.lt)
        replace HCU := Lib.hid (HCU.out.below hb42)
        replace HCU2 := Lib.hid (HCU2.out.below hb42)
        replace HBZ := Lib.hid (HBZ.out.below hb42 HBZ.out.lt)
        clear e1 e2 e3 y1 y2 y3 y6
        clear hb42 
        have e1 := HBE.out.is 1 _ rfl
        have e2 := HBE.out.is 2 _ rfl
        have e3 := HBE.out.is 3 _ rfl
        have y1 := HBZ.out.is 1 _ rfl
        have y2 := HBZ.out.is 2 _ rfl
        have y3 := HBZ.out.is 3 _ rfl
        have y6 := HBZ.out.is 6 _ rfl
        go_wp2_with (go_at_call 11; refine (known11_any _).mono ?_; rintro e43 w43 ⟨rfl, hb43⟩)
        go_ret
        exact ⟨rfl, HB42.out.trans (hb43.mono HB42.out.size)⟩
end Go.Proofs.Ytkljcoecgmpgpaa
