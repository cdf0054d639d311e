/- What is told whole is no older than what was stored. -/
import Derived.Test.YtkljcoecgmpgpaaCl1
import Derived.Test.YtkljcoecgmpgpaaCl5
namespace Go.Proofs.Ytkljcoecgmpgpaa
open Go.RowKit Go.ChangeShapes Mem Be Word Rg Go.Maps
set_option maxRecDepth 100000
set_option maxHeartbeats 16000000
set_option linter.unusedVariables false
set_option linter.unusedSimpArgs false
theorem whole_walk (rc rb nb : Int) (fr : Bool) (A : Option Addr) (n c : Nat) (rs : List D11) (hn : n = rs.length) (hl : n ≤ 1700000000000) (k : List UInt8) (hkm : k.length ≤ maxLen) (w : World) (h : InD11 w A rs) :
    Calls Try.prog 4 #[.agg #[.int .i64 rc, .int .i64 rb, .int .i64 nb, .bool fr], .slice A n c, .string ⟨k.toArray⟩] w (IsB true w) := by
  have HR := Lib.hid h
  have HN := Lib.hid hn
  have HL : Hid (n ≤ 1700000000000) := Lib.hid hl
  have hni : (n : Int) ≤ 1700000000000 := by omega
  have hni0 : (0 : Int) ≤ (n : Int) := by omega
  have HLG := Lib.hid fun W (hb : Below w.heap.size w W) => long11_any n c A rs hn (by unfold maxLen; omega) W (h.at_ hb)
  have hkz : ((⟨k.toArray⟩ : ByteArray).size : Int) = (k.length : Int) := ba_len k
  have HKM : Hid (k.length ≤ maxLen) := Lib.hid hkm
  have hkm2 : (k.length : Int) ≤ 9223372036854775807 := by unfold maxLen at hkm; omega
  have hkm0 : (0 : Int) ≤ (k.length : Int) := by omega
  clear hkm
  have HBR := Lib.hid (Blk.new w 23 #[.int .i64 rc, .int .i64 rb, .int .i64 nb, .bool true])
  have HBX : Hid (Below w.heap.size w (w.alloc (.cells #[.int .i64 rc, .int .i64 rb, .int .i64 nb, .bool true] 23))) := Lib.hid ((Below.refl _ _).alloc (Nat.le_refl _) _)
  clear h hn hl
  by_cases hok : RoomOk rc rb nb
  rotate_left
  · have HNW := Lib.hid (new_bad11 rc rb nb true hok (w.alloc (.cells #[.int .i64 rc, .int .i64 rb, .int .i64 nb, .bool true] 23)))
    clear hok
    go_enter Try.func4, Try.ntmps4
    go_wp2_with fail
    refine HNW.out.mono ?_
    rintro e1 w1 ⟨rfl, hb1⟩
    have HB1 : Hid (Below w.heap.size w w1) := Lib.hid (HBX.out.trans (hb1.mono HBX.out.size))
    clear hb1 HNW
    go_wp2_with fail
    refine (HLG.out w1 HB1.out).mono ?_
    rintro e2 w2 ⟨⟨z2, rfl⟩, hb2⟩
    have HB2 : Hid (Below w.heap.size w w2) := Lib.hid (HB1.out.trans (hb2.mono HB1.out.size))
    clear hb2 
    by_cases b1 : 1500 < z2
    · go_wp2_with (go_at_call 11; refine (known11_any _).mono ?_; rintro e3 w3 ⟨rfl, hb3⟩)
      go_ret
      exact ⟨rfl, HB2.out.trans (hb3.mono HB2.out.size)⟩
    · go_wp2_with (go_at_call 11; refine (known11_any _).mono ?_; rintro e3 w3 ⟨rfl, hb3⟩)
      go_ret
      exact ⟨rfl, HB2.out.trans (hb3.mono HB2.out.size)⟩
  obtain ⟨nb, rfl⟩ : ∃ k : Nat, nb = (k : Int) := ⟨nb.toNat, by have := hok.2.2.1; omega⟩
  have HNW := Lib.hid (new_ok11 rc rb nb true hok (w.alloc (.cells #[.int .i64 rc, .int .i64 rb, .int .i64 (nb : Int), .bool true] 23)))
  have HOK := Lib.hid (ok_newS (fr := true) hok)
  obtain ⟨S0, hS0⟩ : ∃ S0, newS rc rb nb true = S0 := ⟨_, rfl⟩
  have HS0 := Lib.hid hS0
  rw [hS0] at HNW HOK
  clear hok hS0
  go_enter Try.func4, Try.ntmps4
  go_wp2_with fail
  refine HNW.out.mono ?_
  intro e1 w1 hx
  obtain ⟨g, b, tk, rfl, ht, hnr, hb1⟩ := tb1_new2 HBX.out hx HOK.out
  have HT := Lib.hid ht
  have HB1 : Hid (Below w.heap.size w w1) := Lib.hid ht.bel
  have HNR : Hid (¬ Own3 g b tk w.heap.size) := Lib.hid (hnr _ (by simp))
  replace HBR := Lib.hid (HBR.out.below hb1 HBR.out.lt)
  clear hx ht hnr hb1 HNW
  go_wp2_with fail
  refine (HLG.out w1 HB1.out).mono ?_
  rintro e2 w2 ⟨⟨z2, rfl⟩, hb2⟩
  have HB2 : Hid (Below w.heap.size w w2) := Lib.hid (HB1.out.trans (hb2.mono HB1.out.size))
  replace HT := Lib.hid (HT.out.below hb2)
  replace HBR := Lib.hid (HBR.out.below hb2 HBR.out.lt)
  clear hb2 
  by_cases b1 : 1500 < z2
  · go_wp2_with (go_at_call 11; refine (known11_any _).mono ?_; rintro e3 w3 ⟨rfl, hb3⟩)
    go_ret
    exact ⟨rfl, HB2.out.trans (hb3.mono HB2.out.size)⟩
  by_cases b2 : 100 < (k.length : Int)
  · go_wp2_with (go_at_call 11; refine (known11_any _).mono ?_; rintro e3 w3 ⟨rfl, hb3⟩)
    go_ret
    exact ⟨rfl, HB2.out.trans (hb3.mono HB2.out.size)⟩
  have hbw : Below w2.heap.size w2 ((w2.alloc (.cells #[.int .i64 0, .int .i64 0, .int .i64 0] 36)).alloc (.cells #[.string ⟨k.toArray⟩, .int .i64 0, .int .i64 0, .int .i64 0, .bool false, .slice none 0 0] 41)) := by
    exact ((Below.refl _ _).alloc (Nat.le_refl _) _).alloc (by simp) _
  have HB4 : Hid (Below w.heap.size w ((w2.alloc (.cells #[.int .i64 0, .int .i64 0, .int .i64 0] 36)).alloc (.cells #[.string ⟨k.toArray⟩, .int .i64 0, .int .i64 0, .int .i64 0, .bool false, .slice none 0 0] 41))) := Lib.hid (HB2.out.trans (hbw.mono HB2.out.size))
  have HNB : Hid (¬ Own3 g b tk w2.heap.size) := Lib.hid fun hk => by have := (HT.out.own _ hk).2; omega
  have HNK : Hid (¬ Own3 g b tk (w2.heap.size + 1)) := Lib.hid fun hk => by have := (HT.out.own _ hk).2; omega
  have HLT : Hid (w2.heap.size < (w2.heap.size + 1)) := Lib.hid (Nat.lt_succ_self _)
  have HBB : Hid (Blk ((w2.alloc (.cells #[.int .i64 0, .int .i64 0, .int .i64 0] 36)).alloc (.cells #[.string ⟨k.toArray⟩, .int .i64 0, .int .i64 0, .int .i64 0, .bool false, .slice none 0 0] 41)) w2.heap.size 36 #[.int .i64 0, .int .i64 0, .int .i64 0]) := Lib.hid ((Blk.new w2 36 #[.int .i64 0, .int .i64 0, .int .i64 0]).alloc (.cells #[.string ⟨k.toArray⟩, .int .i64 0, .int .i64 0, .int .i64 0, .bool false, .slice none 0 0] 41))
  have HBK : Hid (Blk ((w2.alloc (.cells #[.int .i64 0, .int .i64 0, .int .i64 0] 36)).alloc (.cells #[.string ⟨k.toArray⟩, .int .i64 0, .int .i64 0, .int .i64 0, .bool false, .slice none 0 0] 41)) (w2.heap.size + 1) 41 #[.string ⟨k.toArray⟩, .int .i64 0, .int .i64 0, .int .i64 0, .bool false, .slice none 0 0]) := Lib.hid (blk_at (g' := (w2.heap.size + 1)) (by simp) (Blk.new (w2.alloc (.cells #[.int .i64 0, .int .i64 0, .int .i64 0] 36)) 41 #[.string ⟨k.toArray⟩, .int .i64 0, .int .i64 0, .int .i64 0, .bool false, .slice none 0 0]))
  obtain ⟨F, hF⟩ : ∃ F : Nat → Prop, F = More2 (Own3 g b tk) w2.heap.size ((w2.alloc (.cells #[.int .i64 0, .int .i64 0, .int .i64 0] 36)).alloc (.cells #[.string ⟨k.toArray⟩, .int .i64 0, .int .i64 0, .int .i64 0, .bool false, .slice none 0 0] 41)).heap.size := ⟨_, rfl⟩
  have HFO : Hid (∀ k, Own3 g b tk k → F k) := Lib.hid (by rw [hF]; exact fun k hk => Or.inl hk)
  have HFB : Hid (∀ k, k = w2.heap.size → F k) := Lib.hid (by rw [hF]; exact fun k hk => Or.inr (by rw [hk]; exact ⟨Nat.le_refl _, by have := HBB.out.lt; omega⟩))
  have HFK : Hid (∀ k, k = (w2.heap.size + 1) → F k) := Lib.hid (by rw [hF]; exact fun k hk => Or.inr (by rw [hk]; exact ⟨by have := HLT.out; omega, HBK.out.lt⟩))
  replace HT := Lib.hid (HT.out.wide hbw)
  rw [← hF] at HT
  have HSB : Hid (∀ k, Own3 g b tk k → ¬ k = w2.heap.size) := Lib.hid fun k hk e => HNB.out (e ▸ hk)
  have HSK : Hid (∀ k, Own3 g b tk k → ¬ k = (w2.heap.size + 1)) := Lib.hid fun k hk e => HNK.out (e ▸ hk)
  have HWH0 : Hid (WhI S0 k (entN k) (0, 0, 0)) := Lib.hid (by rw [← HS0.out]; exact wh_new rc rb nb k)
  clear hbw hF
  go_wp2_with fail
  go_loopw [11] (fun i wr => ∃ (ix : Nat) (S : Cl) (kp : EntP) (Ak : Option Addr) (ck : Nat) (bs bu bo : Int), ix ≤ n ∧ i = .int .i64 (ix : Int) ∧ Hid (Tb1 w wr F g b tk S (1 + 2 * ix)) ∧ Hid (WhI S k kp (bs, bu, bo)) ∧ Hid (Blk wr w2.heap.size 36 #[.int .i64 bs, .int .i64 bu, .int .i64 bo]) ∧ Hid (Blk wr (w2.heap.size + 1) 41 #[.string ⟨kp.k.toArray⟩, .int .i64 kp.s, .int .i64 kp.u, .int .i64 kp.o, .bool kp.has, .slice Ak kp.v.length ck]) ∧ Hid (RowN F wr Ak (kp.v.map byteV)) ∧ Hid ((kp.v.length ≤ ck ∧ ck ≤ maxLen) ∧ kp.k.length ≤ maxLen) ∧ Hid (Below w.heap.size w wr)) (fun i _ => n - (intOf i).toNat)
  case atStart => exact ⟨0, S0, entN k, none, 0, 0, 0, 0, by omega, rfl, HT, HWH0, HBB, HBK, Lib.hid (Or.inl rfl), Lib.hid ⟨⟨Nat.le_refl _, by simp [maxLen]⟩, HKM.out⟩, HB4⟩
  case round =>
    clear HBB HBK HT HB4 HWH0
    obtain ⟨ix, S, kp, Ak, ck, bs, bu, bo, hk, rfl, HTL, HWH, HBB, HBK, HRK, HKO, HBL⟩ := hrel
    by_cases hlt : ix < n
    · have hki : (0 : Int) ≤ (ix : Int) := by omega
      have hki2 : (ix : Int) < (n : Int) := by omega
      have HQB : Hid (1 + 2 * ix ≤ 20000000000000) := Lib.hid (by have := HL.out; omega)
      have hk1 : ix < rs.length := by rw [← HN.out]; exact hlt
      obtain ⟨bb, o, hA, hbl, hc⟩ := d11s_open (HR.out wr HBL.out).1 (by omega)
      subst hA
      have hc := hc ix hk1
      have hdok := (HR.out wr HBL.out).2 rs[ix] (List.getElem_mem hk1)
      obtain ⟨⟨kd, ⟨e, Ae, ce⟩, tn⟩, hd⟩ : ∃ d, rs[ix] = d := ⟨_, rfl⟩
      rw [hd] at hc hdok
      have f0 := hc 0 _ rfl
      rw [Nat.add_zero] at f0
      have f1 := hc 1 _ rfl
      have f2 := hc 2 _ rfl
      have f3 := hc 3 _ rfl
      have f4 := hc 4 _ rfl
      have f5 := hc 5 _ rfl
      have f6 := hc 6 _ rfl
      have f7 := hc 7 _ rfl
      have HRE : Hid (RowN F wr Ae (e.v.map byteV)) := Lib.hid (RowN.of_low hdok.row HTL.out.bel.size fun k hk => HTL.out.new k hk)
      have HDO : Hid ((e.v.length ≤ ce ∧ ce ≤ maxLen) ∧ e.k.length ≤ maxLen) := Lib.hid ⟨⟨hdok.cap, hdok.capm⟩, hdok.key⟩
      have HND : Hid (¬ Own3 g b tk wr.heap.size) := Lib.hid fun hk => by have := (HTL.out.own _ hk).2; omega
      have HD1 : Hid (¬ wr.heap.size = w2.heap.size) := Lib.hid (by have := HBB.out.lt; omega)
      have HD2 : Hid (¬ wr.heap.size = (w2.heap.size + 1)) := Lib.hid (by have := HBK.out.lt; omega)
      clear hc hd hk1 hdok
      obtain ⟨w21, hv21⟩ : ∃ V, wr.alloc (.cells #[.int .i64 kd, .string ⟨e.k.toArray⟩, .int .i64 e.s, .int .i64 e.u, .int .i64 e.o, .bool e.has, .slice Ae e.v.length ce, .int .i64 tn] 47) = V := ⟨_, rfl⟩
      have hb21 : Below wr.heap.size wr w21 := by rw [← hv21]; exact (Below.refl _ _).alloc (Nat.le_refl _) _
      have HBD : Hid (Blk w21 wr.heap.size 47 #[.int .i64 kd, .string ⟨e.k.toArray⟩, .int .i64 e.s, .int .i64 e.u, .int .i64 e.o, .bool e.has, .slice Ae e.v.length ce, .int .i64 tn]) := Lib.hid (by rw [← hv21]; exact Blk.new _ _ _)
      have HB21 : Hid (Below w.heap.size w w21) := Lib.hid (HBL.out.trans (hb21.mono HBL.out.size))
      replace HTL := Lib.hid (HTL.out.below hb21)
      replace HBB := Lib.hid (HBB.out.below hb21 HBB.out.lt)
      replace HBK := Lib.hid (HBK.out.below hb21 HBK.out.lt)
      replace HRK := Lib.hid (HRK.out.belowC hb21)
      replace HRE := Lib.hid (HRE.out.belowC hb21)
      clear hb21
      by_cases k2 : kd = 2
      · as_aux_lemma =>
        subst k2
        have HST := Lib.hid (HTL.out.store (e, Ae, ce) HDO.out.1 HDO.out.2 (rowN_own3 HRE.out HFO.out) (by have := HQB.out; omega))
        dsimp only at HST
        obtain ⟨R, hR⟩ : ∃ R, storeS S e = R := ⟨_, rfl⟩
        have HWS : Hid (WhI R.1 k kp (bestT k e R.2 (bs, bu, bo))) := Lib.hid (by rw [← hR]; exact wh_store HTL.out.ok HWH.out e)
        rw [hR] at HST
        clear hR
        have d0 := HBD.out.is 0 _ rfl
        have d1 := HBD.out.is 1 _ rfl
        have d2 := HBD.out.is 2 _ rfl
        have d3 := HBD.out.is 3 _ rfl
        have d4 := HBD.out.is 4 _ rfl
        have d5 := HBD.out.is 5 _ rfl
        have d6 := HBD.out.is 6 _ rfl
        have d7 := HBD.out.is 7 _ rfl
        go_wp2_with fail
        refine (HST.out).mono ?_
        rintro e22 w22 ⟨rfl, ht22, tu22⟩
        replace HBB := Lib.hid (HBB.out.touchT tu22 HNB.out)
        replace HBK := Lib.hid (HBK.out.touchT tu22 HNK.out)
        replace HRK := Lib.hid (HRK.out.touch (tu22.mono HFO.out))
        replace HRE := Lib.hid (HRE.out.touch (tu22.mono HFO.out))
        replace HBD := Lib.hid (HBD.out.touchT tu22 HND.out)
        replace HTL := Lib.hid ht22
        have HB22 : Hid (Below w.heap.size w w22) := Lib.hid ht22.bel
        clear d0 d1 d2 d3 d4 d5 d6 d7
        clear ht22 tu22  HST
        have d0 := HBD.out.is 0 _ rfl
        have d1 := HBD.out.is 1 _ rfl
        have d2 := HBD.out.is 2 _ rfl
        have d3 := HBD.out.is 3 _ rfl
        have d4 := HBD.out.is 4 _ rfl
        have d5 := HBD.out.is 5 _ rfl
        have d6 := HBD.out.is 6 _ rfl
        have d7 := HBD.out.is 7 _ rfl
        obtain ⟨R1, rr⟩ := R
        dsimp only at HWS HTL ⊢
        by_cases c1 : rr = 0
        rotate_left
        · have g1 : (rr == 0) = false := by simpa using c1
          replace HWH : Hid (WhI R1 k kp (bs, bu, bo)) := Lib.hid (by have h1 := HWS.out; unfold bestT at h1; rwa [if_neg (fun h => c1 h.1)] at h1)
          clear c1
          obtain ⟨⟨Q1, ⟨⟨qk, qs, qu, qo, qh, qv⟩, qw, qt⟩, qr⟩, hQ⟩ : ∃ Q, queryS R1 k = Q := ⟨_, rfl⟩
          have HWQ : Hid (WhI Q1 k kp (bs, bu, bo)) := Lib.hid (by have h1 := wh_query HTL.out.ok HWH.out k; rw [hQ] at h1; exact h1)
          have HWT : Hid (qr = 0 → qw = true → GeT (qs, qu, qo) (bs, bu, bo)) := Lib.hid fun h1 h2 => by
            have h3 := wh_tells HWH.out (by rw [hQ]; exact h1) (by rw [hQ]; exact h2)
            rw [hQ] at h3
            exact h3
          have HQY := Lib.hid (HTL.out.query k HKM.out (by have := HQB.out; omega))
          rw [hQ] at HQY
          unfold QueryT at HQY
          dsimp only at HQY
          clear hQ
          go_wp2_with fail
          refine (HQY.out).mono ?_
          rintro e23 w23 ⟨Aq, cq, rfl, _, _, ht23, tu23⟩
          replace HBB := Lib.hid (HBB.out.touchT tu23 HNB.out)
          replace HBK := Lib.hid (HBK.out.touchT tu23 HNK.out)
          replace HRK := Lib.hid (HRK.out.touch (tu23.mono HFO.out))
          replace HRE := Lib.hid (HRE.out.touch (tu23.mono HFO.out))
          replace HBD := Lib.hid (HBD.out.touchT tu23 HND.out)
          replace HTL := Lib.hid ht23
          have HB23 : Hid (Below w.heap.size w w23) := Lib.hid ht23.bel
          clear d0 d1 d2 d3 d4 d5 d6 d7
          clear ht23 tu23  HQY
          have d0 := HBD.out.is 0 _ rfl
          have d1 := HBD.out.is 1 _ rfl
          have d2 := HBD.out.is 2 _ rfl
          have d3 := HBD.out.is 3 _ rfl
          have d4 := HBD.out.is 4 _ rfl
          have d5 := HBD.out.is 5 _ rfl
          have d6 := HBD.out.is 6 _ rfl
          have d7 := HBD.out.is 7 _ rfl
          clear d0 d1 d2 d3 d4 d5 d6 d7
          unfold repV
          dsimp only
          obtain ⟨w24, hv24⟩ : ∃ V, w23.alloc (.cells #[.string ⟨qk.toArray⟩, .int .i64 qs, .int .i64 qu, .int .i64 qo, .bool qh, .slice Aq qv.length cq, .bool qw, .int .i64 qt] 43) = V := ⟨_, rfl⟩
          have hb24 : Below w23.heap.size w23 w24 := by rw [← hv24]; exact (Below.refl _ _).alloc (Nat.le_refl _) _
          have HBQ : Hid (Blk w24 w23.heap.size 43 #[.string ⟨qk.toArray⟩, .int .i64 qs, .int .i64 qu, .int .i64 qo, .bool qh, .slice Aq qv.length cq, .bool qw, .int .i64 qt]) := Lib.hid (by rw [← hv24]; exact Blk.new _ _ _)
          have HB24 : Hid (Below w.heap.size w w24) := Lib.hid (HB23.out.trans (hb24.mono HB23.out.size))
          replace HTL := Lib.hid (HTL.out.below hb24)
          replace HBB := Lib.hid (HBB.out.below hb24 HBB.out.lt)
          replace HBK := Lib.hid (HBK.out.below hb24 HBK.out.lt)
          replace HRK := Lib.hid (HRK.out.belowC hb24)
          replace HRE := Lib.hid (HRE.out.belowC hb24)
          replace HBD := Lib.hid (HBD.out.below hb24 HBD.out.lt)
          clear hb24
          by_cases hqr : qr = 0
          rotate_left
          · have g8 : (qr == 0) = false := by simpa using hqr
            clear hqr
            go_wp2_with fail
            go_roundw
            case rel => exact ⟨ix + 1, Q1, kp, Ak, ck, bs, bu, bo, by omega, by go_num, Lib.hid (by have := HTL.out; rwa [show 1 + 2 * ix + 1 + 1 = 1 + 2 * (ix + 1) by omega] at this), HWQ, HBB, HBK, HRK, HKO, HB24⟩
            case measure => simp [intOf]; omega
          subst hqr
          cases hqw : qw
          · subst hqw
            have q6 := HBQ.out.is 6 _ rfl
            go_wp2_with fail
            go_roundw
            case rel => exact ⟨ix + 1, Q1, kp, Ak, ck, bs, bu, bo, by omega, by go_num, Lib.hid (by have := HTL.out; rwa [show 1 + 2 * ix + 1 + 1 = 1 + 2 * (ix + 1) by omega] at this), HWQ, HBB, HBK, HRK, HKO, HB24⟩
            case measure => simp [intOf]; omega
          · subst hqw
            obtain ⟨cq2, hcq2⟩ : ∃ cv, cmpT qs qu qo bs bu bo = cv := ⟨_, rfl⟩
            have HCQ2 := Lib.hid hcq2
            have hcq0 : 0 ≤ cq2 := by rw [← hcq2]; exact (geT_iff _ _ _ _ _ _).2 (HWT.out rfl rfl)
            clear hcq2
            have q1 := HBQ.out.is 1 _ rfl
            have q2 := HBQ.out.is 2 _ rfl
            have q3 := HBQ.out.is 3 _ rfl
            have q6 := HBQ.out.is 6 _ rfl
            have v0 := HBB.out.is 0 _ rfl
            have v1 := HBB.out.is 1 _ rfl
            have v2 := HBB.out.is 2 _ rfl
            go_wp2_with fail
            refine (refcompare_val _ _ _ _ _ _ _ HCQ2 w24).mono ?_
            rintro e25 w25 ⟨rfl, hb25⟩
            have HB25 : Hid (Below w.heap.size w w25) := Lib.hid (HB24.out.trans (hb25.mono HB24.out.size))
            replace HTL := Lib.hid (HTL.out.below hb25)
            replace HBB := Lib.hid (HBB.out.below hb25 HBB.out.lt)
            replace HBK := Lib.hid (HBK.out.below hb25 HBK.out.lt)
            replace HRK := Lib.hid (HRK.out.belowC hb25)
            replace HRE := Lib.hid (HRE.out.belowC hb25)
            replace HBD := Lib.hid (HBD.out.below hb25 HBD.out.lt)
            replace HBQ := Lib.hid (HBQ.out.below hb25 HBQ.out.lt)
            clear q1 q2 q3 q6 v0 v1 v2
            clear hb25 
            have q1 := HBQ.out.is 1 _ rfl
            have q2 := HBQ.out.is 2 _ rfl
            have q3 := HBQ.out.is 3 _ rfl
            have q6 := HBQ.out.is 6 _ rfl
            have v0 := HBB.out.is 0 _ rfl
            have v1 := HBB.out.is 1 _ rfl
            have v2 := HBB.out.is 2 _ rfl
            go_wp2_with fail
            clear q1 q2 q3 q6 v0 v1 v2
            go_roundw
            case rel => exact ⟨ix + 1, Q1, kp, Ak, ck, bs, bu, bo, by omega, by go_num, Lib.hid (by have := HTL.out; rwa [show 1 + 2 * ix + 1 + 1 = 1 + 2 * (ix + 1) by omega] at this), HWQ, HBB, HBK, HRK, HKO, HB25⟩
            case measure => simp [intOf]; omega
        subst c1
        by_cases c2 : e.k = k
        rotate_left
        · have e5 := list_ne (a := ⟨e.k.toArray⟩) (b := ⟨k.toArray⟩) (by intro e2; apply c2; have := congrArg (fun z => z.data.toList) e2; simpa using this)
          have e6 : (e.k == k) = false := by simpa using c2
          replace HWH : Hid (WhI R1 k kp (bs, bu, bo)) := Lib.hid (by have h1 := HWS.out; unfold bestT at h1; rwa [if_neg (fun h => c2 h.2.1)] at h1)
          clear c2
          obtain ⟨⟨Q1, ⟨⟨qk, qs, qu, qo, qh, qv⟩, qw, qt⟩, qr⟩, hQ⟩ : ∃ Q, queryS R1 k = Q := ⟨_, rfl⟩
          have HWQ : Hid (WhI Q1 k kp (bs, bu, bo)) := Lib.hid (by have h1 := wh_query HTL.out.ok HWH.out k; rw [hQ] at h1; exact h1)
          have HWT : Hid (qr = 0 → qw = true → GeT (qs, qu, qo) (bs, bu, bo)) := Lib.hid fun h1 h2 => by
            have h3 := wh_tells HWH.out (by rw [hQ]; exact h1) (by rw [hQ]; exact h2)
            rw [hQ] at h3
            exact h3
          have HQY := Lib.hid (HTL.out.query k HKM.out (by have := HQB.out; omega))
          rw [hQ] at HQY
          unfold QueryT at HQY
          dsimp only at HQY
          clear hQ
          go_wp2_with fail
          refine (HQY.out).mono ?_
          rintro e23 w23 ⟨Aq, cq, rfl, _, _, ht23, tu23⟩
          replace HBB := Lib.hid (HBB.out.touchT tu23 HNB.out)
          replace HBK := Lib.hid (HBK.out.touchT tu23 HNK.out)
          replace HRK := Lib.hid (HRK.out.touch (tu23.mono HFO.out))
          replace HRE := Lib.hid (HRE.out.touch (tu23.mono HFO.out))
          replace HBD := Lib.hid (HBD.out.touchT tu23 HND.out)
          replace HTL := Lib.hid ht23
          have HB23 : Hid (Below w.heap.size w w23) := Lib.hid ht23.bel
          clear d0 d1 d2 d3 d4 d5 d6 d7
          clear ht23 tu23  HQY
          have d0 := HBD.out.is 0 _ rfl
          have d1 := HBD.out.is 1 _ rfl
          have d2 := HBD.out.is 2 _ rfl
          have d3 := HBD.out.is 3 _ rfl
          have d4 := HBD.out.is 4 _ rfl
          have d5 := HBD.out.is 5 _ rfl
          have d6 := HBD.out.is 6 _ rfl
          have d7 := HBD.out.is 7 _ rfl
          clear d0 d1 d2 d3 d4 d5 d6 d7
          unfold repV
          dsimp only
          obtain ⟨w24, hv24⟩ : ∃ V, w23.alloc (.cells #[.string ⟨qk.toArray⟩, .int .i64 qs, .int .i64 qu, .int .i64 qo, .bool qh, .slice Aq qv.length cq, .bool qw, .int .i64 qt] 43) = V := ⟨_, rfl⟩
          have hb24 : Below w23.heap.size w23 w24 := by rw [← hv24]; exact (Below.refl _ _).alloc (Nat.le_refl _) _
          have HBQ : Hid (Blk w24 w23.heap.size 43 #[.string ⟨qk.toArray⟩, .int .i64 qs, .int .i64 qu, .int .i64 qo, .bool qh, .slice Aq qv.length cq, .bool qw, .int .i64 qt]) := Lib.hid (by rw [← hv24]; exact Blk.new _ _ _)
          have HB24 : Hid (Below w.heap.size w w24) := Lib.hid (HB23.out.trans (hb24.mono HB23.out.size))
          replace HTL := Lib.hid (HTL.out.below hb24)
          replace HBB := Lib.hid (HBB.out.below hb24 HBB.out.lt)
          replace HBK := Lib.hid (HBK.out.below hb24 HBK.out.lt)
          replace HRK := Lib.hid (HRK.out.belowC hb24)
          replace HRE := Lib.hid (HRE.out.belowC hb24)
          replace HBD := Lib.hid (HBD.out.below hb24 HBD.out.lt)
          clear hb24
          by_cases hqr : qr = 0
          rotate_left
          · have g8 : (qr == 0) = false := by simpa using hqr
            clear hqr
            go_wp2_with fail
            go_roundw
            case rel => exact ⟨ix + 1, Q1, kp, Ak, ck, bs, bu, bo, by omega, by go_num, Lib.hid (by have := HTL.out; rwa [show 1 + 2 * ix + 1 + 1 = 1 + 2 * (ix + 1) by omega] at this), HWQ, HBB, HBK, HRK, HKO, HB24⟩
            case measure => simp [intOf]; omega
          subst hqr
          cases hqw : qw
          · subst hqw
            have q6 := HBQ.out.is 6 _ rfl
            go_wp2_with fail
            go_roundw
            case rel => exact ⟨ix + 1, Q1, kp, Ak, ck, bs, bu, bo, by omega, by go_num, Lib.hid (by have := HTL.out; rwa [show 1 + 2 * ix + 1 + 1 = 1 + 2 * (ix + 1) by omega] at this), HWQ, HBB, HBK, HRK, HKO, HB24⟩
            case measure => simp [intOf]; omega
          · subst hqw
            obtain ⟨cq2, hcq2⟩ : ∃ cv, cmpT qs qu qo bs bu bo = cv := ⟨_, rfl⟩
            have HCQ2 := Lib.hid hcq2
            have hcq0 : 0 ≤ cq2 := by rw [← hcq2]; exact (geT_iff _ _ _ _ _ _).2 (HWT.out rfl rfl)
            clear hcq2
            have q1 := HBQ.out.is 1 _ rfl
            have q2 := HBQ.out.is 2 _ rfl
            have q3 := HBQ.out.is 3 _ rfl
            have q6 := HBQ.out.is 6 _ rfl
            have v0 := HBB.out.is 0 _ rfl
            have v1 := HBB.out.is 1 _ rfl
            have v2 := HBB.out.is 2 _ rfl
            go_wp2_with fail
            refine (refcompare_val _ _ _ _ _ _ _ HCQ2 w24).mono ?_
            rintro e25 w25 ⟨rfl, hb25⟩
            have HB25 : Hid (Below w.heap.size w w25) := Lib.hid (HB24.out.trans (hb25.mono HB24.out.size))
            replace HTL := Lib.hid (HTL.out.below hb25)
            replace HBB := Lib.hid (HBB.out.below hb25 HBB.out.lt)
            replace HBK := Lib.hid (HBK.out.below hb25 HBK.out.lt)
            replace HRK := Lib.hid (HRK.out.belowC hb25)
            replace HRE := Lib.hid (HRE.out.belowC hb25)
            replace HBD := Lib.hid (HBD.out.below hb25 HBD.out.lt)
            replace HBQ := Lib.hid (HBQ.out.below hb25 HBQ.out.lt)
            clear q1 q2 q3 q6 v0 v1 v2
            clear hb25 
            have q1 := HBQ.out.is 1 _ rfl
            have q2 := HBQ.out.is 2 _ rfl
            have q3 := HBQ.out.is 3 _ rfl
            have q6 := HBQ.out.is 6 _ rfl
            have v0 := HBB.out.is 0 _ rfl
            have v1 := HBB.out.is 1 _ rfl
            have v2 := HBB.out.is 2 _ rfl
            go_wp2_with fail
            clear q1 q2 q3 q6 v0 v1 v2
            go_roundw
            case rel => exact ⟨ix + 1, Q1, kp, Ak, ck, bs, bu, bo, by omega, by go_num, Lib.hid (by have := HTL.out; rwa [show 1 + 2 * ix + 1 + 1 = 1 + 2 * (ix + 1) by omega] at this), HWQ, HBB, HBK, HRK, HKO, HB25⟩
            case measure => simp [intOf]; omega
        subst c2
        obtain ⟨cv, hcv⟩ : ∃ cv, cmpT e.s e.u e.o bs bu bo = cv := ⟨_, rfl⟩
        have HCV := Lib.hid hcv
        have HWS2 : Hid (WhI R1 e.k kp (if 0 < cv then tg e else (bs, bu, bo))) := Lib.hid (by
          have h1 := HWS.out
          unfold bestT at h1
          rw [← hcv]
          by_cases c3 : 0 < cmpT e.s e.u e.o bs bu bo
          · rw [if_pos c3]; rwa [if_pos ⟨rfl, rfl, c3⟩] at h1
          · rw [if_neg c3]; rwa [if_neg (fun h => c3 h.2.2)] at h1)
        clear hcv HWS
        clear d0 d1 d2 d3 d4 d5 d6 d7
        have d0 := HBD.out.is 0 _ rfl
        have d1 := HBD.out.is 1 _ rfl
        have d2 := HBD.out.is 2 _ rfl
        have d3 := HBD.out.is 3 _ rfl
        have d4 := HBD.out.is 4 _ rfl
        have d5 := HBD.out.is 5 _ rfl
        have d6 := HBD.out.is 6 _ rfl
        have d7 := HBD.out.is 7 _ rfl
        have v0 := HBB.out.is 0 _ rfl
        have v1 := HBB.out.is 1 _ rfl
        have v2 := HBB.out.is 2 _ rfl
        go_wp2_with fail
        refine (refcompare_val _ _ _ _ _ _ _ HCV w22).mono ?_
        rintro e23 w23 ⟨rfl, hb23⟩
        have HB23 : Hid (Below w.heap.size w w23) := Lib.hid (HB22.out.trans (hb23.mono HB22.out.size))
        replace HTL := Lib.hid (HTL.out.below hb23)
        replace HBB := Lib.hid (HBB.out.below hb23 HBB.out.lt)
        replace HBK := Lib.hid (HBK.out.below hb23 HBK.out.lt)
        replace HRK := Lib.hid (HRK.out.belowC hb23)
        replace HRE := Lib.hid (HRE.out.belowC hb23)
        replace HBD := Lib.hid (HBD.out.below hb23 HBD.out.lt)
        clear d0 d1 d2 d3 d4 d5 d6 d7 v0 v1 v2
        clear hb23 
        have d0 := HBD.out.is 0 _ rfl
        have d1 := HBD.out.is 1 _ rfl
        have d2 := HBD.out.is 2 _ rfl
        have d3 := HBD.out.is 3 _ rfl
        have d4 := HBD.out.is 4 _ rfl
        have d5 := HBD.out.is 5 _ rfl
        have d6 := HBD.out.is 6 _ rfl
        have d7 := HBD.out.is 7 _ rfl
        have v0 := HBB.out.is 0 _ rfl
        have v1 := HBB.out.is 1 _ rfl
        have v2 := HBB.out.is 2 _ rfl
        by_cases c3 : 0 < cv
        rotate_left
        · have g3 : decide (0 < cv) = false := decide_eq_false c3
          replace HWH : Hid (WhI R1 e.k kp (bs, bu, bo)) := Lib.hid (by have h1 := HWS2.out; rwa [if_neg c3] at h1)
          clear c3 HWS2
          obtain ⟨⟨Q1, ⟨⟨qk, qs, qu, qo, qh, qv⟩, qw, qt⟩, qr⟩, hQ⟩ : ∃ Q, queryS R1 e.k = Q := ⟨_, rfl⟩
          have HWQ : Hid (WhI Q1 e.k kp (bs, bu, bo)) := Lib.hid (by have h1 := wh_query HTL.out.ok HWH.out e.k; rw [hQ] at h1; exact h1)
          have HWT : Hid (qr = 0 → qw = true → GeT (qs, qu, qo) (bs, bu, bo)) := Lib.hid fun h1 h2 => by
            have h3 := wh_tells HWH.out (by rw [hQ]; exact h1) (by rw [hQ]; exact h2)
            rw [hQ] at h3
            exact h3
          have HQY := Lib.hid (HTL.out.query e.k HKM.out (by have := HQB.out; omega))
          rw [hQ] at HQY
          unfold QueryT at HQY
          dsimp only at HQY
          clear hQ
          go_wp2_with fail
          refine (HQY.out).mono ?_
          rintro e24 w24 ⟨Aq, cq, rfl, _, _, ht24, tu24⟩
          replace HBB := Lib.hid (HBB.out.touchT tu24 HNB.out)
          replace HBK := Lib.hid (HBK.out.touchT tu24 HNK.out)
          replace HRK := Lib.hid (HRK.out.touch (tu24.mono HFO.out))
          replace HRE := Lib.hid (HRE.out.touch (tu24.mono HFO.out))
          replace HBD := Lib.hid (HBD.out.touchT tu24 HND.out)
          replace HTL := Lib.hid ht24
          have HB24 : Hid (Below w.heap.size w w24) := Lib.hid ht24.bel
          clear d0 d1 d2 d3 d4 d5 d6 d7 v0 v1 v2
          clear ht24 tu24  HQY
          have d0 := HBD.out.is 0 _ rfl
          have d1 := HBD.out.is 1 _ rfl
          have d2 := HBD.out.is 2 _ rfl
          have d3 := HBD.out.is 3 _ rfl
          have d4 := HBD.out.is 4 _ rfl
          have d5 := HBD.out.is 5 _ rfl
          have d6 := HBD.out.is 6 _ rfl
          have d7 := HBD.out.is 7 _ rfl
          have v0 := HBB.out.is 0 _ rfl
          have v1 := HBB.out.is 1 _ rfl
          have v2 := HBB.out.is 2 _ rfl
          clear d0 d1 d2 d3 d4 d5 d6 d7 v0 v1 v2
          unfold repV
          dsimp only
          obtain ⟨w25, hv25⟩ : ∃ V, w24.alloc (.cells #[.string ⟨qk.toArray⟩, .int .i64 qs, .int .i64 qu, .int .i64 qo, .bool qh, .slice Aq qv.length cq, .bool qw, .int .i64 qt] 43) = V := ⟨_, rfl⟩
          have hb25 : Below w24.heap.size w24 w25 := by rw [← hv25]; exact (Below.refl _ _).alloc (Nat.le_refl _) _
          have HBQ : Hid (Blk w25 w24.heap.size 43 #[.string ⟨qk.toArray⟩, .int .i64 qs, .int .i64 qu, .int .i64 qo, .bool qh, .slice Aq qv.length cq, .bool qw, .int .i64 qt]) := Lib.hid (by rw [← hv25]; exact Blk.new _ _ _)
          have HB25 : Hid (Below w.heap.size w w25) := Lib.hid (HB24.out.trans (hb25.mono HB24.out.size))
          replace HTL := Lib.hid (HTL.out.below hb25)
          replace HBB := Lib.hid (HBB.out.below hb25 HBB.out.lt)
          replace HBK := Lib.hid (HBK.out.below hb25 HBK.out.lt)
          replace HRK := Lib.hid (HRK.out.belowC hb25)
          replace HRE := Lib.hid (HRE.out.belowC hb25)
          replace HBD := Lib.hid (HBD.out.below hb25 HBD.out.lt)
          clear hb25
          by_cases hqr : qr = 0
          rotate_left
          · have g8 : (qr == 0) = false := by simpa using hqr
            clear hqr
            go_wp2_with fail
            go_roundw
            case rel => exact ⟨ix + 1, Q1, kp, Ak, ck, bs, bu, bo, by omega, by go_num, Lib.hid (by have := HTL.out; rwa [show 1 + 2 * ix + 1 + 1 = 1 + 2 * (ix + 1) by omega] at this), HWQ, HBB, HBK, HRK, HKO, HB25⟩
            case measure => simp [intOf]; omega
          subst hqr
          cases hqw : qw
          · subst hqw
            have q6 := HBQ.out.is 6 _ rfl
            go_wp2_with fail
            go_roundw
            case rel => exact ⟨ix + 1, Q1, kp, Ak, ck, bs, bu, bo, by omega, by go_num, Lib.hid (by have := HTL.out; rwa [show 1 + 2 * ix + 1 + 1 = 1 + 2 * (ix + 1) by omega] at this), HWQ, HBB, HBK, HRK, HKO, HB25⟩
            case measure => simp [intOf]; omega
          · subst hqw
            obtain ⟨cq2, hcq2⟩ : ∃ cv, cmpT qs qu qo bs bu bo = cv := ⟨_, rfl⟩
            have HCQ2 := Lib.hid hcq2
            have hcq0 : 0 ≤ cq2 := by rw [← hcq2]; exact (geT_iff _ _ _ _ _ _).2 (HWT.out rfl rfl)
            clear hcq2
            have q1 := HBQ.out.is 1 _ rfl
            have q2 := HBQ.out.is 2 _ rfl
            have q3 := HBQ.out.is 3 _ rfl
            have q6 := HBQ.out.is 6 _ rfl
            have v0 := HBB.out.is 0 _ rfl
            have v1 := HBB.out.is 1 _ rfl
            have v2 := HBB.out.is 2 _ rfl
            go_wp2_with fail
            refine (refcompare_val _ _ _ _ _ _ _ HCQ2 w25).mono ?_
            rintro e26 w26 ⟨rfl, hb26⟩
            have HB26 : Hid (Below w.heap.size w w26) := Lib.hid (HB25.out.trans (hb26.mono HB25.out.size))
            replace HTL := Lib.hid (HTL.out.below hb26)
            replace HBB := Lib.hid (HBB.out.below hb26 HBB.out.lt)
            replace HBK := Lib.hid (HBK.out.below hb26 HBK.out.lt)
            replace HRK := Lib.hid (HRK.out.belowC hb26)
            replace HRE := Lib.hid (HRE.out.belowC hb26)
            replace HBD := Lib.hid (HBD.out.below hb26 HBD.out.lt)
            replace HBQ := Lib.hid (HBQ.out.below hb26 HBQ.out.lt)
            clear q1 q2 q3 q6 v0 v1 v2
            clear hb26 
            have q1 := HBQ.out.is 1 _ rfl
            have q2 := HBQ.out.is 2 _ rfl
            have q3 := HBQ.out.is 3 _ rfl
            have q6 := HBQ.out.is 6 _ rfl
            have v0 := HBB.out.is 0 _ rfl
            have v1 := HBB.out.is 1 _ rfl
            have v2 := HBB.out.is 2 _ rfl
            go_wp2_with fail
            clear q1 q2 q3 q6 v0 v1 v2
            go_roundw
            case rel => exact ⟨ix + 1, Q1, kp, Ak, ck, bs, bu, bo, by omega, by go_num, Lib.hid (by have := HTL.out; rwa [show 1 + 2 * ix + 1 + 1 = 1 + 2 * (ix + 1) by omega] at this), HWQ, HBB, HBK, HRK, HKO, HB26⟩
            case measure => simp [intOf]; omega
        · replace HWH : Hid (WhI R1 e.k kp (e.s, e.u, e.o)) := Lib.hid (by have h1 := HWS2.out; rwa [if_pos c3] at h1)
          clear HWS2
          have zz0 := HBB.out.frozen 0
          have zz1 := HBB.out.frozen 1
          have zz2 := HBB.out.frozen 2
          obtain ⟨w24, hv24⟩ : ∃ V, ((w23.setCell ⟨w2.heap.size, 0, none⟩ (.int .i64 e.s)).setCell ⟨w2.heap.size, 1, none⟩ (.int .i64 e.u)).setCell ⟨w2.heap.size, 2, none⟩ (.int .i64 e.o) = V := ⟨_, rfl⟩
          have tu24 : Touch (fun k => k = w2.heap.size) w23 w24 := by rw [← hv24]; exact touch3 _ _ _ _ _
          have hn24 : Blk w24 w2.heap.size 36 #[.int .i64 e.s, .int .i64 e.u, .int .i64 e.o] := by rw [← hv24]; exact box3 HBB.out _ _ _
          replace HTL := Lib.hid (HTL.out.touch tu24 HSB.out HFB.out)
          replace HBK := Lib.hid (HBK.out.touchT tu24 (Nat.ne_of_gt HLT.out))
          replace HRK := Lib.hid (HRK.out.touch (tu24.mono HFB.out))
          replace HRE := Lib.hid (HRE.out.touch (tu24.mono HFB.out))
          replace HBD := Lib.hid (HBD.out.touchT tu24 HD1.out)
          replace HBB := Lib.hid hn24
          have HB24 : Hid (Below w.heap.size w w24) := Lib.hid HTL.out.bel
          clear tu24 hn24
          obtain ⟨⟨Q1, ⟨⟨qk, qs, qu, qo, qh, qv⟩, qw, qt⟩, qr⟩, hQ⟩ : ∃ Q, queryS R1 e.k = Q := ⟨_, rfl⟩
          have HWQ : Hid (WhI Q1 e.k kp (e.s, e.u, e.o)) := Lib.hid (by have h1 := wh_query HTL.out.ok HWH.out e.k; rw [hQ] at h1; exact h1)
          have HWT : Hid (qr = 0 → qw = true → GeT (qs, qu, qo) (e.s, e.u, e.o)) := Lib.hid fun h1 h2 => by
            have h3 := wh_tells HWH.out (by rw [hQ]; exact h1) (by rw [hQ]; exact h2)
            rw [hQ] at h3
            exact h3
          have HQY := Lib.hid (HTL.out.query e.k HKM.out (by have := HQB.out; omega))
          rw [hQ] at HQY
          unfold QueryT at HQY
          dsimp only at HQY
          clear hQ
          go_wp2_with fail
          refine (HQY.out).mono ?_
          rintro e25 w25 ⟨Aq, cq, rfl, _, _, ht25, tu25⟩
          replace HBB := Lib.hid (HBB.out.touchT tu25 HNB.out)
          replace HBK := Lib.hid (HBK.out.touchT tu25 HNK.out)
          replace HRK := Lib.hid (HRK.out.touch (tu25.mono HFO.out))
          replace HRE := Lib.hid (HRE.out.touch (tu25.mono HFO.out))
          replace HBD := Lib.hid (HBD.out.touchT tu25 HND.out)
          replace HTL := Lib.hid ht25
          have HB25 : Hid (Below w.heap.size w w25) := Lib.hid ht25.bel
          clear d0 d1 d2 d3 d4 d5 d6 d7 v0 v1 v2 zz0 zz1 zz2
          clear ht25 tu25  HQY
          unfold repV
          dsimp only
          obtain ⟨w26, hv26⟩ : ∃ V, w25.alloc (.cells #[.string ⟨qk.toArray⟩, .int .i64 qs, .int .i64 qu, .int .i64 qo, .bool qh, .slice Aq qv.length cq, .bool qw, .int .i64 qt] 43) = V := ⟨_, rfl⟩
          have hb26 : Below w25.heap.size w25 w26 := by rw [← hv26]; exact (Below.refl _ _).alloc (Nat.le_refl _) _
          have HBQ : Hid (Blk w26 w25.heap.size 43 #[.string ⟨qk.toArray⟩, .int .i64 qs, .int .i64 qu, .int .i64 qo, .bool qh, .slice Aq qv.length cq, .bool qw, .int .i64 qt]) := Lib.hid (by rw [← hv26]; exact Blk.new _ _ _)
          have HB26 : Hid (Below w.heap.size w w26) := Lib.hid (HB25.out.trans (hb26.mono HB25.out.size))
          replace HTL := Lib.hid (HTL.out.below hb26)
          replace HBB := Lib.hid (HBB.out.below hb26 HBB.out.lt)
          replace HBK := Lib.hid (HBK.out.below hb26 HBK.out.lt)
          replace HRK := Lib.hid (HRK.out.belowC hb26)
          replace HRE := Lib.hid (HRE.out.belowC hb26)
          replace HBD := Lib.hid (HBD.out.below hb26 HBD.out.lt)
          clear hb26
          by_cases hqr : qr = 0
          rotate_left
          · have g8 : (qr == 0) = false := by simpa using hqr
            clear hqr
            go_wp2_with fail
            go_roundw
            case rel => exact ⟨ix + 1, Q1, kp, Ak, ck, e.s, e.u, e.o, by omega, by go_num, Lib.hid (by have := HTL.out; rwa [show 1 + 2 * ix + 1 + 1 = 1 + 2 * (ix + 1) by omega] at this), HWQ, HBB, HBK, HRK, HKO, HB26⟩
            case measure => simp [intOf]; omega
          subst hqr
          cases hqw : qw
          · subst hqw
            have q6 := HBQ.out.is 6 _ rfl
            go_wp2_with fail
            go_roundw
            case rel => exact ⟨ix + 1, Q1, kp, Ak, ck, e.s, e.u, e.o, by omega, by go_num, Lib.hid (by have := HTL.out; rwa [show 1 + 2 * ix + 1 + 1 = 1 + 2 * (ix + 1) by omega] at this), HWQ, HBB, HBK, HRK, HKO, HB26⟩
            case measure => simp [intOf]; omega
          · subst hqw
            obtain ⟨cq2, hcq2⟩ : ∃ cv, cmpT qs qu qo e.s e.u e.o = cv := ⟨_, rfl⟩
            have HCQ2 := Lib.hid hcq2
            have hcq0 : 0 ≤ cq2 := by rw [← hcq2]; exact (geT_iff _ _ _ _ _ _).2 (HWT.out rfl rfl)
            clear hcq2
            have q1 := HBQ.out.is 1 _ rfl
            have q2 := HBQ.out.is 2 _ rfl
            have q3 := HBQ.out.is 3 _ rfl
            have q6 := HBQ.out.is 6 _ rfl
            have v0 := HBB.out.is 0 _ rfl
            have v1 := HBB.out.is 1 _ rfl
            have v2 := HBB.out.is 2 _ rfl
            go_wp2_with fail
            refine (refcompare_val _ _ _ _ _ _ _ HCQ2 w26).mono ?_
            rintro e27 w27 ⟨rfl, hb27⟩
            have HB27 : Hid (Below w.heap.size w w27) := Lib.hid (HB26.out.trans (hb27.mono HB26.out.size))
            replace HTL := Lib.hid (HTL.out.below hb27)
            replace HBB := Lib.hid (HBB.out.below hb27 HBB.out.lt)
            replace HBK := Lib.hid (HBK.out.below hb27 HBK.out.lt)
            replace HRK := Lib.hid (HRK.out.belowC hb27)
            replace HRE := Lib.hid (HRE.out.belowC hb27)
            replace HBD := Lib.hid (HBD.out.below hb27 HBD.out.lt)
            replace HBQ := Lib.hid (HBQ.out.below hb27 HBQ.out.lt)
            clear q1 q2 q3 q6 v0 v1 v2
            clear hb27 
            have q1 := HBQ.out.is 1 _ rfl
            have q2 := HBQ.out.is 2 _ rfl
            have q3 := HBQ.out.is 3 _ rfl
            have q6 := HBQ.out.is 6 _ rfl
            have v0 := HBB.out.is 0 _ rfl
            have v1 := HBB.out.is 1 _ rfl
            have v2 := HBB.out.is 2 _ rfl
            go_wp2_with fail
            clear q1 q2 q3 q6 v0 v1 v2
            go_roundw
            case rel => exact ⟨ix + 1, Q1, kp, Ak, ck, e.s, e.u, e.o, by omega, by go_num, Lib.hid (by have := HTL.out; rwa [show 1 + 2 * ix + 1 + 1 = 1 + 2 * (ix + 1) by omega] at this), HWQ, HBB, HBK, HRK, HKO, HB27⟩
            case measure => simp [intOf]; omega
      by_cases k3 : kd = 3
      · as_aux_lemma =>
        subst k3
        have HST := Lib.hid (HTL.out.fill (kp, Ak, ck) tn HKO.out.1 HKO.out.2 (rowN_own3 HRK.out HFO.out) (by have := HQB.out; omega))
        dsimp only at HST
        obtain ⟨R, hR⟩ : ∃ R, fillS S kp tn = R := ⟨_, rfl⟩
        replace HWH : Hid (WhI R.1 k kp (bs, bu, bo)) := Lib.hid (by rw [← hR]; exact wh_fill HTL.out.ok HWH.out tn)
        rw [hR] at HST
        clear hR
        have d0 := HBD.out.is 0 _ rfl
        have d7 := HBD.out.is 7 _ rfl
        have y0 := HBK.out.is 0 _ rfl
        have y1 := HBK.out.is 1 _ rfl
        have y2 := HBK.out.is 2 _ rfl
        have y3 := HBK.out.is 3 _ rfl
        have y4 := HBK.out.is 4 _ rfl
        have y5 := HBK.out.is 5 _ rfl
        go_wp2_with fail
        refine (HST.out).mono ?_
        rintro e22 w22 ⟨rfl, ht22, tu22⟩
        replace HBB := Lib.hid (HBB.out.touchT tu22 HNB.out)
        replace HBK := Lib.hid (HBK.out.touchT tu22 HNK.out)
        replace HRK := Lib.hid (HRK.out.touch (tu22.mono HFO.out))
        replace HRE := Lib.hid (HRE.out.touch (tu22.mono HFO.out))
        replace HBD := Lib.hid (HBD.out.touchT tu22 HND.out)
        replace HTL := Lib.hid ht22
        have HB22 : Hid (Below w.heap.size w w22) := Lib.hid ht22.bel
        clear d0 d7 y0 y1 y2 y3 y4 y5
        clear ht22 tu22  HST
        have d0 := HBD.out.is 0 _ rfl
        have d7 := HBD.out.is 7 _ rfl
        have y0 := HBK.out.is 0 _ rfl
        have y1 := HBK.out.is 1 _ rfl
        have y2 := HBK.out.is 2 _ rfl
        have y3 := HBK.out.is 3 _ rfl
        have y4 := HBK.out.is 4 _ rfl
        have y5 := HBK.out.is 5 _ rfl
        obtain ⟨⟨Q1, ⟨⟨qk, qs, qu, qo, qh, qv⟩, qw, qt⟩, qr⟩, hQ⟩ : ∃ Q, queryS R.1 k = Q := ⟨_, rfl⟩
        have HWQ : Hid (WhI Q1 k kp (bs, bu, bo)) := Lib.hid (by have h1 := wh_query HTL.out.ok HWH.out k; rw [hQ] at h1; exact h1)
        have HWT : Hid (qr = 0 → qw = true → GeT (qs, qu, qo) (bs, bu, bo)) := Lib.hid fun h1 h2 => by
          have h3 := wh_tells HWH.out (by rw [hQ]; exact h1) (by rw [hQ]; exact h2)
          rw [hQ] at h3
          exact h3
        have HQY := Lib.hid (HTL.out.query k HKM.out (by have := HQB.out; omega))
        rw [hQ] at HQY
        unfold QueryT at HQY
        dsimp only at HQY
        clear hQ
        go_wp2_with fail
        refine (HQY.out).mono ?_
        rintro e23 w23 ⟨Aq, cq, rfl, _, _, ht23, tu23⟩
        replace HBB := Lib.hid (HBB.out.touchT tu23 HNB.out)
        replace HBK := Lib.hid (HBK.out.touchT tu23 HNK.out)
        replace HRK := Lib.hid (HRK.out.touch (tu23.mono HFO.out))
        replace HRE := Lib.hid (HRE.out.touch (tu23.mono HFO.out))
        replace HBD := Lib.hid (HBD.out.touchT tu23 HND.out)
        replace HTL := Lib.hid ht23
        have HB23 : Hid (Below w.heap.size w w23) := Lib.hid ht23.bel
        clear d0 d7 y0 y1 y2 y3 y4 y5
        clear ht23 tu23  HQY
        have d0 := HBD.out.is 0 _ rfl
        have d7 := HBD.out.is 7 _ rfl
        have y0 := HBK.out.is 0 _ rfl
        have y1 := HBK.out.is 1 _ rfl
        have y2 := HBK.out.is 2 _ rfl
        have y3 := HBK.out.is 3 _ rfl
        have y4 := HBK.out.is 4 _ rfl
        have y5 := HBK.out.is 5 _ rfl
        clear d0 d7 y0 y1 y2 y3 y4 y5
        unfold repV
        dsimp only
        obtain ⟨w24, hv24⟩ : ∃ V, w23.alloc (.cells #[.string ⟨qk.toArray⟩, .int .i64 qs, .int .i64 qu, .int .i64 qo, .bool qh, .slice Aq qv.length cq, .bool qw, .int .i64 qt] 43) = V := ⟨_, rfl⟩
        have hb24 : Below w23.heap.size w23 w24 := by rw [← hv24]; exact (Below.refl _ _).alloc (Nat.le_refl _) _
        have HBQ : Hid (Blk w24 w23.heap.size 43 #[.string ⟨qk.toArray⟩, .int .i64 qs, .int .i64 qu, .int .i64 qo, .bool qh, .slice Aq qv.length cq, .bool qw, .int .i64 qt]) := Lib.hid (by rw [← hv24]; exact Blk.new _ _ _)
        have HB24 : Hid (Below w.heap.size w w24) := Lib.hid (HB23.out.trans (hb24.mono HB23.out.size))
        replace HTL := Lib.hid (HTL.out.below hb24)
        replace HBB := Lib.hid (HBB.out.below hb24 HBB.out.lt)
        replace HBK := Lib.hid (HBK.out.below hb24 HBK.out.lt)
        replace HRK := Lib.hid (HRK.out.belowC hb24)
        replace HRE := Lib.hid (HRE.out.belowC hb24)
        replace HBD := Lib.hid (HBD.out.below hb24 HBD.out.lt)
        clear hb24
        by_cases hqr : qr = 0
        rotate_left
        · have g8 : (qr == 0) = false := by simpa using hqr
          clear hqr
          go_wp2_with fail
          go_roundw
          case rel => exact ⟨ix + 1, Q1, kp, Ak, ck, bs, bu, bo, by omega, by go_num, Lib.hid (by have := HTL.out; rwa [show 1 + 2 * ix + 1 + 1 = 1 + 2 * (ix + 1) by omega] at this), HWQ, HBB, HBK, HRK, HKO, HB24⟩
          case measure => simp [intOf]; omega
        subst hqr
        cases hqw : qw
        · subst hqw
          have q6 := HBQ.out.is 6 _ rfl
          go_wp2_with fail
          go_roundw
          case rel => exact ⟨ix + 1, Q1, kp, Ak, ck, bs, bu, bo, by omega, by go_num, Lib.hid (by have := HTL.out; rwa [show 1 + 2 * ix + 1 + 1 = 1 + 2 * (ix + 1) by omega] at this), HWQ, HBB, HBK, HRK, HKO, HB24⟩
          case measure => simp [intOf]; omega
        · subst hqw
          obtain ⟨cq2, hcq2⟩ : ∃ cv, cmpT qs qu qo bs bu bo = cv := ⟨_, rfl⟩
          have HCQ2 := Lib.hid hcq2
          have hcq0 : 0 ≤ cq2 := by rw [← hcq2]; exact (geT_iff _ _ _ _ _ _).2 (HWT.out rfl rfl)
          clear hcq2
          have q1 := HBQ.out.is 1 _ rfl
          have q2 := HBQ.out.is 2 _ rfl
          have q3 := HBQ.out.is 3 _ rfl
          have q6 := HBQ.out.is 6 _ rfl
          have v0 := HBB.out.is 0 _ rfl
          have v1 := HBB.out.is 1 _ rfl
          have v2 := HBB.out.is 2 _ rfl
          go_wp2_with fail
          refine (refcompare_val _ _ _ _ _ _ _ HCQ2 w24).mono ?_
          rintro e25 w25 ⟨rfl, hb25⟩
          have HB25 : Hid (Below w.heap.size w w25) := Lib.hid (HB24.out.trans (hb25.mono HB24.out.size))
          replace HTL := Lib.hid (HTL.out.below hb25)
          replace HBB := Lib.hid (HBB.out.below hb25 HBB.out.lt)
          replace HBK := Lib.hid (HBK.out.below hb25 HBK.out.lt)
          replace HRK := Lib.hid (HRK.out.belowC hb25)
          replace HRE := Lib.hid (HRE.out.belowC hb25)
          replace HBD := Lib.hid (HBD.out.below hb25 HBD.out.lt)
          replace HBQ := Lib.hid (HBQ.out.below hb25 HBQ.out.lt)
          clear q1 q2 q3 q6 v0 v1 v2
          clear hb25 
          have q1 := HBQ.out.is 1 _ rfl
          have q2 := HBQ.out.is 2 _ rfl
          have q3 := HBQ.out.is 3 _ rfl
          have q6 := HBQ.out.is 6 _ rfl
          have v0 := HBB.out.is 0 _ rfl
          have v1 := HBB.out.is 1 _ rfl
          have v2 := HBB.out.is 2 _ rfl
          go_wp2_with fail
          clear q1 q2 q3 q6 v0 v1 v2
          go_roundw
          case rel => exact ⟨ix + 1, Q1, kp, Ak, ck, bs, bu, bo, by omega, by go_num, Lib.hid (by have := HTL.out; rwa [show 1 + 2 * ix + 1 + 1 = 1 + 2 * (ix + 1) by omega] at this), HWQ, HBB, HBK, HRK, HKO, HB25⟩
          case measure => simp [intOf]; omega
      by_cases k4 : kd = 4
      · as_aux_lemma =>
        subst k4
        have d0 := HBD.out.is 0 _ rfl
        go_wp2_with fail
        refine (HTL.out.cellsF).mono ?_
        rintro e22 w22 ⟨us, Au, cu, hus, rfl, hcu, hlu, hb22⟩
        have HB22 : Hid (Below w.heap.size w w22) := Lib.hid (HB21.out.trans (hb22.mono HB21.out.size))
        replace HTL := Lib.hid (HTL.out.below hb22)
        replace HBB := Lib.hid (HBB.out.below hb22 HBB.out.lt)
        replace HBK := Lib.hid (HBK.out.below hb22 HBK.out.lt)
        replace HRK := Lib.hid (HRK.out.belowC hb22)
        replace HRE := Lib.hid (HRE.out.belowC hb22)
        replace HBD := Lib.hid (HBD.out.below hb22 HBD.out.lt)
        have HUS := Lib.hid hus
        have HCU := Lib.hid hcu
        have HLU := Lib.hid hlu
        clear d0
        clear hb22 hus hcu hlu
        have d0 := HBD.out.is 0 _ rfl
        go_wp2_with fail
        clear d0
        have hlu2 : (us.length : Int) ≤ 4096 := by have := HLU.out; omega
        have HET0 : Hid (∀ x ∈ S.T, ∃ y ∈ us.map Prod.fst, y.e = x.e) := Lib.hid (by rw [HUS.out]; exact fun x hx => ⟨x, hx, rfl⟩)
        have HSR : Hid (SortT kP (us.map Prod.fst)) := Lib.hid (by rw [HUS.out]; exact HTL.out.ok.srt)
        obtain ⟨gd, hgd⟩ : ∃ gd, wr.heap.size = gd := ⟨_, rfl⟩
        rw [hgd] at HBD HND HD1 HD2 ⊢
        clear hgd HRE
        go_loopw [14] (fun i wr => ∃ (iz : Nat) (Sz : Cl) (kz : EntP) (Az : Option Addr) (cz : Nat), iz ≤ us.length ∧ i = .int .i64 (iz : Int) ∧ Hid (Tb1 w wr F g b tk Sz (1 + 2 * ix)) ∧ Hid (WhI Sz k kz (bs, bu, bo)) ∧ Hid (∀ x ∈ Sz.T, ∃ y ∈ us.map Prod.fst, y.e = x.e) ∧ Hid (Blk wr w2.heap.size 36 #[.int .i64 bs, .int .i64 bu, .int .i64 bo]) ∧ Hid (Blk wr (w2.heap.size + 1) 41 #[.string ⟨kz.k.toArray⟩, .int .i64 kz.s, .int .i64 kz.u, .int .i64 kz.o, .bool kz.has, .slice Az kz.v.length cz]) ∧ Hid (RowN F wr Az (kz.v.map byteV)) ∧ Hid ((kz.v.length ≤ cz ∧ cz ≤ maxLen) ∧ kz.k.length ≤ maxLen) ∧ Hid (Blk wr gd 47 #[.int .i64 4, .string ⟨e.k.toArray⟩, .int .i64 e.s, .int .i64 e.u, .int .i64 e.o, .bool e.has, .slice Ae e.v.length ce, .int .i64 tn]) ∧ Hid (CeN F wr Au us) ∧ Hid (Below w.heap.size w wr)) (fun i _ => us.length - (intOf i).toNat)
        case atStart => exact ⟨0, S, kp, Ak, ck, by omega, rfl, HTL, HWH, HET0, HBB, HBK, HRK, HKO, HBD, HCU, HB22⟩
        case round =>
          clear HTL HWH HBB HBK HRK HKO HBD HCU HET0
          obtain ⟨iz, Sz, kz, Az, cz, hiz, rfl, HTL, HWH, HEZ, HBB, HBK, HRK, HKO, HBD, HCU, HBY⟩ := hrel
          by_cases hlz : iz < us.length
          · have hzi : (0 : Int) ≤ (iz : Int) := by omega
            have hzi2 : (iz : Int) < (us.length : Int) := by omega
            have hval := HCU.out.val us[iz] (List.getElem_mem hlz)
            have hmem : us[iz].1 ∈ us.map Prod.fst := List.mem_map_of_mem (List.getElem_mem hlz)
            obtain ⟨b1, o1, hA1, hcq⟩ := HCU.out.cev.at_ (by omega)
            clear hcq
            subst hA1
            obtain ⟨⟨⟨x, xw, xc, xn⟩, A1, c1⟩, hx⟩ : ∃ p, us[iz]'hlz = p := ⟨_, rfl⟩
            rw [hx] at hval hmem
            dsimp only at hval hmem
            have HXR : Hid (RowN F wr A1 (x.v.map byteV)) := Lib.hid hval.1
            have HXO : Hid ((x.v.length ≤ c1 ∧ c1 ≤ maxLen)) := Lib.hid ⟨hval.2.1, hval.2.2.1⟩
            have HXM : Hid (∀ y ∈ us.map Prod.fst, y.e.k = x.k → y.e = x) := Lib.hid fun y hy hk => by
              have := sort_inj HSR.out hy hmem hk
              rw [this]
            obtain ⟨xk, xs, xu, xo, xh, xv⟩ := x
            dsimp only at HXR HXO HXM
            have HX : Hid (us[iz] = (⟨⟨xk, xs, xu, xo, xh, xv⟩, xw, xc, xn⟩, A1, c1)) := Lib.hid hx
            clear hval hmem hx
            by_cases hke : xk = e.k
            rotate_left
            · have e5 := list_ne (a := ⟨xk.toArray⟩) (b := ⟨e.k.toArray⟩) (by intro e2; apply hke; have := congrArg (fun z => z.data.toList) e2; simpa using this)
              have e6 : (xk == e.k) = false := by simpa using hke
              clear hke
              have hu60 := HCU.out.cev
              obtain ⟨b60', o60, hA60, hc60⟩ := hu60.at_ (by omega)
              simp only [Option.some.injEq, Addr.mk.injEq] at hA60
              obtain ⟨rfl, rfl, _⟩ := hA60
              have hd60 := hc60 iz hlz
              clear hc60
              rw [HX.out] at hd60
              have cf0 := later_cell (hd60.1)
              clear hd60 hu60
              have l1 := later_cell (HBD.out.is 1 _ rfl)
              go_wp2_with fail
              refine wp_region_later (by kernel_rfl) (by kernel_rfl) ?_
              repeat (go_big_quiet_step (fail))
              refine wpQuiet_nil ?_
              intro w' hw'
              obtain ⟨p, rfl⟩ := hw'
              have hb61 : Below wr.heap.size wr p.world := p.bel
              obtain ⟨w61, hwp61⟩ : ∃ V, p.world = V := ⟨_, rfl⟩
              rw [hwp61] at hb61 ⊢
              have HB61 : Hid (Below w.heap.size w w61) := Lib.hid (HBY.out.trans (hb61.mono HBY.out.size))
              replace HTL := Lib.hid (HTL.out.below hb61)
              replace HBB := Lib.hid (HBB.out.below hb61 HBB.out.lt)
              replace HBK := Lib.hid (HBK.out.below hb61 HBK.out.lt)
              replace HRK := Lib.hid (HRK.out.belowC hb61)
              replace HBD := Lib.hid (HBD.out.below hb61 HBD.out.lt)
              replace HCU := Lib.hid (HCU.out.below hb61)
              replace HXR := Lib.hid (HXR.out.belowC hb61)
              clear cf0 l1
              clear hwp61 hb61
              go_wp2_with fail
              go_roundw
              case rel => exact ⟨iz + 1, Sz, kz, Az, cz, by omega, by go_num, HTL, HWH, HEZ, HBB, HBK, HRK, HKO, HBD, HCU, HB61⟩
              case measure => simp [intOf]; omega
            subst hke
            have hu60 := HCU.out.cev
            obtain ⟨b60', o60, hA60, hc60⟩ := hu60.at_ (by omega)
            simp only [Option.some.injEq, Addr.mk.injEq] at hA60
            obtain ⟨rfl, rfl, _⟩ := hA60
            have hd60 := hc60 iz hlz
            clear hc60
            rw [HX.out] at hd60
            have cf0 := later_cell (hd60.1)
            clear hd60 hu60
            have l1 := later_cell (HBD.out.is 1 _ rfl)
            go_wp2_with fail
            refine wp_region_later (by kernel_rfl) (by kernel_rfl) ?_
            repeat (go_big_quiet_step (fail))
            refine wpQuiet_nil ?_
            intro w' hw'
            obtain ⟨p, rfl⟩ := hw'
            have hb61 : Below wr.heap.size wr p.world := p.bel
            obtain ⟨w61, hwp61⟩ : ∃ V, p.world = V := ⟨_, rfl⟩
            rw [hwp61] at hb61 ⊢
            have HB61 : Hid (Below w.heap.size w w61) := Lib.hid (HBY.out.trans (hb61.mono HBY.out.size))
            replace HTL := Lib.hid (HTL.out.below hb61)
            replace HBB := Lib.hid (HBB.out.below hb61 HBB.out.lt)
            replace HBK := Lib.hid (HBK.out.below hb61 HBK.out.lt)
            replace HRK := Lib.hid (HRK.out.belowC hb61)
            replace HBD := Lib.hid (HBD.out.below hb61 HBD.out.lt)
            replace HCU := Lib.hid (HCU.out.below hb61)
            replace HXR := Lib.hid (HXR.out.belowC hb61)
            clear cf0 l1
            clear hwp61 hb61
            have hu61 := HCU.out.cev
            obtain ⟨b61', o61, hA61, hc61⟩ := hu61.at_ (by omega)
            simp only [Option.some.injEq, Addr.mk.injEq] at hA61
            obtain ⟨rfl, rfl, _⟩ := hA61
            have hd61 := hc61 iz hlz
            clear hc61
            rw [HX.out] at hd61
            have cf0 := hd61.1
            clear hd61 hu61
            by_cases hkk : e.k = k
            rotate_left
            · have e5 := list_ne (a := ⟨e.k.toArray⟩) (b := ⟨k.toArray⟩) (by intro e2; apply hkk; have := congrArg (fun z => z.data.toList) e2; simpa using this)
              have e6 : (e.k == k) = false := by simpa using hkk
              have HKN : Hid (e.k ≠ k) := Lib.hid hkk
              go_wp2_with fail
              clear cf0
              have HWC : Hid (WhI (cleanS Sz e.k xs xu xo).1 k kz (bs, bu, bo)) := Lib.hid (wh_clean HTL.out.ok HWH.out e.k xs xu xo (fun h => absurd h HKN.out))
              have HEC : Hid (∀ x ∈ (cleanS Sz e.k xs xu xo).1.T, ∃ y ∈ us.map Prod.fst, y.e = x.e) := Lib.hid (clean_ent HEZ.out)
              have hu61 := HCU.out.cev
              obtain ⟨b61', o61, hA61, hc61⟩ := hu61.at_ (by omega)
              simp only [Option.some.injEq, Addr.mk.injEq] at hA61
              obtain ⟨rfl, rfl, _⟩ := hA61
              have hd61 := hc61 iz hlz
              clear hc61
              rw [HX.out] at hd61
              have cf1 := later_cell (hd61.2 1 _ rfl)
              have cf2 := later_cell (hd61.2 2 _ rfl)
              have cf3 := later_cell (hd61.2 3 _ rfl)
              clear hd61 hu61
              have l1 := later_cell (HBD.out.is 1 _ rfl)
              go_wp2_with fail
              refine wp_region_later_tail 10 (by kernel_rfl) (by kernel_rfl) ?_
              simp only [List.take_succ_cons, List.take_zero, List.drop_succ_cons, List.drop_zero]
              repeat (go_big_quiet_step (fail))
              refine wpQuiet_nil ?_
              intro w' hw'
              obtain ⟨p, rfl⟩ := hw'
              have hb62 : Below w61.heap.size w61 p.world := p.bel
              obtain ⟨w62, hwp62⟩ : ∃ V, p.world = V := ⟨_, rfl⟩
              rw [hwp62] at hb62 ⊢
              have HB62 : Hid (Below w.heap.size w w62) := Lib.hid (HB61.out.trans (hb62.mono HB61.out.size))
              replace HTL := Lib.hid (HTL.out.below hb62)
              replace HBB := Lib.hid (HBB.out.below hb62 HBB.out.lt)
              replace HBK := Lib.hid (HBK.out.below hb62 HBK.out.lt)
              replace HRK := Lib.hid (HRK.out.belowC hb62)
              replace HBD := Lib.hid (HBD.out.below hb62 HBD.out.lt)
              replace HCU := Lib.hid (HCU.out.below hb62)
              replace HXR := Lib.hid (HXR.out.belowC hb62)
              clear cf1 cf2 cf3 l1
              clear hwp62 hb62
              go_wp2_with fail
              refine (HTL.out.clean e.k HDO.out.2 xs xu xo).mono ?_
              rintro e63 w63 ⟨rfl, ht63, tu63⟩
              replace HBB := Lib.hid (HBB.out.touchT tu63 HNB.out)
              replace HBK := Lib.hid (HBK.out.touchT tu63 HNK.out)
              replace HRK := Lib.hid (HRK.out.touch (tu63.mono HFO.out))
              replace HBD := Lib.hid (HBD.out.touchT tu63 HND.out)
              replace HCU := Lib.hid (HCU.out.touch (tu63.mono HFO.out))
              replace HXR := Lib.hid (HXR.out.touch (tu63.mono HFO.out))
              replace HTL := Lib.hid ht63
              have HB63 : Hid (Below w.heap.size w w63) := Lib.hid ht63.bel
              clear ht63 tu63 
              go_wp2_with fail
              go_roundw
              case rel => exact ⟨iz + 1, _, kz, Az, cz, by omega, by go_num, HTL, HWC, HEC, HBB, HBK, HRK, HKO, HBD, HCU, HB63⟩
              case measure => simp [intOf]; omega
            subst hkk
            obtain ⟨ev, hev⟩ : ∃ ev, cmpT kz.s kz.u kz.o xs xu xo = ev := ⟨_, rfl⟩
            go_wp2_with fail
            clear cf0
            have hu61 := HCU.out.cev
            obtain ⟨b61', o61, hA61, hc61⟩ := hu61.at_ (by omega)
            simp only [Option.some.injEq, Addr.mk.injEq] at hA61
            obtain ⟨rfl, rfl, _⟩ := hA61
            have hd61 := hc61 iz hlz
            clear hc61
            rw [HX.out] at hd61
            have cf0 := later_cell (hd61.1)
            have cf1 := later_cell (hd61.2 1 _ rfl)
            have cf2 := later_cell (hd61.2 2 _ rfl)
            have cf3 := later_cell (hd61.2 3 _ rfl)
            have cf4 := later_cell (hd61.2 4 _ rfl)
            have cf5 := later_cell (hd61.2 5 _ rfl)
            clear hd61 hu61
            have m0 := later_cell (HBK.out.is 0 _ rfl)
            have m1 := later_cell (HBK.out.is 1 _ rfl)
            have m2 := later_cell (HBK.out.is 2 _ rfl)
            have m3 := later_cell (HBK.out.is 3 _ rfl)
            have m4 := later_cell (HBK.out.is 4 _ rfl)
            have m5 := later_cell (HBK.out.is 5 _ rfl)
            go_wp2_with fail
            refine wp_region_later_tail 6 (by kernel_rfl) (by kernel_rfl) ?_
            simp only [List.take_succ_cons, List.take_zero, List.drop_succ_cons, List.drop_zero]
            repeat (go_big_quiet_step (fail))
            refine wpQuiet_nil ?_
            intro w' hw'
            obtain ⟨p, rfl⟩ := hw'
            have hb62 : Below w61.heap.size w61 p.world := p.bel
            obtain ⟨w62, hwp62⟩ : ∃ V, p.world = V := ⟨_, rfl⟩
            rw [hwp62] at hb62 ⊢
            have HB62 : Hid (Below w.heap.size w w62) := Lib.hid (HB61.out.trans (hb62.mono HB61.out.size))
            replace HTL := Lib.hid (HTL.out.below hb62)
            replace HBB := Lib.hid (HBB.out.below hb62 HBB.out.lt)
            replace HBK := Lib.hid (HBK.out.below hb62 HBK.out.lt)
            replace HRK := Lib.hid (HRK.out.belowC hb62)
            replace HBD := Lib.hid (HBD.out.below hb62 HBD.out.lt)
            replace HCU := Lib.hid (HCU.out.below hb62)
            replace HXR := Lib.hid (HXR.out.belowC hb62)
            clear cf0 cf1 cf2 cf3 cf4 cf5 m0 m1 m2 m3 m4 m5
            clear hwp62 hb62
            have HXK : Hid ((xv.length ≤ c1 ∧ c1 ≤ maxLen) ∧ e.k.length ≤ maxLen) := Lib.hid ⟨HXO.out, HDO.out.2⟩
            by_cases hcm : ev = -1
            rotate_left
            · have HNE : Hid (cmpT kz.s kz.u kz.o xs xu xo ≠ -1) := Lib.hid (by rw [hev]; exact hcm)
              have HGE : Hid (GeT (tg kz) (tg ⟨e.k, xs, xu, xo, xh, xv⟩)) := Lib.hid (by
                have h1 := newerE_ge kz ⟨e.k, xs, xu, xo, xh, xv⟩
                unfold newerE at h1
                rw [if_neg (show ¬ cE kz ⟨e.k, xs, xu, xo, xh, xv⟩ = -1 from HNE.out)] at h1
                exact h1.2)
              clear hev hcm
              go_wp2_with fail
              refine (refnewer_ge ⟨kz.k.toArray⟩ ⟨e.k.toArray⟩ kz.s kz.u kz.o xs xu xo kz.has xh Az A1 kz.v.length cz xv.length c1 w62 HNE.out).mono ?_
              rintro e63 w63 ⟨rfl, hb63⟩
              have HB63 : Hid (Below w.heap.size w w63) := Lib.hid (HB62.out.trans (hb63.mono HB62.out.size))
              replace HTL := Lib.hid (HTL.out.below hb63)
              replace HBB := Lib.hid (HBB.out.below hb63 HBB.out.lt)
              replace HBK := Lib.hid (HBK.out.below hb63 HBK.out.lt)
              replace HRK := Lib.hid (HRK.out.belowC hb63)
              replace HBD := Lib.hid (HBD.out.below hb63 HBD.out.lt)
              replace HCU := Lib.hid (HCU.out.below hb63)
              replace HXR := Lib.hid (HXR.out.belowC hb63)
              clear hb63 
              have zz0 := HBK.out.frozen 0
              have zr0 := HBK.out.is 0 _ rfl
              have zz1 := HBK.out.frozen 1
              have zr1 := HBK.out.is 1 _ rfl
              have zz2 := HBK.out.frozen 2
              have zr2 := HBK.out.is 2 _ rfl
              have zz3 := HBK.out.frozen 3
              have zr3 := HBK.out.is 3 _ rfl
              have zz4 := HBK.out.frozen 4
              have zr4 := HBK.out.is 4 _ rfl
              have zz5 := HBK.out.frozen 5
              have zr5 := HBK.out.is 5 _ rfl
              obtain ⟨w64, hv64⟩ : ∃ V, (((((w63.setCell ⟨(w2.heap.size + 1), 0, none⟩ (.string ⟨kz.k.toArray⟩)).setCell ⟨(w2.heap.size + 1), 1, none⟩ (.int .i64 kz.s)).setCell ⟨(w2.heap.size + 1), 2, none⟩ (.int .i64 kz.u)).setCell ⟨(w2.heap.size + 1), 3, none⟩ (.int .i64 kz.o)).setCell ⟨(w2.heap.size + 1), 4, none⟩ (.bool kz.has)).setCell ⟨(w2.heap.size + 1), 5, none⟩ (.slice Az kz.v.length cz) = V := ⟨_, rfl⟩
              have tu64 : Touch (fun k => k = (w2.heap.size + 1)) w63 w64 := by rw [← hv64]; exact touch6 _ _ _ _ _ _ _ _
              have hn64 : Blk w64 (w2.heap.size + 1) 41 #[.string ⟨kz.k.toArray⟩, .int .i64 kz.s, .int .i64 kz.u, .int .i64 kz.o, .bool kz.has, .slice Az kz.v.length cz] := by rw [← hv64]; exact box6 HBK.out _ _ _ _ _ _
              replace HTL := Lib.hid (HTL.out.touch tu64 HSK.out HFK.out)
              replace HBB := Lib.hid (HBB.out.touchT tu64 (Nat.ne_of_lt HLT.out))
              replace HRK := Lib.hid (HRK.out.touch (tu64.mono HFK.out))
              replace HBD := Lib.hid (HBD.out.touchT tu64 HD2.out)
              replace HCU := Lib.hid (HCU.out.touch (tu64.mono HFK.out))
              replace HXR := Lib.hid (HXR.out.touch (tu64.mono HFK.out))
              replace HBK := Lib.hid hn64
              have HB64 : Hid (Below w.heap.size w w64) := Lib.hid HTL.out.bel
              clear tu64 hn64
              go_wp2_with fail
              clear zz0 zr0 zz1 zr1 zz2 zr2 zz3 zr3 zz4 zr4 zz5 zr5
              have HWC : Hid (WhI (cleanS Sz e.k xs xu xo).1 e.k kz (bs, bu, bo)) := Lib.hid (wh_clean HTL.out.ok HWH.out e.k xs xu xo (fun _ y hy hyk => by obtain ⟨y0, hy0, he0⟩ := HEZ.out y hy; have h1 := HXM.out y0 hy0 (by rw [he0]; exact hyk); rw [← he0, h1]; exact HGE.out))
              have HEC : Hid (∀ x ∈ (cleanS Sz e.k xs xu xo).1.T, ∃ y ∈ us.map Prod.fst, y.e = x.e) := Lib.hid (clean_ent HEZ.out)
              have hu64 := HCU.out.cev
              obtain ⟨b64', o64, hA64, hc64⟩ := hu64.at_ (by omega)
              simp only [Option.some.injEq, Addr.mk.injEq] at hA64
              obtain ⟨rfl, rfl, _⟩ := hA64
              have hd64 := hc64 iz hlz
              clear hc64
              rw [HX.out] at hd64
              have cf1 := later_cell (hd64.2 1 _ rfl)
              have cf2 := later_cell (hd64.2 2 _ rfl)
              have cf3 := later_cell (hd64.2 3 _ rfl)
              clear hd64 hu64
              have l1 := later_cell (HBD.out.is 1 _ rfl)
              go_wp2_with fail
              refine wp_region_later_tail 10 (by kernel_rfl) (by kernel_rfl) ?_
              simp only [List.take_succ_cons, List.take_zero, List.drop_succ_cons, List.drop_zero]
              repeat (go_big_quiet_step (fail))
              refine wpQuiet_nil ?_
              intro w' hw'
              obtain ⟨p, rfl⟩ := hw'
              have hb65 : Below w64.heap.size w64 p.world := p.bel
              obtain ⟨w65, hwp65⟩ : ∃ V, p.world = V := ⟨_, rfl⟩
              rw [hwp65] at hb65 ⊢
              have HB65 : Hid (Below w.heap.size w w65) := Lib.hid (HB64.out.trans (hb65.mono HB64.out.size))
              replace HTL := Lib.hid (HTL.out.below hb65)
              replace HBB := Lib.hid (HBB.out.below hb65 HBB.out.lt)
              replace HBK := Lib.hid (HBK.out.below hb65 HBK.out.lt)
              replace HRK := Lib.hid (HRK.out.belowC hb65)
              replace HBD := Lib.hid (HBD.out.below hb65 HBD.out.lt)
              replace HCU := Lib.hid (HCU.out.below hb65)
              replace HXR := Lib.hid (HXR.out.belowC hb65)
              clear cf1 cf2 cf3 l1
              clear hwp65 hb65
              go_wp2_with fail
              refine (HTL.out.clean e.k HDO.out.2 xs xu xo).mono ?_
              rintro e66 w66 ⟨rfl, ht66, tu66⟩
              replace HBB := Lib.hid (HBB.out.touchT tu66 HNB.out)
              replace HBK := Lib.hid (HBK.out.touchT tu66 HNK.out)
              replace HRK := Lib.hid (HRK.out.touch (tu66.mono HFO.out))
              replace HBD := Lib.hid (HBD.out.touchT tu66 HND.out)
              replace HCU := Lib.hid (HCU.out.touch (tu66.mono HFO.out))
              replace HXR := Lib.hid (HXR.out.touch (tu66.mono HFO.out))
              replace HTL := Lib.hid ht66
              have HB66 : Hid (Below w.heap.size w w66) := Lib.hid ht66.bel
              clear ht66 tu66 
              go_wp2_with fail
              go_roundw
              case rel => exact ⟨iz + 1, _, kz, Az, cz, by omega, by go_num, HTL, HWC, HEC, HBB, HBK, HRK, HKO, HBD, HCU, HB66⟩
              case measure => simp [intOf]; omega
            · have HNE : Hid (cmpT kz.s kz.u kz.o xs xu xo = -1) := Lib.hid (by rw [hev]; exact hcm)
              replace HWH : Hid (WhI Sz e.k ⟨e.k, xs, xu, xo, xh, xv⟩ (bs, bu, bo)) := Lib.hid (by
                have h1 := wh_kept HWH.out (e := ⟨e.k, xs, xu, xo, xh, xv⟩) rfl
                unfold newerE at h1
                rwa [if_pos (show cE kz ⟨e.k, xs, xu, xo, xh, xv⟩ = -1 from HNE.out)] at h1)
              clear hev hcm
              go_wp2_with fail
              refine (refnewer_lt ⟨kz.k.toArray⟩ ⟨e.k.toArray⟩ kz.s kz.u kz.o xs xu xo kz.has xh Az A1 kz.v.length cz xv.length c1 w62 HNE.out).mono ?_
              rintro e63 w63 ⟨rfl, hb63⟩
              have HB63 : Hid (Below w.heap.size w w63) := Lib.hid (HB62.out.trans (hb63.mono HB62.out.size))
              replace HTL := Lib.hid (HTL.out.below hb63)
              replace HBB := Lib.hid (HBB.out.below hb63 HBB.out.lt)
              replace HBK := Lib.hid (HBK.out.below hb63 HBK.out.lt)
              replace HRK := Lib.hid (HRK.out.belowC hb63)
              replace HBD := Lib.hid (HBD.out.below hb63 HBD.out.lt)
              replace HCU := Lib.hid (HCU.out.below hb63)
              replace HXR := Lib.hid (HXR.out.belowC hb63)
              clear hb63 
              have zz0 := HBK.out.frozen 0
              have zr0 := HBK.out.is 0 _ rfl
              have zz1 := HBK.out.frozen 1
              have zr1 := HBK.out.is 1 _ rfl
              have zz2 := HBK.out.frozen 2
              have zr2 := HBK.out.is 2 _ rfl
              have zz3 := HBK.out.frozen 3
              have zr3 := HBK.out.is 3 _ rfl
              have zz4 := HBK.out.frozen 4
              have zr4 := HBK.out.is 4 _ rfl
              have zz5 := HBK.out.frozen 5
              have zr5 := HBK.out.is 5 _ rfl
              obtain ⟨w64, hv64⟩ : ∃ V, (((((w63.setCell ⟨(w2.heap.size + 1), 0, none⟩ (.string ⟨e.k.toArray⟩)).setCell ⟨(w2.heap.size + 1), 1, none⟩ (.int .i64 xs)).setCell ⟨(w2.heap.size + 1), 2, none⟩ (.int .i64 xu)).setCell ⟨(w2.heap.size + 1), 3, none⟩ (.int .i64 xo)).setCell ⟨(w2.heap.size + 1), 4, none⟩ (.bool xh)).setCell ⟨(w2.heap.size + 1), 5, none⟩ (.slice A1 xv.length c1) = V := ⟨_, rfl⟩
              have tu64 : Touch (fun k => k = (w2.heap.size + 1)) w63 w64 := by rw [← hv64]; exact touch6 _ _ _ _ _ _ _ _
              have hn64 : Blk w64 (w2.heap.size + 1) 41 #[.string ⟨e.k.toArray⟩, .int .i64 xs, .int .i64 xu, .int .i64 xo, .bool xh, .slice A1 xv.length c1] := by rw [← hv64]; exact box6 HBK.out _ _ _ _ _ _
              replace HTL := Lib.hid (HTL.out.touch tu64 HSK.out HFK.out)
              replace HBB := Lib.hid (HBB.out.touchT tu64 (Nat.ne_of_lt HLT.out))
              replace HRK := Lib.hid (HRK.out.touch (tu64.mono HFK.out))
              replace HBD := Lib.hid (HBD.out.touchT tu64 HD2.out)
              replace HCU := Lib.hid (HCU.out.touch (tu64.mono HFK.out))
              replace HXR := Lib.hid (HXR.out.touch (tu64.mono HFK.out))
              replace HBK := Lib.hid hn64
              have HB64 : Hid (Below w.heap.size w w64) := Lib.hid HTL.out.bel
              clear tu64 hn64
              go_wp2_with fail
              clear zz0 zr0 zz1 zr1 zz2 zr2 zz3 zr3 zz4 zr4 zz5 zr5
              have HWC : Hid (WhI (cleanS Sz e.k xs xu xo).1 e.k ⟨e.k, xs, xu, xo, xh, xv⟩ (bs, bu, bo)) := Lib.hid (wh_clean HTL.out.ok HWH.out e.k xs xu xo (fun _ y hy hyk => by obtain ⟨y0, hy0, he0⟩ := HEZ.out y hy; have h1 := HXM.out y0 hy0 (by rw [he0]; exact hyk); rw [← he0, h1]; exact geT_refl _))
              have HEC : Hid (∀ x ∈ (cleanS Sz e.k xs xu xo).1.T, ∃ y ∈ us.map Prod.fst, y.e = x.e) := Lib.hid (clean_ent HEZ.out)
              have hu64 := HCU.out.cev
              obtain ⟨b64', o64, hA64, hc64⟩ := hu64.at_ (by omega)
              simp only [Option.some.injEq, Addr.mk.injEq] at hA64
              obtain ⟨rfl, rfl, _⟩ := hA64
              have hd64 := hc64 iz hlz
              clear hc64
              rw [HX.out] at hd64
              have cf1 := later_cell (hd64.2 1 _ rfl)
              have cf2 := later_cell (hd64.2 2 _ rfl)
              have cf3 := later_cell (hd64.2 3 _ rfl)
              clear hd64 hu64
              have l1 := later_cell (HBD.out.is 1 _ rfl)
              go_wp2_with fail
              refine wp_region_later_tail 10 (by kernel_rfl) (by kernel_rfl) ?_
              simp only [List.take_succ_cons, List.take_zero, List.drop_succ_cons, List.drop_zero]
              repeat (go_big_quiet_step (fail))
              refine wpQuiet_nil ?_
              intro w' hw'
              obtain ⟨p, rfl⟩ := hw'
              have hb65 : Below w64.heap.size w64 p.world := p.bel
              obtain ⟨w65, hwp65⟩ : ∃ V, p.world = V := ⟨_, rfl⟩
              rw [hwp65] at hb65 ⊢
              have HB65 : Hid (Below w.heap.size w w65) := Lib.hid (HB64.out.trans (hb65.mono HB64.out.size))
              replace HTL := Lib.hid (HTL.out.below hb65)
              replace HBB := Lib.hid (HBB.out.below hb65 HBB.out.lt)
              replace HBK := Lib.hid (HBK.out.below hb65 HBK.out.lt)
              replace HRK := Lib.hid (HRK.out.belowC hb65)
              replace HBD := Lib.hid (HBD.out.below hb65 HBD.out.lt)
              replace HCU := Lib.hid (HCU.out.below hb65)
              replace HXR := Lib.hid (HXR.out.belowC hb65)
              clear cf1 cf2 cf3 l1
              clear hwp65 hb65
              go_wp2_with fail
              refine (HTL.out.clean e.k HDO.out.2 xs xu xo).mono ?_
              rintro e66 w66 ⟨rfl, ht66, tu66⟩
              replace HBB := Lib.hid (HBB.out.touchT tu66 HNB.out)
              replace HBK := Lib.hid (HBK.out.touchT tu66 HNK.out)
              replace HRK := Lib.hid (HRK.out.touch (tu66.mono HFO.out))
              replace HBD := Lib.hid (HBD.out.touchT tu66 HND.out)
              replace HCU := Lib.hid (HCU.out.touch (tu66.mono HFO.out))
              replace HXR := Lib.hid (HXR.out.touch (tu66.mono HFO.out))
              replace HTL := Lib.hid ht66
              have HB66 : Hid (Below w.heap.size w w66) := Lib.hid ht66.bel
              clear ht66 tu66 
              go_wp2_with fail
              go_roundw
              case rel => exact ⟨iz + 1, _, ⟨e.k, xs, xu, xo, xh, xv⟩, A1, c1, by omega, by go_num, HTL, HWC, HEC, HBB, HBK, HXR, HXK, HBD, HCU, HB66⟩
              case measure => simp [intOf]; omega
          · have hzi2 : ¬ (iz : Int) < (us.length : Int) := by omega
            replace HTL := Lib.hid HTL.out.more
            obtain ⟨⟨Q1, ⟨⟨qk, qs, qu, qo, qh, qv⟩, qw, qt⟩, qr⟩, hQ⟩ : ∃ Q, queryS Sz k = Q := ⟨_, rfl⟩
            have HWQ : Hid (WhI Q1 k kz (bs, bu, bo)) := Lib.hid (by have h1 := wh_query HTL.out.ok HWH.out k; rw [hQ] at h1; exact h1)
            have HWT : Hid (qr = 0 → qw = true → GeT (qs, qu, qo) (bs, bu, bo)) := Lib.hid fun h1 h2 => by
              have h3 := wh_tells HWH.out (by rw [hQ]; exact h1) (by rw [hQ]; exact h2)
              rw [hQ] at h3
              exact h3
            have HQY := Lib.hid (HTL.out.query k HKM.out (by have := HQB.out; omega))
            rw [hQ] at HQY
            unfold QueryT at HQY
            dsimp only at HQY
            clear hQ
            go_wp2_with fail
            refine (HQY.out).mono ?_
            rintro e101 w101 ⟨Aq, cq, rfl, _, _, ht101, tu101⟩
            replace HBB := Lib.hid (HBB.out.touchT tu101 HNB.out)
            replace HBK := Lib.hid (HBK.out.touchT tu101 HNK.out)
            replace HRK := Lib.hid (HRK.out.touch (tu101.mono HFO.out))
            replace HTL := Lib.hid ht101
            have HB101 : Hid (Below w.heap.size w w101) := Lib.hid ht101.bel
            clear ht101 tu101  HQY
            unfold repV
            dsimp only
            obtain ⟨w102, hv102⟩ : ∃ V, w101.alloc (.cells #[.string ⟨qk.toArray⟩, .int .i64 qs, .int .i64 qu, .int .i64 qo, .bool qh, .slice Aq qv.length cq, .bool qw, .int .i64 qt] 43) = V := ⟨_, rfl⟩
            have hb102 : Below w101.heap.size w101 w102 := by rw [← hv102]; exact (Below.refl _ _).alloc (Nat.le_refl _) _
            have HBQ : Hid (Blk w102 w101.heap.size 43 #[.string ⟨qk.toArray⟩, .int .i64 qs, .int .i64 qu, .int .i64 qo, .bool qh, .slice Aq qv.length cq, .bool qw, .int .i64 qt]) := Lib.hid (by rw [← hv102]; exact Blk.new _ _ _)
            have HB102 : Hid (Below w.heap.size w w102) := Lib.hid (HB101.out.trans (hb102.mono HB101.out.size))
            replace HTL := Lib.hid (HTL.out.below hb102)
            replace HBB := Lib.hid (HBB.out.below hb102 HBB.out.lt)
            replace HBK := Lib.hid (HBK.out.below hb102 HBK.out.lt)
            replace HRK := Lib.hid (HRK.out.belowC hb102)
            clear hb102
            by_cases hqr : qr = 0
            rotate_left
            · have g8 : (qr == 0) = false := by simpa using hqr
              clear hqr
              go_wp2_with fail
              go_roundw
              case rel => exact ⟨ix + 1, Q1, kz, Az, cz, bs, bu, bo, by omega, by go_num, Lib.hid (by have := HTL.out; rwa [show 1 + 2 * ix + 1 + 1 = 1 + 2 * (ix + 1) by omega] at this), HWQ, HBB, HBK, HRK, HKO, HB102⟩
              case measure => simp [intOf]; omega
            subst hqr
            cases hqw : qw
            · subst hqw
              have q6 := HBQ.out.is 6 _ rfl
              go_wp2_with fail
              go_roundw
              case rel => exact ⟨ix + 1, Q1, kz, Az, cz, bs, bu, bo, by omega, by go_num, Lib.hid (by have := HTL.out; rwa [show 1 + 2 * ix + 1 + 1 = 1 + 2 * (ix + 1) by omega] at this), HWQ, HBB, HBK, HRK, HKO, HB102⟩
              case measure => simp [intOf]; omega
            · subst hqw
              obtain ⟨cq2, hcq2⟩ : ∃ cv, cmpT qs qu qo bs bu bo = cv := ⟨_, rfl⟩
              have HCQ2 := Lib.hid hcq2
              have hcq0 : 0 ≤ cq2 := by rw [← hcq2]; exact (geT_iff _ _ _ _ _ _).2 (HWT.out rfl rfl)
              clear hcq2
              have q1 := HBQ.out.is 1 _ rfl
              have q2 := HBQ.out.is 2 _ rfl
              have q3 := HBQ.out.is 3 _ rfl
              have q6 := HBQ.out.is 6 _ rfl
              have v0 := HBB.out.is 0 _ rfl
              have v1 := HBB.out.is 1 _ rfl
              have v2 := HBB.out.is 2 _ rfl
              go_wp2_with fail
              refine (refcompare_val _ _ _ _ _ _ _ HCQ2 w102).mono ?_
              rintro e103 w103 ⟨rfl, hb103⟩
              have HB103 : Hid (Below w.heap.size w w103) := Lib.hid (HB102.out.trans (hb103.mono HB102.out.size))
              replace HTL := Lib.hid (HTL.out.below hb103)
              replace HBB := Lib.hid (HBB.out.below hb103 HBB.out.lt)
              replace HBK := Lib.hid (HBK.out.below hb103 HBK.out.lt)
              replace HRK := Lib.hid (HRK.out.belowC hb103)
              replace HBQ := Lib.hid (HBQ.out.below hb103 HBQ.out.lt)
              clear q1 q2 q3 q6 v0 v1 v2
              clear hb103 
              have q1 := HBQ.out.is 1 _ rfl
              have q2 := HBQ.out.is 2 _ rfl
              have q3 := HBQ.out.is 3 _ rfl
              have q6 := HBQ.out.is 6 _ rfl
              have v0 := HBB.out.is 0 _ rfl
              have v1 := HBB.out.is 1 _ rfl
              have v2 := HBB.out.is 2 _ rfl
              go_wp2_with fail
              clear q1 q2 q3 q6 v0 v1 v2
              go_roundw
              case rel => exact ⟨ix + 1, Q1, kz, Az, cz, bs, bu, bo, by omega, by go_num, Lib.hid (by have := HTL.out; rwa [show 1 + 2 * ix + 1 + 1 = 1 + 2 * (ix + 1) by omega] at this), HWQ, HBB, HBK, HRK, HKO, HB103⟩
              case measure => simp [intOf]; omega
      by_cases k6 : kd = 6
      · as_aux_lemma =>
        subst k6
        have d0 := HBD.out.is 0 _ rfl
        replace HWH : Hid (WhI (forgetS S) k kp (bs, bu, bo)) := Lib.hid (wh_forget HTL.out.ok HWH.out)
        go_wp2_with fail
        refine (HTL.out.forget (by have := HQB.out; omega)).mono ?_
        rintro e22 w22 ⟨rfl, ht22, tu22⟩
        replace HBB := Lib.hid (HBB.out.touchT tu22 HNB.out)
        replace HBK := Lib.hid (HBK.out.touchT tu22 HNK.out)
        replace HRK := Lib.hid (HRK.out.touch (tu22.mono HFO.out))
        replace HRE := Lib.hid (HRE.out.touch (tu22.mono HFO.out))
        replace HBD := Lib.hid (HBD.out.touchT tu22 HND.out)
        replace HTL := Lib.hid ht22
        have HB22 : Hid (Below w.heap.size w w22) := Lib.hid ht22.bel
        clear d0
        clear ht22 tu22 
        have d0 := HBD.out.is 0 _ rfl
        obtain ⟨⟨Q1, ⟨⟨qk, qs, qu, qo, qh, qv⟩, qw, qt⟩, qr⟩, hQ⟩ : ∃ Q, queryS (forgetS S) k = Q := ⟨_, rfl⟩
        have HWQ : Hid (WhI Q1 k kp (bs, bu, bo)) := Lib.hid (by have h1 := wh_query HTL.out.ok HWH.out k; rw [hQ] at h1; exact h1)
        have HWT : Hid (qr = 0 → qw = true → GeT (qs, qu, qo) (bs, bu, bo)) := Lib.hid fun h1 h2 => by
          have h3 := wh_tells HWH.out (by rw [hQ]; exact h1) (by rw [hQ]; exact h2)
          rw [hQ] at h3
          exact h3
        have HQY := Lib.hid (HTL.out.query k HKM.out (by have := HQB.out; omega))
        rw [hQ] at HQY
        unfold QueryT at HQY
        dsimp only at HQY
        clear hQ
        go_wp2_with fail
        refine (HQY.out).mono ?_
        rintro e23 w23 ⟨Aq, cq, rfl, _, _, ht23, tu23⟩
        replace HBB := Lib.hid (HBB.out.touchT tu23 HNB.out)
        replace HBK := Lib.hid (HBK.out.touchT tu23 HNK.out)
        replace HRK := Lib.hid (HRK.out.touch (tu23.mono HFO.out))
        replace HRE := Lib.hid (HRE.out.touch (tu23.mono HFO.out))
        replace HBD := Lib.hid (HBD.out.touchT tu23 HND.out)
        replace HTL := Lib.hid ht23
        have HB23 : Hid (Below w.heap.size w w23) := Lib.hid ht23.bel
        clear d0
        clear ht23 tu23  HQY
        have d0 := HBD.out.is 0 _ rfl
        clear d0
        unfold repV
        dsimp only
        obtain ⟨w24, hv24⟩ : ∃ V, w23.alloc (.cells #[.string ⟨qk.toArray⟩, .int .i64 qs, .int .i64 qu, .int .i64 qo, .bool qh, .slice Aq qv.length cq, .bool qw, .int .i64 qt] 43) = V := ⟨_, rfl⟩
        have hb24 : Below w23.heap.size w23 w24 := by rw [← hv24]; exact (Below.refl _ _).alloc (Nat.le_refl _) _
        have HBQ : Hid (Blk w24 w23.heap.size 43 #[.string ⟨qk.toArray⟩, .int .i64 qs, .int .i64 qu, .int .i64 qo, .bool qh, .slice Aq qv.length cq, .bool qw, .int .i64 qt]) := Lib.hid (by rw [← hv24]; exact Blk.new _ _ _)
        have HB24 : Hid (Below w.heap.size w w24) := Lib.hid (HB23.out.trans (hb24.mono HB23.out.size))
        replace HTL := Lib.hid (HTL.out.below hb24)
        replace HBB := Lib.hid (HBB.out.below hb24 HBB.out.lt)
        replace HBK := Lib.hid (HBK.out.below hb24 HBK.out.lt)
        replace HRK := Lib.hid (HRK.out.belowC hb24)
        replace HRE := Lib.hid (HRE.out.belowC hb24)
        replace HBD := Lib.hid (HBD.out.below hb24 HBD.out.lt)
        clear hb24
        by_cases hqr : qr = 0
        rotate_left
        · have g8 : (qr == 0) = false := by simpa using hqr
          clear hqr
          go_wp2_with fail
          go_roundw
          case rel => exact ⟨ix + 1, Q1, kp, Ak, ck, bs, bu, bo, by omega, by go_num, Lib.hid (by have := HTL.out; rwa [show 1 + 2 * ix + 1 + 1 = 1 + 2 * (ix + 1) by omega] at this), HWQ, HBB, HBK, HRK, HKO, HB24⟩
          case measure => simp [intOf]; omega
        subst hqr
        cases hqw : qw
        · subst hqw
          have q6 := HBQ.out.is 6 _ rfl
          go_wp2_with fail
          go_roundw
          case rel => exact ⟨ix + 1, Q1, kp, Ak, ck, bs, bu, bo, by omega, by go_num, Lib.hid (by have := HTL.out; rwa [show 1 + 2 * ix + 1 + 1 = 1 + 2 * (ix + 1) by omega] at this), HWQ, HBB, HBK, HRK, HKO, HB24⟩
          case measure => simp [intOf]; omega
        · subst hqw
          obtain ⟨cq2, hcq2⟩ : ∃ cv, cmpT qs qu qo bs bu bo = cv := ⟨_, rfl⟩
          have HCQ2 := Lib.hid hcq2
          have hcq0 : 0 ≤ cq2 := by rw [← hcq2]; exact (geT_iff _ _ _ _ _ _).2 (HWT.out rfl rfl)
          clear hcq2
          have q1 := HBQ.out.is 1 _ rfl
          have q2 := HBQ.out.is 2 _ rfl
          have q3 := HBQ.out.is 3 _ rfl
          have q6 := HBQ.out.is 6 _ rfl
          have v0 := HBB.out.is 0 _ rfl
          have v1 := HBB.out.is 1 _ rfl
          have v2 := HBB.out.is 2 _ rfl
          go_wp2_with fail
          refine (refcompare_val _ _ _ _ _ _ _ HCQ2 w24).mono ?_
          rintro e25 w25 ⟨rfl, hb25⟩
          have HB25 : Hid (Below w.heap.size w w25) := Lib.hid (HB24.out.trans (hb25.mono HB24.out.size))
          replace HTL := Lib.hid (HTL.out.below hb25)
          replace HBB := Lib.hid (HBB.out.below hb25 HBB.out.lt)
          replace HBK := Lib.hid (HBK.out.below hb25 HBK.out.lt)
          replace HRK := Lib.hid (HRK.out.belowC hb25)
          replace HRE := Lib.hid (HRE.out.belowC hb25)
          replace HBD := Lib.hid (HBD.out.below hb25 HBD.out.lt)
          replace HBQ := Lib.hid (HBQ.out.below hb25 HBQ.out.lt)
          clear q1 q2 q3 q6 v0 v1 v2
          clear hb25 
          have q1 := HBQ.out.is 1 _ rfl
          have q2 := HBQ.out.is 2 _ rfl
          have q3 := HBQ.out.is 3 _ rfl
          have q6 := HBQ.out.is 6 _ rfl
          have v0 := HBB.out.is 0 _ rfl
          have v1 := HBB.out.is 1 _ rfl
          have v2 := HBB.out.is 2 _ rfl
          go_wp2_with fail
          clear q1 q2 q3 q6 v0 v1 v2
          go_roundw
          case rel => exact ⟨ix + 1, Q1, kp, Ak, ck, bs, bu, bo, by omega, by go_num, Lib.hid (by have := HTL.out; rwa [show 1 + 2 * ix + 1 + 1 = 1 + 2 * (ix + 1) by omega] at this), HWQ, HBB, HBK, HRK, HKO, HB25⟩
          case measure => simp [intOf]; omega
      · as_aux_lemma =>
        have g2 : (kd == 2) = false := by simpa using k2
        have g3 : (kd == 3) = false := by simpa using k3
        have g4 : (kd == 4) = false := by simpa using k4
        have g6 : (kd == 6) = false := by simpa using k6
        clear k2 k3 k4 k6
        have HST := Lib.hid (HTL.out.evict e.k HDO.out.2 (by have := HQB.out; omega))
        obtain ⟨R, hR⟩ : ∃ R, evictS S e.k = R := ⟨_, rfl⟩
        replace HWH : Hid (WhI R.1 k kp (bs, bu, bo)) := Lib.hid (by rw [← hR]; exact wh_evict HTL.out.ok HWH.out e.k)
        rw [hR] at HST
        clear hR
        have d0 := HBD.out.is 0 _ rfl
        have d1 := HBD.out.is 1 _ rfl
        go_wp2_with fail
        refine (HST.out).mono ?_
        rintro e22 w22 ⟨rfl, ht22, tu22⟩
        replace HBB := Lib.hid (HBB.out.touchT tu22 HNB.out)
        replace HBK := Lib.hid (HBK.out.touchT tu22 HNK.out)
        replace HRK := Lib.hid (HRK.out.touch (tu22.mono HFO.out))
        replace HRE := Lib.hid (HRE.out.touch (tu22.mono HFO.out))
        replace HBD := Lib.hid (HBD.out.touchT tu22 HND.out)
        replace HTL := Lib.hid ht22
        have HB22 : Hid (Below w.heap.size w w22) := Lib.hid ht22.bel
        clear d0 d1
        clear ht22 tu22  HST
        have d0 := HBD.out.is 0 _ rfl
        have d1 := HBD.out.is 1 _ rfl
        obtain ⟨⟨Q1, ⟨⟨qk, qs, qu, qo, qh, qv⟩, qw, qt⟩, qr⟩, hQ⟩ : ∃ Q, queryS R.1 k = Q := ⟨_, rfl⟩
        have HWQ : Hid (WhI Q1 k kp (bs, bu, bo)) := Lib.hid (by have h1 := wh_query HTL.out.ok HWH.out k; rw [hQ] at h1; exact h1)
        have HWT : Hid (qr = 0 → qw = true → GeT (qs, qu, qo) (bs, bu, bo)) := Lib.hid fun h1 h2 => by
          have h3 := wh_tells HWH.out (by rw [hQ]; exact h1) (by rw [hQ]; exact h2)
          rw [hQ] at h3
          exact h3
        have HQY := Lib.hid (HTL.out.query k HKM.out (by have := HQB.out; omega))
        rw [hQ] at HQY
        unfold QueryT at HQY
        dsimp only at HQY
        clear hQ
        go_wp2_with fail
        refine (HQY.out).mono ?_
        rintro e23 w23 ⟨Aq, cq, rfl, _, _, ht23, tu23⟩
        replace HBB := Lib.hid (HBB.out.touchT tu23 HNB.out)
        replace HBK := Lib.hid (HBK.out.touchT tu23 HNK.out)
        replace HRK := Lib.hid (HRK.out.touch (tu23.mono HFO.out))
        replace HRE := Lib.hid (HRE.out.touch (tu23.mono HFO.out))
        replace HBD := Lib.hid (HBD.out.touchT tu23 HND.out)
        replace HTL := Lib.hid ht23
        have HB23 : Hid (Below w.heap.size w w23) := Lib.hid ht23.bel
        clear d0 d1
        clear ht23 tu23  HQY
        have d0 := HBD.out.is 0 _ rfl
        have d1 := HBD.out.is 1 _ rfl
        clear d0 d1
        unfold repV
        dsimp only
        obtain ⟨w24, hv24⟩ : ∃ V, w23.alloc (.cells #[.string ⟨qk.toArray⟩, .int .i64 qs, .int .i64 qu, .int .i64 qo, .bool qh, .slice Aq qv.length cq, .bool qw, .int .i64 qt] 43) = V := ⟨_, rfl⟩
        have hb24 : Below w23.heap.size w23 w24 := by rw [← hv24]; exact (Below.refl _ _).alloc (Nat.le_refl _) _
        have HBQ : Hid (Blk w24 w23.heap.size 43 #[.string ⟨qk.toArray⟩, .int .i64 qs, .int .i64 qu, .int .i64 qo, .bool qh, .slice Aq qv.length cq, .bool qw, .int .i64 qt]) := Lib.hid (by rw [← hv24]; exact Blk.new _ _ _)
        have HB24 : Hid (Below w.heap.size w w24) := Lib.hid (HB23.out.trans (hb24.mono HB23.out.size))
        replace HTL := Lib.hid (HTL.out.below hb24)
        replace HBB := Lib.hid (HBB.out.below hb24 HBB.out.lt)
        replace HBK := Lib.hid (HBK.out.below hb24 HBK.out.lt)
        replace HRK := Lib.hid (HRK.out.belowC hb24)
        replace HRE := Lib.hid (HRE.out.belowC hb24)
        replace HBD := Lib.hid (HBD.out.below hb24 HBD.out.lt)
        clear hb24
        by_cases hqr : qr = 0
        rotate_left
        · have g8 : (qr == 0) = false := by simpa using hqr
          clear hqr
          go_wp2_with fail
          go_roundw
          case rel => exact ⟨ix + 1, Q1, kp, Ak, ck, bs, bu, bo, by omega, by go_num, Lib.hid (by have := HTL.out; rwa [show 1 + 2 * ix + 1 + 1 = 1 + 2 * (ix + 1) by omega] at this), HWQ, HBB, HBK, HRK, HKO, HB24⟩
          case measure => simp [intOf]; omega
        subst hqr
        cases hqw : qw
        · subst hqw
          have q6 := HBQ.out.is 6 _ rfl
          go_wp2_with fail
          go_roundw
          case rel => exact ⟨ix + 1, Q1, kp, Ak, ck, bs, bu, bo, by omega, by go_num, Lib.hid (by have := HTL.out; rwa [show 1 + 2 * ix + 1 + 1 = 1 + 2 * (ix + 1) by omega] at this), HWQ, HBB, HBK, HRK, HKO, HB24⟩
          case measure => simp [intOf]; omega
        · subst hqw
          obtain ⟨cq2, hcq2⟩ : ∃ cv, cmpT qs qu qo bs bu bo = cv := ⟨_, rfl⟩
          have HCQ2 := Lib.hid hcq2
          have hcq0 : 0 ≤ cq2 := by rw [← hcq2]; exact (geT_iff _ _ _ _ _ _).2 (HWT.out rfl rfl)
          clear hcq2
          have q1 := HBQ.out.is 1 _ rfl
          have q2 := HBQ.out.is 2 _ rfl
          have q3 := HBQ.out.is 3 _ rfl
          have q6 := HBQ.out.is 6 _ rfl
          have v0 := HBB.out.is 0 _ rfl
          have v1 := HBB.out.is 1 _ rfl
          have v2 := HBB.out.is 2 _ rfl
          go_wp2_with fail
          refine (refcompare_val _ _ _ _ _ _ _ HCQ2 w24).mono ?_
          rintro e25 w25 ⟨rfl, hb25⟩
          have HB25 : Hid (Below w.heap.size w w25) := Lib.hid (HB24.out.trans (hb25.mono HB24.out.size))
          replace HTL := Lib.hid (HTL.out.below hb25)
          replace HBB := Lib.hid (HBB.out.below hb25 HBB.out.lt)
          replace HBK := Lib.hid (HBK.out.below hb25 HBK.out.lt)
          replace HRK := Lib.hid (HRK.out.belowC hb25)
          replace HRE := Lib.hid (HRE.out.belowC hb25)
          replace HBD := Lib.hid (HBD.out.below hb25 HBD.out.lt)
          replace HBQ := Lib.hid (HBQ.out.below hb25 HBQ.out.lt)
          clear q1 q2 q3 q6 v0 v1 v2
          clear hb25 
          have q1 := HBQ.out.is 1 _ rfl
          have q2 := HBQ.out.is 2 _ rfl
          have q3 := HBQ.out.is 3 _ rfl
          have q6 := HBQ.out.is 6 _ rfl
          have v0 := HBB.out.is 0 _ rfl
          have v1 := HBB.out.is 1 _ rfl
          have v2 := HBB.out.is 2 _ rfl
          go_wp2_with fail
          clear q1 q2 q3 q6 v0 v1 v2
          go_roundw
          case rel => exact ⟨ix + 1, Q1, kp, Ak, ck, bs, bu, bo, by omega, by go_num, Lib.hid (by have := HTL.out; rwa [show 1 + 2 * ix + 1 + 1 = 1 + 2 * (ix + 1) by omega] at this), HWQ, HBB, HBK, HRK, HKO, HB25⟩
          case measure => simp [intOf]; omega
    · have hki2 : ¬ (ix : Int) < (n : Int) := by omega
      go_wp2_with (go_at_call 11; refine (known11_any _).mono ?_; rintro e181 w181 ⟨rfl, hb181⟩)
      go_ret
      exact ⟨rfl, HBL.out.trans (hb181.mono HBL.out.size)⟩
end Go.Proofs.Ytkljcoecgmpgpaa
