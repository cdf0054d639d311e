/- The law StoreGets, walked. -/
import Derived.Test.YtkleecaghgpndaaGreatLaw8
namespace Go.Proofs.YtkleecaghgpndaaGreat
open Go.RowKit Go.ChangeShapes Mem Be Word Frm Go.Maps
set_option maxRecDepth 100000
set_option maxHeartbeats 4000000
set_option linter.unusedVariables false
theorem gets8_walk (A : Option Addr) (rs : List D8) (n c : Nat) (key : List UInt8) (hkey : key.length ≤ maxLen) (hn : n = rs.length) (hnl : n ≤ 1466015503701) (w : World) (h : InD8 w A rs) :
    Calls Tryz.prog 7 #[.slice A n c, .string ⟨key.toArray⟩] w (IsT true w) := by
  have HLG := Lib.hid (long8_any n c A rs hn (by unfold maxLen; omega) w h)
  have HIN := Lib.hid h
  have HN := Lib.hid hn
  have HNL := Lib.hid hnl
  have HKY := Lib.hid hkey
  have hni : (n : Int) ≤ 1466015503701 := by omega
  have hni0 : (0 : Int) ≤ (n : Int) := by omega
  have hkl : (key.length : Int) ≤ 9223372036854775807 := by unfold maxLen at hkey; omega
  clear h hn hnl hkey
  have fin : ∀ w1, Below w.heap.size w w1 → Calls Tryz.prog 10 #[] w1 (IsT true w) := fun w1 hb => (known8_any w1).mono fun e w2 ⟨he, hb2⟩ => ⟨he, hb.trans (hb2.mono hb.size)⟩
  have FIN := Lib.hid fin
  clear fin
  go_enter Tryz.func7, Tryz.ntmps7
  go_wp2_with fail
  refine HLG.out.mono ?_
  rintro e w0 ⟨⟨lb, rfl⟩, hb⟩
  have HB0 := Lib.hid hb
  clear HLG hb
  by_cases hlb : 1500 < lb
  · go_wp2_with fail
    refine (FIN.out _ HB0.out).mono ?_
    rintro e w1 ⟨rfl, hb⟩
    have HB := Lib.hid hb
    clear hb
    go_wp2
    go_ret
    exact ⟨rfl, HB.out⟩
  have hlb2 : lb ≤ 1500 := by omega
  clear hlb
  by_cases hkb : (300 : Int) < (key.length : Int)
  · go_wp2_with fail
    refine (FIN.out _ HB0.out).mono ?_
    rintro e w1 ⟨rfl, hb⟩
    have HB := Lib.hid hb
    clear hb
    go_wp2
    go_ret
    exact ⟨rfl, HB.out⟩
  have hkb2 : (key.length : Int) ≤ 300 := by omega
  clear hkb
  go_wp2_with fail
  refine (newst_any w0).mono ?_
  rintro e w1 ⟨g0, F0, rfl, hF, hd, hb⟩
  have HK0 : Hid (St1 w w1 F0 g0 st0 0) := Lib.hid ⟨fun k hk => Nat.le_trans HB0.out.size (hF k hk), hd, HB0.out.trans (hb.mono HB0.out.size)⟩
  simp only [id]
  clear hF hd hb
  go_wp2_with fail
  go_loopw [5, 6] (fun z i wr => ∃ k : Nat, k ≤ n ∧ i = .int .i64 k ∧ ∃ g, z = .pointer (some ⟨g, 0, none⟩) ∧ Hid (∃ F S q, q ≤ k ∧ S.acks.length ≤ k ∧ LeN S ∧ St1 w wr F g S q)) (fun _ i _ => n - (intOf i).toNat)
  case atStart => exact ⟨0, by omega, rfl, g0, rfl, Lib.hid ⟨F0, st0, 0, by omega, Nat.le_refl _, leN_st0, HK0.out⟩⟩
  case round =>
    obtain ⟨k, hk, rfl, g, rfl, HK⟩ := hrel
    obtain ⟨F, S, q, hq, ha, hle, hd⟩ := HK.out
    have HD := Lib.hid hd
    have HQ := Lib.hid hq
    have HA := Lib.hid ha
    have HLE := Lib.hid hle
    clear HK hd hq ha hle HK0
    by_cases hlt : k < n
    · have hk1 : k < rs.length := by rw [← HN.out]; exact hlt
      obtain ⟨b, o, rfl, _, hc⟩ := d8s_open (HIN.out wr HD.out.bel).1 (by omega)
      have d0 := hc k hk1 0 _ rfl
      have d1 := hc k hk1 1 _ rfl
      have d2 := hc k hk1 2 _ rfl
      have d3 := hc k hk1 3 _ rfl
      have d4 := hc k hk1 4 _ rfl
      have d5 := hc k hk1 5 _ rfl
      have d6 := hc k hk1 6 _ rfl
      have d7 := hc k hk1 7 _ rfl
      have d8 := hc k hk1 8 _ rfl
      rw [Nat.add_zero] at d0
      have C := done8_round HIN.out HD.out hk1 (by have := HQ.out; have := HNL.out; omega) (by have := HA.out; have := HNL.out; omega)
      have hstep := d8S_acks S rs[k]
      have hle2 := leN_step HLE.out rs[k]
      obtain ⟨R, hR⟩ : ∃ R, d8S S rs[k] = R := ⟨_, rfl⟩
      rw [hR] at C hstep hle2
      unfold dV at C
      obtain ⟨⟨kd, ⟨⟨ek, es, eu, eo, eh, ev⟩, eA, ec⟩, ew, kp⟩, hy1⟩ : ∃ y, rs[k] = y := ⟨_, rfl⟩
      rw [hy1] at d0 d1 d2 d3 d4 d5 d6 d7 d8 C
      simp only at d0 d1 d2 d3 d4 d5 d6 d7 d8 C
      have HC := Lib.hid C
      have HAS : Hid (R.1.acks.length ≤ k + 1) := Lib.hid (by have := HA.out; omega)
      have HLE2 := Lib.hid hle2
      have hki : (0 : Int) ≤ (k : Int) := by omega
      have hki2 : (k : Int) < (n : Int) := by omega
      clear hc hy1 C hR hstep hle2 HLE HA
      go_wp2_with fail
      refine HC.out.mono ?_
      intro e w2 hx
      obtain ⟨g2, F2, q2, A2, c2, rfl, hq2, hl2, _, _⟩ := HD.out.done hx
      have HL2 := Lib.hid hl2
      have HQ2 : Hid (q2 ≤ k + 1) := Lib.hid (by have := HQ.out; omega)
      clear hx hq2 hl2 HC d0 d1 d2 d3 d4 d5 d6 d7 d8 HD HQ
      have hGE := (HLE2.out key).le
      have HG1 := Lib.hid (ofT_len HL2.out.at_.ok.lOk key)
      have HG2 := Lib.hid (ofT_len HL2.out.at_.ok.nOk key)
      have HGK1 := Lib.hid (ofT_key R.1.L key)
      have HGK2 := Lib.hid (ofT_key R.1.N key)
      have CG := get_any8 F2 g2 q2 R.1 key HKY.out
      have CN := getnew_any8 F2 g2 q2 R.1 key HKY.out
      obtain ⟨x1, hx1⟩ : ∃ x, ofT R.1.L key = x := ⟨_, rfl⟩
      obtain ⟨x2, hx2⟩ : ∃ x, ofT R.1.N key = x := ⟨_, rfl⟩
      rw [hx1] at hGE HG1 HGK1 CG
      rw [hx2] at hGE HG2 HGK2 CN
      unfold cmpE at hGE
      obtain ⟨cc, hcc⟩ : ∃ q, cmpT x1.s x1.u x1.o x2.s x2.u x2.o = q := ⟨_, rfl⟩
      rw [hcc] at hGE
      have HCC := Lib.hid hcc
      have HCG := Lib.hid CG
      have HCN := Lib.hid CN
      clear CG CN hx1 hx2 hcc
      go_wp2_with fail
      refine (HCG.out w2 HL2.out.at_).mono ?_
      intro e w3 hx
      obtain ⟨A3, c3, rfl, _, _, hb3⟩ := getP_open HGK1.out HG1.out hx
      have HB3 := Lib.hid (hb3.alloc hb3.size (.cells #[.string ⟨key.toArray⟩, .int .i64 x1.s, .int .i64 x1.u, .int .i64 x1.o, .bool x1.has, .slice A3 x1.v.length c3] 45))
      have HBK := Lib.hid (Blk.new w3 45 #[.string ⟨key.toArray⟩, .int .i64 x1.s, .int .i64 x1.u, .int .i64 x1.o, .bool x1.has, .slice A3 x1.v.length c3])
      have HL3 := Lib.hid (HL2.out.below HB3.out)
      clear hx hb3 HCG HL2
      go_wp2_with fail
      refine (HCN.out _ HL3.out.at_).mono ?_
      intro e w5 hx
      obtain ⟨A5, c5, rfl, _, _, hb5⟩ := getP_open HGK2.out HG2.out hx
      have HB5 := Lib.hid hb5
      have HL5 := Lib.hid (HL3.out.below hb5)
      have HBK2 := Lib.hid ((HBK.out.below hb5 HBK.out.lt).alloc (.cells #[.string ⟨key.toArray⟩, .int .i64 x2.s, .int .i64 x2.u, .int .i64 x2.o, .bool x2.has, .slice A5 x2.v.length c5] 45))
      have HBK3 := Lib.hid (Blk.new w5 45 #[.string ⟨key.toArray⟩, .int .i64 x2.s, .int .i64 x2.u, .int .i64 x2.o, .bool x2.has, .slice A5 x2.v.length c5])
      have HL6 := Lib.hid (HL5.out.below ((Below.refl _ _).alloc (Nat.le_refl _) (.cells #[.string ⟨key.toArray⟩, .int .i64 x2.s, .int .i64 x2.u, .int .i64 x2.o, .bool x2.has, .slice A5 x2.v.length c5] 45)))
      have u0 := HBK2.out.cell 0
      have u1 := HBK2.out.cell 1
      have u2 := HBK2.out.cell 2
      have u3 := HBK2.out.cell 3
      simp only [List.getElem?_toArray, List.getElem?_cons_zero, List.getElem?_cons_succ] at u0 u1 u2 u3
      clear hx hb5 HCN HL3 HB3 HB5 HL5
      go_wp2_with fail
      refine (refcompare_val x1.s x1.u x1.o x2.s x2.u x2.o cc HCC _).mono ?_
      rintro e w7 ⟨rfl, hb7⟩
      have HL7 := Lib.hid (HL6.out.below hb7)
      have HK2 : Hid (∃ F S q, q ≤ k + 1 ∧ S.acks.length ≤ k + 1 ∧ LeN S ∧ St1 w w7 F g2 S q) := Lib.hid ⟨F2, R.1, q2, HQ2.out, HAS.out, HLE2.out, HL7.out⟩
      clear hb7 HL6 u0 u1 u2 u3
      go_wp2
      go_roundw
      case rel => exact ⟨k + 1, by omega, by go_num, g2, rfl, HK2⟩
      case measure => simp [intOf]; omega
    · obtain rfl : k = n := by omega
      have hal : (S.acks.length : Int) ≤ 1466015503701 := by have := HA.out; omega
      have hal0 : (0 : Int) ≤ (S.acks.length : Int) := by omega
      go_wp2_with fail
      refine (waiting_any8 F g q S wr HD.out.at_).mono ?_
      rintro e w2 ⟨rfl, rfl⟩
      go_wp2_with fail
      refine (tick_any8 F g q S (by have := HQ.out; have := HNL.out; omega) wr HD.out.at_).mono ?_
      rintro e w3 ⟨F3, A3, c3, q3, rfl, _, _, hf, _, hs, ht⟩
      have HL3 := Lib.hid (HD.out.to hf hs ht)
      clear hf hs ht HD
      go_wp2_with fail
      refine (waiting_any8 F3 g q3 (tickS S) w3 HL3.out.at_).mono ?_
      rintro e w4 ⟨rfl, rfl⟩
      simp only [tickS, List.length_nil]
      have HG2 := Lib.hid (ofT_len HL3.out.at_.ok.nOk key)
      have HGK := Lib.hid (ofT_key S.N key)
      have HCG : Hid (∀ W, StAt W F3 g (tickS S) q3 → Calls Tryz.prog 17 #[.pointer (some ⟨g, 0, none⟩), .string ⟨key.toArray⟩] W (GetP (ofT S.N key) W)) := Lib.hid (get_any8 F3 g q3 (tickS S) key HKY.out)
      have HCN : Hid (∀ W, StAt W F3 g (tickS S) q3 → Calls Tryz.prog 19 #[.pointer (some ⟨g, 0, none⟩), .string ⟨key.toArray⟩] W (GetP (ofT S.N key) W)) := Lib.hid (getnew_any8 F3 g q3 (tickS S) key HKY.out)
      have HG3 : Hid ((ofT S.N key).v.length ≤ 60000) := Lib.hid HG2.out
      obtain ⟨x, hx⟩ : ∃ x, ofT S.N key = x := ⟨_, rfl⟩
      rw [hx] at HGK HCG HCN HG3
      clear HG2 hx
      go_wp2_with fail
      refine (HCG.out w3 HL3.out.at_).mono ?_
      intro e w5 hx
      obtain ⟨A5, c5, rfl, hv5, _, hb5⟩ := getP_open HGK.out HG3.out hx
      have HV5 := Lib.hid hv5
      have HL5 := Lib.hid (HL3.out.below hb5)
      clear hx hv5 hb5 HL3 HCG
      go_wp2_with fail
      refine (HCN.out w5 HL5.out.at_).mono ?_
      intro e w6 hx
      obtain ⟨A6, c6, rfl, hv6, _, hb6⟩ := getP_open HGK.out HG3.out hx
      have HV6 := Lib.hid hv6
      have HV56 := Lib.hid (HV5.out.below hb6)
      have HL6 := Lib.hid (HL5.out.below hb6)
      clear hx hv6 hb6 HL5 HCN
      go_wp2_with fail
      refine (refsame_true _ _ _ _ _ A5 A6 x.v c5 c6 x.v.length x.v.length rfl rfl w6 HV56.out HV6.out).mono ?_
      rintro e w7 ⟨rfl, hb7⟩
      have HL7 := Lib.hid (HL6.out.below hb7)
      clear hb7 HL6
      go_wp2_with fail
      refine (FIN.out w7 HL7.out.bel).mono ?_
      rintro e w8 ⟨rfl, hb8⟩
      have HB8 := Lib.hid hb8
      clear hb8
      go_wp2
      go_ret
      exact ⟨rfl, HB8.out⟩
end Go.Proofs.YtkleecaghgpndaaGreat
