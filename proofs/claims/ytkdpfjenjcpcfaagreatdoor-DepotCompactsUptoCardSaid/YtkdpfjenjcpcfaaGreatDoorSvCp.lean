/- SvCp: The law DepotCompacts, walked (written by tools/gen_svcp.py). -/
import Derived.Test.YtkdpfjenjcpcfaaGreatDoorSvW
import Derived.Test.YtkdpfjenjcpcfaaGreatDoorRely
import Derived.Deep.MidRow
namespace Go.Proofs.YtkdpfjenjcpcfaaGreatDoor
open Go.RowKit Go.ChangeShapes Mem Be Word Frm Go.Maps Rg
set_option maxRecDepth 100000
set_option maxHeartbeats 1500000
set_option linter.unusedVariables false
set_option linter.unusedSimpArgs false
/-- What All told of a table. -/
def AllOf (N : List EntP) (w : World) (A : Option Addr) : Prop := ∃ xs : List EV, xs.length = N.length ∧ xs.map Prod.fst = N ∧ EnV w A xs
theorem made_later {N : List EntP} {w1 w2 : World} {A : Option Addr} (h : AllOf N w1 A) (hb : Below w1.heap.size w1 w2) : AllOf N w2 A := by
  obtain ⟨xs, h1, h2, h3⟩ := h
  exact ⟨xs, h1, h2, h3.below hb⟩
theorem row_later {w1 w2 : World} {has : Bool} {A : Option Addr} {xs : List UInt8} {c : Nat} (h : ValOk w1 has A xs c) (hb : Below w1.heap.size w1 w2) : ValOk w2 has A xs c := h.below hb
theorem compacts14_walk (A : Option Addr) (rs : List O14) (n c : Nat) (key : List UInt8) (hkm : key.length ≤ maxLen) (hn : n = rs.length) (hnl : n ≤ 1048576) (hL : lenO rs ≤ 9000000000000000000) (w : World) (ht : KT w) (h : InO w A rs) :
    Calls Tryz.prog 8 #[.slice A n c, .string ⟨key.toArray⟩] w (IsT14 w) := by
  have HN := Lib.hid hn
  have HNL := Lib.hid hnl
  have HLG := Lib.hid (long14x n c A rs hn (by unfold maxLen; omega) hL _ h)
  obtain ⟨L, hLx⟩ : ∃ L, lenO rs = L := ⟨_, rfl⟩
  rw [hLx] at HLG
  have HLX := Lib.hid hLx
  have HIN0 := Lib.hid h
  have HT0 := Lib.hid ht
  have HKM := Lib.hid hkm
  have hni : (n : Int) ≤ 1048576 := by omega
  have hni0 : (0 : Int) ≤ (n : Int) := by omega
  have hkl : (key.length : Int) ≤ 9223372036854775807 := by unfold maxLen at hkm; omega
  have fin : ∀ w1, Below w.heap.size w w1 → Calls Tryz.prog 10 #[] w1 (IsT14 w) := fun w1 hb => (known14_any w1 (ht.below hb)).mono fun e w2 ⟨he, hb2⟩ => ⟨he, hb.trans (hb2.mono hb.size)⟩
  have FIN := Lib.hid fin
  clear fin h hn hnl ht hL hLx hkm
  go_enter Tryz.func8, Tryz.ntmps8
  go_wp2_with fail
  refine HLG.out.mono ?_
  rintro e w3 ⟨rfl, hb⟩
  have HB3 := Lib.hid hb
  clear hb HLG
  by_cases hlb : 1500 < L
  · have hlb1 : decide ((1500 : Int) < (L : Int)) = true := decide_eq_true (by omega)
    go_wp2_with fail
    refine (FIN.out _ HB3.out).mono ?_
    rintro e wf ⟨rfl, hbf⟩
    have HBF := Lib.hid hbf
    clear hbf
    go_wp2
    go_ret
    exact ⟨rfl, HBF.out⟩
  have hlb1 : decide ((1500 : Int) < (L : Int)) = false := decide_eq_false (by omega)
  have HLB : Hid (L ≤ 1500) := Lib.hid (by omega)
  clear hlb
  by_cases hk0 : key.length = 0
  · have hk0i : ((key.length : Int) == 0) = true := by simpa using hk0
    go_wp2_with fail
    refine (FIN.out _ HB3.out).mono ?_
    rintro e wf ⟨rfl, hbf⟩
    have HBF := Lib.hid hbf
    clear hbf
    go_wp2
    go_ret
    exact ⟨rfl, HBF.out⟩
  have hk0i : ((key.length : Int) == 0) = false := by simpa using hk0
  by_cases hk1 : 250 < key.length
  · have hk1i : decide ((250 : Int) < (key.length : Int)) = true := decide_eq_true (by omega)
    go_wp2_with fail
    refine (FIN.out _ HB3.out).mono ?_
    rintro e wf ⟨rfl, hbf⟩
    have HBF := Lib.hid hbf
    clear hbf
    go_wp2
    go_ret
    exact ⟨rfl, HBF.out⟩
  have hk1i : decide ((250 : Int) < (key.length : Int)) = false := decide_eq_false (by omega)
  clear hk0 hk1
  have HIN := Lib.hid (HIN0.out.move HB3.out)
  have HT := Lib.hid (HT0.out.below HB3.out)
  clear HIN0 HT0
  go_wp2_with fail
  refine (newsv_any w3).mono ?_
  rintro e w4 ⟨g0, F0, rfl, hF, hd, hb⟩
  have HK0 : Hid (Sv1 w3 w4 F0 g0 st0 [] 0) := Lib.hid ⟨hF, hd, hb⟩
  simp only [id]
  clear hF hd hb hlb1 hk0i hk1i
  go_wp2_with fail
  go_loopw [5, 6] (fun z i wr => ∃ k : Nat, k ≤ n ∧ i = .int .i64 k ∧ ∃ g, z = .pointer (some ⟨g, 0, none⟩) ∧ Hid (∃ F S ps q, q ≤ k ∧ Sv1 w3 wr F g S ps q ∧ RunI S ps k ∧ InvW S (3 * lenO (rs.take k)))) (fun _ i _ => n - (intOf i).toNat)
  case atStart => exact ⟨0, by omega, rfl, g0, rfl, Lib.hid ⟨F0, st0, [], 0, Nat.le_refl _, HK0.out, runI_new, invW_st0⟩⟩
  case round =>
    obtain ⟨k, hk, rfl, g, rfl, HK⟩ := hrel
    obtain ⟨F, S, ps, q, hq, hd, hr, hw⟩ := HK.out
    have HD := Lib.hid hd
    have HR := Lib.hid hr
    have HQ := Lib.hid hq
    have HW := Lib.hid hw
    clear HK hd hr hq HK0 hw
    by_cases hlt : k < n
    · have hkr : k < rs.length := by rw [← HN.out]; exact hlt
      obtain ⟨b, o, rfl, _, hc0⟩ := os_open (HIN.out.rowAt HD.out.bel) (by omega)
      have hc := hc0 k hkr
      have C := done14_round HIN.out HT.out HD.out hkr (by have := HQ.out; have := HNL.out; omega) HR.out (by have := HNL.out; omega)
      have hwr := invW_round14 (ps := ps) hkr HW.out HD.out.at_.ok HD.out.at_.short
      obtain ⟨r, hr1⟩ : ∃ r, rs[k]'hkr = r := ⟨_, rfl⟩
      rw [hr1] at hc C hwr
      have hrs := fun w1 F1 g1 q1 h => runI_step (w1 := w1) (F1 := F1) (g1 := g1) (q1 := q1) HR.out r.kind (mP r.m) r.kept HD.out.at_ h
      obtain ⟨R, hR⟩ : ∃ R, opS S ps r.kind (mP r.m) r.kept = R := ⟨_, rfl⟩
      rw [hR] at C hrs hwr
      have HC := Lib.hid C
      have HCE : Hid (wr.rangeAt b (o + k * 19) (oC r)) := Lib.hid hc
      have HRS := Lib.hid hrs
      have HWR := Lib.hid hwr
      have hki : (0 : Int) ≤ (k : Int) := by omega
      have hki2 : (k : Int) < (n : Int) := by omega
      clear hc hc0 C hrs hR hr1 hwr
      go_wp2_with (refine wpList_load_mid rfl 53 _ rfl b (o + k * 19) rfl (oC r) _ (show _ from HCE.out) Tryz.underlying53 rfl (by kernel_rfl) ?_)
      refine HC.out.mono ?_
      rintro e w9 ⟨g2, F2, q2, us, A2, c9, rfl, hu, hn, hf, hq2, hs, htt⟩
      have HK9 : Hid (∃ F S ps q, q ≤ k + 1 ∧ Sv1 w3 w9 F g2 S ps q ∧ RunI S ps (k + 1) ∧ InvW S (3 * lenO (rs.take (k + 1)))) := Lib.hid ⟨F2, R.S, R.ps, q2, by have := HQ.out; omega, HD.out.to hf hs htt, HRS.out _ _ _ _ hs, HWR.out⟩
      obtain ⟨N2, hN2⟩ : ∃ N, us.length = N := ⟨_, rfl⟩
      obtain ⟨e2, he2⟩ : ∃ e, R.err = e := ⟨_, rfl⟩
      rw [hN2, he2]
      clear hu hn hf hq2 hs htt hN2 he2 HC HRS HCE HWR
      go_wp2
      go_roundw
      case rel => exact ⟨k + 1, by omega, by go_num, g2, rfl, HK9⟩
      case measure => simp [intOf]; omega
    · obtain rfl : k = n := by omega
      have HFIN : Hid (∀ W, Below w3.heap.size w3 W → Below w.heap.size w W) := Lib.hid fun W hb => HB3.out.trans (hb.mono HB3.out.size)
      have hwl : InvW S 4500 := HW.out.more (by
        have h1 := HLX.out
        have h2 := HLB.out
        have h3 : rs.take k = rs := by rw [HN.out]; exact List.take_length
        rw [h3]; omega)
      have HCO := Lib.hid (comp_ok hwl HD.out.at_.ok (by omega))
      have hq0 := HQ.out
      have hac0 := HR.out.acks
      have hps0 := HR.out.put
      have HACK : Hid (S.acks.length ≤ 1048576) := Lib.hid (by omega)
      have HKEYS : Hid (∀ a ∈ S.acks, a.k.length ≤ maxLen) := Lib.hid fun a ha => by have := (HR.out.keys a ha).2; unfold maxLen; omega
      have HQ2 : Hid (q ≤ 1048576) := Lib.hid (by omega)
      have HCC := Lib.hid (svcopy_any F g q S ps HR.out.cp (by omega) wr HD.out.at_)
      have HOK := Lib.hid HD.out.at_.ok
      clear hwl hq0 hac0 hps0 HW HQ HR hlt
      go_wp2_with fail
      refine HCC.out.mono ?_
      rintro e w6 ⟨gc, Fc, rfl, hFc, hsc, hb⟩
      have HC6 : Hid (Sv1 w3 w6 Fc gc S ps q) := Lib.hid (HD.out.new_ hFc hsc hb)
      have HA6 : Hid (∀ j, F j → ¬ Fc j) := Lib.hid fun j h1 h2 => by have h3 := hFc j h2; have h4 := HD.out.at_.lt j h1; omega
      have HD6 := Lib.hid (HD.out.below hb)
      have HCM0 := svcompact_any F g q S ps w6 HD6.out.at_
      rw [HCO.out] at HCM0
      obtain ⟨SC, hSC⟩ : ∃ SC : St8, SC = ⟨[(0, rowsT S.N)], 1, S.N, S.N, S.acks⟩ := ⟨_, rfl⟩
      rw [← hSC] at HCM0
      have HSC := Lib.hid hSC
      have HCM := Lib.hid HCM0
      simp only [id]
      clear hFc hsc hb HD HCC HCM0 hSC HCO
      go_wp2_with fail
      refine HCM.out.mono ?_
      rintro e w7 ⟨rfl, F7, hf, hs, htt⟩
      have HD7 := Lib.hid (HD6.out.to hf hs htt)
      have HC7 := Lib.hid (HC6.out.touch htt (fun j x y => HA6.out j y x) HD6.out.new)
      have HA7 : Hid (∀ j, F7 j → ¬ Fc j) := Lib.hid (apart_step HA6.out hf HC6.out.at_.lt)
      have HCR : Hid (Calls Tryz.prog 33 #[.pointer (some ⟨g, 0, none⟩), .int .i64 0] w7 (NewSv (fun p => .tuple #[p, .int .i64 0]) (crash8S SC 0) [] q w7)) := Lib.hid (svcrash_any F7 g q 0 SC ps w7 HD7.out.at_)
      have HLC : Hid ((crash8S SC 0).L = S.N) := Lib.hid (by
        have h1 := HD7.out.at_.short
        rw [HSC.out] at h1 ⊢
        exact crash_comp HOK.out h1)
      obtain ⟨SX, hSX⟩ : ∃ SX, crash8S SC 0 = SX := ⟨_, rfl⟩
      rw [hSX] at HCR HLC
      clear hf hs htt HD6 HC6 HA6 HCM hSX
      go_wp2_with fail
      refine HCR.out.mono ?_
      rintro e w8 ⟨gd, Fd, rfl, hFd, hsd, hb⟩
      have HE8 : Hid (Sv1 w3 w8 Fd gd SX [] q) := Lib.hid (HD7.out.new_ hFd hsd hb)
      have HB8 : Hid (∀ j, F7 j → ¬ Fd j) := Lib.hid fun j h1 h2 => by have h3 := hFd j h2; have h4 := HD7.out.at_.lt j h1; omega
      have HB9 : Hid (∀ j, Fc j → ¬ Fd j) := Lib.hid fun j h1 h2 => by have h3 := hFd j h2; have h4 := HC7.out.at_.lt j h1; omega
      have HD8 := Lib.hid (HD7.out.below hb)
      have HC8 := Lib.hid (HC7.out.below hb)
      have hsa : SC.acks = S.acks := by rw [HSC.out]
      have HTK0 := svtick_any F7 g q SC ps (by have := HQ2.out; omega) (by rw [hsa]; have := HACK.out; omega) w8 HD8.out.at_
      unfold SvFmP at HTK0
      rw [hsa] at HTK0
      have HTK := Lib.hid HTK0
      simp only []
      clear hFd hsd hb HD7 HC7 HCR HTK0 hsa
      go_wp2_with fail
      refine HTK.out.mono ?_
      rintro e w9 ⟨F9, A9, c9, q9, rfl, ho, hA, hf, hq9, hs, htt⟩
      have HD9 := Lib.hid (HD8.out.to hf hs htt)
      have HC9 := Lib.hid (HC8.out.touch htt (fun j x y => HA7.out j y x) HD8.out.new)
      have HE9 := Lib.hid (HE8.out.touch htt (fun j x y => HB8.out j y x) HD8.out.new)
      have HA9 : Hid (∀ j, F9 j → ¬ Fc j) := Lib.hid (apart_step HA7.out hf HC8.out.at_.lt)
      have HB10 : Hid (∀ j, F9 j → ¬ Fd j) := Lib.hid (apart_step HB8.out hf HE8.out.at_.lt)
      have HR9 : Hid (RowN Fc w9 A9 (fmsC S.acks)) := Lib.hid (rowN_own HC8.out.at_.lt ho)
      obtain ⟨M, hM⟩ : ∃ M, S.acks.length = M := ⟨_, rfl⟩
      have HM := Lib.hid hM
      have HTK20 := svtick_any Fc gc q S ps (by have := HQ2.out; omega) (by have := HACK.out; omega) w9 HC9.out.at_
      unfold SvFmP at HTK20
      rw [hM] at HTK20 ⊢
      have HTK2 := Lib.hid HTK20
      clear ho hA hf hq9 hs htt HD8 HC8 HE8 HTK HTK20 hM HA7 HB8
      go_wp2_with fail
      refine HTK2.out.mono ?_
      rintro e w10 ⟨F10, A10, c10, q10, rfl, ho, hA, hf, hq10, hs, htt⟩
      have HC10 := Lib.hid (HC9.out.to hf hs htt)
      have HD10 := Lib.hid (HD9.out.touch htt HA9.out HC9.out.new)
      have HE10 := Lib.hid (HE9.out.touch htt (fun j x y => HB9.out j y x) HC9.out.new)
      have hr1 := (fm_msN (HR9.out.touch htt) HKEYS.out).msR
      have hr2 := (fm_msN (rowN_off ho hA) HKEYS.out).msR
      have HSM : Hid (∀ W, Below w10.heap.size w10 W → Calls Tryz.prog 14 #[.slice A9 M c9, .slice A10 M c10] W (IsB true W)) := Lib.hid fun W hW => refsameallm M c9 M c10 A9 A10 (S.acks.map fmMV) (S.acks.map fmMV) (by rw [List.length_map, HM.out]) (by rw [List.length_map, HM.out]) (by have h1 := HACK.out; rw [HM.out] at h1; unfold maxLen; omega) rfl W (hr1.below hW) (hr2.below hW)
      have hL1 : (tickS SC).L = S.N := by rw [HSC.out]; rfl
      have hL2 : (tickS S).L = S.N := rfl
      have HL1 := Lib.hid hL1
      have HL2 := Lib.hid hL2
      obtain ⟨S1, hS1⟩ : ∃ S1, tickS SC = S1 := ⟨_, rfl⟩
      obtain ⟨S2, hS2⟩ : ∃ S2, tickS S = S2 := ⟨_, rfl⟩
      rw [hS1] at HD10 HL1
      rw [hS2] at HC10 HL2
      obtain ⟨N, hNN⟩ : ∃ N, S.N = N := ⟨_, rfl⟩
      rw [hNN] at HL1 HL2 HLC
      clear ho hA hf hq10 hs htt HC9 HD9 HE9 HTK2 hr1 hr2 hL1 hL2 hS1 hS2 hNN HR9 HA9 HB10 HB9
      have HALL0 : ∀ (T : St8) (F : Nat → Prop) (g q : Nat) (ps : Ps14), T.L = N → SvAt w10 F g T ps q → ∀ W, Below w10.heap.size w10 W → Calls Tryz.prog 23 #[.pointer (some ⟨g, 0, none⟩)] W (fun e w' => ∃ A' c', e = .returned (.slice A' N.length c') ∧ AllOf N w' A' ∧ Below W.heap.size W w') := fun T F g q ps hTN hsv W hW => (svall_any F g q T ps W (hsv.below hW)).mono fun e w' hp => by
        obtain ⟨xs, A', n', c', he, hn', hxs, hl', henv, hb'⟩ := svall_env (hsv.below hW) hp
        rw [hTN] at hxs
        have hlen : xs.length = N.length := by rw [← hxs, List.length_map]
        exact ⟨A', c', by rw [he, hn', hlen], ⟨xs, hlen, hxs, henv⟩, hb'⟩
      have HAS := Lib.hid (HALL0 S1 F9 g _ _ HL1.out HD10.out.at_)
      have HAC := Lib.hid (HALL0 S2 F10 gc _ _ HL2.out HC10.out.at_)
      have HAD := Lib.hid (HALL0 SX Fd gd _ _ HLC.out HE10.out.at_)
      have hzl := sv_len HE10.out.at_
      rw [HLC.out] at hzl
      have hokN : OkT N := by rw [← HLC.out]; exact HE10.out.at_.ok.lOk
      have HSE : Hid (∀ W (a : Option Addr) (ca : Nat) (a' : Option Addr) (ca' : Nat), AllOf N W a → AllOf N W a' → Calls Tryz.prog 25 #[.slice a N.length ca, .slice a' N.length ca'] W (IsT8 true W)) := Lib.hid fun W a ca a' ca' hh hh' => by
        obtain ⟨xs, h1, h2, h3⟩ := hh
        obtain ⟨ys, h4, h5, h6⟩ := hh'
        exact sameall_true N.length ca N.length ca' a a' xs ys h1.symm h4.symm (h2.trans h5.symm) (by omega) W h3 h6
      have HGET0 : ∀ (T : St8) (F : Nat → Prop) (g q : Nat) (ps : Ps14), T.L = N → SvAt w10 F g T ps q → ∀ W, Below w10.heap.size w10 W → Calls Tryz.prog 17 #[.pointer (some ⟨g, 0, none⟩), .string ⟨key.toArray⟩] W (fun e w' => ∃ A' c', e = .returned (.agg #[.string ⟨key.toArray⟩, .int .i64 (ofT N key).s, .int .i64 (ofT N key).u, .int .i64 (ofT N key).o, .bool (ofT N key).has, .slice A' (ofT N key).v.length c']) ∧ ValOk w' (ofT N key).has A' (ofT N key).v c' ∧ Below W.heap.size W w') := fun T F g q ps hTN hsv W hW => (svget_any F g q T ps key HKM.out W (hsv.below hW)).mono fun e w' hp => by
        rw [hTN] at hp
        obtain ⟨A', c', h1, h2, _, h4⟩ := getP_open (ofT_key N key) (ofT_len hokN key) hp
        exact ⟨A', c', h1, h2, h4⟩
      have hgd := HGET0 SX Fd gd _ _ HLC.out HE10.out.at_
      have hgc := HGET0 S2 F10 gc _ _ HL2.out HC10.out.at_
      obtain ⟨x, hx⟩ : ∃ x, ofT N key = x := ⟨_, rfl⟩
      rw [hx] at hgd hgc
      have HGD := Lib.hid hgd
      have HGC := Lib.hid hgc
      have HSV : Hid (∀ w' A c, ValOk w' x.has A x.v c → ∀ A' c', ValOk w' x.has A' x.v c' → Calls Tryz.prog 16 #[.agg #[.string ⟨key.toArray⟩, .int .i64 x.s, .int .i64 x.u, .int .i64 x.o, .bool x.has, .slice A x.v.length c], .agg #[.string ⟨key.toArray⟩, .int .i64 x.s, .int .i64 x.u, .int .i64 x.o, .bool x.has, .slice A' x.v.length c']] w' (IsB true w')) := Lib.hid fun w' A c h1 A' c' h2 => refsame_true ⟨key.toArray⟩ x.s x.u x.o x.has A A' x.v c c' x.v.length x.v.length rfl rfl w' h1 h2
      have HKN : Hid (∀ W, Below w10.heap.size w10 W → Calls Tryz.prog 10 #[] W (IsT14 W)) := Lib.hid fun W hW => known14_any W (HT.out.below (HD10.out.bel.trans (hW.mono HD10.out.bel.size)))
      have HBD : Hid (Below w.heap.size w w10) := Lib.hid (HFIN.out _ HD10.out.bel)
      have hg1 : g < w10.heap.size := HD10.out.lt
      have hg2 : gc < w10.heap.size := HC10.out.lt
      have hg3 : gd < w10.heap.size := HE10.out.lt
      clear HALL0 HGET0 hgd hgc hx hzl hokN HD10 HC10 HE10 HL1 HL2 HLC
      go_wp2_with fail
      refine (HSM.out w10 (Below.refl w10.heap.size w10)).mono ?_
      rintro e vw1 ⟨rfl, hb⟩
      have vHB1 : Hid (Below w10.heap.size w10 vw1) := Lib.hid ((Below.refl w10.heap.size w10).trans (hb.mono (Below.refl w10.heap.size w10).size))
      clear hb   
      go_wp2_with fail
      refine (HAS.out vw1 vHB1.out).mono ?_
      rintro e vw2 ⟨ap, cp, rfl, ho, hb⟩
      have vHB2 : Hid (Below w10.heap.size w10 vw2) := Lib.hid (vHB1.out.trans (hb.mono vHB1.out.size))
      have Hp := Lib.hid ho
      clear hb ho  vHB1
      go_wp2_with fail
      refine (HAC.out vw2 vHB2.out).mono ?_
      rintro e vw3 ⟨aq2, cq2, rfl, ho, hb⟩
      have vHB3 : Hid (Below w10.heap.size w10 vw3) := Lib.hid (vHB2.out.trans (hb.mono vHB2.out.size))
      have Hpx := Lib.hid (made_later Hp.out hb)
      have Hq2 := Lib.hid ho
      clear hb ho Hp vHB2
      have Hp := Lib.hid Hpx.out
      clear Hpx
      go_wp2_with fail
      refine (HSE.out vw3 _ _ _ _ Hp.out Hq2.out).mono ?_
      rintro e vw4 ⟨rfl, hb⟩
      have vHB4 : Hid (Below w10.heap.size w10 vw4) := Lib.hid (vHB3.out.trans (hb.mono vHB3.out.size))
      clear hb  Hp Hq2 vHB3
      go_wp2_with fail
      refine (HAD.out vw4 vHB4.out).mono ?_
      rintro e vw5 ⟨ar, cr, rfl, ho, hb⟩
      have vHB5 : Hid (Below w10.heap.size w10 vw5) := Lib.hid (vHB4.out.trans (hb.mono vHB4.out.size))
      have Hr := Lib.hid ho
      clear hb ho  vHB4
      go_wp2_with fail
      refine (HAS.out vw5 vHB5.out).mono ?_
      rintro e vw6 ⟨az5, cz5, rfl, ho, hb⟩
      have vHB6 : Hid (Below w10.heap.size w10 vw6) := Lib.hid (vHB5.out.trans (hb.mono vHB5.out.size))
      have Hrx := Lib.hid (made_later Hr.out hb)
      have Hz5 := Lib.hid ho
      clear hb ho Hr vHB5
      have Hr := Lib.hid Hrx.out
      clear Hrx
      go_wp2_with fail
      refine (HSE.out vw6 _ _ _ _ Hr.out Hz5.out).mono ?_
      rintro e vw7 ⟨rfl, hb⟩
      have vHB7 : Hid (Below w10.heap.size w10 vw7) := Lib.hid (vHB6.out.trans (hb.mono vHB6.out.size))
      clear hb  Hr Hz5 vHB6
      go_wp2_with fail
      refine (HGD.out vw7 vHB7.out).mono ?_
      rintro e vw8 ⟨at6, ct6, rfl, ho, hb⟩
      have vHB8 : Hid (Below w10.heap.size w10 vw8) := Lib.hid (vHB7.out.trans (hb.mono vHB7.out.size))
      have Ht6 := Lib.hid ho
      clear hb ho  vHB7
      go_wp2_with fail
      refine (HGC.out vw8 vHB8.out).mono ?_
      rintro e vw9 ⟨au, cu, rfl, ho, hb⟩
      have vHB9 : Hid (Below w10.heap.size w10 vw9) := Lib.hid (vHB8.out.trans (hb.mono vHB8.out.size))
      have Ht6x := Lib.hid (row_later Ht6.out hb)
      have Hu := Lib.hid ho
      clear hb ho Ht6 vHB8
      have Ht6 := Lib.hid Ht6x.out
      clear Ht6x
      go_wp2_with fail
      refine (HSV.out vw9 _ _ Ht6.out _ _ Hu.out).mono ?_
      rintro e vw10 ⟨rfl, hb⟩
      have vHB10 : Hid (Below w10.heap.size w10 vw10) := Lib.hid (vHB9.out.trans (hb.mono vHB9.out.size))
      clear hb  Ht6 Hu vHB9
      go_wp2_with fail
      refine (HKN.out vw10 vHB10.out).mono ?_
      rintro e vw11 ⟨rfl, hb⟩
      have vHB11 : Hid (Below w10.heap.size w10 vw11) := Lib.hid (vHB10.out.trans (hb.mono vHB10.out.size))
      clear hb   vHB10
      go_wp2
      go_ret
      exact ⟨rfl, HBD.out.trans (vHB11.out.mono HBD.out.size)⟩
end Go.Proofs.YtkdpfjenjcpcfaaGreatDoor
