/- The law StoreTwice, walked. -/
import Derived.Test.YtkleecaghgpndaaGreatSilent8
import Derived.Test.YtkleecaghgpndaaGreatInvA8
import Derived.Test.YtkleecaghgpndaaGreatDosB8
namespace Go.Proofs.YtkleecaghgpndaaGreat
open Go.RowKit Go.ChangeShapes Mem Be Word Frm Go.Maps
set_option maxRecDepth 100000
set_option maxHeartbeats 4000000
set_option linter.unusedVariables false
def wE (e : EntP) : Nat := e.k.length + e.v.length + 60
def wT : List EntP → Nat
  | [] => 0
  | e :: T => wE e + wT T
theorem wT_ins (x : EntP) : ∀ T : List EntP, wT (insK kE x T) = wE x + wT T
  | [] => rfl
  | y :: T => by
    have ih := wT_ins x T
    unfold insK
    split
    · rfl
    · simp only [wT]; omega
theorem wT_del (k : List UInt8) : ∀ T : List EntP, wT (delK kE k T) ≤ wT T
  | [] => Nat.le_refl _
  | y :: T => by
    have ih := wT_del k T
    unfold delK at ih ⊢
    rw [List.filter_cons]
    split
    · simp only [wT]; omega
    · simp only [wT]; omega
theorem wT_put (T : List EntP) (e : EntP) : wT (putK kE T e) ≤ wE e + wT T := by
  unfold putK
  rw [wT_ins]
  have := wT_del (kE e) T
  omega
theorem rows_wT : ∀ T : List EntP, (rowsT T).length ≤ wT T
  | [] => Nat.le_refl _
  | e :: T => by
    have ih := rows_wT T
    have h1 := entB_le e.k e.s e.u e.o e.has e.v
    have h2 := numB_le ((putE e).length : Int)
    have h3 : rowsT (e :: T) = rowB (putE e) ++ rowsT T := rfl
    have h4 : (putE e).length ≤ e.k.length + e.v.length + 46 := h1
    rw [h3, List.length_append]
    unfold rowB
    rw [List.length_append]
    simp only [wT, wE]
    omega
/-- What the tables that may come back hold. -/
def InvW (S : St8) (b : Nat) : Prop := ∀ p T, S.m ≤ p → p ≤ S.rs.length → recS (S.rs.take p) = some T → wT T ≤ b
theorem InvW.newer {S : St8} {b : Nat} (h : InvW S b) (ok : Ok8 S) : wT S.N ≤ b := h S.rs.length S.N ok.le (Nat.le_refl _) (by rw [List.take_length]; exact ok.newer)
theorem InvW.more {S : St8} {b b' : Nat} (h : InvW S b) (hb : b ≤ b') : InvW S b' := fun p T h1 h2 h3 => Nat.le_trans (h p T h1 h2 h3) hb
theorem invW_st0 : InvW st0 0 := fun p T _ hp hT => by
  have hp0 : p = 0 := by simpa [st0] using hp
  subst hp0
  have e : T = [] := by
    have : recS (st0.rs.take 0) = some [] := rfl
    rw [this] at hT; injection hT with hT; exact hT.symm
  subst e
  exact Nat.le_refl _
theorem invW_put {S : St8} {b : Nat} (h : InvW S b) (ok : Ok8 S) (e : EntP) (who : Int) : InvW (putS S e who).1 (b + wE e) := by
  have hm := h.more (Nat.le_add_right b (wE e))
  unfold putS
  split
  · rename_i hmay
    split
    · rename_i hgt
      split
      · unfold writeS
        split
        · intro p T h1 h2 h3
          change S.m ≤ p at h1
          change p ≤ (S.rs ++ [(1, putE e)]).length at h2
          change recS ((S.rs ++ [(1, putE e)]).take p) = some T at h3
          by_cases hp : p ≤ S.rs.length
          · rw [List.take_append_of_le_length hp] at h3
            exact hm p T h1 hp h3
          · have hp2 : p = (S.rs ++ [(1, putE e)]).length := by simp at h2 ⊢; omega
            rw [hp2, List.take_length, recS_snoc ok.newer hmay.1 hmay.2.1] at h3
            injection h3 with h3
            have hl : layT S.N e = putK kE S.N e := if_neg (by omega)
            rw [hl] at h3
            subst h3
            have h4 := wT_put S.N e
            have h5 := h.newer ok
            omega
        · rename_i hw h0; exact absurd hw (by unfold writeS; rw [if_neg h0]; show ¬ (3 : Int) = 0; decide)
      · exact hm
    · exact hm
  · exact hm
theorem invW_step {S : St8} {b : Nat} (h : InvW S b) (ok : Ok8 S) (sh : Short S.rs) (d : D8) : InvW (d8S S d).1 (b + wE d.e.1) := by
  have hm := h.more (Nat.le_add_right b (wE d.e.1))
  unfold d8S
  split
  · exact invW_put h ok d.e.1 d.who
  split
  · intro p T h1 h2 h3
    change S.rs.length ≤ p at h1
    change p ≤ S.rs.length at h2
    change recS (S.rs.take p) = some T at h3
    exact hm p T (Nat.le_trans ok.le h1) h2 h3
  split
  · unfold compS
    split
    · exact hm
    · intro p T h1 h2 h3
      change 1 ≤ p at h1
      change p ≤ 1 at h2
      change recS (List.take p [(0, rowsT S.N)]) = some T at h3
      obtain rfl : p = 1 := by omega
      have h4 : recS (List.take 1 [((0 : UInt8), rowsT S.N)]) = some S.N := recS_one ok.nOk
      rw [h4] at h3
      injection h3 with h3
      subst h3
      exact hm.newer ok
  split
  · exact hm
  · obtain ⟨p0, h1, h2, h3⟩ := crash_take S.rs S.m d.kept.toNat sh ok.le
    have hr : crashR S d.kept.toNat = S.rs.take p0 := h3
    intro p T g1 g2 g3
    change (crashR S d.kept.toNat).length ≤ p at g1
    change p ≤ (crashR S d.kept.toNat).length at g2
    change recS ((crashR S d.kept.toNat).take p) = some T at g3
    obtain rfl : p = (crashR S d.kept.toNat).length := by omega
    rw [List.take_length, hr] at g3
    exact hm p0 T h1 h2 g3
theorem invW_round {rs : List D8} {S : St8} {k : Nat} (hk : k < rs.length) (h : InvW S (3 * lenD (rs.take k))) (ok : Ok8 S) (sh : Short S.rs) : InvW (d8S S rs[k]).1 (3 * lenD (rs.take (k + 1))) :=
  (invW_step h ok sh rs[k]).more (by rw [lenD_take hk]; unfold wE; omega)
/-- A store all of whose records last comes back as it is. -/
theorem crash_all {S : St8} (ok : Ok8 S) (sh : Short S.rs) (hm : S.m = S.rs.length) (k : Nat) : (crashS S k).L = S.L := by
  obtain ⟨p0, h1, h2, h3⟩ := crash_take S.rs S.m k sh ok.le
  have hr : crashR S k = S.rs.take p0 := h3
  have hp : p0 = S.rs.length := by omega
  have e1 : crashR S k = S.rs := by rw [hr, hp, List.take_length]
  have h4 := ok.lasts
  rw [hm, List.take_length] at h4
  show (recS (crashR S k)).getD [] = S.L
  rw [e1, h4]; rfl
theorem twice8_walk (A : Option Addr) (rs : List D8) (n c kept : Nat) (hkp : kept ≤ 65535) (hn : n = rs.length) (hnl : n ≤ 1048576) (hL : lenD rs ≤ 9000000000000000000) (w : World) (h : InD8 w A rs) :
    Calls Tryz.prog 6 #[.slice A n c, .int .u16 (kept : Int)] w (IsT true w) := by
  have HLG := Lib.hid (long8_exact n c A rs hn (by unfold maxLen; omega) hL w h)
  have HIN := Lib.hid h
  have HN := Lib.hid hn
  have HNL := Lib.hid hnl
  have hni : (n : Int) ≤ 1048576 := by omega
  have hni0 : (0 : Int) ≤ (n : Int) := by omega
  have hkp0 : (0 : Int) ≤ (kept : Int) := by omega
  have hkp1 : (kept : Int) ≤ 65535 := by omega
  clear h hn hnl hL hkp
  have fin : ∀ w1, Below w.heap.size w w1 → Calls Tryz.prog 10 #[] w1 (IsT true w) := fun w1 hb => (known8_any w1).mono fun e w2 ⟨he, hb2⟩ => ⟨he, hb.trans (hb2.mono hb.size)⟩
  have FIN := Lib.hid fin
  clear fin
  obtain ⟨lb, hlb0⟩ : ∃ q, lenD rs = q := ⟨_, rfl⟩
  rw [hlb0] at HLG
  have HLB := Lib.hid hlb0
  clear hlb0
  go_enter Tryz.func6, Tryz.ntmps6
  go_wp2_with fail
  refine HLG.out.mono ?_
  rintro e w0 ⟨rfl, hb⟩
  have HB0 := Lib.hid hb
  clear HLG hb
  by_cases hlb : (1500 : Int) < (lb : Int)
  · go_wp2_with fail
    refine (FIN.out _ HB0.out).mono ?_
    rintro e w1 ⟨rfl, hb⟩
    have HB := Lib.hid hb
    clear hb
    go_wp2
    go_ret
    exact ⟨rfl, HB.out⟩
  have hlb2 : (lb : Int) ≤ 1500 := by omega
  clear hlb
  go_wp2_with fail
  refine (newst_any w0).mono ?_
  rintro e w1 ⟨g0, F0, rfl, hF, hd, hb⟩
  have HK0 : Hid (St1 w w1 F0 g0 st0 0) := Lib.hid ⟨fun k hk => Nat.le_trans HB0.out.size (hF k hk), hd, HB0.out.trans (hb.mono HB0.out.size)⟩
  simp only [id]
  clear hF hd hb
  go_wp2_with fail
  go_loopw [5, 6] (fun z i wr => ∃ k : Nat, k ≤ n ∧ i = .int .i64 k ∧ ∃ g, z = .pointer (some ⟨g, 0, none⟩) ∧ Hid (∃ F S q, q ≤ k ∧ S.acks.length ≤ k ∧ InvW S (3 * lenD (rs.take k)) ∧ St1 w wr F g S q)) (fun _ i _ => n - (intOf i).toNat)
  case atStart => exact ⟨0, by omega, rfl, g0, rfl, Lib.hid ⟨F0, st0, 0, by omega, Nat.le_refl _, invW_st0.more (Nat.zero_le _), HK0.out⟩⟩
  case round =>
    obtain ⟨k, hk, rfl, g, rfl, HK⟩ := hrel
    obtain ⟨F, S, q, hq, ha, hinv, hd⟩ := HK.out
    have HD := Lib.hid hd
    have HQ := Lib.hid hq
    have HA := Lib.hid ha
    have HIV := Lib.hid hinv
    clear HK hd hq ha hinv HK0
    by_cases hlt : k < n
    · have hk1 : k < rs.length := by rw [← HN.out]; exact hlt
      obtain ⟨b, o, rfl, _, hc⟩ := d8s_open (HIN.out wr HD.out.bel).1 (by omega)
      have d0 := hc k hk1 0 _ rfl
      have d1 := hc k hk1 1 _ rfl
      have d2 := hc k hk1 2 _ rfl
      have d3 := hc k hk1 3 _ rfl
      have d4 := hc k hk1 4 _ rfl
      have d5 := hc k hk1 5 _ rfl
      have d6 := hc k hk1 6 _ rfl
      have d7 := hc k hk1 7 _ rfl
      have d8 := hc k hk1 8 _ rfl
      rw [Nat.add_zero] at d0
      have C := done8_round HIN.out HD.out hk1 (by have := HQ.out; have := HNL.out; omega) (by have := HA.out; have := HNL.out; omega)
      have hstep := d8S_acks S rs[k]
      have hiv := invW_round hk1 HIV.out HD.out.at_.ok HD.out.at_.short
      obtain ⟨R, hR⟩ : ∃ R, d8S S rs[k] = R := ⟨_, rfl⟩
      rw [hR] at C hstep hiv
      unfold dV at C
      have HIV2 := Lib.hid hiv
      obtain ⟨⟨kd, ⟨⟨xk, xs, xu, xo, xh, xv⟩, xA, xc⟩, ew, kp⟩, hy1⟩ : ∃ y, rs[k] = y := ⟨_, rfl⟩
      rw [hy1] at d0 d1 d2 d3 d4 d5 d6 d7 d8 C
      simp only at d0 d1 d2 d3 d4 d5 d6 d7 d8 C
      have HC := Lib.hid C
      have HAS : Hid (R.1.acks.length ≤ k + 1) := Lib.hid (by have := HA.out; omega)
      have hki : (0 : Int) ≤ (k : Int) := by omega
      have hki2 : (k : Int) < (n : Int) := by omega
      clear hc hy1 C hR hstep HA hiv HIV
      go_wp2_with fail
      refine HC.out.mono ?_
      intro e w2 hx
      obtain ⟨g2, F2, q2, A2, c2, rfl, hq2, hl2, _, _⟩ := HD.out.done hx
      have HK2 : Hid (∃ F S q, q ≤ k + 1 ∧ S.acks.length ≤ k + 1 ∧ InvW S (3 * lenD (rs.take (k + 1))) ∧ St1 w w2 F g2 S q) := Lib.hid ⟨F2, R.1, q2, by have := HQ.out; omega, HAS.out, HIV2.out, hl2⟩
      clear hx hq2 hl2 HC d0 d1 d2 d3 d4 d5 d6 d7 d8 HD HQ
      go_wp2
      go_roundw
      case rel => exact ⟨k + 1, by omega, by go_num, g2, rfl, HK2⟩
      case measure => simp [intOf]; omega
    · obtain rfl : k = n := by omega
      have HSM : Hid ((rowsT S.N).length ≤ 65536) := Lib.hid (by
        have h1 := rows_wT S.N
        have h2 := HIV.out.newer HD.out.at_.ok
        have h3 : rs.take k = rs := by rw [HN.out, List.take_length]
        rw [h3, HLB.out] at h2
        omega)
      go_wp2_with fail
      refine (crash_any8 F g q kept S wr HD.out.at_).mono ?_
      rintro e w2 ⟨ga, Fa, rfl, hf, hs, hb⟩
      have HD2 := Lib.hid (HD.out.below hb)
      have HSA := Lib.hid (HD.out.new_ hf hs hb)
      have hxa : (crashS S kept).acks = [] := rfl
      have hma : (crashS S kept).m = (crashS S kept).rs.length := rfl
      obtain ⟨Sa, hSa⟩ : ∃ Sa, crashS S kept = Sa := ⟨_, rfl⟩
      rw [hSa] at HSA hxa hma
      have HXA := Lib.hid hxa
      have HMA := Lib.hid hma
      clear hf hs hb HD hSa hxa hma HIV
      go_wp2_with fail
      refine (crash_any8 Fa ga q 0 Sa w2 HSA.out.at_).mono ?_
      rintro e w3 ⟨gb, Fb, rfl, hf, hs, hb⟩
      have HD3 := Lib.hid (HD2.out.below hb)
      have HSA3 := Lib.hid (HSA.out.below hb)
      have HSB := Lib.hid (HSA.out.new_ hf hs hb)
      have HLA := Lib.hid (crash_all HSA.out.at_.ok HSA.out.at_.short HMA.out 0)
      obtain ⟨Sb, hSb⟩ : ∃ Sb, crashS Sa 0 = Sb := ⟨_, rfl⟩
      rw [hSb] at HSB HLA
      clear hf hs hb hSb HD2 HSA
      have HTA := Lib.hid (tab_many HSA3.out.at_).1
      go_wp2_with fail
      refine (all_any8 Fa ga q Sa w3 HSA3.out.at_).mono ?_
      rintro e w4 ⟨us, A1, c1, hus, rfl, ho, he, hb⟩
      have HUS := Lib.hid hus
      have HV4 : Hid (EnV w4 A1 us) := Lib.hid (enV_of ho he (okT_lens HSA3.out.at_.ok.lOk hus))
      have HD4 := Lib.hid (HD3.out.below hb)
      have HSA4 := Lib.hid (HSA3.out.below hb)
      have HSB4 := Lib.hid (HSB.out.below hb)
      clear hus ho he hb HD3 HSA3 HSB
      go_wp2_with fail
      refine (all_any8 Fb gb q Sb w4 HSB4.out.at_).mono ?_
      rintro e w5 ⟨vs, A2, c2, hvs, rfl, ho, he, hb⟩
      have HVS := Lib.hid hvs
      have HV5 : Hid (EnV w5 A2 vs) := Lib.hid (enV_of ho he (okT_lens HSB4.out.at_.ok.lOk hvs))
      have HU5 := Lib.hid (HV4.out.below hb)
      have HD5 := Lib.hid (HD4.out.below hb)
      have HSA5 := Lib.hid (HSA4.out.below hb)
      clear hvs ho he hb HD4 HSA4 HSB4 HV4
      go_wp2_with fail
      refine (sameall_true us.length c1 vs.length c2 A1 A2 us vs rfl rfl (HUS.out.trans (HLA.out.symm.trans HVS.out.symm)) (by have h1 := congrArg List.length HUS.out; rw [List.length_map] at h1; have := HTA.out; omega) w5 HU5.out HV5.out).mono ?_
      rintro e w6 ⟨rfl, hb⟩
      have HD6 := Lib.hid (HD5.out.below hb)
      have HSA6 := Lib.hid (HSA5.out.below hb)
      clear hb HD5 HSA5 HU5 HV5
      go_wp2_with fail
      refine (waiting_any8 Fa ga q Sa w6 HSA6.out.at_).mono ?_
      rintro e w' ⟨rfl, rfl⟩
      rw [HXA.out]
      simp only [List.length_nil]
      clear HSA6
      go_wp2_with fail
      refine (tick_any8 F g q S (by have := HQ.out; have := HNL.out; omega) w6 HD6.out.at_).mono ?_
      rintro e w7 ⟨F7, A7, c7, q7, rfl, _, _, hf, _, hs, ht⟩
      have HD7 := Lib.hid (HD6.out.to hf hs ht)
      have HTN := Lib.hid (tab_many HD7.out.at_).1
      clear hf hs ht HD6
      go_wp2_with fail
      refine (all_any8 F7 g q7 (tickS S) w7 HD7.out.at_).mono ?_
      rintro e w8 ⟨xs, A8, c8, hxs, rfl, ho, he, hb⟩
      have HXS : Hid (xs.map Prod.fst = S.N) := Lib.hid hxs
      have HW8 : Hid (EnN F7 w8 A8 xs) := Lib.hid (enN_of HD7.out.at_.lt ho he (okT_lens HD7.out.at_.ok.lOk hxs))
      have HD8 := Lib.hid (HD7.out.below hb)
      have HXL : Hid (xs.length ≤ 8388608) := Lib.hid (by have h1 := congrArg List.length hxs; rw [List.length_map] at h1; have := HTN.out; omega)
      have HC8 := Lib.hid (compact_any8 F7 g q7 (tickS S) w8 HD8.out.at_)
      have hcs : compS (tickS S) = (⟨[(0, rowsT S.N)], 1, S.N, S.N, []⟩, 0) := if_neg (by have := HSM.out; show ¬ 65536 < (rowsT S.N).length; omega)
      rw [hcs] at HC8
      clear hxs ho he hb HD7 hcs
      go_wp2_with fail
      refine HC8.out.mono ?_
      rintro e w9 ⟨rfl, F9, hf, hs, ht⟩
      have HD9 := Lib.hid (HD8.out.to hf hs ht)
      have HW9 := Lib.hid (HW8.out.to hf ht)
      clear hf hs ht HD8 HW8 HC8
      obtain ⟨Sc, hSc⟩ : ∃ Sc : St8, (⟨[(0, rowsT S.N)], 1, S.N, S.N, []⟩ : St8) = Sc := ⟨_, rfl⟩
      have HLC : Hid (Sc.L = S.N) := Lib.hid (by rw [← hSc])
      have HMC : Hid (Sc.m = Sc.rs.length) := Lib.hid (by rw [← hSc]; rfl)
      rw [hSc] at HD9
      clear hSc
      go_wp2_with fail
      refine (crash_any8 F9 g q7 0 Sc w9 HD9.out.at_).mono ?_
      rintro e w10 ⟨gc, Fc, rfl, hf, hs, hb⟩
      have HD10 := Lib.hid (HD9.out.below hb)
      have HW10 := Lib.hid (HW9.out.below hb)
      have HSC := Lib.hid (HD9.out.new_ hf hs hb)
      have HLD := Lib.hid (crash_all HD9.out.at_.ok HD9.out.at_.short HMC.out 0)
      obtain ⟨Sd, hSd⟩ : ∃ Sd, crashS Sc 0 = Sd := ⟨_, rfl⟩
      rw [hSd] at HSC HLD
      clear hf hs hb hSd HD9 HW9
      go_wp2_with fail
      refine (all_any8 F9 g q7 Sc w10 HD10.out.at_).mono ?_
      rintro e w11 ⟨ys, A11, c11, hys, rfl, ho, he, hb⟩
      have HYS := Lib.hid hys
      have HV11 : Hid (EnV w11 A11 ys) := Lib.hid (enV_of ho he (okT_lens HD10.out.at_.ok.lOk hys))
      have HW11 := Lib.hid (HW10.out.below hb)
      have HSC11 := Lib.hid (HSC.out.below hb)
      clear hys ho he hb HD10 HW10 HSC
      go_wp2_with fail
      refine (sameall_true ys.length c11 xs.length c8 A11 A8 ys xs rfl rfl (HYS.out.trans (HLC.out.trans HXS.out.symm)) (by have h1 := congrArg List.length (HYS.out.trans (HLC.out.trans HXS.out.symm)); rw [List.length_map, List.length_map] at h1; have := HXL.out; omega) w11 HV11.out HW11.out.env).mono ?_
      rintro e w12 ⟨rfl, hb⟩
      have HW12 := Lib.hid (HW11.out.below hb)
      have HSC12 := Lib.hid (HSC11.out.below hb)
      clear hb HV11 HW11 HSC11
      go_wp2_with fail
      refine (all_any8 Fc gc q7 Sd w12 HSC12.out.at_).mono ?_
      rintro e w13 ⟨zs, A13, c13, hzs, rfl, ho, he, hb⟩
      have HZS := Lib.hid hzs
      have HV13 : Hid (EnV w13 A13 zs) := Lib.hid (enV_of ho he (okT_lens HSC12.out.at_.ok.lOk hzs))
      have HW13 := Lib.hid (HW12.out.below hb)
      have HSC13 := Lib.hid (HSC12.out.below hb)
      clear hzs ho he hb HW12 HSC12
      go_wp2_with fail
      refine (sameall_true zs.length c13 xs.length c8 A13 A8 zs xs rfl rfl (HZS.out.trans (HLD.out.trans (HLC.out.trans HXS.out.symm))) (by have h1 := congrArg List.length (HZS.out.trans (HLD.out.trans (HLC.out.trans HXS.out.symm))); rw [List.length_map, List.length_map] at h1; have := HXL.out; omega) w13 HV13.out HW13.out.env).mono ?_
      rintro e w14 ⟨rfl, hb⟩
      have HSC14 := Lib.hid (HSC13.out.below hb)
      clear hb HSC13
      go_wp2_with fail
      refine (FIN.out w14 HSC14.out.bel).mono ?_
      rintro e w15 ⟨rfl, hb9⟩
      have HB9 := Lib.hid hb9
      clear hb9
      go_wp2
      go_ret
      exact ⟨rfl, HB9.out⟩
end Go.Proofs.YtkleecaghgpndaaGreat
