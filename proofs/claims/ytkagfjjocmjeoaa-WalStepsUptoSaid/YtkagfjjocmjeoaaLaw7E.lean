/- How much things to be done have in them, exactly; how much a log has then; the law WalKinds, walked. -/
import Derived.Test.YtkagfjjocmjeoaaLaw7D
namespace Go.Proofs.Ytkagfjjocmjeoaa
open Go.RowKit Mem Be Word Frm
set_option maxRecDepth 100000
set_option maxHeartbeats 4000000
set_option linter.unusedVariables false
/-- What the reference counts of one thing that is done, and of many. -/
def lgD (d : DoG) : Nat := 1 + (lenR d.rows + 10 * d.rows.length)
def lgN (rs : List DoG) : Nat := (rs.map lgD).sum
theorem lgN_snoc (rs : List DoG) (k : Nat) (h : k < rs.length) : lgN (rs.take (k + 1)) = lgN (rs.take k) + lgD rs[k] := by
  unfold lgN; rw [List.take_succ_eq_append_getElem h, List.map_append, List.sum_append]; simp
theorem lgN_le (rs : List DoG) (k : Nat) : lgN (rs.take k) ≤ lgN rs := by
  have : lgN rs = lgN (rs.take k) + lgN (rs.drop k) := by unfold lgN; rw [← List.sum_append, ← List.map_append, List.take_append_drop]
  omega
theorem lgN_len (rs : List DoG) : rs.length ≤ lgN rs := by
  induction rs with
  | nil => exact Nat.le_refl _
  | cons r rs ih => unfold lgN lgD at ih ⊢; rw [List.map_cons, List.sum_cons, List.length_cons]; omega
theorem lgN_sumG (rs : List DoG) : lgN rs ≤ 10 * sumG rs := by
  induction rs with
  | nil => exact Nat.zero_le _
  | cons r rs ih =>
    have h := lenR_sumL r.rows
    unfold lgN sumG at ih ⊢
    rw [List.map_cons, List.map_cons, List.sum_cons, List.sum_cons]
    unfold lgD at ih ⊢
    omega
theorem lgN_rows {rs : List DoG} {r : DoG} (h : r ∈ rs) : r.rows.length ≤ lgN rs := by
  obtain ⟨a, b, rfl⟩ := List.append_of_mem h
  unfold lgN; rw [List.map_append, List.sum_append, List.map_cons, List.sum_cons]; unfold lgD; omega
theorem cntL_le (ls : List RowV) (j : Nat) (hj : j ≤ ls.length) : cntL ls j ≤ lenR ls + 10 * ls.length := by
  unfold cntL; have := lenR_le ls j; omega
theorem cntL_all (ls : List RowV) : cntL ls ls.length = lenR ls + 10 * ls.length := by
  unfold cntL; rw [List.take_of_length_le (Nat.le_refl _)]; omega
def IsI (v : Int) (w : World) (e : Ending) (w' : World) : Prop := e = .returned (.int .i64 v) ∧ w = w'
theorem longG_exact (n c : Nat) (A : Option Addr) (rs : List DoG) (hn : n = rs.length) (hb : lgN rs ≤ 1000000000) (w : World) (h : InG w A rs) :
    Calls Try.prog 10 #[.slice A n c] w (IsI (lgN rs : Nat) w) := by
  have HR := Lib.hid (h w (Below.refl _ _))
  have HN := Lib.hid hn
  have HB := Lib.hid hb
  have hni : (n : Int) ≤ 1000000000 := by have := lgN_len rs; omega
  clear h hn hb
  go_enter Try.func10, Try.ntmps10
  go_wp2
  go_loop [3, 4] (fun z i => ∃ k : Nat, k ≤ n ∧ i = .int .i64 k ∧ z = .int .i64 ((lgN (rs.take k) : Nat) : Int)) (fun _ i => n - (intOf i).toNat)
  case atStart => exact ⟨0, by omega, rfl, by simp [lgN]⟩
  case round =>
    obtain ⟨k, hk, rfl, rfl⟩ := hrel
    by_cases hlt : k < n
    · have hk1 : k < rs.length := by rw [← HN.out]; exact hlt
      obtain ⟨b, o, rfl, _, hc⟩ := dosG_open HR.out.1 (by omega)
      have hcell := (hc k hk1).2.2.1
      have hok := HR.out.2 rs[k] (List.getElem_mem hk1)
      have hs := lgN_snoc rs k hk1
      have hle := lgN_le rs (k + 1)
      unfold lgD at hs
      obtain ⟨⟨kd, of_, A1, ys, c1, kp⟩, hy1⟩ : ∃ y, rs[k] = y := ⟨_, rfl⟩
      rw [hy1] at hcell hok hs
      simp only at hcell hs
      obtain ⟨z, hz⟩ : ∃ z, lgN (rs.take k) = z := ⟨_, rfl⟩
      rw [hz] at hs ⊢
      have HS := Lib.hid hs
      have HLE : Hid (z + 1 + (lenR ys + 10 * ys.length) ≤ 1000000000) := Lib.hid (by have := HB.out; omega)
      have HRY := Lib.hid hok.row
      have HRW := Lib.hid hok.rows
      have hyl : (ys.length : Int) ≤ 1000000000 := by have := HLE.out; omega
      have hz0 : (0 : Int) ≤ (z : Int) := by omega
      have hz1 : (z : Int) ≤ 1000000000 := by have := HLE.out; omega
      have hki : (0 : Int) ≤ (k : Int) := by omega
      have hki2 : (k : Int) < (n : Int) := by omega
      clear hc hy1 hok hs hle hz
      go_wp2_with fail
      go_loop [3, 5] (fun t i => ∃ j : Nat, j ≤ ys.length ∧ i = .int .i64 j ∧ t = .int .i64 ((z + 1 + cntL ys j : Nat) : Int)) (fun _ i => ys.length - (intOf i).toNat)
      case atStart => exact ⟨0, by omega, rfl, by simp [cntL, lenR]⟩
      case round =>
        obtain ⟨j, hj, rfl, rfl⟩ := hrel
        by_cases hlt2 : j < ys.length
        · obtain ⟨b2, o2, rfl, _, hc2⟩ := HRY.out.open_ (by simp; omega)
          have hcell2 : w.cell? ⟨b2, o2 + j, none⟩ = some (rowV ys[j]) := (hc2 j (by simpa using hlt2)).trans (congrArg some (List.getElem_map (f := rowV) (h := by simpa using hlt2)))
          have hcs := cntL_snoc ys j hlt2
          have hcl := cntL_le ys (j + 1) hlt2
          obtain ⟨⟨A3, y3, c3⟩, hy3⟩ : ∃ y, ys[j] = y := ⟨_, rfl⟩
          rw [hy3] at hcell2 hcs
          unfold rowV at hcell2
          simp only at hcell2 hcs
          obtain ⟨t, ht⟩ : ∃ t, z + 1 + cntL ys j = t := ⟨_, rfl⟩
          have hnx : z + 1 + cntL ys (j + 1) = t + 10 + y3.length := by omega
          rw [ht]
          have HX := Lib.hid hnx
          have ht1 : (t : Int) + 10 + (y3.length : Int) ≤ 1000000000 := by have := HLE.out; omega
          have ht0 : (0 : Int) ≤ (t : Int) := by omega
          have hy0 : (0 : Int) ≤ (y3.length : Int) := by omega
          have hji : (0 : Int) ≤ (j : Int) := by omega
          have hji2 : (j : Int) < (ys.length : Int) := by omega
          clear hc2 hy3 hcs hcl hnx ht
          go_wp2
          go_round
          case rel => exact ⟨j + 1, by omega, by go_num, by rw [HX.out]; go_num⟩
          case measure => simp [intOf]; omega
        · obtain rfl : j = ys.length := by omega
          rw [cntL_all]
          obtain ⟨t, ht⟩ : ∃ t, z + 1 + (lenR ys + 10 * ys.length) = t := ⟨_, rfl⟩
          have HT : Hid (lgN (rs.take (k + 1)) = t) := Lib.hid (by rw [HS.out, ← ht]; omega)
          rw [ht]
          clear ht
          go_wp2
          go_round
          case rel => exact ⟨k + 1, by omega, by go_num, by rw [HT.out]⟩
          case measure => simp [intOf]; omega
    · obtain rfl : k = n := by omega
      have ht : rs.take k = rs := List.take_of_length_le (by rw [← HN.out]; omega)
      rw [ht]
      obtain ⟨z, hz⟩ : ∃ z, lgN rs = z := ⟨_, rfl⟩
      rw [hz]
      have HZ := Lib.hid hz
      clear hz ht
      go_wp2
      go_ret
      exact ⟨by rw [HZ.out]; rfl, rfl⟩
/-- How many bytes a log has behind something that is done to it, at most. -/
theorem gS_len (ls : List Rc) (m : Nat) (d : DoG) (hm : m ≤ ls.length) (hs : Short ls) : (allB (gS ls m d).1).length ≤ (allB ls).length + (10 + lgD d) := by
  unfold gS
  split
  · split
    · simp only; omega
    · simp only
      unfold addS
      split
      · simp only
        rw [all_app, List.length_append, all_newR]
        unfold lgD; omega
      · simp only; omega
  · split
    · simp only; omega
    · split
      · unfold snapS
        split
        · simp only; omega
        · simp only
          rw [all_one, fr_len]
          have : (firstB d.rows).length ≤ lenR d.rows := by
            cases hr : d.rows with
            | nil => exact Nat.zero_le _
            | cons r rs => exact lenR_each (List.mem_cons_self ..)
          unfold lgD
          show (firstB d.rows).length + 10 ≤ _
          omega
      · split
        · simp only; omega
        · simp only
          unfold crashS
          obtain ⟨p, h1, h2, h3⟩ := crash_take ls m d.kept.toNat hs hm
          rw [h3]
          have h4 := all_take_mono ls h2
          rw [List.take_of_length_le (Nat.le_refl ls.length)] at h4
          omega
theorem kinds7_walk (A AB : Option Addr) (rs : List DoG) (bs : List UInt8) (n c nb cb : Nat) (kd : UInt8) (x : Nat) (hx : kd.toNat = x) (hn : n = rs.length) (hnl : n ≤ 140737488355328) (hrl : ∀ r ∈ rs, r.rows.length ≤ 5864062014805) (hlg : lgN rs ≤ 1000000000)
    (hnb : nb = bs.length) (hnbm : nb ≤ maxLen) (w : World) (h : InG w A rs) (hB : Row w w.heap.size AB (bs.map byteV)) :
    Calls Try.prog 9 #[.slice A n c, .int .u8 (x : Int), .slice AB nb cb] w (IsT true w) := by
  have HLG := Lib.hid (longG_exact n c A rs hn hlg w h)
  obtain ⟨lb, hlb⟩ : ∃ lb, lgN rs = lb := ⟨_, rfl⟩
  rw [hlb] at HLG
  have HLB := Lib.hid hlb
  have HIN := Lib.hid h
  have HN := Lib.hid hn
  have HNL := Lib.hid hnl
  have HRL := Lib.hid hrl
  have HBR := Lib.hid hB
  have HNB := Lib.hid hnb
  have HKD := Lib.hid hx
  have hni : (n : Int) ≤ 140737488355328 := by omega
  have hnbi : (nb : Int) ≤ 9223372036854775807 := by unfold maxLen at hnbm; omega
  have hx0 : (0 : Int) ≤ (x : Int) := by omega
  have hx1 : (x : Int) ≤ 255 := by have := kd.toNat_lt; omega
  have hlb0 : (0 : Int) ≤ (lb : Int) := by omega
  clear h hn hnl hrl hB hnb hnbm hlb hlg hx
  go_enter Try.func9, Try.ntmps9
  go_wp2_with fail
  refine HLG.out.mono ?_
  rintro e w' ⟨rfl, rfl⟩
  clear HLG
  by_cases h1 : 800 < lb
  · have h1i : (800 : Int) < (lb : Int) := by omega
    clear h1
    go_wp2_with fail
    refine (known7_any _).mono ?_
    rintro e w1 ⟨rfl, hb⟩
    have HB := Lib.hid hb
    clear hb
    go_wp2
    go_ret
    exact ⟨rfl, HB.out⟩
  have h1i : (lb : Int) ≤ 800 := by omega
  by_cases h2 : 300 < nb
  · have h2i : (300 : Int) < (nb : Int) := by omega
    clear h1 h2
    go_wp2_with fail
    refine (known7_any _).mono ?_
    rintro e w1 ⟨rfl, hb⟩
    have HB := Lib.hid hb
    clear hb
    go_wp2
    go_ret
    exact ⟨rfl, HB.out⟩
  have h2i : (nb : Int) ≤ 300 := by omega
  have HL8 : Hid (lb ≤ 800 ∧ nb ≤ 300) := Lib.hid (by omega)
  clear h1 h2 hnbi
  go_wp2_with fail
  refine (newlg_any w).mono ?_
  rintro e w1 ⟨g0, F0, rfl, hF, hd, hb⟩
  have HK0 : Hid (Lg1 w w1 F0 g0 [] 0 0) := Lib.hid ⟨hF, hd, hb⟩
  simp only [id]
  clear hF hd hb
  go_wp2_with fail
  go_loopw [7, 8] (fun z i wr => ∃ k : Nat, k ≤ n ∧ i = .int .i64 k ∧ ∃ g, z = .pointer (some ⟨g, 0, none⟩) ∧ Hid (∃ F ls m q, q ≤ k ∧ Lg1 w wr F g ls m q ∧ (allB ls).length ≤ 10 * k + lgN (rs.take k))) (fun _ i _ => n - (intOf i).toNat)
  case atStart => exact ⟨0, by omega, rfl, g0, rfl, Lib.hid ⟨F0, [], 0, 0, by omega, HK0.out, by simp [allB]⟩⟩
  case round =>
    obtain ⟨k, hk, rfl, g, rfl, HK⟩ := hrel
    obtain ⟨F, ls, m, q, hq, hd, hal⟩ := HK.out
    have HAL := Lib.hid hal
    have HD := Lib.hid hd
    have HQ := Lib.hid hq
    clear HK hd hq HK0 hal
    by_cases hlt : k < n
    · have hk1 : k < rs.length := by rw [← HN.out]; exact hlt
      obtain ⟨b, o, rfl, _, hc⟩ := dosG_open (HIN.out wr HD.out.bel).1 (by omega)
      obtain ⟨d0, d1, d2, d3⟩ := hc k hk1
      have C := doneG_round HIN.out HD.out hk1 (by have := HQ.out; have := HNL.out; omega) HRL.out
      have hgl := gS_len ls m rs[k] HD.out.at_.le HD.out.at_.short
      have hsn := lgN_snoc rs k hk1
      have HGL : Hid ((allB (gS ls m rs[k]).1).length ≤ 10 * (k + 1) + lgN (rs.take (k + 1))) := Lib.hid (by have := HAL.out; omega)
      clear hgl hsn
      obtain ⟨⟨kd2, of_, A1, ys, c1, kp⟩, hy1⟩ : ∃ y, rs[k] = y := ⟨_, rfl⟩
      rw [hy1] at d0 d1 d2 d3 C HGL
      simp only at d0 d1 d2 d3 C
      have HC := Lib.hid C
      have hki : (0 : Int) ≤ (k : Int) := by omega
      have hki2 : (k : Int) < (n : Int) := by omega
      clear hc hy1 C
      go_wp2_with fail
      refine HC.out.mono ?_
      intro e w2 hx
      obtain ⟨g2, F2, q2, rfl, hq2, hl2⟩ := HD.out.done hx
      have HK2 : Hid (∃ F ls m q, q ≤ k + 1 ∧ Lg1 w w2 F g2 ls m q ∧ (allB ls).length ≤ 10 * (k + 1) + lgN (rs.take (k + 1))) := Lib.hid ⟨F2, _, _, q2, by have := HQ.out; omega, hl2, HGL.out⟩
      clear hx hq2 hl2 HC d0 d1 d2 d3
      go_wp2
      go_roundw
      case rel => exact ⟨k + 1, by omega, by go_num, g2, rfl, HK2⟩
      case measure => simp [intOf]; omega
    · obtain rfl : k = n := by omega
      have hmany := HD.out.at_.many
      have hle := HD.out.at_.le
      have hmi : (ls.length : Int) ≤ 419430 := by omega
      have hml : (m : Int) ≤ (ls.length : Int) := by omega
      have hm0 : (0 : Int) ≤ (m : Int) := by omega
      have HA8 : Hid ((allB ls).length ≤ 10000) := Lib.hid (by
        have h1 := HAL.out
        rw [List.take_of_length_le (by rw [← HN.out]; omega), HLB.out] at h1
        have h2 := lgN_len rs
        have h3 := HLB.out; have h4 := HL8.out; have h5 := HN.out
        omega)
      clear HQ HAL hmany hle
      go_wp2_with fail
      refine (lasting7_any F g m q ls wr HD.out.at_).mono ?_
      rintro e w' ⟨rfl, rfl⟩
      go_wp2_with fail
      refine (pending7_any F g m q ls wr HD.out.at_).mono ?_
      rintro e w2 ⟨rfl, hb⟩
      have HD2 := Lib.hid (HD.out.below hb)
      clear hb HD
      obtain ⟨r, hr⟩ : ∃ r, ls.length - m = r := ⟨_, rfl⟩
      have hri : (ls.length : Int) - (m : Int) = (r : Int) := by omega
      have hmr : (m : Int) + (r : Int) = (ls.length : Int) := by omega
      have hr0 : (0 : Int) ≤ (r : Int) := by omega
      have hr1 : (r : Int) ≤ 419430 := by omega
      rw [hri]
      by_cases hk0 : kd = 0
      · subst hk0
        have hx00 : x = 0 := by have := HKD.out; simpa using this.symm
        subst hx00
        clear hr hri
        have HC := Lib.hid (append7_zero g (.slice (some ⟨w2.heap.size, 0, none⟩) 1 1))
        go_wp2_with fail
        refine (HC.out _).mono ?_
        rintro e w' ⟨rfl, rfl⟩
        have HD3 := Lib.hid (HD2.out.below ((Below.refl _ _).alloc (Nat.le_refl _) (.cells #[.slice AB nb cb] 27)))
        clear HC HD2
        go_wp2_with fail
        refine (lasting7_any F g m q ls _ HD3.out.at_).mono ?_
        rintro e w' ⟨rfl, rfl⟩
        go_wp2_with fail
        refine (pending7_any F g m q ls _ HD3.out.at_).mono ?_
        rintro e w4 ⟨rfl, hb⟩
        have HB4 := Lib.hid (HD3.out.bel.trans (hb.mono HD3.out.bel.size))
        have hri2 : (ls.length : Int) - (m : Int) = (r : Int) := by omega
        rw [hri2]
        clear hb HD3 hri2
        go_wp2_with fail
        refine (known7_any _).mono ?_
        rintro e w5 ⟨rfl, hb⟩
        have HB5 := Lib.hid (HB4.out.trans (hb.mono HB4.out.size))
        clear hb
        go_wp2
        go_ret
        exact ⟨rfl, HB5.out⟩
      · have hkz := u8_zero hk0
        have hadd : addS ls kd [bs] = (ls ++ [(kd, bs)], 0) := by
          have h1 := HA8.out; have h2 := HL8.out; have h3 := HNB.out
          have e : newR kd [bs] = [(kd, bs)] := rfl
          rw [add_ok (fun b hb => by
            have : b = bs := by simpa using hb
            subst this; omega) (by rw [e, all_app, List.length_append, all_one, fr_len]; show _ + (bs.length + 10) ≤ _; omega), e]
        have hap := append7_one w2.heap.size F g m q kd hk0 ls AB bs cb w2 rfl HD2.out.at_ (RowN.of_low (HBR.out.below HD2.out.bel) HD2.out.bel.size HD2.out.new) (by have := HL8.out; have := HNB.out; unfold maxLen; omega)
        rw [hadd, HKD.out, ← HNB.out] at hap
        rw [HKD.out] at hkz
        have HAP := Lib.hid hap
        have hxne : ((x : Int) == 0) = false := by simpa using hkz
        clear hadd hap hk0 hr hri hkz
        go_wp2_with fail
        refine HAP.out.mono ?_
        rintro e w3 ⟨rfl, F3, hf, hl, ht⟩
        have HD3 := Lib.hid (HD2.out.to hf hl ht)
        clear hf hl ht HAP HD2
        go_wp2_with fail
        refine (records7_any F3 g _ _ _ w3 HD3.out.at_).mono ?_
        rintro e w4 ⟨us, A4, c4, hus, rfl, hou, hrc, hb⟩
        have HD4 := Lib.hid (HD3.out.below hb)
        have hul : us.length = ls.length + 1 := by have := congrArg List.length hus; rw [List.length_map, List.length_append] at this; exact this
        have HU := Lib.hid (inRs_of hou hrc)
        have HUS := Lib.hid hus
        have HUL := Lib.hid hul
        rw [hul]
        clear hus hou hrc hb hul HD3
        go_wp2_with fail
        refine (lasting7_any F3 g _ _ _ w4 HD4.out.at_).mono ?_
        rintro e w' ⟨rfl, rfl⟩
        go_wp2_with fail
        refine (pending7_any F3 g _ _ _ w4 HD4.out.at_).mono ?_
        rintro e w5 ⟨rfl, hb⟩
        have HB5 := Lib.hid (HD4.out.bel.trans (hb.mono HD4.out.bel.size))
        have hU5 := HU.out w5 hb
        have hpi : (((ls ++ [(kd, bs)]).length : Nat) : Int) - (m : Int) = (r : Int) + 1 := by rw [List.length_append]; simp; omega
        rw [hpi]
        have hl1 : ls.length < us.length := by rw [HUL.out]; omega
        obtain ⟨b, o, rfl, _, hc⟩ := recs_open hU5.1 (by omega)
        obtain ⟨e0, e1⟩ := hc ls.length hl1
        have hurow := hU5.2 us[ls.length] (List.getElem_mem hl1)
        have hrc : rcOf us[ls.length] = (kd, bs) := by
          have h1 : (us.map rcOf)[ls.length]? = (ls ++ [(kd, bs)])[ls.length]? := by rw [HUS.out]
          rw [List.getElem?_map, List.getElem?_eq_getElem hl1, List.getElem?_append_right (Nat.le_refl _)] at h1
          simpa using h1
        obtain ⟨⟨kd9, A9, y9, c9⟩, hy9⟩ : ∃ y, us[ls.length] = y := ⟨_, rfl⟩
        rw [hy9] at e0 e1 hurow hrc
        unfold rcOf at hrc
        simp only at e0 e1 hurow hrc
        obtain ⟨rfl, rfl⟩ : kd9 = kd ∧ y9 = bs := by simpa using hrc
        rw [HKD.out] at e0
        have HSA := Lib.hid (same6_true w5.heap.size w.heap.size c9 cb y9.length nb A9 AB y9 w5 hurow (HBR.out.below HB5.out) rfl HNB.out)
        obtain ⟨N, hN⟩ : ∃ N, ls.length = N := ⟨_, rfl⟩
        rw [hN] at e0 e1 hmr hmi hml ⊢
        have hNi : (N : Int) ≤ 419430 := by omega
        have hN0 : (0 : Int) ≤ (N : Int) := by omega
        have hN1 : ((N + 1 : Nat) : Int) = (N : Int) + 1 := by omega
        clear hb hU5 hpi hc hurow hrc hy9 hl1 hN HD4 HU HUS HUL
        go_wp2_with fail
        refine HSA.out.mono ?_
        rintro e w' ⟨rfl, rfl⟩
        clear HSA
        go_wp2_with fail
        refine (known7_any _).mono ?_
        rintro e w6 ⟨rfl, hb⟩
        have HB6 := Lib.hid (HB5.out.trans (hb.mono HB5.out.size))
        clear hb
        go_wp2
        go_ret
        exact ⟨rfl, HB6.out⟩
end Go.Proofs.Ytkagfjjocmjeoaa
