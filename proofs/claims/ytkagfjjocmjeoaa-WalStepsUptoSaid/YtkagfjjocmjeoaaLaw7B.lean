/- The law WalLasts, walked. -/
import Derived.Test.YtkagfjjocmjeoaaLaw7A
import Derived.Test.YtkagfjjocmjeoaaRecsCut
namespace Go.Proofs.Ytkagfjjocmjeoaa
open Go.RowKit Mem Be Word Frm
set_option maxRecDepth 100000
set_option maxHeartbeats 4000000
set_option linter.unusedVariables false
/-- How many records of a row are whole in so many bytes. -/
theorem whole_at (rs : List Rc) (k : Nat) (hk : k ≤ (allB rs).length) : ∃ p, p ≤ rs.length ∧ (allB (rs.take p)).length ≤ k ∧ ∀ hl : p < rs.length, k < (allB (rs.take p)).length + (rs[p].2.length + 10) := by
  have key : ∀ j, j ≤ rs.length → (allB (rs.take j)).length ≤ k → ∃ p, p ≤ rs.length ∧ (allB (rs.take p)).length ≤ k ∧ ∀ hl : p < rs.length, k < (allB (rs.take p)).length + (rs[p].2.length + 10) := by
    intro j
    induction hr : rs.length - j generalizing j with
    | zero => intro hj h; exact ⟨j, hj, h, fun hl => by omega⟩
    | succ d ih =>
      intro hj h
      by_cases hc : k < (allB (rs.take j)).length + (rs[j].2.length + 10)
      · exact ⟨j, hj, h, fun _ => hc⟩
      · refine ih (j + 1) (by omega) (by omega) ?_
        rw [all_snoc rs j (by omega), List.length_append, fr_len]
        omega
  exact key 0 (Nat.zero_le _) (by simp [allB])
theorem all_take_mono (rs : List Rc) {a b : Nat} (h : a ≤ b) : (allB (rs.take a)).length ≤ (allB (rs.take b)).length := by
  have : rs.take b = rs.take a ++ (rs.take b).drop a := by
    have := List.take_append_drop a (rs.take b)
    rw [List.take_take, Nat.min_eq_left h] at this
    exact this.symm
  rw [this, all_app, List.length_append]; omega
/-- Behind a crash there are the records that lasted, and of the others as many as are whole. -/
theorem crash_take (rs : List Rc) (m k : Nat) (h : Short rs) (hm : m ≤ rs.length) : ∃ p, m ≤ p ∧ p ≤ rs.length ∧ (scanS (allB (rs.take m) ++ (allB (rs.drop m)).take k)).1 = rs.take p := by
  have e : allB (rs.take m) ++ (allB (rs.drop m)).take k = (allB rs).take ((allB (rs.take m)).length + k) := by
    conv => rhs; rw [all_drop rs m]
    rw [List.take_length_add_append]
  rw [e]
  have hk : ∃ j, j ≤ (allB rs).length ∧ (allB (rs.take m)).length ≤ j ∧ (allB rs).take ((allB (rs.take m)).length + k) = (allB rs).take j := by
    by_cases hj : (allB (rs.take m)).length + k ≤ (allB rs).length
    · exact ⟨_, hj, by omega, rfl⟩
    · refine ⟨(allB rs).length, Nat.le_refl _, by have := all_parts rs m; omega, ?_⟩
      rw [List.take_of_length_le (by omega), List.take_of_length_le (Nat.le_refl _)]
  obtain ⟨j, h1, h2, h3⟩ := hk
  obtain ⟨p, hp, hp1, hp2⟩ := whole_at rs j h1
  rw [h3, scan_cut rs h j p hp hp1 h1 hp2]
  refine ⟨p, ?_, hp, rfl⟩
  rcases Nat.lt_or_ge p m with hlt | hge
  · have h5 := hp2 (by omega)
    have h6 := all_take_mono rs (show p + 1 ≤ m by omega)
    rw [all_snoc rs p (by omega), List.length_append, fr_len] at h6
    omega
  · exact hge
theorem tail_all (ls : List Rc) (m k : Nat) (h : (allB ls).length ≤ k) : allB (ls.take m) ++ (allB (ls.drop m)).take k = allB ls := by
  have e : (allB (ls.drop m)).take k = allB (ls.drop m) := List.take_of_length_le (by have := all_parts ls m; omega)
  rw [e, ← all_drop]
/-- Records that are there, in whatever later world. -/
def InRs (w : World) (A : Option Addr) (us : List RecV) : Prop := ∀ W, Below w.heap.size w W → Row W W.heap.size A (recsC us) ∧ Recs_ W us
theorem inRs_of {w : World} {A : Option Addr} {B n c : Nat} {us : List RecV} (h : w.ownsRow B 64 2 (.slice A n c) n (recsC us)) (hr : RecsO w B us) : InRs w A us := fun W hb => ⟨((ownRow h).below hb).more hb.size, recs_below (recsO_recs hr) hb⟩
theorem InRs.later {w w1 : World} {A : Option Addr} {us : List RecV} (h : InRs w A us) (hb : Below w.heap.size w w1) : InRs w1 A us := fun W hb2 => h W (hb.trans (hb2.mono hb.size))
theorem same_rs {w : World} {A A' : Option Addr} {us vs : List RecV} (h : InRs w A us) (h' : InRs w A' vs) (n m c d : Nat) (hn : n = us.length) (hm : m = vs.length) (he : us.map rcOf = vs.map rcOf) (hl : n ≤ 1073741824) :
    Calls Try.prog 26 #[.slice A n c, .slice A' m d] w (IsT true w) :=
  refsame5_true n m c d A A' us vs hn hm he w (h w (Below.refl _ _)).1 (h' w (Below.refl _ _)).1 (h w (Below.refl _ _)).2 (h' w (Below.refl _ _)).2 hl
theorem lasts7_walk (A : Option Addr) (rs : List DoG) (n c kept : Nat) (hn : n = rs.length) (hnl : n ≤ 140737488355328) (hrl : ∀ r ∈ rs, r.rows.length ≤ 5864062014805) (hkp : kept ≤ 65535) (w : World) (h : InG w A rs) :
    Calls Try.prog 5 #[.slice A n c, .int .u16 (kept : Int)] w (IsT true w) := by
  have HLG := Lib.hid (longG_any n c A rs hn (by unfold maxLen; omega) w h)
  have HIN := Lib.hid h
  have HN := Lib.hid hn
  have HNL := Lib.hid hnl
  have HRL := Lib.hid hrl
  have hni : (n : Int) ≤ 140737488355328 := by omega
  have hkp0 : (0 : Int) ≤ (kept : Int) := by omega
  have hkp1 : (kept : Int) ≤ 65535 := by omega
  clear h hn hnl hrl hkp
  go_enter Try.func5, Try.ntmps5
  go_wp2_with fail
  refine HLG.out.mono ?_
  rintro e w' ⟨⟨lb, rfl⟩, rfl⟩
  clear HLG
  by_cases hlb : 1000 < lb
  · go_wp2_with fail
    refine (known7_any _).mono ?_
    rintro e w1 ⟨rfl, hb⟩
    have HB := Lib.hid hb
    clear hb
    go_wp2
    go_ret
    exact ⟨rfl, HB.out⟩
  have hlb2 : lb ≤ 1000 := by omega
  clear hlb
  go_wp2_with fail
  refine (newlg_any w).mono ?_
  rintro e w1 ⟨g0, F0, rfl, hF, hd, hb⟩
  have HK0 : Hid (Lg1 w w1 F0 g0 [] 0 0) := Lib.hid ⟨hF, hd, hb⟩
  simp only [id]
  clear hF hd hb
  go_wp2_with fail
  go_loopw [5, 6] (fun z i wr => ∃ k : Nat, k ≤ n ∧ i = .int .i64 k ∧ ∃ g, z = .pointer (some ⟨g, 0, none⟩) ∧ Hid (∃ F ls m q, q ≤ k ∧ Lg1 w wr F g ls m q)) (fun _ i _ => n - (intOf i).toNat)
  case atStart => exact ⟨0, by omega, rfl, g0, rfl, Lib.hid ⟨F0, [], 0, 0, by omega, HK0.out⟩⟩
  case round =>
    obtain ⟨k, hk, rfl, g, rfl, HK⟩ := hrel
    obtain ⟨F, ls, m, q, hq, hd⟩ := HK.out
    have HD := Lib.hid hd
    have HQ := Lib.hid hq
    clear HK hd hq HK0
    by_cases hlt : k < n
    · have hk1 : k < rs.length := by rw [← HN.out]; exact hlt
      obtain ⟨b, o, rfl, _, hc⟩ := dosG_open (HIN.out wr HD.out.bel).1 (by omega)
      obtain ⟨d0, d1, d2, d3⟩ := hc k hk1
      have C := doneG_round HIN.out HD.out hk1 (by have := HQ.out; have := HNL.out; omega) HRL.out
      obtain ⟨⟨kd, of_, A1, ys, c1, kp⟩, hy1⟩ : ∃ y, rs[k] = y := ⟨_, rfl⟩
      rw [hy1] at d0 d1 d2 d3 C
      simp only at d0 d1 d2 d3 C
      have HC := Lib.hid C
      have hki : (0 : Int) ≤ (k : Int) := by omega
      have hki2 : (k : Int) < (n : Int) := by omega
      clear hc hy1 C
      go_wp2_with fail
      refine HC.out.mono ?_
      intro e w2 hx
      obtain ⟨g2, F2, q2, rfl, hq2, hl2⟩ := HD.out.done hx
      have HK2 : Hid (∃ F ls m q, q ≤ k + 1 ∧ Lg1 w w2 F g2 ls m q) := Lib.hid ⟨F2, _, _, q2, by have := HQ.out; omega, hl2⟩
      clear hx hq2 hl2 HC d0 d1 d2 d3
      go_wp2
      go_roundw
      case rel => exact ⟨k + 1, by omega, by go_num, g2, rfl, HK2⟩
      case measure => simp [intOf]; omega
    · obtain rfl : k = n := by omega
      have hmany := HD.out.at_.many
      have hle := HD.out.at_.le
      have hmi : (ls.length : Int) ≤ 419430 := by omega
      have hml : (m : Int) ≤ (ls.length : Int) := by omega
      have hm0 : (0 : Int) ≤ (m : Int) := by omega
      have hl1 : ls.length ≤ 1073741824 := by omega
      obtain ⟨p, hp1, hp2, hp3⟩ := crash_take ls m kept HD.out.at_.short hle
      have hp1i : (m : Int) ≤ (p : Int) := by omega
      have hp2i : (p : Int) ≤ (ls.length : Int) := by omega
      have hpl : (ls.take p).length = p := by rw [List.length_take]; omega
      have HP := Lib.hid hp3
      have HPL := Lib.hid hpl
      have HP2 := Lib.hid hp2
      have HL1 := Lib.hid hl1
      have HSH := Lib.hid HD.out.at_.short
      clear HQ hmany hle hp1 hp2 hp3 hpl hl1
      go_wp2_with fail
      refine (lasting7_any F g m q ls wr HD.out.at_).mono ?_
      rintro e w' ⟨rfl, rfl⟩
      go_wp2_with fail
      refine (records7_any F g m q ls wr HD.out.at_).mono ?_
      rintro e w2 ⟨us, A2, c2, hus, rfl, hou, hrc, hb⟩
      have HD2 := Lib.hid (HD.out.below hb)
      have HU := Lib.hid (inRs_of hou hrc)
      have hul : us.length = ls.length := by rw [← hus, List.length_map]
      have HUL := Lib.hid hul
      have HUS := Lib.hid hus
      have HUC : Hid (ls.length ≤ c2) := Lib.hid (by
        obtain ⟨A', c', he, h2, _⟩ := ownShape hou
        injection he with _ _ he
        omega)
      rw [hul]
      clear hus hou hrc hb HD hul
      have hc3 := crash7_any F g m q kept ls w2 HD2.out.at_ _ rfl
      rw [HP.out, HPL.out] at hc3
      have HC3 := Lib.hid hc3
      clear hc3
      go_wp2_with fail
      refine HC3.out.mono ?_
      rintro e w3 ⟨g3, F3, rfl, hf3, hl3, hb⟩
      have HL3 := Lib.hid (HD2.out.new_ hf3 hl3 hb)
      have HD3 := Lib.hid (HD2.out.below hb)
      have HU3 := Lib.hid (HU.out.later hb)
      clear hf3 hl3 hb HC3 HD2 HU
      go_wp2_with fail
      refine (records7_any F3 g3 _ _ _ w3 HL3.out.at_).mono ?_
      rintro e w4 ⟨vs, A4, c4, hvs, rfl, hov, hrv, hb⟩
      have HL4 := Lib.hid (HL3.out.below hb)
      have HD4 := Lib.hid (HD3.out.below hb)
      have HU4 := Lib.hid (HU3.out.later hb)
      have HV4 := Lib.hid (inRs_of hov hrv)
      have hvl : vs.length = p := by have := congrArg List.length hvs; rw [List.length_map, HPL.out] at this; exact this
      have HVL := Lib.hid hvl
      have hcut := fun W => cutRh W A2 ls.length c2 p (by have := HUC.out; have := HP2.out; omega)
      have HSM := Lib.hid (same_rs HV4.out (show InRs w4 A2 (us.take p) from fun W hb => ⟨rowR_take (HU4.out W hb).1 p, recs_sub (HU4.out W hb).2 (fun r hr => List.mem_of_mem_take hr)⟩) p p c4 c2 hvl.symm (by rw [List.length_take, HUL.out]; have := HP2.out; omega) (by rw [hvs, ← HUS.out, List.map_take]) (by have := HP2.out; have := HL1.out; omega))
      rw [hvl]
      clear hvs hov hrv hb HL3 HD3 HU3 hvl
      go_wp2_with fail
      refine HSM.out.mono ?_
      rintro e w5 ⟨rfl, hb⟩
      have HL5 := Lib.hid (HL4.out.below hb)
      have HD5 := Lib.hid (HD4.out.below hb)
      have HU5 := Lib.hid (HU4.out.later hb)
      clear hb HSM HL4 HD4 HU4 HV4 hcut
      go_wp2_with fail
      refine (pending7_any F3 g3 _ _ _ w5 HL5.out.at_).mono ?_
      rw [HPL.out, Int.sub_self]
      rintro e w6 ⟨rfl, hb⟩
      have HD6 := Lib.hid (HD5.out.below hb)
      have HU6 := Lib.hid (HU5.out.later hb)
      clear hb HL5 HD5 HU5
      go_wp2_with fail
      refine (records7_any F g _ _ _ w6 HD6.out.at_).mono ?_
      rintro e w7 ⟨xs, A7, c7, hxs, rfl, hox, hrx, hb⟩
      have HD7 := Lib.hid (HD6.out.below hb)
      have HU7 := Lib.hid (HU6.out.later hb)
      have hxl : xs.length = ls.length := by rw [← hxs, List.length_map]
      have HSM := Lib.hid (same_rs (inRs_of hox hrx) HU7.out ls.length ls.length c7 c2 hxl.symm HUL.out.symm (hxs.trans HUS.out.symm) HL1.out)
      rw [hxl]
      clear hxs hox hrx hb HD6 HU6 hxl
      go_wp2_with fail
      refine HSM.out.mono ?_
      rintro e w8 ⟨rfl, hb⟩
      have HD8 := Lib.hid (HD7.out.below hb)
      have HU8 := Lib.hid (HU7.out.later hb)
      clear hb HSM HD7 HU7
      go_wp2_with fail
      refine (lasting7_any F g m q ls w8 HD8.out.at_).mono ?_
      rintro e w' ⟨rfl, rfl⟩
      have hall : allB (ls.take m) ++ (allB (ls.drop m)).take 1073741824 = allB ls := tail_all ls m _ (by have := HD8.out.at_.mx; omega)
      have hc9 := crash7_any F g m q 1073741824 ls w8 HD8.out.at_ _ hall
      rw [scan_all _ HSH.out] at hc9
      have HC9 := Lib.hid hc9
      clear hc9 hall
      go_wp2_with fail
      refine HC9.out.mono ?_
      rintro e w9 ⟨g9, F9, rfl, hf9, hl9, hb⟩
      have HL9 := Lib.hid (HD8.out.new_ hf9 hl9 hb)
      have HU9 := Lib.hid (HU8.out.later hb)
      clear hf9 hl9 hb HC9 HD8 HU8
      go_wp2_with fail
      refine (records7_any F9 g9 _ _ _ w9 HL9.out.at_).mono ?_
      rintro e w10 ⟨xs, A10, c10, hxs, rfl, hox, hrx, hb⟩
      have HL10 := Lib.hid (HL9.out.below hb)
      have HU10 := Lib.hid (HU9.out.later hb)
      have hxl : xs.length = ls.length := by rw [← hxs, List.length_map]
      have HSM := Lib.hid (same_rs (inRs_of hox hrx) HU10.out ls.length ls.length c10 c2 hxl.symm HUL.out.symm (hxs.trans HUS.out.symm) HL1.out)
      rw [hxl]
      clear hxs hox hrx hb HL9 HU9 hxl
      go_wp2_with fail
      refine HSM.out.mono ?_
      rintro e w11 ⟨rfl, hb⟩
      have HL11 := Lib.hid (HL10.out.below hb)
      clear hb HSM HL10 HU10
      go_wp2_with fail
      refine (known7_any _).mono ?_
      rintro e w12 ⟨rfl, hb⟩
      have HB12 := Lib.hid (HL11.out.bel.trans (hb.mono HL11.out.bel.size))
      clear hb
      go_wp2
      go_ret
      exact ⟨rfl, HB12.out⟩
end Go.Proofs.Ytkagfjjocmjeoaa
