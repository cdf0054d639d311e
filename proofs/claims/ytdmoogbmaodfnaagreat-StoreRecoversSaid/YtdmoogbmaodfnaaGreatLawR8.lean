/- The law StoreRecovers, walked. -/
import Derived.Test.YtdmoogbmaodfnaaGreatRefR8
import Derived.Test.YtdmoogbmaodfnaaGreatRefM8
namespace Go.Proofs.YtdmoogbmaodfnaaGreat
open Go.RowKit Go.ChangeShapes Mem Be Word Frm Go.Maps
set_option maxRecDepth 100000
set_option maxHeartbeats 8000000
set_option linter.unusedVariables false
set_option linter.unusedSimpArgs false
theorem recovers8_walk (A AT : Option Addr) (bs ts : List UInt8) (n c m d : Nat) (hn : n = bs.length) (hm : m = ts.length) (hnl : n ≤ 140737488355328) (hml : m ≤ 140737488355328) (w : World) (hx : Row w w.heap.size A (bs.map byteV)) (hy : Row w w.heap.size AT (ts.map byteV)) :
    Calls Tryz.prog 4 #[.slice A n c, .slice AT m d] w (IsT true w) := by
  subst hn; subst hm
  obtain ⟨i0, hi0, hz0, hz1, hz2⟩ := info_parts info_b
  have HX0 := Lib.hid hx
  have HY0 := Lib.hid hy
  have hni : (bs.length : Int) ≤ 140737488355328 := by omega
  have hmi : (ts.length : Int) ≤ 140737488355328 := by omega
  clear hx hy
  go_enter Tryz.func4, Tryz.ntmps4
  by_cases hbig : 1500 < bs.length + ts.length
  · have hbi : (1500 : Int) < (bs.length : Int) + (ts.length : Int) := by omega
    go_wp2_with fail
    refine (known8_any _).mono ?_
    rintro e w1 ⟨rfl, hb⟩
    have HB := Lib.hid hb
    clear hb
    go_wp2
    go_ret
    exact ⟨rfl, HB.out⟩
  have hbi : ¬ (1500 : Int) < (bs.length : Int) + (ts.length : Int) := by omega
  have HSM : Hid (bs.length + ts.length ≤ 1500) := Lib.hid (by omega)
  clear hbig hnl hml
  go_wp2_with fail
  refine (of_any bs.length w.heap.size c bs A rfl (by have := HSM.out; omega) w HX0.out (Nat.le_refl _)).mono ?_
  rintro e w1 ⟨y, FY, rfl, hfy, hdy, hb1⟩
  simp only
  have hif : ¬ 4194304 < bs.length + ([] : List UInt8).length + ts.length := by have := HSM.out; simp; omega
  have hap := append_one w1.heap.size FY y 0 bs [] AT ts d w1 rfl hdy (RowN.of_low (B := w.heap.size) (HY0.out.below hb1) hb1.size hfy) (by have := HSM.out; unfold maxLen; omega)
  rw [if_neg hif] at hap
  simp only [List.nil_append] at hap
  have HAP := Lib.hid hap
  have HB1 := Lib.hid hb1
  have HFY := Lib.hid hfy
  clear hif hap hb1 hfy hdy
  go_wp2_with fail
  refine HAP.out.mono ?_
  rintro e w2 ⟨rfl, F2, hf2, hd2, ht2⟩
  simp only
  have HB2 : Hid (Below w.heap.size w w2) := Lib.hid (HB1.out.trans (ht2.below HB1.out.size HFY.out))
  have HD2 := Lib.hid hd2
  have HXA := Lib.hid ((HX0.out.below HB2.out).more HB2.out.size)
  clear hf2 hd2 ht2 HAP HFY HB1
  go_wp2_with (at_builtin; refine wpList_app _ rfl _ _ 27 rfl w2.heap.size 5 i0 (.int .u8 0) 1 Tryz.underlying27 hi0 hz0 hz1 hz2 rfl (.slice none 0 0) 0 [] rfl (World.ownsRow_nil _ _ _ _) w2.heap.size A bs.length c (bs.map byteV) rfl (by simp) HXA.out (byte_one _) (by have := HSM.out; unfold maxLen; omega) (by have := HSM.out; omega) (Nat.le_refl _) ?_)
  intro v' w4 hown hgr _
  have HB4 : Hid (Below w2.heap.size w2 w4) := Lib.hid ((Below.refl _ _).grown hgr (Nat.le_refl _) (fun g hg => by simp [Value.ownBlock] at hg))
  obtain ⟨A4, c4, hv, ho4, _⟩ := made_of (bs := bs) hown (by simp) HB4.out
  injection hv with hv
  subst hv
  have HO4 := Lib.hid ho4
  have HYA := Lib.hid ((HY0.out.below (HB2.out.trans (HB4.out.mono HB2.out.size))).more (HB2.out.trans (HB4.out.mono HB2.out.size)).size)
  clear hown hgr ho4
  go_wp2_with (at_builtin; refine wpList_app _ rfl _ _ 27 rfl w2.heap.size 5 i0 (.int .u8 0) 1 Tryz.underlying27 hi0 hz0 hz1 hz2 rfl _ bs.length _ rfl HO4.out w4.heap.size AT ts.length d (ts.map byteV) rfl (by simp) HYA.out (byte_one _) (by have := HSM.out; unfold maxLen; omega) (by have := HSM.out; omega) HB4.out.size ?_)
  intro v' w5 hown hgr _
  obtain ⟨X, hX⟩ : ∃ X, bs ++ ts = X := ⟨_, rfl⟩
  have hXl : X.length ≤ 1500 := by rw [← hX, List.length_append]; exact HSM.out
  have HB5 : Hid (Below w2.heap.size w2 w5) := Lib.hid (HB4.out.grown hgr HB4.out.size fun g hg => (HO4.out.lt g hg).1)
  obtain ⟨A5, c5, hv, ho5, _⟩ := made_of (bs := X) hown (by rw [← hX, List.map_append]) HB5.out
  injection hv with hv
  subst hv
  have HO5 := Lib.hid ho5
  have HC5 := Lib.hid (own_cap ho5).1
  have hre := recover_any F2 y 0 bs ts w5 (HD2.out.below HB5.out)
  rw [hX] at hre
  have HRE := Lib.hid hre
  have HX := Lib.hid hX
  have HB05 : Hid (Below w.heap.size w w5) := Lib.hid (HB2.out.trans (HB5.out.mono HB2.out.size))
  clear hown hgr ho5 HO4 HXA HYA HB4 hre hX
  go_wp2_with fail
  refine HRE.out.mono ?_
  rintro e w6 (⟨T, hT, g, FG, rfl, hfg, hst, hb6⟩ | ⟨hT, rfl, hb6⟩)
  · simp only
    have HB06 : Hid (Below w.heap.size w w6) := Lib.hid (HB05.out.trans (hb6.mono HB05.out.size))
    have HRR := Lib.hid (refrecover_any X.length c5 A5 X rfl HC5.out (by omega) w6 (Row.of_own (own_later HO5.out hb6)))
    have HTT := Lib.hid hT
    have HST := Lib.hid hst
    clear hT hst hfg hb6 HRE
    go_wp2_with fail
    refine HRR.out.mono ?_
    rintro e w7 (⟨us, AU, cU, AL, cL, R, nr, cR, hU, rfl, hcu, heu, hal, hb7⟩ | ⟨hU, rfl, hb7⟩)
    · obtain rfl : T = us.map Prod.fst := by have := HTT.out.symm.trans hU; injection this
      have hst7 := HST.out.below hb7
      have hrok := recS_ok HTT.out
      have hmx := hst7.mx
      have hag := scan_again X
      have hat := scan_at X
      obtain ⟨s, hs⟩ : ∃ s, (scanS X).2.1 = s := ⟨_, rfl⟩
      obtain ⟨rs, hrs⟩ : ∃ rs, (scanS X).1 = rs := ⟨_, rfl⟩
      rw [hs] at hal hag hat ⊢
      rw [hrs] at hst7 hag hrok hmx
      have hsl : (X.take s).length = s := by rw [List.length_take]; omega
      have hul : us.length ≤ 1000000000 := by
        have h1 := hrok.2
        simp only [List.length_map] at h1 hmx
        omega
      simp only
      obtain ⟨wa, hwa⟩ : ∃ wa, w7.alloc (.cells #[.slice AL s cL, .slice none 0 0, .int .i64 0, .slice R nr cR, .int .i64 (nr : Int), .slice AU us.length cU, .slice AU us.length cU, .slice none 0 0] 36) = wa := ⟨_, rfl⟩
      have hba : Below w7.heap.size w7 wa := by rw [← hwa]; exact (Below.refl _ _).alloc (Nat.le_refl _) _
      have HSA := Lib.hid (same8_any FG g 0 s 0 nr cL 0 cR 0 0 us.length cU us.length cU ⟨rs, rs.length, us.map Prod.fst, us.map Prod.fst, []⟩ (X.take s) [] us us AL none R AU AU none 0 (nr : Int) (by show allB (rs.take rs.length) = _; rw [List.take_length]; exact hag) (by show allB (rs.drop rs.length) = _; rw [List.drop_length]; rfl) hsl.symm rfl rfl rfl rfl rfl rfl hul hul wa (hst7.below hba) ((hal.below hba).more hba.size) (Row.nil _ _ _) (heu.below hba) (heu.below hba))
      have HWA := Lib.hid hwa
      have HB0A : Hid (Below w.heap.size w wa) := Lib.hid ((HB06.out.trans (hb7.mono HB06.out.size)).trans (hba.mono (HB06.out.trans (hb7.mono HB06.out.size)).size))
      clear hst7 hrok hmx hag hat hs hrs hal hsl hul hwa hba hU hcu heu hb7 HRR
      go_wp2_with fail
      rw [HWA.out]
      refine HSA.out.mono ?_
      rintro e w8 ⟨rfl, hb8⟩
      have HB08 : Hid (Below w.heap.size w w8) := Lib.hid (HB0A.out.trans (hb8.mono HB0A.out.size))
      clear hb8
      go_wp2_with fail
      refine (known8_any _).mono ?_
      rintro e w9 ⟨rfl, hb9⟩
      have HB09 : Hid (Below w.heap.size w w9) := Lib.hid (HB08.out.trans (hb9.mono HB08.out.size))
      clear hb9
      go_wp2
      go_ret
      exact ⟨rfl, HB09.out⟩
    · exact absurd (HTT.out.symm.trans hU) (by simp)
  · simp only
    have HB06 : Hid (Below w.heap.size w w6) := Lib.hid (HB05.out.trans (hb6.mono HB05.out.size))
    have HRR := Lib.hid (refrecover_any X.length c5 A5 X rfl HC5.out (by omega) w6 (Row.of_own (own_later HO5.out hb6)))
    have HTT := Lib.hid hT
    clear hT hb6 HRE
    go_wp2_with fail
    refine HRR.out.mono ?_
    rintro e w7 (⟨us, AU, cU, AL, cL, R, nr, cR, hU, rfl, hcu, heu, hal, hb7⟩ | ⟨hU, rfl, hb7⟩)
    · exact absurd (HTT.out.symm.trans hU) (by simp)
    · have HB07 : Hid (∀ o, Below w.heap.size w (w7.alloc o)) := Lib.hid fun o => (HB06.out.trans (hb7.mono HB06.out.size)).alloc (HB06.out.trans (hb7.mono HB06.out.size)).size o
      clear hb7 hU HRR
      simp only
      go_wp2_with fail
      refine (known8_any _).mono ?_
      rintro e w9 ⟨rfl, hb9⟩
      have HB09 : Hid (Below w.heap.size w w9) := Lib.hid ((HB07.out _).trans (hb9.mono (HB07.out _).size))
      clear hb9
      go_wp2
      go_ret
      exact ⟨rfl, HB09.out⟩
end Go.Proofs.YtdmoogbmaodfnaaGreat
