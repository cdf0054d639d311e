/- The law FramesBack, walked. -/
import Derived.Test.YtpccppdakmpchaaLaw5F
namespace Go.Proofs.Ytpccppdakmpchaa
open Go.RowKit Mem Be Word Frm
set_option maxRecDepth 100000
set_option maxHeartbeats 4000000
set_option linter.unusedVariables false
theorem rd_of {W : World} {A : Option Addr} {rs : List RecV} (h : Row W W.heap.size A (recsC rs)) (j : Nat) (hj : j < rs.length) : ∃ b o, A = some ⟨b, o, none⟩ ∧ W.cell? ⟨b, o + j * 2 + 1, none⟩ = some (.slice rs[j].2.1 rs[j].2.2.1.length rs[j].2.2.2) := by
  obtain ⟨b, o, e, _, hc⟩ := recs_open h (by omega)
  exact ⟨b, o, e, (hc j hj).2⟩
theorem back_walk (A A' : Option Addr) (rs : List RecV) (xs : List UInt8) (n c cut m d : Nat) (hn : n = rs.length) (hnc : n ≤ c) (hcut : cut ≤ 65535) (hm : m = xs.length) (hmd : m ≤ d) (w : World) (h : InR w A rs) (hx : Row w w.heap.size A' (xs.map byteV)) (hl : longN (rs.map rcOf) ≤ 5000000) :
    Calls Try.prog 5 #[.slice A n c, .int .u16 (cut : Int), .slice A' m d] w (IsT true w) := by
  have HL1 := Lib.hid (long_any n c A rs hn w (h w (Below.refl _ _)).1 (by omega))
  obtain ⟨L1, hL1⟩ : ∃ L, longN (rs.map rcOf) = L := ⟨_, rfl⟩
  rw [hL1] at HL1
  by_cases h1 : 1500 < L1
  · have g1 : (1500 : Int) < (L1 : Int) := by omega
    clear h hn hl hL1 h1 hnc hcut hm hmd hx
    go_enter Try.func5, Try.ntmps5
    go_wp2_with fail
    refine HL1.out.mono ?_
    rintro e w' ⟨rfl, rfl⟩
    go_wp2_with (go_at_call 11; refine (known5_any _).mono ?_; rintro e w' ⟨rfl, hb⟩; have HB := Lib.hid hb; clear hb)
    go_ret
    exact ⟨rfl, HB.out⟩
  have g1 : (L1 : Int) ≤ 1500 := by omega
  by_cases h2 : 1500 < m
  · have g2 : (1500 : Int) < (m : Int) := by omega
    clear h hn hl hL1 h1 hnc hcut hm hmd hx h2
    go_enter Try.func5, Try.ntmps5
    go_wp2_with fail
    refine HL1.out.mono ?_
    rintro e w' ⟨rfl, rfl⟩
    go_wp2_with (go_at_call 11; refine (known5_any _).mono ?_; rintro e w' ⟨rfl, hb⟩; have HB := Lib.hid hb; clear hb)
    go_ret
    exact ⟨rfl, HB.out⟩
  have g2 : (m : Int) ≤ 1500 := by omega
  have s1 := short_of (m := 1500) (by omega : longN (rs.map rcOf) ≤ 1500) (by omega)
  have hc1 := count_of (m := 1500) (by omega : longN (rs.map rcOf) ≤ 1500)
  have HA1 : Hid (∀ W, Below w.heap.size w W → Calls Try.prog 12 #[.slice A n c] W (MadeF W.heap.size (allB (rs.map rcOf), 0) W)) := Lib.hid fun W hb => all_any n c A rs hn W (h W hb).1 (h W hb).2 s1 (by omega) (by omega)
  have hsa := scan_all (rs.map rcOf) s1
  have hcutS := fun k j hj a b c => scan_cut (rs.map rcOf) s1 k j hj a b c
  obtain ⟨Z, hZ⟩ : ∃ Z, allB (rs.map rcOf) = Z := ⟨_, rfl⟩
  have hZL : Z.length = L1 := by rw [← hZ]; exact hL1
  have HCUT : Hid (∀ (k j : Nat), j ≤ rs.length → longN ((rs.take j).map rcOf) ≤ k → k ≤ L1 → (∀ (hl : j < rs.length), k < longN ((rs.take j).map rcOf) + (rs[j].2.2.1.length + 10)) → scanS (Z.take k) = ((rs.take j).map rcOf, longN ((rs.take j).map rcOf), if longN ((rs.take j).map rcOf) = k then 0 else 12)) := Lib.hid fun k j hj ha hb hc => by
    have := hcutS k j (by simpa using hj) (by rw [← List.map_take]; exact ha) (by rw [hZ, hZL]; exact hb) (fun hl => by
      have := hc (by simpa using hl)
      rw [List.getElem_map, ← List.map_take]
      exact this)
    rw [hZ] at this
    rw [this, ← List.map_take]
    rfl
  rw [hZ] at hsa HA1
  rw [hZL] at hsa
  have HS1 : Hid (∀ W A c, L1 ≤ c → Row W W.heap.size A (Z.map byteV) → Calls Try.prog 18 #[.slice A L1 c] W (ScanP (rs.map rcOf, L1, 0) W)) := Lib.hid fun W A c hc hr => by rw [← hsa]; exact scan_any _ c L1 A Z hZL.symm hc W hr (Nat.le_refl _) (by omega)
  have HSK : Hid (∀ W A c k, k ≤ L1 → L1 ≤ c → Row W W.heap.size A (Z.map byteV) → Calls Try.prog 18 #[.slice A k c] W (ScanP (scanS (Z.take k)) W)) := Lib.hid fun W A c k hk hc hr =>
    scan_any _ c k A (Z.take k) (by rw [List.length_take]; omega) (by omega) W (by rw [List.map_take]; exact take_row hr k) (Nat.le_refl _) (by omega)
  have HSX : Hid (∀ W, Below w.heap.size w W → Calls Try.prog 18 #[.slice A' m d] W (ScanP (scanS xs) W)) := Lib.hid fun W hb => scan_any _ d m A' xs hm hmd W ((hx.below hb).more hb.size) (Nat.le_refl _) (by omega)
  have hxs1 := scan_short xs
  have hxs2 := scan_at xs
  have hxs3 := scan_again xs
  have hxs4 := scan_len xs
  have hxs5 : longN (scanS xs).1 = (scanS xs).2.1 := ((scan_back _ xs (Nat.le_refl _)).2.1).symm
  obtain ⟨⟨q0, un, ex⟩, hsx⟩ : ∃ s, scanS xs = s := ⟨_, rfl⟩
  rw [hsx] at HSX hxs1 hxs2 hxs3 hxs4 hxs5
  simp only at hxs1 hxs2 hxs3 hxs4 hxs5
  obtain ⟨M, hM⟩ : ∃ M, L1 + 1 = M := ⟨_, rfl⟩
  obtain ⟨k, hk⟩ : ∃ k, cut % M = k := ⟨_, rfl⟩
  have hkM : k < M := by rw [← hk]; exact Nat.mod_lt _ (by omega)
  have q3 : (L1 : Int) + 1 = (M : Int) := by omega
  have q4 : (cut : Int).tmod (M : Int) = (k : Int) := by rw [Int.tmod_eq_emod_of_nonneg (by omega), ← hk]; exact (Int.natCast_emod _ _).symm
  have q5 : (cut : Int) % (M : Int) = (k : Int) := by rw [← hk]; exact (Int.natCast_emod _ _).symm
  have hMz : ((M : Int) == 0) = false := by simp; omega
  have hMi : (M : Int) ≤ 1501 := by omega
  have hki : (k : Int) ≤ (L1 : Int) := by omega
  have hci : (cut : Int) ≤ 65535 := by omega
  have hun : (un : Int) ≤ (m : Int) := by omega
  have hud : un ≤ d := by omega
  have hni : (n : Int) ≤ 1500 := by omega
  have ux := fun W => run_cut_h (P := Try.prog) (w := W) 25 5 _ _ Try.underlying25 info_b A' m d un hud
  have HIN := Lib.hid h
  have HXR : Hid (∀ W, Below w.heap.size w W → Row W W.heap.size A' ((xs.take un).map byteV)) := Lib.hid fun W hb => by rw [List.map_take]; exact take_row ((hx.below hb).more hb.size) un
  have HUL : Hid (un = (xs.take un).length) := Lib.hid (by rw [List.length_take]; omega)
  have HQ := Lib.hid (And.intro hxs1 (And.intro hxs3 (And.intro hxs5 (And.intro hxs4 (And.intro hxs2 (show m = xs.length ∧ m ≤ 1500 by omega))))))
  have HX := Lib.hid (And.intro hZL (And.intro hn (And.intro hc1 hnc)))
  have HLS : Hid (longN (rs.map rcOf) = L1) := Lib.hid hL1
  clear h hn hl hL1 h1 hnc hcut hm hmd hx h2 s1 hc1 hsa hcutS hZ hZL hxs1 hxs2 hxs3 hxs4 hxs5 hsx hM hk hkM hud
  go_enter Try.func5, Try.ntmps5
  go_wp2_with fail
  refine HL1.out.mono ?_
  rintro e w' ⟨rfl, rfl⟩
  clear HL1
  go_wp2_with fail
  refine (HA1.out w (Below.refl _ _)).mono ?_
  rintro e w1 ⟨B1, d1, rfl, ho1, hb1⟩
  simp only [HX.out.1] at ho1 ⊢
  have HB1 := Lib.hid hb1
  have HO1 := Lib.hid ho1
  have HC1 : Hid (L1 ≤ d1) := Lib.hid (own_cap ho1).1
  clear hb1 ho1 HA1
  go_wp2_with fail
  refine (HS1.out w1 B1 d1 HC1.out (Row.of_own HO1.out)).mono ?_
  rintro e w2 ⟨rs2, A2, c2, hm2, rfl, ho2, hr2, hb2⟩
  simp only at hm2 ⊢
  have HB2 := Lib.hid (HB1.out.trans (hb2.mono HB1.out.size))
  have HO1 := Lib.hid (own_later HO1.out hb2)
  have hsm := refsame5_true rs2.length n c2 c A2 A rs2 rs rfl HX.out.2.1 hm2 w2 (ownRow ho2) (HIN.out w2 HB2.out).1 (recsO_recs hr2) (HIN.out w2 HB2.out).2 (by have h1 := map_len hm2; rw [List.length_map] at h1; have := HX.out; omega)
  have HSM := Lib.hid hsm
  clear hm2 ho2 hr2 hb2 hsm HS1
  go_wp2_with fail
  refine HSM.out.mono ?_
  rintro e w3 ⟨rfl, hb3⟩
  have HB3 := Lib.hid (HB2.out.trans (hb3.mono HB2.out.size))
  have HO3 := Lib.hid (own_later HO1.out hb3)
  clear hb3 HSM HO1 HB1 HB2
  have hk0 : (0 : Int) ≤ (k : Int) := by omega
  go_wp2
  go_loop [13, 14] (fun i v => ∃ (j E : Nat), j ≤ n ∧ i = .int .i64 j ∧ v = .int .i64 (E : Int) ∧ Hid (E = longN ((rs.take j).map rcOf)) ∧ Hid (E ≤ k)) (fun i _ => n - (intOf i).toNat)
  case atStart => exact ⟨0, 0, by omega, rfl, rfl, Lib.hid rfl, Lib.hid (Nat.zero_le _)⟩
  case round =>
    obtain ⟨j, E, hj, rfl, rfl, HE, HEK⟩ := hrel
    have hEi : (E : Int) ≤ 1500 := by have := HEK.out; omega
    have hji : (j : Int) ≤ 1500 := by omega
    by_cases hjn : j < n
    · have hjr : j < rs.length := by rw [← HX.out.2.1]; exact hjn
      obtain ⟨b, o, rfl, hcc⟩ := rd_of (HIN.out w3 HB3.out).1 j hjr
      have hst := long_step rs j hjr
      have hct : longN ((rs.take j).map rcOf) ≤ k → k ≤ L1 → k < longN ((rs.take j).map rcOf) + (rs[j].2.2.1.length + 10) → scanS (Z.take k) = ((rs.take j).map rcOf, longN ((rs.take j).map rcOf), if longN ((rs.take j).map rcOf) = k then 0 else 12) := fun ha hb hc => HCUT.out k j (by omega) ha hb (fun _ => hc)
      obtain ⟨⟨kk, A1, ys, c1⟩, hrk⟩ : ∃ p, rs[j] = p := ⟨_, rfl⟩
      rw [hrk] at hcc hst hct
      simp only at hcc hst hct
      obtain ⟨S, hS⟩ : ∃ S, E + 10 + ys.length = S := ⟨_, rfl⟩
      have HST : Hid (S = longN ((rs.take (j + 1)).map rcOf)) := Lib.hid (by rw [hst, ← hS, ← HE.out])
      have hS2 : S ≤ L1 := by
        have h1 := long_le (rs.map rcOf) (j + 1)
        rw [HST.out, List.map_take, ← HLS.out]
        exact h1
      have hs1 : (E : Int) + 10 + (ys.length : Int) = (S : Int) := by omega
      have hsi : (S : Int) ≤ 1500 := by omega
      have hyi : (ys.length : Int) ≤ 1500 := by omega
      by_cases hfit : S ≤ k
      · have hfi : (S : Int) ≤ (k : Int) := by omega
        have HSK2 : Hid (S ≤ k) := Lib.hid hfit
        clear hst hct hrk hS hS2 hfit HUL
        go_wp2
        go_round
        case rel => exact ⟨j + 1, S, by omega, by go_num, by go_num, HST, HSK2⟩
        case measure => simp [intOf]; omega
      · have hfi : (k : Int) < (S : Int) := by omega
        have hsk := hct (by rw [← HE.out]; exact HEK.out) (by omega) (by rw [← HE.out]; omega)
        rw [← HE.out] at hsk
        have hcR := fun W => cutRh W (some ⟨b, o, none⟩) n c j (by have := HX.out; omega)
        clear hst hct hrk hS hS2 hfit HST
        by_cases hek : E = k
        · subst hek
          rw [if_pos rfl] at hsk
          have HRS : Hid (∀ W, Below w.heap.size w W → Row W W.heap.size (some ⟨b, o, none⟩) (recsC (rs.take j)) ∧ Recs_ W (rs.take j)) := Lib.hid fun W hb => ⟨rowR_take (HIN.out W hb).1 j, recs_sub (HIN.out W hb).2 (fun r hr => List.mem_of_mem_take hr)⟩
          have hsc := HSK.out w3 B1 d1 E (by omega) HC1.out (Row.of_own HO3.out)
          rw [hsk] at hsc
          have HSC := Lib.hid hsc
          have uk := fun W => run_cut_h (P := Try.prog) (w := W) 25 5 _ _ Try.underlying25 info_b B1 L1 d1 E (by have := HC1.out; omega)
          have hj2 : j ≤ 1500 := by omega
          clear hsc hsk HSK HCUT
          go_wp2_with fail
          refine HSC.out.mono ?_
          rintro e w4 ⟨rs4, A4, c4, hm4, rfl, ho4, hr4, hb4⟩
          simp only at hm4 ⊢
          have HB4 := Lib.hid (HB3.out.trans (hb4.mono HB3.out.size))
          have hsm := refsame5_true rs4.length j c4 c A4 (some ⟨b, o, none⟩) rs4 (rs.take j) rfl (by rw [List.length_take, ← HX.out.2.1]; omega) hm4 w4 (ownRow ho4) (HRS.out w4 HB4.out).1 (recsO_recs hr4) (HRS.out w4 HB4.out).2 (by have h1 := map_len hm4; rw [List.length_map, List.length_take] at h1; omega)
          have HSM := Lib.hid hsm
          clear hm4 ho4 hr4 hb4 hsm HSC HRS
          go_wp2_with fail
          refine HSM.out.mono ?_
          rintro e w5 ⟨rfl, hb5⟩
          have HB5 := Lib.hid (HB4.out.trans (hb5.mono HB4.out.size))
          clear hb5 HSM HB4
          go_wp2_with fail
          refine (HSX.out w5 HB5.out).mono ?_
          rintro e w6 ⟨rs6, A6, c6, hm6, rfl, ho6, hr6, hb6⟩
          simp only at hm6 ⊢
          have HB6 := Lib.hid (HB5.out.trans (hb6.mono HB5.out.size))
          have hal := all_any rs6.length c6 A6 rs6 rfl w6 (ownRow ho6) (recsO_recs hr6) (by rw [hm6]; exact HQ.out.1) (by rw [hm6, HQ.out.2.2.1]; have := HQ.out; omega) (by have h1 := map_len hm6; have := HQ.out; omega)
          rw [hm6, HQ.out.2.1] at hal
          have HAL := Lib.hid hal
          clear hm6 ho6 hr6 hb6 hal HSX
          go_wp2_with fail
          refine HAL.out.mono ?_
          rintro e w7 ⟨A7, c7, rfl, ho7, hb7⟩
          simp only [← HUL.out] at ho7 ⊢
          have HB7 := Lib.hid (HB6.out.trans (hb7.mono HB6.out.size))
          have HO7 := Lib.hid (Row.of_own ho7)
          clear ho7 hb7 HAL
          go_wp2_with fail
          refine (same_true w7.heap.size w7.heap.size c7 d un un A7 A' (xs.take un) w7 HO7.out (HXR.out w7 HB7.out) HUL.out HUL.out).mono ?_
          rintro e w' ⟨rfl, rfl⟩
          go_wp2_with fail
          refine (known5_any _).mono ?_
          rintro e w8 ⟨rfl, hb8⟩
          have HB8 := Lib.hid (HB7.out.trans (hb8.mono HB7.out.size))
          clear hb8
          go_wp2
          go_ret
          exact ⟨rfl, HB8.out⟩
        · rw [if_neg hek] at hsk
          have hekf : ((E : Int) == (k : Int)) = false := by simp; omega
          clear hek
          have HRS : Hid (∀ W, Below w.heap.size w W → Row W W.heap.size (some ⟨b, o, none⟩) (recsC (rs.take j)) ∧ Recs_ W (rs.take j)) := Lib.hid fun W hb => ⟨rowR_take (HIN.out W hb).1 j, recs_sub (HIN.out W hb).2 (fun r hr => List.mem_of_mem_take hr)⟩
          have hsc := HSK.out w3 B1 d1 k (by omega) HC1.out (Row.of_own HO3.out)
          rw [hsk] at hsc
          have HSC := Lib.hid hsc
          have uk := fun W => run_cut_h (P := Try.prog) (w := W) 25 5 _ _ Try.underlying25 info_b B1 L1 d1 k (by have := HC1.out; omega)
          have hj2 : j ≤ 1500 := by omega
          clear hsc hsk HSK HCUT
          go_wp2_with fail
          refine HSC.out.mono ?_
          rintro e w4 ⟨rs4, A4, c4, hm4, rfl, ho4, hr4, hb4⟩
          simp only at hm4 ⊢
          have HB4 := Lib.hid (HB3.out.trans (hb4.mono HB3.out.size))
          have hsm := refsame5_true rs4.length j c4 c A4 (some ⟨b, o, none⟩) rs4 (rs.take j) rfl (by rw [List.length_take, ← HX.out.2.1]; omega) hm4 w4 (ownRow ho4) (HRS.out w4 HB4.out).1 (recsO_recs hr4) (HRS.out w4 HB4.out).2 (by have h1 := map_len hm4; rw [List.length_map, List.length_take] at h1; omega)
          have HSM := Lib.hid hsm
          clear hm4 ho4 hr4 hb4 hsm HSC HRS
          go_wp2_with fail
          refine HSM.out.mono ?_
          rintro e w5 ⟨rfl, hb5⟩
          have HB5 := Lib.hid (HB4.out.trans (hb5.mono HB4.out.size))
          clear hb5 HSM HB4
          go_wp2_with fail
          refine (HSX.out w5 HB5.out).mono ?_
          rintro e w6 ⟨rs6, A6, c6, hm6, rfl, ho6, hr6, hb6⟩
          simp only at hm6 ⊢
          have HB6 := Lib.hid (HB5.out.trans (hb6.mono HB5.out.size))
          have hal := all_any rs6.length c6 A6 rs6 rfl w6 (ownRow ho6) (recsO_recs hr6) (by rw [hm6]; exact HQ.out.1) (by rw [hm6, HQ.out.2.2.1]; have := HQ.out; omega) (by have h1 := map_len hm6; have := HQ.out; omega)
          rw [hm6, HQ.out.2.1] at hal
          have HAL := Lib.hid hal
          clear hm6 ho6 hr6 hb6 hal HSX
          go_wp2_with fail
          refine HAL.out.mono ?_
          rintro e w7 ⟨A7, c7, rfl, ho7, hb7⟩
          simp only [← HUL.out] at ho7 ⊢
          have HB7 := Lib.hid (HB6.out.trans (hb7.mono HB6.out.size))
          have HO7 := Lib.hid (Row.of_own ho7)
          clear ho7 hb7 HAL
          go_wp2_with fail
          refine (same_true w7.heap.size w7.heap.size c7 d un un A7 A' (xs.take un) w7 HO7.out (HXR.out w7 HB7.out) HUL.out HUL.out).mono ?_
          rintro e w' ⟨rfl, rfl⟩
          go_wp2_with fail
          refine (known5_any _).mono ?_
          rintro e w8 ⟨rfl, hb8⟩
          have HB8 := Lib.hid (HB7.out.trans (hb8.mono HB7.out.size))
          clear hb8
          go_wp2
          go_ret
          exact ⟨rfl, HB8.out⟩
    · obtain rfl : j = n := by omega
      have hT : rs.take j = rs := List.take_of_length_le (by rw [← HX.out.2.1]; omega)
      have hE1 : E = L1 := by rw [HE.out, hT]; exact HLS.out
      obtain rfl : E = k := by have := HEK.out; omega
      have hsk := HCUT.out E j (by rw [← HX.out.2.1]; omega) (by rw [← HE.out]; exact Nat.le_refl _) (by omega) (fun hl => by have := HX.out.2.1; omega)
      rw [← HE.out, if_pos rfl] at hsk
      have hcR := fun W => cutRh W A j c j HX.out.2.2.2
      clear hT hE1 hjn
      have HRS : Hid (∀ W, Below w.heap.size w W → Row W W.heap.size A (recsC (rs.take j)) ∧ Recs_ W (rs.take j)) := Lib.hid fun W hb => ⟨rowR_take (HIN.out W hb).1 j, recs_sub (HIN.out W hb).2 (fun r hr => List.mem_of_mem_take hr)⟩
      have hsc := HSK.out w3 B1 d1 E (by omega) HC1.out (Row.of_own HO3.out)
      rw [hsk] at hsc
      have HSC := Lib.hid hsc
      have uk := fun W => run_cut_h (P := Try.prog) (w := W) 25 5 _ _ Try.underlying25 info_b B1 L1 d1 E (by have := HC1.out; omega)
      have hj2 : j ≤ 1500 := by omega
      clear hsc hsk HSK HCUT
      go_wp2_with fail
      refine HSC.out.mono ?_
      rintro e w4 ⟨rs4, A4, c4, hm4, rfl, ho4, hr4, hb4⟩
      simp only at hm4 ⊢
      have HB4 := Lib.hid (HB3.out.trans (hb4.mono HB3.out.size))
      have hsm := refsame5_true rs4.length j c4 c A4 A rs4 (rs.take j) rfl (by rw [List.length_take, ← HX.out.2.1]; omega) hm4 w4 (ownRow ho4) (HRS.out w4 HB4.out).1 (recsO_recs hr4) (HRS.out w4 HB4.out).2 (by have h1 := map_len hm4; rw [List.length_map, List.length_take] at h1; omega)
      have HSM := Lib.hid hsm
      clear hm4 ho4 hr4 hb4 hsm HSC HRS
      go_wp2_with fail
      refine HSM.out.mono ?_
      rintro e w5 ⟨rfl, hb5⟩
      have HB5 := Lib.hid (HB4.out.trans (hb5.mono HB4.out.size))
      clear hb5 HSM HB4
      go_wp2_with fail
      refine (HSX.out w5 HB5.out).mono ?_
      rintro e w6 ⟨rs6, A6, c6, hm6, rfl, ho6, hr6, hb6⟩
      simp only at hm6 ⊢
      have HB6 := Lib.hid (HB5.out.trans (hb6.mono HB5.out.size))
      have hal := all_any rs6.length c6 A6 rs6 rfl w6 (ownRow ho6) (recsO_recs hr6) (by rw [hm6]; exact HQ.out.1) (by rw [hm6, HQ.out.2.2.1]; have := HQ.out; omega) (by have h1 := map_len hm6; have := HQ.out; omega)
      rw [hm6, HQ.out.2.1] at hal
      have HAL := Lib.hid hal
      clear hm6 ho6 hr6 hb6 hal HSX
      go_wp2_with fail
      refine HAL.out.mono ?_
      rintro e w7 ⟨A7, c7, rfl, ho7, hb7⟩
      simp only [← HUL.out] at ho7 ⊢
      have HB7 := Lib.hid (HB6.out.trans (hb7.mono HB6.out.size))
      have HO7 := Lib.hid (Row.of_own ho7)
      clear ho7 hb7 HAL
      go_wp2_with fail
      refine (same_true w7.heap.size w7.heap.size c7 d un un A7 A' (xs.take un) w7 HO7.out (HXR.out w7 HB7.out) HUL.out HUL.out).mono ?_
      rintro e w' ⟨rfl, rfl⟩
      go_wp2_with fail
      refine (known5_any _).mono ?_
      rintro e w8 ⟨rfl, hb8⟩
      have HB8 := Lib.hid (HB7.out.trans (hb8.mono HB7.out.size))
      clear hb8
      go_wp2
      go_ret
      exact ⟨rfl, HB8.out⟩
end Go.Proofs.Ytpccppdakmpchaa
