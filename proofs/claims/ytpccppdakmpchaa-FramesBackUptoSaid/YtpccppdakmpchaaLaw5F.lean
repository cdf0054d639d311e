/- The law FramesHurt, walked. -/
import Derived.Test.YtpccppdakmpchaaLaw5E
namespace Go.Proofs.Ytpccppdakmpchaa
open Go.RowKit Mem Be Word Frm
set_option maxRecDepth 100000
set_option maxHeartbeats 2000000
set_option linter.unusedVariables false
theorem cutRh (W : World) (A : Option Addr) (n c k : Nat) (h : k ≤ c) : (Instr.slice 22 (.slice A n c) none (some (.int .i64 (k : Int))) none).run Try.prog W = .ok (.slice A k c) W := by
  obtain ⟨i, hi, hz, hz1, hz2⟩ := info_parts info_r
  have hA : (if c = 0 then A else Option.map (fun x => x.add (0 * 2)) A) = A := by
    split
    · rfl
    · cases A <;> simp [add_zero']
  simp [Instr.slice, run_underlying Try.underlying22, Instr.sliceBounds, Instr.sliceBound, asIntOf, sizeOf, typeInfo, hi, h]
  simpa using hA
theorem recsC_take (rs : List RecV) (k : Nat) : recsC (rs.take k) = (recsC rs).take (k * 2) := by
  induction rs generalizing k with
  | nil => simp [recsC]
  | cons r rs ih =>
    rcases k with _ | k
    · simp [recsC]
    · have h1 : recsC ((r :: rs).take (k + 1)) = recC r ++ recsC (rs.take k) := rfl
      have h2 : recsC (r :: rs) = recC r ++ recsC rs := rfl
      have h3 : (recC r).length = 2 := rfl
      rw [h1, h2, ih, show (k + 1) * 2 = (recC r).length + k * 2 by omega, List.take_length_add_append]
theorem rowR_take {w : World} {B : Nat} {A : Option Addr} {rs : List RecV} (h : Row w B A (recsC rs)) (k : Nat) : Row w B A (recsC (rs.take k)) := by
  rw [recsC_take]; exact take_row h _
theorem set_map5 (bs : List UInt8) (k y : Nat) (hy : y < 256) : (bs.map byteV).set k (.int .u8 (y : Int)) = (bs.set k (UInt8.ofNat y)).map byteV := by
  rw [List.map_set]
  congr 1
  unfold byteV
  rw [UInt8.toNat_ofNat', Nat.mod_eq_of_lt hy]
theorem hurt_scan (rs : List Rc) (k : Nat) (hk : k < rs.length) (P : Nat) (hP : longN (rs.take k) ≤ P) (hs : Short rs) (v : UInt8) :
    k ≤ (scanS ((allB rs).set P v)).1.length ∧ (scanS ((allB rs).set P v)).1.take k = rs.take k := by
  have hs1 : Short (rs.take k) := fun r hr => hs r (List.mem_of_mem_take hr)
  have e : (allB rs).set P v = allB (rs.take k) ++ (allB (rs.drop k)).set (P - (allB (rs.take k)).length) v := by
    conv => lhs; rw [all_drop rs k]
    rw [List.set_append_right _ _ (by exact hP)]
  have hl : (rs.take k).length = k := by rw [List.length_take]; omega
  rw [e, scan_laid _ hs1]
  refine ⟨by simp only [List.length_append]; omega, ?_⟩
  simp only
  rw [List.take_append_of_le_length (by omega), List.take_of_length_le (by omega)]
theorem hurt_walk (A : Option Addr) (rs : List RecV) (n c wh at_ x : Nat) (hn : n = rs.length) (hnc : n ≤ c) (hwh : wh ≤ 255) (hat : at_ ≤ 65535) (hx : x ≤ 255) (w : World) (h : InR w A rs) (hl : longN (rs.map rcOf) ≤ 5000000) :
    Calls Try.prog 7 #[.slice A n c, .int .u8 (wh : Int), .int .u16 (at_ : Int), .int .u8 (x : Int)] w (IsT true w) := by
  have HLW : Hid (∀ W, Below w.heap.size w W → Calls Try.prog 10 #[.slice A n c] W fun e w' => e = .returned (.int .i64 (longN (rs.map rcOf) : Int)) ∧ W = w') := Lib.hid fun W hb => long_any n c A rs hn W (h W hb).1 (by omega)
  obtain ⟨L1, hL1⟩ : ∃ L, longN (rs.map rcOf) = L := ⟨_, rfl⟩
  rw [hL1] at HLW
  by_cases h1 : 1500 < L1
  · have g1 : (1500 : Int) < (L1 : Int) := by omega
    clear h hn hl hL1 h1 hnc hwh hat hx
    go_enter Try.func7, Try.ntmps7
    go_wp2_with fail
    refine (HLW.out w (Below.refl _ _)).mono ?_
    rintro e w' ⟨rfl, rfl⟩
    go_wp2_with (go_at_call 11; refine (known5_any _).mono ?_; rintro e w' ⟨rfl, hb⟩; have HB := Lib.hid hb; clear hb)
    go_ret
    exact ⟨rfl, HB.out⟩
  have g1 : (L1 : Int) ≤ 1500 := by omega
  by_cases h0 : n = 0
  · subst h0
    clear h hn hl hL1 h1 hnc hwh hat hx
    go_enter Try.func7, Try.ntmps7
    go_wp2_with fail
    refine (HLW.out w (Below.refl _ _)).mono ?_
    rintro e w' ⟨rfl, rfl⟩
    go_wp2_with (go_at_call 11; refine (known5_any _).mono ?_; rintro e w' ⟨rfl, hb⟩; have HB := Lib.hid hb; clear hb)
    go_ret
    exact ⟨rfl, HB.out⟩
  have hz : ((n : Int) == 0) = false := by simp; omega
  by_cases hx0 : x = 0
  · subst hx0
    clear h hn hl hL1 h1 hnc hwh hat hx h0
    go_enter Try.func7, Try.ntmps7
    go_wp2_with fail
    refine (HLW.out w (Below.refl _ _)).mono ?_
    rintro e w' ⟨rfl, rfl⟩
    go_wp2_with (go_at_call 11; refine (known5_any _).mono ?_; rintro e w' ⟨rfl, hb⟩; have HB := Lib.hid hb; clear hb)
    go_ret
    exact ⟨rfl, HB.out⟩
  have hxz : ((x : Int) == 0) = false := by simp; omega
  obtain ⟨k, hk⟩ : ∃ k, wh % n = k := ⟨_, rfl⟩
  have hkn : k < n := by rw [← hk]; exact Nat.mod_lt _ (by omega)
  have q1 : (wh : Int).tmod (n : Int) = (k : Int) := by rw [Int.tmod_eq_emod_of_nonneg (by omega), ← hk]; exact (Int.natCast_emod _ _).symm
  have q2 : (wh : Int) % (n : Int) = (k : Int) := by rw [← hk]; exact (Int.natCast_emod _ _).symm
  have hkr : k < rs.length := by omega
  have hkm : k < (rs.map rcOf).length := by simpa using hkr
  have s1 := short_of (m := 1500) (by omega : longN (rs.map rcOf) ≤ 1500) (by omega)
  have hc1 := count_of (m := 1500) (by omega : longN (rs.map rcOf) ≤ 1500)
  have hF1 := long_snoc (rs.map rcOf) k hkm
  have hF2 := long_le (rs.map rcOf) (k + 1)
  obtain ⟨F, hF⟩ : ∃ F, longN ((rs.map rcOf).take k) = F := ⟨_, rfl⟩
  obtain ⟨⟨kk, A1, xs, c1⟩, hrk⟩ : ∃ p, rs[k] = p := ⟨_, rfl⟩
  have hxl : (rs.map rcOf)[k].2.length = xs.length := by rw [List.getElem_map, hrk]; rfl
  rw [hF, hxl] at hF1
  have hFL : F + 10 + xs.length ≤ L1 := by omega
  have HLF : Hid (∀ W, Below w.heap.size w W → Calls Try.prog 10 #[.slice A k c] W fun e w' => e = .returned (.int .i64 (F : Int)) ∧ W = w') := Lib.hid fun W hb => by
    have := long_any k c A (rs.take k) (by rw [List.length_take]; omega) W (rowR_take (h W hb).1 k) (by rw [List.map_take, hF]; omega)
    rw [List.map_take, hF] at this
    exact this
  obtain ⟨M, hM⟩ : ∃ M, xs.length + 1 = M := ⟨_, rfl⟩
  obtain ⟨nn, hnn⟩ : ∃ nn, at_ % M = nn := ⟨_, rfl⟩
  have hnM : nn < M := by rw [← hnn]; exact Nat.mod_lt _ (by omega)
  have q3 : (xs.length : Int) + 1 = (M : Int) := by omega
  have q4 : (at_ : Int).tmod (M : Int) = (nn : Int) := by rw [Int.tmod_eq_emod_of_nonneg (by omega), ← hnn]; exact (Int.natCast_emod _ _).symm
  have q5 : (at_ : Int) % (M : Int) = (nn : Int) := by rw [← hnn]; exact (Int.natCast_emod _ _).symm
  have hMz : ((M : Int) == 0) = false := by simp; omega
  have hxl2 : (xs.length : Int) ≤ 1500 := by omega
  obtain ⟨P0, hP0⟩ : ∃ P0, F + 1 = P0 := ⟨_, rfl⟩
  have q6 : (F : Int) + 1 = (P0 : Int) := by omega
  obtain ⟨P, hP⟩ : ∃ P, (if nn = 0 then F + 1 else F + 5 + nn) = P := ⟨_, rfl⟩
  have hPF : F ≤ P := by rw [← hP]; split <;> omega
  have hPL : P < L1 := by rw [← hP]; split <;> omega
  have HA1 : Hid (∀ W, Below w.heap.size w W → Calls Try.prog 12 #[.slice A n c] W (MadeF W.heap.size (allB (rs.map rcOf), 0) W)) := Lib.hid fun W hb => all_any n c A rs hn W (h W hb).1 (h W hb).2 s1 (by omega) (by omega)
  obtain ⟨Z, hZ⟩ : ∃ Z, allB (rs.map rcOf) = Z := ⟨_, rfl⟩
  have hZL : Z.length = L1 := by rw [← hZ]; exact hL1
  have hPZ : P < Z.length := by omega
  obtain ⟨v, hv⟩ : ∃ v, Z[P].toNat = v := ⟨_, rfl⟩
  have hv2 : v < 256 := by rw [← hv]; exact Z[P].toNat_lt
  obtain ⟨y, hy⟩ : ∃ y, v ^^^ x = y := ⟨_, rfl⟩
  have hy2 : y < 256 := by
    have := Nat.xor_lt_two_pow (n := 8) (x := v) (y := x) (by omega) (by omega)
    omega
  have q7 : bits .xor .u8 (v : Int) (x : Int) = (y : Int) := by rw [← hy]; exact u8_xor_nat v x hv2 (by omega)
  have hsc := hurt_scan (rs.map rcOf) k hkm P (by rw [hF]; exact hPF) s1 (UInt8.ofNat y)
  rw [hZ] at hsc HA1
  obtain ⟨bs, hbs⟩ : ∃ b, Z.set P (UInt8.ofNat y) = b := ⟨_, rfl⟩
  have hbl : L1 = bs.length := by rw [← hbs, List.length_set]; exact hZL.symm
  have HBS := Lib.hid (set_map5 Z P y hy2)
  rw [hbs] at HBS hsc
  obtain ⟨⟨l0, a0, e0⟩, hs0⟩ : ∃ s, scanS bs = s := ⟨_, rfl⟩
  have hsl := scan_len bs
  rw [hs0] at hsc hsl
  simp only at hsc hsl
  have HS1 : Hid (∀ W B A c, L1 ≤ c → Row W B A (bs.map byteV) → B ≤ W.heap.size → Calls Try.prog 18 #[.slice A L1 c] W (ScanP (l0, a0, e0) W)) := Lib.hid fun W B A c hc hr hB => by rw [← hs0]; exact scan_any B c L1 A bs hbl hc W hr hB (by omega)
  have HS2 : Hid (∀ W B A c, L1 ≤ c → Row W B A (bs.map byteV) → B ≤ W.heap.size → Calls Try.prog 19 #[.slice A L1 c] W (ScanP (l0, a0, e0) W)) := Lib.hid fun W B A c hc hr hB => by rw [← hs0]; exact refscan_any L1 B c L1 A bs (Nat.le_refl _) hbl hc W hr hB (by omega)
  have HIN := Lib.hid h
  have HX := Lib.hid (And.intro hZL (And.intro hsc (And.intro hsl (And.intro hbl hn))))
  have HLE : Hid (Z.length ≤ 1500 ∧ bs.length ≤ 1500) := Lib.hid (by omega)
  have HCC : Hid (∀ W, Below w.heap.size w W → ∃ b o, A = some ⟨b, o, none⟩ ∧ W.cell? ⟨b, o + k * 2 + 1, none⟩ = some (.slice A1 xs.length c1)) := Lib.hid fun W hb => by
    obtain ⟨b, o, e, _, hc⟩ := recs_open (h W hb).1 (by omega)
    refine ⟨b, o, e, ?_⟩
    have := (hc k hkr).2
    rw [hrk] at this
    exact this
  have HV : Hid (Option.map byteV Z[P]? = some (.int .u8 (v : Int))) := Lib.hid (by
    rw [List.getElem?_eq_getElem hPZ, ← hv]; rfl)
  have hkni : (k : Int) < (n : Int) := by omega
  have hki0 : (0 : Int) ≤ (k : Int) := by omega
  have hkc : k ≤ c := by omega
  have hPLi : (P : Int) < (L1 : Int) := by omega
  have hcu := fun W => cutRh W A n c k hkc
  have hp5 : nn = 0 ∧ P = P0 ∨ 0 < nn ∧ P = F + 5 + nn := by
    rw [← hP]
    by_cases h0 : nn = 0
    · exact Or.inl ⟨h0, by rw [if_pos h0]; exact hP0⟩
    · exact Or.inr ⟨by omega, by rw [if_neg h0]⟩
  have hwi : (wh : Int) ≤ 255 := by omega
  have hai : (at_ : Int) ≤ 65535 := by omega
  have hxi : (x : Int) ≤ 255 := by omega
  have hFi : (F : Int) ≤ 1500 := by omega
  have hMi : (M : Int) ≤ 1501 := by omega
  have hni : (nn : Int) ≤ 1501 := by omega
  have hki : (k : Int) ≤ 1500 := by omega
  clear h hn hl hL1 h1 hnc hwh hat hx h0 hx0 hk hkn hkr hkm s1 hc1 hF1 hF2 hF hxl hFL hM hnn hnM hP0 hP hPF hPL hZ hZL hPZ hv hv2 hy hy2 hsc hbs hbl hs0 hsl hrk hkc
  rcases hp5 with ⟨rfl, rfl⟩ | ⟨hn0, hP5⟩
  · go_enter Try.func7, Try.ntmps7
    go_wp2_with fail
    refine (HLW.out w (Below.refl _ _)).mono ?_
    rintro e w' ⟨rfl, rfl⟩
    go_wp2_with fail
    refine (HA1.out w (Below.refl _ _)).mono ?_
    rintro e w1 ⟨B1, d1, rfl, ho1, hb1⟩
    simp only [HX.out.1] at ho1 ⊢
    have HB1 := Lib.hid hb1
    have HO1 := Lib.hid ho1
    clear hb1 ho1 HA1
    go_wp2_with fail
    refine (HLW.out w1 HB1.out).mono ?_
    rintro e w' ⟨rfl, rfl⟩
    clear HLW
    obtain ⟨b, o, rfl, hc1⟩ := HCC.out w1 HB1.out
    go_wp2_with fail
    refine (HLF.out w1 HB1.out).mono ?_
    rintro e w' ⟨rfl, rfl⟩
    go_wp2_with fail
    refine (copyb_any w1.heap.size d1 L1 B1 Z HX.out.1.symm w1 (Row.of_own HO1.out) (Nat.le_refl _) (by have := HLE.out; omega)).mono ?_
    rintro e w2 ⟨B2, d2, rfl, ho2, hb2⟩
    simp only [HX.out.1] at ho2 ⊢
    obtain ⟨g, rfl⟩ : ∃ g, B2 = some ⟨g, 0, none⟩ := by
      rcases ho2.2 with ⟨_, hn0⟩ | ⟨g, cap, cur, hv, _⟩
      · have := hPLi; omega
      · injection hv with hv; exact ⟨g, hv⟩
    have hc0 := ho2.cellAt P (by omega)
    rw [List.getElem?_map, HV.out] at hc0
    have hfz := ho2.frozenAt P
    have hst := ho2.stored P (.int .u8 (y : Int))
    rw [HBS.out] at hst
    have hge : w1.heap.size ≤ g := (ho2.lt g rfl).1
    have hcp := (own_cap ho2).1
    have HB2 : Hid (Below w.heap.size w (w2.setCell ⟨g, P, none⟩ (.int .u8 (y : Int)))) := Lib.hid ((HB1.out.trans (hb2.mono HB1.out.size)).setCell (p := ⟨g, P, none⟩) (Nat.le_trans HB1.out.size hge) _)
    have HC2 := Lib.hid (And.intro (Row.of_own hst.1) hcp)
    have hPi0 : (0 : Int) ≤ (P : Int) := by omega
    clear ho2 hb2 hst hc1 HLF HCC HO1
    go_wp2_with fail
    obtain ⟨w3, hw3⟩ : ∃ w3, w2.setCell ⟨g, P, none⟩ (.int .u8 (y : Int)) = w3 := ⟨_, rfl⟩
    rw [hw3] at HB2 HC2 ⊢
    clear hw3 hc0 hfz
    refine (HS1.out w3 w3.heap.size (some ⟨g, 0, none⟩) d2 HC2.out.2 HC2.out.1 (Nat.le_refl _)).mono ?_
    rintro e w4 ⟨rs4, A4, c4, hm4, rfl, ho4, hr4, hb4⟩
    simp only at hm4 ⊢
    have HB4 := Lib.hid (HB2.out.trans (hb4.mono HB2.out.size))
    have HO4 := Lib.hid ho4
    have HR4 := Lib.hid hr4
    have HM4 := Lib.hid hm4
    have HC4 := Lib.hid ((HC2.out.1.below hb4).more hb4.size)
    clear ho4 hr4 hb4 HS1
    go_wp2_with fail
    refine (HS2.out w4 w4.heap.size (some ⟨g, 0, none⟩) d2 HC2.out.2 HC4.out (Nat.le_refl _)).mono ?_
    rintro e w5 ⟨rs5, A5, c5, hm5, rfl, ho5, hr5, hb5⟩
    simp only at hm5 ⊢
    have HB5 := Lib.hid (HB4.out.trans (hb5.mono HB4.out.size))
    have HO5 := Lib.hid ho5
    have HR5 := Lib.hid hr5
    have HM5 := Lib.hid hm5
    have HO4 := Lib.hid (ownLater HO4.out hb5)
    have HR4 := Lib.hid (recsO_below HR4.out hb5)
    have hkl : (k : Int) ≤ (rs4.length : Int) := by have h1 := HX.out.2.1.1; have h2 := map_len hm4; omega
    have hll : rs4.length ≤ 1000 := by have h1 := HX.out.2.2.1; have h2 := map_len hm4; have h3 := HLE.out; omega
    have hkl2 : k ≤ rs4.length := by omega
    clear hm4 hm5 ho5 hr5 hb5 HS2 HC4
    go_wp2_with fail
    refine (refsame5_true rs4.length rs5.length c4 c5 A4 A5 rs4 rs5 rfl rfl (HM4.out.trans HM5.out.symm) w5 (ownRow HO4.out) (ownRow HO5.out) (recsO_recs HR4.out) (recsO_recs HR5.out) (by omega)).mono ?_
    rintro e w6 ⟨rfl, hb6⟩
    have HB6 := Lib.hid (HB5.out.trans (hb6.mono HB5.out.size))
    have HO4 := Lib.hid (ownLater HO4.out hb6)
    have HR4 := Lib.hid (recsO_below HR4.out hb6)
    have hk4 : k ≤ c4 := by
      obtain ⟨A', c', hv, h1, _⟩ := ownShape HO4.out
      injection hv with _ _ h3
      omega
    have hcv := fun W => cutRh W A4 rs4.length c4 k hk4
    have hmk : (rs4.take k).map rcOf = (rs.take k).map rcOf := by rw [List.map_take, List.map_take, HM4.out, HX.out.2.1.2]
    have HSM : Hid (∀ p : Later w6, Calls Try.prog 22 #[.slice A4 k c4, .slice (some ⟨b, o, none⟩) k c] p.world fun e w' => e = .returned (.bool true) ∧ Below p.world.heap.size p.world w') := Lib.hid fun p => by
      have hp := HB6.out.trans (p.bel.mono HB6.out.size)
      have hin := HIN.out p.world hp
      exact refsame5_true k k c4 c A4 (some ⟨b, o, none⟩) (rs4.take k) (rs.take k) (by rw [List.length_take]; omega) (by rw [List.length_take, ← HX.out.2.2.2.2]; have := hkni; omega) hmk p.world (rowR_take (ownRow (ownLater HO4.out p.bel)) k) (rowR_take hin.1 k) (recs_sub (recsO_recs (recsO_below HR4.out p.bel)) (fun r hr => List.mem_of_mem_take hr)) (recs_sub hin.2 (fun r hr => List.mem_of_mem_take hr)) (by omega)
    clear hb6 HO5 HR5 HM5 HO4 HR4 HM4 hmk hk4 hll
    go_wp2_with fail
    refine wp_region_later (by kernel_rfl) (by kernel_rfl) ?_
    repeat (go_big_quiet_step (first
      | (go_at_call 22; exact later_of (HSM.out _))
      | (go_at_call 11; exact later_of (known5_any _))))
    refine wpQuiet_nil ?_
    intro w' hw'
    obtain ⟨p, rfl⟩ := hw'
    go_wp2
    go_ret
    exact ⟨rfl, HB6.out.trans (p.bel.mono HB6.out.size)⟩
  · have hn0i : (0 : Int) < (nn : Int) := by omega
    obtain ⟨F5, hF5⟩ : ∃ F5, F + 5 = F5 := ⟨_, rfl⟩
    have q8 : (F : Int) + 5 = (F5 : Int) := by omega
    have q9 : (F5 : Int) + (nn : Int) = (P : Int) := by omega
    have hF5i : (F5 : Int) ≤ 1505 := by omega
    clear hF5 hP5 hn0
    go_enter Try.func7, Try.ntmps7
    go_wp2_with fail
    refine (HLW.out w (Below.refl _ _)).mono ?_
    rintro e w' ⟨rfl, rfl⟩
    go_wp2_with fail
    refine (HA1.out w (Below.refl _ _)).mono ?_
    rintro e w1 ⟨B1, d1, rfl, ho1, hb1⟩
    simp only [HX.out.1] at ho1 ⊢
    have HB1 := Lib.hid hb1
    have HO1 := Lib.hid ho1
    clear hb1 ho1 HA1
    go_wp2_with fail
    refine (HLW.out w1 HB1.out).mono ?_
    rintro e w' ⟨rfl, rfl⟩
    clear HLW
    obtain ⟨b, o, rfl, hc1⟩ := HCC.out w1 HB1.out
    go_wp2_with fail
    refine (HLF.out w1 HB1.out).mono ?_
    rintro e w' ⟨rfl, rfl⟩
    go_wp2_with fail
    refine (copyb_any w1.heap.size d1 L1 B1 Z HX.out.1.symm w1 (Row.of_own HO1.out) (Nat.le_refl _) (by have := HLE.out; omega)).mono ?_
    rintro e w2 ⟨B2, d2, rfl, ho2, hb2⟩
    simp only [HX.out.1] at ho2 ⊢
    obtain ⟨g, rfl⟩ : ∃ g, B2 = some ⟨g, 0, none⟩ := by
      rcases ho2.2 with ⟨_, hn0⟩ | ⟨g, cap, cur, hv, _⟩
      · have := hPLi; omega
      · injection hv with hv; exact ⟨g, hv⟩
    have hc0 := ho2.cellAt P (by omega)
    rw [List.getElem?_map, HV.out] at hc0
    have hfz := ho2.frozenAt P
    have hst := ho2.stored P (.int .u8 (y : Int))
    rw [HBS.out] at hst
    have hge : w1.heap.size ≤ g := (ho2.lt g rfl).1
    have hcp := (own_cap ho2).1
    have HB2 : Hid (Below w.heap.size w (w2.setCell ⟨g, P, none⟩ (.int .u8 (y : Int)))) := Lib.hid ((HB1.out.trans (hb2.mono HB1.out.size)).setCell (p := ⟨g, P, none⟩) (Nat.le_trans HB1.out.size hge) _)
    have HC2 := Lib.hid (And.intro (Row.of_own hst.1) hcp)
    have hPi0 : (0 : Int) ≤ (P : Int) := by omega
    clear ho2 hb2 hst hc1 HLF HCC HO1
    go_wp2_with fail
    obtain ⟨w3, hw3⟩ : ∃ w3, w2.setCell ⟨g, P, none⟩ (.int .u8 (y : Int)) = w3 := ⟨_, rfl⟩
    rw [hw3] at HB2 HC2 ⊢
    clear hw3 hc0 hfz
    refine (HS1.out w3 w3.heap.size (some ⟨g, 0, none⟩) d2 HC2.out.2 HC2.out.1 (Nat.le_refl _)).mono ?_
    rintro e w4 ⟨rs4, A4, c4, hm4, rfl, ho4, hr4, hb4⟩
    simp only at hm4 ⊢
    have HB4 := Lib.hid (HB2.out.trans (hb4.mono HB2.out.size))
    have HO4 := Lib.hid ho4
    have HR4 := Lib.hid hr4
    have HM4 := Lib.hid hm4
    have HC4 := Lib.hid ((HC2.out.1.below hb4).more hb4.size)
    clear ho4 hr4 hb4 HS1
    go_wp2_with fail
    refine (HS2.out w4 w4.heap.size (some ⟨g, 0, none⟩) d2 HC2.out.2 HC4.out (Nat.le_refl _)).mono ?_
    rintro e w5 ⟨rs5, A5, c5, hm5, rfl, ho5, hr5, hb5⟩
    simp only at hm5 ⊢
    have HB5 := Lib.hid (HB4.out.trans (hb5.mono HB4.out.size))
    have HO5 := Lib.hid ho5
    have HR5 := Lib.hid hr5
    have HM5 := Lib.hid hm5
    have HO4 := Lib.hid (ownLater HO4.out hb5)
    have HR4 := Lib.hid (recsO_below HR4.out hb5)
    have hkl : (k : Int) ≤ (rs4.length : Int) := by have h1 := HX.out.2.1.1; have h2 := map_len hm4; omega
    have hll : rs4.length ≤ 1000 := by have h1 := HX.out.2.2.1; have h2 := map_len hm4; have h3 := HLE.out; omega
    have hkl2 : k ≤ rs4.length := by omega
    clear hm4 hm5 ho5 hr5 hb5 HS2 HC4
    go_wp2_with fail
    refine (refsame5_true rs4.length rs5.length c4 c5 A4 A5 rs4 rs5 rfl rfl (HM4.out.trans HM5.out.symm) w5 (ownRow HO4.out) (ownRow HO5.out) (recsO_recs HR4.out) (recsO_recs HR5.out) (by omega)).mono ?_
    rintro e w6 ⟨rfl, hb6⟩
    have HB6 := Lib.hid (HB5.out.trans (hb6.mono HB5.out.size))
    have HO4 := Lib.hid (ownLater HO4.out hb6)
    have HR4 := Lib.hid (recsO_below HR4.out hb6)
    have hk4 : k ≤ c4 := by
      obtain ⟨A', c', hv, h1, _⟩ := ownShape HO4.out
      injection hv with _ _ h3
      omega
    have hcv := fun W => cutRh W A4 rs4.length c4 k hk4
    have hmk : (rs4.take k).map rcOf = (rs.take k).map rcOf := by rw [List.map_take, List.map_take, HM4.out, HX.out.2.1.2]
    have HSM : Hid (∀ p : Later w6, Calls Try.prog 22 #[.slice A4 k c4, .slice (some ⟨b, o, none⟩) k c] p.world fun e w' => e = .returned (.bool true) ∧ Below p.world.heap.size p.world w') := Lib.hid fun p => by
      have hp := HB6.out.trans (p.bel.mono HB6.out.size)
      have hin := HIN.out p.world hp
      exact refsame5_true k k c4 c A4 (some ⟨b, o, none⟩) (rs4.take k) (rs.take k) (by rw [List.length_take]; omega) (by rw [List.length_take, ← HX.out.2.2.2.2]; have := hkni; omega) hmk p.world (rowR_take (ownRow (ownLater HO4.out p.bel)) k) (rowR_take hin.1 k) (recs_sub (recsO_recs (recsO_below HR4.out p.bel)) (fun r hr => List.mem_of_mem_take hr)) (recs_sub hin.2 (fun r hr => List.mem_of_mem_take hr)) (by omega)
    clear hb6 HO5 HR5 HM5 HO4 HR4 HM4 hmk hk4 hll
    go_wp2_with fail
    refine wp_region_later (by kernel_rfl) (by kernel_rfl) ?_
    repeat (go_big_quiet_step (first
      | (go_at_call 22; exact later_of (HSM.out _))
      | (go_at_call 11; exact later_of (known5_any _))))
    refine wpQuiet_nil ?_
    intro w' hw'
    obtain ⟨p, rfl⟩ := hw'
    go_wp2
    go_ret
    exact ⟨rfl, HB6.out.trans (p.bel.mono HB6.out.size)⟩
end Go.Proofs.Ytpccppdakmpchaa
