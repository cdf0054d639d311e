/- Who keeps a word keeps the point from which that begins, too. -/
import Derived.Test.YthnfinnlnkjomaaLw9
import Derived.Test.YthnfinnlnkjomaaLw9M
namespace Go.Proofs.Ythnfinnlnkjomaa
open Go.RowKit Mem Rg
set_option maxRecDepth 100000
set_option maxHeartbeats 16000000
set_option linter.unusedVariables false
theorem known_l (w : World) : Calls Try.prog 11 #[] w fun e w' => e = .returned (.bool true) ∧ Below w.heap.size w w' := known_any w
theorem segments_walk (A : Option Addr) (n c : Nat) (ns : List Int) (e k : Int) (h0 : Nat) (hn : n = ns.length) (hl : n ≤ maxLen) (hnc : n ≤ c) (w : World) (h : Row w w.heap.size A (ns.map iV)) :
    Calls Try.prog 9 #[.agg #[.slice A n c, .int .i64 e, .int .i64 k], .int .u64 (h0 : Int)] w (IsTr w) := by
  have hbw : Below w.heap.size w (w.alloc (.cells #[.slice A n c, .int .i64 e, .int .i64 k] 24)) := (Below.refl _ _).alloc (Nat.le_refl _) _
  have hkk : Blk (w.alloc (.cells #[.slice A n c, .int .i64 e, .int .i64 k] 24)) w.heap.size 24 #[.slice A n c, .int .i64 e, .int .i64 k] := Blk.new _ _ _
  obtain ⟨W0, hW0⟩ : ∃ W0, w.alloc (.cells #[.slice A n c, .int .i64 e, .int .i64 k] 24) = W0 := ⟨_, rfl⟩
  have HW0 := Lib.hid hW0
  rw [hW0] at hbw hkk
  have HBW := Lib.hid hbw
  have HKK := Lib.hid hkk
  have hrow : ∀ W, Below W0.heap.size W0 W → Row W W.heap.size A (ns.map iV) := fun W hb => (h.below (hbw.trans (hb.mono hbw.size))).more (Nat.le_trans hbw.size hb.size)
  have HROW := Lib.hid hrow
  have HN := Lib.hid hn
  clear h hn hW0 hbw hkk hrow
  have HB0 := Lib.hid (Below.refl W0.heap.size W0)
  have HKC := HKK.out.below HB0.out HKK.out.lt
  have c0 : W0.cell? ⟨w.heap.size, 0, none⟩ = some (.slice A n c) := HKC.cell 0
  have c1 : W0.cell? ⟨w.heap.size, 1, none⟩ = some (.int .i64 e) := HKC.cell 1
  have c2 : W0.cell? ⟨w.heap.size, 2, none⟩ = some (.int .i64 k) := HKC.cell 2
  clear HKC
  go_enter Try.func9, Try.ntmps9
  go_wp2_with fail
  rw [HW0.out]
  refine (long_any A n c e k W0).mono ?_
  rintro e1 w1 ⟨b, rfl, hb12, hb1⟩
  have HB12 := Lib.hid hb12
  clear hb12
  have HB1 := Lib.hid (HB0.out.trans (hb1.mono HB0.out.size))
  clear c0 c1 c2 hb1
  have HKC := HKK.out.below HB1.out HKK.out.lt
  have c0 : w1.cell? ⟨w.heap.size, 0, none⟩ = some (.slice A n c) := HKC.cell 0
  have c1 : w1.cell? ⟨w.heap.size, 1, none⟩ = some (.int .i64 e) := HKC.cell 1
  have c2 : w1.cell? ⟨w.heap.size, 2, none⟩ = some (.int .i64 k) := HKC.cell 2
  clear HKC
  rcases b with _ | _
  rotate_left
  · skip
    go_wp2_with (go_at_call 11; refine (known_any _).mono ?_; rintro e2 w2 ⟨rfl, hb2⟩)
    go_ret
    exact ⟨rfl, HBW.out.trans ((HB1.out.trans (hb2.mono HB1.out.size)).mono HBW.out.size)⟩
  have HN12 := Lib.hid (HB12.out rfl)
  go_wp2_with fail
  refine (refcheck_any A n c ns e k HN.out hl w1 (HROW.out _ HB1.out)).mono ?_
  rintro e2 w2 ⟨⟨q, rfl, hqa, hqb⟩, hb2⟩
  have HB2 := Lib.hid (HB1.out.trans (hb2.mono HB1.out.size))
  clear c0 c1 c2 hb2
  have HKC := HKK.out.below HB2.out HKK.out.lt
  have c0 : w2.cell? ⟨w.heap.size, 0, none⟩ = some (.slice A n c) := HKC.cell 0
  have c1 : w2.cell? ⟨w.heap.size, 1, none⟩ = some (.int .i64 e) := HKC.cell 1
  have c2 : w2.cell? ⟨w.heap.size, 2, none⟩ = some (.int .i64 k) := HKC.cell 2
  clear HKC
  by_cases ok : OkR ns e k
  rotate_left
  · skip
    obtain rfl : q = 2 := hqb ok
    clear hqa hqb ok
    go_wp2_with (go_at_call 11; refine (known_any _).mono ?_; rintro e3 w3 ⟨rfl, hb3⟩)
    go_ret
    exact ⟨rfl, HBW.out.trans ((HB2.out.trans (hb3.mono HB2.out.size)).mono HBW.out.size)⟩
  obtain rfl : q = 0 := hqa ok
  obtain ⟨en, rfl⟩ : ∃ en : Nat, e = (en : Int) := ⟨e.toNat, by have := ok.2.2.1; omega⟩
  obtain ⟨kn, rfl⟩ : ∃ kn : Nat, k = (kn : Int) := ⟨k.toNat, by have := ok.2.2.2.2.1; omega⟩
  have HOK := Lib.hid ok
  have HPL := Lib.hid (pts_len_ok ok)
  clear hqa hqb ok
  obtain ⟨La, hLa⟩ : ∃ La, keepP (ptsP fP ns en) h0 kn = La := ⟨_, rfl⟩
  have HLA : Hid (La.length = kn) := Lib.hid (by rw [← hLa]; exact keepP_len fP ns HPL.out.2.2.1 en HPL.out.2.2.2.2.2.2 h0 kn HPL.out.2.2.2.2.2.1)
  have HA1 := Lib.hid fun W (h : Row W W.heap.size A (ns.map iV)) => at_ok A n c ns en kn h0 HN.out HOK.out W h
  rw [hLa] at HA1
  have HLAA := Lib.hid hLa
  clear hLa
  go_wp2_with fail
  refine (HA1.out w2 (HROW.out _ HB2.out)).mono ?_
  rintro e3 w3 ⟨A2, k2, rfl, hoa, hb3⟩
  have HOA := Lib.hid hoa
  have HB3 := Lib.hid (HB2.out.trans (hb3.mono HB2.out.size))
  clear c0 c1 c2 hb3 hoa
  have HKC := HKK.out.below HB3.out HKK.out.lt
  have c0 : w3.cell? ⟨w.heap.size, 0, none⟩ = some (.slice A n c) := HKC.cell 0
  have c1 : w3.cell? ⟨w.heap.size, 1, none⟩ = some (.int .i64 (en : Int)) := HKC.cell 1
  have c2 : w3.cell? ⟨w.heap.size, 2, none⟩ = some (.int .i64 (kn : Int)) := HKC.cell 2
  clear HKC
  go_wp2_with fail
  refine (segr_ok A n c ns en kn h0 HN.out HOK.out w3 (HROW.out _ HB3.out)).mono ?_
  rintro e4 w4 ⟨rfl, hb4⟩
  have HB4 := Lib.hid (HB3.out.trans (hb4.mono HB3.out.size))
  replace HOA := Lib.hid (own_later HOA.out hb4)
  clear c0 c1 c2 hb4
  have HKC := HKK.out.below HB4.out HKK.out.lt
  have c0 : w4.cell? ⟨w.heap.size, 0, none⟩ = some (.slice A n c) := HKC.cell 0
  have c1 : w4.cell? ⟨w.heap.size, 1, none⟩ = some (.int .i64 (en : Int)) := HKC.cell 1
  have c2 : w4.cell? ⟨w.heap.size, 2, none⟩ = some (.int .i64 (kn : Int)) := HKC.cell 2
  clear HKC
  go_wp2_with fail
  refine (points_ok A n c ns en kn HN.out HOK.out w4 (HROW.out _ HB4.out)).mono ?_
  rintro e5 w5 ⟨A3, k3, rfl, hrp, hb5⟩
  have HRP := Lib.hid hrp
  have HB5 := Lib.hid (HB4.out.trans (hb5.mono HB4.out.size))
  replace HOA := Lib.hid (own_later HOA.out hb5)
  clear c0 c1 c2 hb5 hrp
  have HKC := HKK.out.below HB5.out HKK.out.lt
  have c0 : w5.cell? ⟨w.heap.size, 0, none⟩ = some (.slice A n c) := HKC.cell 0
  have c1 : w5.cell? ⟨w.heap.size, 1, none⟩ = some (.int .i64 (en : Int)) := HKC.cell 1
  have c2 : w5.cell? ⟨w.heap.size, 2, none⟩ = some (.int .i64 (kn : Int)) := HKC.cell 2
  clear HKC
  go_wp2_with fail
  refine (ringlists_ok A n c ns en kn HN.out HOK.out w5 (HROW.out _ HB5.out)).mono ?_
  rintro e6 w6 ⟨A4, k4, rs4, rfl, hrs4, hrb, hri, hb6⟩
  have HRB := Lib.hid hrb
  have HRI := Lib.hid hri
  have HB6 := Lib.hid (HB5.out.trans (hb6.mono HB5.out.size))
  replace HOA := Lib.hid (own_later HOA.out hb6)
  replace HRP := Lib.hid ((HRP.out.below hb6).more hb6.size)
  clear c0 c1 c2 hb6 hrb hri
  have HKC := HKK.out.below HB6.out HKK.out.lt
  have c0 : w6.cell? ⟨w.heap.size, 0, none⟩ = some (.slice A n c) := HKC.cell 0
  have c1 : w6.cell? ⟨w.heap.size, 1, none⟩ = some (.int .i64 (en : Int)) := HKC.cell 1
  have c2 : w6.cell? ⟨w.heap.size, 2, none⟩ = some (.int .i64 (kn : Int)) := HKC.cell 2
  clear HKC
  have HSL := Lib.hid (ptsP_sl fP ns en)
  obtain ⟨l, hl9⟩ : ∃ l, ptsP fP ns en = l := ⟨_, rfl⟩
  rw [hl9] at HLAA HRP HPL HSL hrs4 ⊢
  have hp0 := HPL.out.2.1
  have hFl := firstP_lt l h0 hp0
  have HG1 := Lib.hid fun t (ht : t < l.length) (hge : h0 ≤ l[t].1) => seg_first HSL.out h0 hp0 t ht hge
  have HG2 := Lib.hid (seg_zero HSL.out h0 hp0)
  have HG3 := Lib.hid (seg_keep HSL.out h0 hp0 kn)
  have HG4 := Lib.hid (seg_head (l := l) h0 hp0 kn HPL.out.2.2.2.1)
  obtain ⟨F, hF⟩ : ∃ F, firstP l h0 = F := ⟨_, rfl⟩
  simp only [hF] at HG1 HG2 HG3 HG4 hFl ⊢
  obtain ⟨⟨zf, nf⟩, hzf⟩ : ∃ z, l[F] = z := ⟨_, rfl⟩
  simp only [hzf] at HG1 HG2 HG3 HG4
  have HZF := Lib.hid hzf
  have hLLz : (listsP l kn).length = l.length := by unfold listsP; rw [List.length_map]
  have HLZ := Lib.hid hLLz
  rw [hLLz]
  have HRL : Hid (rs4.length = l.length) := Lib.hid (by
    have := congrArg List.length hrs4
    rw [List.length_map, hLLz] at this
    exact this)
  have hRS : rs4[F]?.map (fun r : RowIV => r.2.1) = some La := by
    rw [← List.getElem?_map, hrs4]
    unfold listsP
    rw [List.getElem?_map, List.getElem?_eq_getElem hFl, Option.map_some, hzf]
    show some (keepP l zf kn) = _
    rw [HG3.out, HLAA.out]
  have hFr : F < rs4.length := by rw [HRL.out]; exact hFl
  rw [List.getElem?_eq_getElem hFr, Option.map_some] at hRS
  obtain ⟨⟨A5, y5, c5⟩, hr5⟩ : ∃ r, rs4[F] = r := ⟨_, rfl⟩
  rw [hr5] at hRS
  obtain rfl : y5 = La := by injection hRS
  have HR5 : Hid (∀ W, Below w6.heap.size w6 W → Row W W.heap.size A5 (y5.map iV)) := Lib.hid fun W hb => by
    have := rowsI_row (rowsI_below HRI.out hb) rs4[F] (List.getElem_mem hFr)
    rw [hr5] at this
    exact this
  have HC5 : Hid (∀ W, Below w6.heap.size w6 W → ∃ b o, A4 = some ⟨b, o, none⟩ ∧ W.cell? ⟨b, o + F, none⟩ = some (.slice A5 kn c5)) := Lib.hid fun W hb => by
    obtain ⟨b, o, hA, _, hc⟩ := ((HRB.out.below hb).more hb.size).open_ (by rw [List.length_map]; omega)
    refine ⟨b, o, hA, ?_⟩
    have := hc F (by rw [List.length_map]; exact hFr)
    rw [List.getElem_map, hr5] at this
    unfold rowIV at this
    simp only [HLA.out] at this
    exact this
  rw [HLA.out]
  have hkn0 : 0 < kn := by have := HPL.out; omega
  have hkn1 : ((kn : Int) == 0) = false := by simp; omega
  have hF0 : (0 : Int) ≤ (F : Int) := by omega
  have hF1 : (F : Int) < (l.length : Int) := by omega
  have hLz : (l.length : Int) ≤ 4096 := by have := HPL.out.1; omega
  have hneq : ((l.length : Int) != (l.length : Int)) = false := by simp
  have HFL := Lib.hid hFl
  have HP0 := Lib.hid hp0
  clear hrs4 hl9 hF hzf hLLz hRS hFr hr5
  have hFa : decide ((F : Int) < 0) = false := by simp
  have hFb : decide (l.length ≤ F) = false := by simp; omega
  have hFc : decide ((l.length : Int) ≤ (F : Int)) = false := by simp; omega
  go_wp2
  clear c0 c1 c2 hkn1 hneq hFa hFb hFc
  go_loopw [13] (fun i wr => ∃ t : Nat, t ≤ l.length ∧ i = .int .i64 t ∧ Hid (Below w6.heap.size w6 wr)) (fun i _ => l.length - (intOf i).toNat)
  case atStart => exact ⟨0, by omega, rfl, Lib.hid (Below.refl _ _)⟩
  case round =>
    obtain ⟨t, ht, rfl, HBR⟩ := hrel
    obtain ⟨b4, o4, rfl, _, hc4⟩ := pts_open ((HRP.out.below HBR.out).more HBR.out.size) (by omega)
    obtain ⟨z0, z1⟩ := hc4 F hFl
    rw [HZF.out] at z0 z1
    simp only at z0 z1
    by_cases htl : t < l.length
    · obtain ⟨a0, a1⟩ := hc4 t htl
      have HGE := Lib.hid (HG1.out t htl)
      obtain ⟨⟨y0, y1⟩, hy⟩ : ∃ y, l[t] = y := ⟨_, rfl⟩
      rw [hy] at a0 a1 HGE
      simp only at a0 a1
      have ht0 : (0 : Int) ≤ (t : Int) := by omega
      have ht1 : (t : Int) < (l.length : Int) := by omega
      clear hc4 hy
      by_cases hge : h0 ≤ y0
      · have hg := HGE.out hge
        simp only at hg
        have b1 : decide (h0 ≤ y0) = true := by simpa using hge
        have b2 : decide (zf < h0) = false := by simpa using hg.1
        have b3 : decide (y0 < zf) = false := by simpa using hg.2
        clear hge hg
        go_wp2
        go_quiet (fail)
        go_wp2
        go_roundw
        case rel => exact ⟨t + 1, by omega, by go_num, Lib.hid (HBR.out.trans (below_drew' _ _ _))⟩
        case measure => simp [intOf]; omega
      · have b1 : decide (h0 ≤ y0) = false := by simpa using hge
        clear hge
        go_wp2
        go_quiet (fail)
        go_wp2
        go_roundw
        case rel => exact ⟨t + 1, by omega, by go_num, Lib.hid (HBR.out.trans (below_drew' _ _ _))⟩
        case measure => simp [intOf]; omega
    · have ht1 : ¬ (t : Int) < (l.length : Int) := by omega
      have HSRC := Lib.hid (own_later HOA.out HBR.out)
      obtain ⟨b6, o6, hA6, _, hc6⟩ := int_cell (ownRow HSRC.out) (by have := HLA.out; have := HPL.out; omega)
      have d0 := hc6 0 (by have := HLA.out; have := HPL.out; omega)
      have hh := HG4.out (by rw [HLAA.out]; have := HLA.out; have := HPL.out; omega)
      simp only [HLAA.out] at hh
      rw [hh] at d0
      obtain ⟨b7, o7, hA7, d7⟩ := HC5.out wr HBR.out
      have HSQ := Lib.hid fun p : Later wr => sameints_true _ _ k2 c5 kn kn A2 A5 y5 p.world (ownRow (own_later HSRC.out p.bel)) (HR5.out p.world (HBR.out.trans (p.bel.mono HBR.out.size))) HLA.out.symm HLA.out.symm (by have := HLA.out; have := HPL.out; omega)
      have HBX := Lib.hid (HB6.out.trans (HBR.out.mono HB6.out.size))
      subst hA6
      subst hA7
      rw [Nat.add_zero] at d0
      have l0 := later_cell d0
      have l1 := later_cell z0
      have l2 := later_cell z1
      have l3 := later_cell d7
      have hyl : (0 : Int) < (kn : Int) := by omega
      have e0 : (nf == nf) = true := by simp
      clear hc4 hc6 hh d0 z0 z1 d7
      by_cases hge : h0 ≤ zf
      · have b1 : decide (h0 ≤ zf) = true := by simpa using hge
        clear hge
        go_wp2_with fail
        refine wp_region_later (by kernel_rfl) (by kernel_rfl) ?_
        repeat (first | go_big_quiet_step (first | (go_at_call 17; exact later_quiet (HSQ.out _)) | (go_at_call 11; exact later_of (known_l _))) | (go_big_quiet_want; go_big_quiet_op; refine ⟨_, fun _ => rfl, ?_⟩; go_big_quiet_on))
        refine wpQuiet_nil ?_
        intro w' hw'
        obtain ⟨p9, rfl⟩ := hw'
        go_wp2
        go_ret
        exact ⟨rfl, HBW.out.trans ((HBX.out.trans (p9.bel.mono HBX.out.size)).mono HBW.out.size)⟩
      · have b1 : decide (h0 ≤ zf) = false := by simpa using hge
        obtain rfl : F = 0 := HG2.out (by omega)
        clear hge
        simp only [Nat.zero_mul, Nat.add_zero] at l1 l2 l3
        go_wp2_with fail
        refine wp_region_later (by kernel_rfl) (by kernel_rfl) ?_
        repeat (first | go_big_quiet_step (first | (go_at_call 17; exact later_quiet (HSQ.out _)) | (go_at_call 11; exact later_of (known_l _))) | (go_big_quiet_want; go_big_quiet_op; refine ⟨_, fun _ => rfl, ?_⟩; go_big_quiet_on))
        refine wpQuiet_nil ?_
        intro w' hw'
        obtain ⟨p9, rfl⟩ := hw'
        go_wp2
        go_ret
        exact ⟨rfl, HBW.out.trans ((HBX.out.trans (p9.bel.mono HBX.out.size)).mono HBW.out.size)⟩
end Go.Proofs.Ythnfinnlnkjomaa
