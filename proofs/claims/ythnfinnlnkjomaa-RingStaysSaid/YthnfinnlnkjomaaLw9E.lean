/- A node more changes who keeps a word only where it is one of them. -/
import Derived.Test.YthnfinnlnkjomaaLw9
import Derived.Test.YthnfinnlnkjomaaLw9M
namespace Go.Proofs.Ythnfinnlnkjomaa
open Go.RowKit Mem Rg
set_option maxRecDepth 100000
set_option maxHeartbeats 16000000
set_option linter.unusedVariables false
theorem stays_walk (A : Option Addr) (n c : Nat) (ns : List Int) (e k : Int) (x : Int) (h0 : Nat) (hn : n = ns.length) (hl : n ≤ maxLen) (hnc : n ≤ c) (w : World) (h : Row w w.heap.size A (ns.map iV)) :
    Calls Try.prog 6 #[.agg #[.slice A n c, .int .i64 e, .int .i64 k], .int .i64 x, .int .u64 (h0 : Int)] w (IsTr w) := by
  have hbw : Below w.heap.size w (w.alloc (.cells #[.slice A n c, .int .i64 e, .int .i64 k] 24)) := (Below.refl _ _).alloc (Nat.le_refl _) _
  have hkk : Blk (w.alloc (.cells #[.slice A n c, .int .i64 e, .int .i64 k] 24)) w.heap.size 24 #[.slice A n c, .int .i64 e, .int .i64 k] := Blk.new _ _ _
  obtain ⟨W0, hW0⟩ : ∃ W0, w.alloc (.cells #[.slice A n c, .int .i64 e, .int .i64 k] 24) = W0 := ⟨_, rfl⟩
  have HW0 := Lib.hid hW0
  rw [hW0] at hbw hkk
  have HBW := Lib.hid hbw
  have HKK := Lib.hid hkk
  have hrow : ∀ W, Below W0.heap.size W0 W → Row W W.heap.size A (ns.map iV) := fun W hb => (h.below (hbw.trans (hb.mono hbw.size))).more (Nat.le_trans hbw.size hb.size)
  have HROW := Lib.hid hrow
  have HN := Lib.hid hn
  clear h hn hW0 hbw hkk hrow
  have HB0 := Lib.hid (Below.refl W0.heap.size W0)
  have HKC := HKK.out.below HB0.out HKK.out.lt
  have c0 : W0.cell? ⟨w.heap.size, 0, none⟩ = some (.slice A n c) := HKC.cell 0
  have c1 : W0.cell? ⟨w.heap.size, 1, none⟩ = some (.int .i64 e) := HKC.cell 1
  have c2 : W0.cell? ⟨w.heap.size, 2, none⟩ = some (.int .i64 k) := HKC.cell 2
  clear HKC
  go_enter Try.func6, Try.ntmps6
  go_wp2_with fail
  rw [HW0.out]
  refine (long_any A n c e k W0).mono ?_
  rintro e1 w1 ⟨b, rfl, hb12, hb1⟩
  have HB12 := Lib.hid hb12
  clear hb12
  have HB1 := Lib.hid (HB0.out.trans (hb1.mono HB0.out.size))
  clear c0 c1 c2 hb1
  have HKC := HKK.out.below HB1.out HKK.out.lt
  have c0 : w1.cell? ⟨w.heap.size, 0, none⟩ = some (.slice A n c) := HKC.cell 0
  have c1 : w1.cell? ⟨w.heap.size, 1, none⟩ = some (.int .i64 e) := HKC.cell 1
  have c2 : w1.cell? ⟨w.heap.size, 2, none⟩ = some (.int .i64 k) := HKC.cell 2
  clear HKC
  rcases b with _ | _
  rotate_left
  · skip
    go_wp2_with (go_at_call 11; refine (known_any _).mono ?_; rintro e2 w2 ⟨rfl, hb2⟩)
    go_ret
    exact ⟨rfl, HBW.out.trans ((HB1.out.trans (hb2.mono HB1.out.size)).mono HBW.out.size)⟩
  have HN12 := Lib.hid (HB12.out rfl)
  go_wp2_with fail
  refine (refcheck_any A n c ns e k HN.out hl w1 (HROW.out _ HB1.out)).mono ?_
  rintro e2 w2 ⟨⟨q, rfl, hqa, hqb⟩, hb2⟩
  have HB2 := Lib.hid (HB1.out.trans (hb2.mono HB1.out.size))
  clear c0 c1 c2 hb2
  have HKC := HKK.out.below HB2.out HKK.out.lt
  have c0 : w2.cell? ⟨w.heap.size, 0, none⟩ = some (.slice A n c) := HKC.cell 0
  have c1 : w2.cell? ⟨w.heap.size, 1, none⟩ = some (.int .i64 e) := HKC.cell 1
  have c2 : w2.cell? ⟨w.heap.size, 2, none⟩ = some (.int .i64 k) := HKC.cell 2
  clear HKC
  by_cases ok : OkR ns e k
  rotate_left
  · skip
    obtain rfl : q = 2 := hqb ok
    clear hqa hqb ok
    go_wp2_with (go_at_call 11; refine (known_any _).mono ?_; rintro e3 w3 ⟨rfl, hb3⟩)
    go_ret
    exact ⟨rfl, HBW.out.trans ((HB2.out.trans (hb3.mono HB2.out.size)).mono HBW.out.size)⟩
  obtain rfl : q = 0 := hqa ok
  obtain ⟨en, rfl⟩ : ∃ en : Nat, e = (en : Int) := ⟨e.toNat, by have := ok.2.2.1; omega⟩
  obtain ⟨kn, rfl⟩ : ∃ kn : Nat, k = (kn : Int) := ⟨k.toNat, by have := ok.2.2.2.2.1; omega⟩
  have HOK := Lib.hid ok
  have HPL := Lib.hid (pts_len_ok ok)
  clear hqa hqb ok
  obtain ⟨i0, hi0, hz0, hz1, hz2⟩ := info_parts info_i
  obtain ⟨L1, e1, k1, q1, hw1, hw2, hl1, hq1⟩ := with_both A n c ns (en : Int) (kn : Int) x HN.out (by have := HN12.out; omega) hnc
  have HQ1 := Lib.hid hq1
  have HW1 := Lib.hid hw1
  obtain ⟨La, hLa⟩ : ∃ La, keepP (ptsP fP ns en) h0 kn = La := ⟨_, rfl⟩
  have HLA : Hid (La.length = kn) := Lib.hid (by rw [← hLa]; exact keepP_len fP ns HPL.out.2.2.1 en HPL.out.2.2.2.2.2.2 h0 kn HPL.out.2.2.2.2.2.1)
  have HA1 := Lib.hid fun W (h : Row W W.heap.size A (ns.map iV)) => at_ok A n c ns en kn h0 HN.out HOK.out W h
  rw [hLa] at HA1
  have HLAA := Lib.hid hLa
  clear hLa hq1 hw1 hw2
  go_wp2_with fail
  refine (HW1.out w2 (HROW.out _ HB2.out)).mono ?_
  rintro e3 w3 ⟨A1, m1, rfl, ho1, hb3⟩
  have HO1 := Lib.hid ho1
  have HB3 := Lib.hid (HB2.out.trans (hb3.mono HB2.out.size))
  clear c0 c1 c2 hb3 ho1
  have HKC := HKK.out.below HB3.out HKK.out.lt
  have c0 : w3.cell? ⟨w.heap.size, 0, none⟩ = some (.slice A n c) := HKC.cell 0
  have c1 : w3.cell? ⟨w.heap.size, 1, none⟩ = some (.int .i64 (en : Int)) := HKC.cell 1
  have c2 : w3.cell? ⟨w.heap.size, 2, none⟩ = some (.int .i64 (kn : Int)) := HKC.cell 2
  clear HKC
  obtain ⟨w4, hv4⟩ : ∃ V, w3.alloc (.cells #[.slice A1 L1.length m1, .int .i64 e1, .int .i64 k1] 24) = V := ⟨_, rfl⟩
  have hb4 : Below w3.heap.size w3 w4 := by rw [← hv4]; exact (Below.refl _ _).alloc (Nat.le_refl _) _
  have BA : Hid (Blk w4 w3.heap.size 24 #[.slice A1 L1.length m1, .int .i64 e1, .int .i64 k1]) := Lib.hid (by rw [← hv4]; exact Blk.new _ _ _)
  have HB4 := Lib.hid (HB3.out.trans (hb4.mono HB3.out.size))
  replace HO1 := Lib.hid (own_later HO1.out hb4)
  clear hb4
  clear c0 c1 c2
  have HKC := HKK.out.below HB4.out HKK.out.lt
  have c0 : w4.cell? ⟨w.heap.size, 0, none⟩ = some (.slice A n c) := HKC.cell 0
  have c1 : w4.cell? ⟨w.heap.size, 1, none⟩ = some (.int .i64 (en : Int)) := HKC.cell 1
  have c2 : w4.cell? ⟨w.heap.size, 2, none⟩ = some (.int .i64 (kn : Int)) := HKC.cell 2
  clear HKC
  have BA0 : w4.cell? ⟨w3.heap.size, 0, none⟩ = some (.slice A1 L1.length m1) := BA.out.cell 0
  have BA1 : w4.cell? ⟨w3.heap.size, 1, none⟩ = some (.int .i64 e1) := BA.out.cell 1
  have BA2 : w4.cell? ⟨w3.heap.size, 2, none⟩ = some (.int .i64 k1) := BA.out.cell 2
  go_wp2_with fail
  refine (HA1.out w4 (HROW.out _ HB4.out)).mono ?_
  rintro e5 w5 ⟨A2, k2, rfl, hoa, hb5⟩
  have HOA := Lib.hid hoa
  have HB5 := Lib.hid (HB4.out.trans (hb5.mono HB4.out.size))
  replace HO1 := Lib.hid (own_later HO1.out hb5)
  replace BA := Lib.hid (BA.out.below hb5 BA.out.lt)
  clear c0 c1 c2 BA0 BA1 BA2 hb5 hoa
  have HKC := HKK.out.below HB5.out HKK.out.lt
  have c0 : w5.cell? ⟨w.heap.size, 0, none⟩ = some (.slice A n c) := HKC.cell 0
  have c1 : w5.cell? ⟨w.heap.size, 1, none⟩ = some (.int .i64 (en : Int)) := HKC.cell 1
  have c2 : w5.cell? ⟨w.heap.size, 2, none⟩ = some (.int .i64 (kn : Int)) := HKC.cell 2
  clear HKC
  have BA0 : w5.cell? ⟨w3.heap.size, 0, none⟩ = some (.slice A1 L1.length m1) := BA.out.cell 0
  have BA1 : w5.cell? ⟨w3.heap.size, 1, none⟩ = some (.int .i64 e1) := BA.out.cell 1
  have BA2 : w5.cell? ⟨w3.heap.size, 2, none⟩ = some (.int .i64 k1) := BA.out.cell 2
  clear hv4
  have hla : ((La.length : Int) == (kn : Int)) = true := by rw [HLA.out]; simp
  have hlb : ((La.length : Int) != (kn : Int)) = false := by rw [HLA.out]; simp
  rcases HQ1.out with ⟨rfl, hL1, rfl, rfl, hnew, hok1⟩ | ⟨rfl, hL1, hno⟩
  rotate_left
  · clear hL1 hno
    go_wp2_with (go_at_call 11; refine (known_any _).mono ?_; rintro e6 w6 ⟨rfl, hb6⟩)
    go_ret
    exact ⟨rfl, HBW.out.trans ((HB5.out.trans (hb6.mono HB5.out.size)).mono HBW.out.size)⟩
  · have HPL1 := Lib.hid (pts_len_ok hok1)
    obtain ⟨Lb, hLb⟩ : ∃ Lb, keepP (ptsP fP L1 en) h0 kn = Lb := ⟨_, rfl⟩
    have HLB : Hid (Lb.length = kn) := Lib.hid (by rw [← hLb]; exact keepP_len fP L1 HPL1.out.2.2.1 en HPL1.out.2.2.2.2.2.2 h0 kn HPL1.out.2.2.2.2.2.1)
    have hA2 := fun W (h : Row W W.heap.size A1 (L1.map iV)) => at_ok A1 L1.length m1 L1 en kn h0 rfl hok1 W h
    rw [hLb] at hA2
    have HA2 := Lib.hid hA2
    have HMATH : Hid (Lb.length ≤ (notX x Lb).length + 1 ∧ notX x Lb = La.take (notX x Lb).length) := Lib.hid (by
      rw [← hLb, ← HLAA.out]
      refine stays_math fP ns L1 x en h0 kn fun m => ?_
      rw [hL1, withL_mem]
      constructor
      · intro hm
        exact ⟨Or.inr hm, by simpa using fun e : m = x => hnew.2.2 (by rw [← e]; exact hm)⟩
      · rintro ⟨hm | hm, hne⟩
        · exact absurd hm (by simpa using hne)
        · exact hm)
    clear hA2 hLb hL1 hnew hok1
    go_wp2_with fail
    refine (HA2.out w5 (ownRow HO1.out)).mono ?_
    rintro e6 w6 ⟨A3, k3, rfl, hob, hb6⟩
    have HOB := Lib.hid hob
    have HB6 := Lib.hid (HB5.out.trans (hb6.mono HB5.out.size))
    replace HO1 := Lib.hid (own_later HO1.out hb6)
    replace HOA := Lib.hid (own_later HOA.out hb6)
    replace BA := Lib.hid (BA.out.below hb6 BA.out.lt)
    clear c0 c1 c2 BA0 BA1 BA2 hb6 hob
    have HKC := HKK.out.below HB6.out HKK.out.lt
    have c0 : w6.cell? ⟨w.heap.size, 0, none⟩ = some (.slice A n c) := HKC.cell 0
    have c1 : w6.cell? ⟨w.heap.size, 1, none⟩ = some (.int .i64 (en : Int)) := HKC.cell 1
    have c2 : w6.cell? ⟨w.heap.size, 2, none⟩ = some (.int .i64 (kn : Int)) := HKC.cell 2
    clear HKC
    have BA0 : w6.cell? ⟨w3.heap.size, 0, none⟩ = some (.slice A1 L1.length m1) := BA.out.cell 0
    have BA1 : w6.cell? ⟨w3.heap.size, 1, none⟩ = some (.int .i64 (en : Int)) := BA.out.cell 1
    have BA2 : w6.cell? ⟨w3.heap.size, 2, none⟩ = some (.int .i64 (kn : Int)) := BA.out.cell 2
    have hlc : ((Lb.length : Int) != (kn : Int)) = false := by rw [HLB.out]; simp
    have HLS := Lib.hid (by have := HLB.out; have := HPL.out; omega : Lb.length ≤ 64)
    have HSZ0 := Lib.hid (Below.refl w6.heap.size w6)
    have hlbz : (Lb.length : Int) ≤ 64 := by have := HPL.out; have := HLS.out; omega
    go_wp2
    clear c0 c1 c2 BA0 BA1 BA2
    go_loopw [13, 14] (fun v i wr => ∃ t : Nat, t ≤ Lb.length ∧ i = .int .i64 t ∧ Hid (OwnI w6.heap.size (notX x (Lb.take t)) v wr) ∧ Hid (Below w6.heap.size w6 wr)) (fun _ i _ => Lb.length - (intOf i).toNat)
    case atStart => exact ⟨0, by omega, rfl, Lib.hid (World.ownsRow_nil _ _ _ _), HSZ0⟩
    case round =>
      obtain ⟨t, ht, rfl, HOR, HBR⟩ := hrel
      have HSRC := Lib.hid (own_later HOB.out HBR.out)
      by_cases htl : t < Lb.length
      · obtain ⟨b4, o4, hA4, _, hc4⟩ := int_cell (ownRow HSRC.out) (by omega)
        have d0 := hc4 t htl
        have hsn := notX_snoc x Lb t htl
        obtain ⟨y, hy⟩ : ∃ y, Lb[t] = y := ⟨_, rfl⟩
        rw [hy] at d0 hsn
        obtain ⟨T, hT⟩ : ∃ T, notX x (Lb.take t) = T := ⟨_, rfl⟩
        rw [hT] at HOR hsn
        have HTL : Hid (T.length ≤ t) := Lib.hid (by
          rw [← hT]
          have := notX_le x (Lb.take t)
          rw [List.length_take] at this
          omega)
        have HSN := Lib.hid hsn
        have ht0 : (0 : Int) ≤ (t : Int) := by omega
        have ht1 : (t : Int) < (Lb.length : Int) := by omega
        subst hA4
        clear hc4 hy hsn hT
        by_cases hyx : y = x
        · have hb : (y != x) = false := by simpa using hyx
          have HST : Hid (notX x (Lb.take (t + 1)) = T) := Lib.hid (by rw [HSN.out, if_pos hyx])
          clear hyx
          go_wp2
          go_roundw
          case rel => exact ⟨t + 1, by omega, by go_num, Lib.hid (by rw [HST.out]; exact HOR.out), HBR⟩
          case measure => simp [intOf]; omega
        · have hb : (y != x) = true := by simpa using hyx
          have HST : Hid (notX x (Lb.take (t + 1)) = T ++ [y]) := Lib.hid (by rw [HSN.out, if_neg hyx])
          have HB4 : Hid (Below w6.heap.size w6 (wr.alloc (.cells #[.int .i64 y] 3))) := Lib.hid (HBR.out.alloc HBR.out.size _)
          have HO4 := Lib.hid (own_later HOR.out ((Below.refl wr.heap.size wr).alloc (Nat.le_refl _) (.cells #[.int .i64 y] 3)))
          have HSZ := Lib.hid HBR.out.size
          clear hyx
          go_wp2_with (at_builtin; refine wpList_app _ rfl _ _ 22 rfl w6.heap.size 3 i0 _ 8 Try.underlying22 hi0 hz0 hz1 hz2 rfl _ T.length (T.map iV) rfl HO4.out (wr.heap.size + 1) (some ⟨wr.heap.size, 0, none⟩) 1 1 ([y].map iV) rfl rfl (int_row wr y) (iV_one _) (by have := HTL.out; unfold maxLen; omega) (by have := HTL.out; omega) (by have := HSZ.out; simp; omega) ?_)
          intro v' w5 hown hgr _
          have HO5 : Hid (OwnI w6.heap.size (T ++ [y]) v' w5) := Lib.hid (by simpa [OwnI] using hown)
          have HB5 : Hid (Below w6.heap.size w6 w5) := Lib.hid (HB4.out.grown hgr HB4.out.size fun g hg => (HO4.out.lt g hg).1)
          clear hown hgr
          go_wp2
          go_roundw
          case rel => exact ⟨t + 1, by omega, by go_num, Lib.hid (by rw [HST.out]; exact HO5.out), HB5⟩
          case measure => simp [intOf]; omega
      · have ht1 : ¬ (t : Int) < (Lb.length : Int) := by omega
        rw [List.take_of_length_le (l := Lb) (by omega)] at HOR
        clear htl
        obtain ⟨R, hR⟩ : ∃ R, notX x Lb = R := ⟨_, rfl⟩
        rw [hR] at HOR HMATH
        have HRN : Hid (R.length ≤ Lb.length) := Lib.hid (by rw [← hR]; exact notX_le x Lb)
        obtain ⟨A5, k5, rfl⟩ := ownI_shape HOR.out
        have HOAR := Lib.hid (own_later HOA.out HBR.out)
        have hcap : R.length ≤ k2 := by
          obtain ⟨_, _, hv, hc, _⟩ := ownShape HOA.out
          injection hv with _ _ hc2
          have := HRN.out; have := HLB.out; have := HLA.out
          rw [hc2]; omega
        have cut1 := fun W => run_cut_h (P := Try.prog) (w := W) 22 3 _ _ Try.underlying22 info_i A2 La.length k2 R.length hcap
        have hs1 : IntKind.i64.wrap ((Lb.length : Int) - (R.length : Int)) = (Lb.length : Int) - (R.length : Int) := IntWalk.i64_in _ (by have := HRN.out; omega)
        have hs2 : (Lb.length : Int) - (R.length : Int) ≤ 1 := by have := HMATH.out.1; omega
        have hs3 : (R.length : Int) ≤ (k2 : Int) := by omega
        have HS := Lib.hid (sameints_true _ _ k5 k2 R.length R.length A5 A2 R wr (ownRow HOR.out) (by have := take_row (ownRow HOAR.out) R.length; rw [← List.map_take, ← HMATH.out.2] at this; exact this) rfl rfl (by have := HRN.out; omega))
        clear hR hcap
        go_wp2_with fail
        refine HS.out.mono ?_
        rintro e9 w9 ⟨rfl, q9, hq9⟩
        have HB9 : Hid (Below W0.heap.size W0 w9) := Lib.hid (by rw [hq9]; exact (HB6.out.trans (HBR.out.mono HB6.out.size)).trans (below_drew' _ _ _))
        clear hq9 cut1 hs1 hs2 hs3
        go_wp2_with (go_at_call 11; refine (known_any _).mono ?_; rintro e10 w10 ⟨rfl, hb10⟩)
        go_ret
        exact ⟨rfl, HBW.out.trans ((HB9.out.trans (hb10.mono HB9.out.size)).mono HBW.out.size)⟩
end Go.Proofs.Ythnfinnlnkjomaa
