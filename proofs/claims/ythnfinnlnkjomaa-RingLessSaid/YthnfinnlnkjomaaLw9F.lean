/- A node less changes who keeps a word only where it was one of them. -/
import Derived.Test.YthnfinnlnkjomaaLw9
import Derived.Test.YthnfinnlnkjomaaLw9N
namespace Go.Proofs.Ythnfinnlnkjomaa
open Go.RowKit Mem Rg
set_option maxRecDepth 100000
set_option maxHeartbeats 16000000
set_option linter.unusedVariables false
theorem less_walk (A : Option Addr) (n c : Nat) (ns : List Int) (e k : Int) (a0 : Nat) (ha0 : a0 ≤ 255) (h0 : Nat) (hn : n = ns.length) (hl : n ≤ maxLen) (hnc : n ≤ c) (w : World) (h : Row w w.heap.size A (ns.map iV)) :
    Calls Try.prog 8 #[.agg #[.slice A n c, .int .i64 e, .int .i64 k], .int .u8 (a0 : Int), .int .u64 (h0 : Int)] w (IsTr w) := by
  have hbw : Below w.heap.size w (w.alloc (.cells #[.slice A n c, .int .i64 e, .int .i64 k] 24)) := (Below.refl _ _).alloc (Nat.le_refl _) _
  have hkk : Blk (w.alloc (.cells #[.slice A n c, .int .i64 e, .int .i64 k] 24)) w.heap.size 24 #[.slice A n c, .int .i64 e, .int .i64 k] := Blk.new _ _ _
  obtain ⟨W0, hW0⟩ : ∃ W0, w.alloc (.cells #[.slice A n c, .int .i64 e, .int .i64 k] 24) = W0 := ⟨_, rfl⟩
  have HW0 := Lib.hid hW0
  rw [hW0] at hbw hkk
  have HBW := Lib.hid hbw
  have HKK := Lib.hid hkk
  have hrow : ∀ W, Below W0.heap.size W0 W → Row W W.heap.size A (ns.map iV) := fun W hb => (h.below (hbw.trans (hb.mono hbw.size))).more (Nat.le_trans hbw.size hb.size)
  have HROW := Lib.hid hrow
  have HN := Lib.hid hn
  clear h hn hW0 hbw hkk hrow
  have HB0 := Lib.hid (Below.refl W0.heap.size W0)
  have HKC := HKK.out.below HB0.out HKK.out.lt
  have c0 : W0.cell? ⟨w.heap.size, 0, none⟩ = some (.slice A n c) := HKC.cell 0
  have c1 : W0.cell? ⟨w.heap.size, 1, none⟩ = some (.int .i64 e) := HKC.cell 1
  have c2 : W0.cell? ⟨w.heap.size, 2, none⟩ = some (.int .i64 k) := HKC.cell 2
  clear HKC
  go_enter Try.func8, Try.ntmps8
  go_wp2_with fail
  rw [HW0.out]
  refine (long_any A n c e k W0).mono ?_
  rintro e1 w1 ⟨b, rfl, hb12, hb1⟩
  have HB12 := Lib.hid hb12
  clear hb12
  have HB1 := Lib.hid (HB0.out.trans (hb1.mono HB0.out.size))
  clear c0 c1 c2 hb1
  have HKC := HKK.out.below HB1.out HKK.out.lt
  have c0 : w1.cell? ⟨w.heap.size, 0, none⟩ = some (.slice A n c) := HKC.cell 0
  have c1 : w1.cell? ⟨w.heap.size, 1, none⟩ = some (.int .i64 e) := HKC.cell 1
  have c2 : w1.cell? ⟨w.heap.size, 2, none⟩ = some (.int .i64 k) := HKC.cell 2
  clear HKC
  rcases b with _ | _
  rotate_left
  · skip
    go_wp2_with (go_at_call 11; refine (known_any _).mono ?_; rintro e2 w2 ⟨rfl, hb2⟩)
    go_ret
    exact ⟨rfl, HBW.out.trans ((HB1.out.trans (hb2.mono HB1.out.size)).mono HBW.out.size)⟩
  have HN12 := Lib.hid (HB12.out rfl)
  go_wp2_with fail
  refine (refcheck_any A n c ns e k HN.out hl w1 (HROW.out _ HB1.out)).mono ?_
  rintro e2 w2 ⟨⟨q, rfl, hqa, hqb⟩, hb2⟩
  have HB2 := Lib.hid (HB1.out.trans (hb2.mono HB1.out.size))
  clear c0 c1 c2 hb2
  have HKC := HKK.out.below HB2.out HKK.out.lt
  have c0 : w2.cell? ⟨w.heap.size, 0, none⟩ = some (.slice A n c) := HKC.cell 0
  have c1 : w2.cell? ⟨w.heap.size, 1, none⟩ = some (.int .i64 e) := HKC.cell 1
  have c2 : w2.cell? ⟨w.heap.size, 2, none⟩ = some (.int .i64 k) := HKC.cell 2
  clear HKC
  by_cases ok : OkR ns e k
  rotate_left
  · skip
    obtain rfl : q = 2 := hqb ok
    clear hqa hqb ok
    go_wp2_with (go_at_call 11; refine (known_any _).mono ?_; rintro e3 w3 ⟨rfl, hb3⟩)
    go_ret
    exact ⟨rfl, HBW.out.trans ((HB2.out.trans (hb3.mono HB2.out.size)).mono HBW.out.size)⟩
  obtain rfl : q = 0 := hqa ok
  obtain ⟨en, rfl⟩ : ∃ en : Nat, e = (en : Int) := ⟨e.toNat, by have := ok.2.2.1; omega⟩
  obtain ⟨kn, rfl⟩ : ∃ kn : Nat, k = (kn : Int) := ⟨k.toNat, by have := ok.2.2.2.2.1; omega⟩
  have HOK := Lib.hid ok
  have HPL := Lib.hid (pts_len_ok ok)
  clear hqa hqb ok
  obtain ⟨i0, hi0, hz0, hz1, hz2⟩ := info_parts info_i
  have hnp : 0 < n := by have := HOK.out.1; have := HN.out; omega
  obtain ⟨j, hj⟩ : ∃ j, a0 % n = j := ⟨_, rfl⟩
  have hjn : j < n := by rw [← hj]; exact Nat.mod_lt _ hnp
  have hjl : j < ns.length := by have := HN.out; omega
  obtain ⟨b8, o8, hA8, _, hc8⟩ := int_cell (HROW.out _ HB2.out) (by have := HN.out; omega)
  have d8 := hc8 j hjl
  obtain ⟨x, hx⟩ : ∃ x, ns[j] = x := ⟨_, rfl⟩
  rw [hx] at d8
  obtain ⟨L1, e1, k1, q1, hw1, hq1⟩ := without_okr A n c ns (en : Int) (kn : Int) x j hjl hx HOK.out HN.out hnc
  have HQ1 := Lib.hid hq1
  have HW1 := Lib.hid hw1
  obtain ⟨La, hLa⟩ : ∃ La, keepP (ptsP fP ns en) h0 kn = La := ⟨_, rfl⟩
  have HLA : Hid (La.length = kn) := Lib.hid (by rw [← hLa]; exact keepP_len fP ns HPL.out.2.2.1 en HPL.out.2.2.2.2.2.2 h0 kn HPL.out.2.2.2.2.2.1)
  have HA1 := Lib.hid fun W (h : Row W W.heap.size A (ns.map iV)) => at_ok A n c ns en kn h0 HN.out HOK.out W h
  rw [hLa] at HA1
  have HLAA := Lib.hid hLa
  have hr1 : (a0 : Int) % (n : Int) = (j : Int) := by rw [← hj, Int.natCast_emod]
  have hr2 : (a0 : Int).tmod (n : Int) = (j : Int) := by rw [Int.tmod_eq_emod_of_nonneg (by omega)]; exact hr1
  have hs0 : IntKind.i64.wrap (a0 : Int) = (a0 : Int) := IntWalk.i64_in _ (by omega)
  have ha0z : (a0 : Int) ≤ 255 := by omega
  have hn0z : (0 : Int) < (n : Int) := by omega
  have hj0z : (0 : Int) ≤ (j : Int) := by omega
  have hj1z : (j : Int) < (n : Int) := by omega
  have hnd : ¬ (n : Int) = 0 := by omega
  have hnb : ((n : Int) == 0) = false := by simp; omega
  subst hA8
  clear hLa hq1 hw1 hc8 hj hx
  go_wp2
  go_quiet (fail)
  clear hr1 hr2 hs0 d8 hnd hnb
  have hbq : Below w2.heap.size w2 (w2.drewN nq) := below_drew' _ _ _
  generalize w2.drewN nq = w3 at hbq ⊢
  have hb3 := hbq
  clear hbq
  have HB3 := Lib.hid (HB2.out.trans (hb3.mono HB2.out.size))
  clear c0 c1 c2 hb3
  have HKC := HKK.out.below HB3.out HKK.out.lt
  have c0 : w3.cell? ⟨w.heap.size, 0, none⟩ = some (.slice (some ⟨b8, o8, none⟩) n c) := HKC.cell 0
  have c1 : w3.cell? ⟨w.heap.size, 1, none⟩ = some (.int .i64 (en : Int)) := HKC.cell 1
  have c2 : w3.cell? ⟨w.heap.size, 2, none⟩ = some (.int .i64 (kn : Int)) := HKC.cell 2
  clear HKC
  go_wp2_with fail
  refine (HW1.out w3 (HROW.out _ HB3.out)).mono ?_
  rintro e4 w4 ⟨A1, m1, rfl, ho1, hb4⟩
  have HO1 := Lib.hid ho1
  have HB4 := Lib.hid (HB3.out.trans (hb4.mono HB3.out.size))
  clear c0 c1 c2 hb4 ho1
  have HKC := HKK.out.below HB4.out HKK.out.lt
  have c0 : w4.cell? ⟨w.heap.size, 0, none⟩ = some (.slice (some ⟨b8, o8, none⟩) n c) := HKC.cell 0
  have c1 : w4.cell? ⟨w.heap.size, 1, none⟩ = some (.int .i64 (en : Int)) := HKC.cell 1
  have c2 : w4.cell? ⟨w.heap.size, 2, none⟩ = some (.int .i64 (kn : Int)) := HKC.cell 2
  clear HKC
  obtain ⟨w5, hv5⟩ : ∃ V, w4.alloc (.cells #[.slice A1 L1.length m1, .int .i64 e1, .int .i64 k1] 24) = V := ⟨_, rfl⟩
  have hb5 : Below w4.heap.size w4 w5 := by rw [← hv5]; exact (Below.refl _ _).alloc (Nat.le_refl _) _
  have BA : Hid (Blk w5 w4.heap.size 24 #[.slice A1 L1.length m1, .int .i64 e1, .int .i64 k1]) := Lib.hid (by rw [← hv5]; exact Blk.new _ _ _)
  have HB5 := Lib.hid (HB4.out.trans (hb5.mono HB4.out.size))
  replace HO1 := Lib.hid (own_later HO1.out hb5)
  clear hb5
  clear c0 c1 c2
  have HKC := HKK.out.below HB5.out HKK.out.lt
  have c0 : w5.cell? ⟨w.heap.size, 0, none⟩ = some (.slice (some ⟨b8, o8, none⟩) n c) := HKC.cell 0
  have c1 : w5.cell? ⟨w.heap.size, 1, none⟩ = some (.int .i64 (en : Int)) := HKC.cell 1
  have c2 : w5.cell? ⟨w.heap.size, 2, none⟩ = some (.int .i64 (kn : Int)) := HKC.cell 2
  clear HKC
  have BA0 : w5.cell? ⟨w4.heap.size, 0, none⟩ = some (.slice A1 L1.length m1) := BA.out.cell 0
  have BA1 : w5.cell? ⟨w4.heap.size, 1, none⟩ = some (.int .i64 e1) := BA.out.cell 1
  have BA2 : w5.cell? ⟨w4.heap.size, 2, none⟩ = some (.int .i64 k1) := BA.out.cell 2
  rcases HQ1.out with ⟨rfl, hL1, rfl, rfl, hok1⟩ | ⟨rfl, hkn⟩
  rotate_left
  · have hkb : ((kn : Int) == (n : Int)) = true := by simpa using hkn
    clear hkn
    skip
    go_wp2_with (go_at_call 11; refine (known_any _).mono ?_; rintro e6 w6 ⟨rfl, hb6⟩)
    go_ret
    exact ⟨rfl, HBW.out.trans ((HB5.out.trans (hb6.mono HB5.out.size)).mono HBW.out.size)⟩
  · go_wp2_with fail
    refine (HA1.out w5 (HROW.out _ HB5.out)).mono ?_
    rintro e6 w6 ⟨A2, k2, rfl, hoa, hb6⟩
    have HOA := Lib.hid hoa
    have HB6 := Lib.hid (HB5.out.trans (hb6.mono HB5.out.size))
    replace HO1 := Lib.hid (own_later HO1.out hb6)
    replace BA := Lib.hid (BA.out.below hb6 BA.out.lt)
    clear c0 c1 c2 BA0 BA1 BA2 hb6 hoa
    have HKC := HKK.out.below HB6.out HKK.out.lt
    have c0 : w6.cell? ⟨w.heap.size, 0, none⟩ = some (.slice (some ⟨b8, o8, none⟩) n c) := HKC.cell 0
    have c1 : w6.cell? ⟨w.heap.size, 1, none⟩ = some (.int .i64 (en : Int)) := HKC.cell 1
    have c2 : w6.cell? ⟨w.heap.size, 2, none⟩ = some (.int .i64 (kn : Int)) := HKC.cell 2
    clear HKC
    have BA0 : w6.cell? ⟨w4.heap.size, 0, none⟩ = some (.slice A1 L1.length m1) := BA.out.cell 0
    have BA1 : w6.cell? ⟨w4.heap.size, 1, none⟩ = some (.int .i64 (en : Int)) := BA.out.cell 1
    have BA2 : w6.cell? ⟨w4.heap.size, 2, none⟩ = some (.int .i64 (kn : Int)) := BA.out.cell 2
    clear hv5
    have HPL1 := Lib.hid (pts_len_ok hok1)
    obtain ⟨Lb, hLb⟩ : ∃ Lb, keepP (ptsP fP L1 en) h0 kn = Lb := ⟨_, rfl⟩
    have HLB : Hid (Lb.length = kn) := Lib.hid (by rw [← hLb]; exact keepP_len fP L1 HPL1.out.2.2.1 en HPL1.out.2.2.2.2.2.2 h0 kn HPL1.out.2.2.2.2.2.1)
    have hA2 := fun W (h : Row W W.heap.size A1 (L1.map iV)) => at_ok A1 L1.length m1 L1 en kn h0 rfl hok1 W h
    rw [hLb] at hA2
    have HA2 := Lib.hid hA2
    have HMATH : Hid (La.length ≤ (notX x La).length + 1 ∧ notX x La = Lb.take (notX x La).length) := Lib.hid (by
      rw [← hLb, ← HLAA.out]
      exact stays_math fP L1 ns x en h0 kn hL1)
    have HNOT : Hid (isIn x Lb = false) := Lib.hid (isIn_false fun hm => by
      rw [← hLb] at hm
      have h1 := (metP_node fP L1 en HPL1.out.2.2.2.2.2.2 h0 x).1 (List.mem_of_mem_take hm)
      have h2 := ((hL1 x).1 h1).2
      simp at h2)
    clear hA2 hLb hL1 hok1
    go_wp2_with fail
    refine (HA2.out w6 (ownRow HO1.out)).mono ?_
    rintro e7 w7 ⟨A3, k3, rfl, hob, hb7⟩
    have HOB := Lib.hid hob
    have HB7 := Lib.hid (HB6.out.trans (hb7.mono HB6.out.size))
    replace HO1 := Lib.hid (own_later HO1.out hb7)
    replace HOA := Lib.hid (own_later HOA.out hb7)
    replace BA := Lib.hid (BA.out.below hb7 BA.out.lt)
    clear c0 c1 c2 BA0 BA1 BA2 hb7 hob
    have HKC := HKK.out.below HB7.out HKK.out.lt
    have c0 : w7.cell? ⟨w.heap.size, 0, none⟩ = some (.slice (some ⟨b8, o8, none⟩) n c) := HKC.cell 0
    have c1 : w7.cell? ⟨w.heap.size, 1, none⟩ = some (.int .i64 (en : Int)) := HKC.cell 1
    have c2 : w7.cell? ⟨w.heap.size, 2, none⟩ = some (.int .i64 (kn : Int)) := HKC.cell 2
    clear HKC
    have BA0 : w7.cell? ⟨w4.heap.size, 0, none⟩ = some (.slice A1 L1.length m1) := BA.out.cell 0
    have BA1 : w7.cell? ⟨w4.heap.size, 1, none⟩ = some (.int .i64 (en : Int)) := BA.out.cell 1
    have BA2 : w7.cell? ⟨w4.heap.size, 2, none⟩ = some (.int .i64 (kn : Int)) := BA.out.cell 2
    have HLS := Lib.hid (by have := HLA.out; have := HPL.out; omega : La.length ≤ 64)
    have HSZ0 := Lib.hid (Below.refl w7.heap.size w7)
    have hlbz : (La.length : Int) ≤ 64 := by have := HPL.out; have := HLS.out; omega
    go_wp2
    clear c0 c1 c2 BA0 BA1 BA2
    go_loopw [14, 15] (fun v i wr => ∃ t : Nat, t ≤ La.length ∧ i = .int .i64 t ∧ Hid (OwnI w7.heap.size (notX x (La.take t)) v wr) ∧ Hid (Below w7.heap.size w7 wr)) (fun _ i _ => La.length - (intOf i).toNat)
    case atStart => exact ⟨0, by omega, rfl, Lib.hid (World.ownsRow_nil _ _ _ _), HSZ0⟩
    case round =>
      obtain ⟨t, ht, rfl, HOR, HBR⟩ := hrel
      have HSRC := Lib.hid (own_later HOA.out HBR.out)
      by_cases htl : t < La.length
      · obtain ⟨b4, o4, hA4, _, hc4⟩ := int_cell (ownRow HSRC.out) (by omega)
        have d0 := hc4 t htl
        have hsn := notX_snoc x La t htl
        obtain ⟨y, hy⟩ : ∃ y, La[t] = y := ⟨_, rfl⟩
        rw [hy] at d0 hsn
        obtain ⟨T, hT⟩ : ∃ T, notX x (La.take t) = T := ⟨_, rfl⟩
        rw [hT] at HOR hsn
        have HTL : Hid (T.length ≤ t) := Lib.hid (by
          rw [← hT]
          have := notX_le x (La.take t)
          rw [List.length_take] at this
          omega)
        have HSN := Lib.hid hsn
        have ht0 : (0 : Int) ≤ (t : Int) := by omega
        have ht1 : (t : Int) < (La.length : Int) := by omega
        subst hA4
        clear hc4 hy hsn hT
        by_cases hyx : y = x
        · have hb : (y != x) = false := by simpa using hyx
          have HST : Hid (notX x (La.take (t + 1)) = T) := Lib.hid (by rw [HSN.out, if_pos hyx])
          clear hyx
          go_wp2
          go_roundw
          case rel => exact ⟨t + 1, by omega, by go_num, Lib.hid (by rw [HST.out]; exact HOR.out), HBR⟩
          case measure => simp [intOf]; omega
        · have hb : (y != x) = true := by simpa using hyx
          have HST : Hid (notX x (La.take (t + 1)) = T ++ [y]) := Lib.hid (by rw [HSN.out, if_neg hyx])
          have HB4 : Hid (Below w7.heap.size w7 (wr.alloc (.cells #[.int .i64 y] 3))) := Lib.hid (HBR.out.alloc HBR.out.size _)
          have HO4 := Lib.hid (own_later HOR.out ((Below.refl wr.heap.size wr).alloc (Nat.le_refl _) (.cells #[.int .i64 y] 3)))
          have HSZ := Lib.hid HBR.out.size
          clear hyx
          go_wp2_with (at_builtin; refine wpList_app _ rfl _ _ 22 rfl w7.heap.size 3 i0 _ 8 Try.underlying22 hi0 hz0 hz1 hz2 rfl _ T.length (T.map iV) rfl HO4.out (wr.heap.size + 1) (some ⟨wr.heap.size, 0, none⟩) 1 1 ([y].map iV) rfl rfl (int_row wr y) (iV_one _) (by have := HTL.out; unfold maxLen; omega) (by have := HTL.out; omega) (by have := HSZ.out; simp; omega) ?_)
          intro v' w5 hown hgr _
          have HO5 : Hid (OwnI w7.heap.size (T ++ [y]) v' w5) := Lib.hid (by simpa [OwnI] using hown)
          have HB5 : Hid (Below w7.heap.size w7 w5) := Lib.hid (HB4.out.grown hgr HB4.out.size fun g hg => (HO4.out.lt g hg).1)
          clear hown hgr
          go_wp2
          go_roundw
          case rel => exact ⟨t + 1, by omega, by go_num, Lib.hid (by rw [HST.out]; exact HO5.out), HB5⟩
          case measure => simp [intOf]; omega
      · have ht1 : ¬ (t : Int) < (La.length : Int) := by omega
        rw [List.take_of_length_le (l := La) (by omega)] at HOR
        clear htl
        obtain ⟨R, hR⟩ : ∃ R, notX x La = R := ⟨_, rfl⟩
        rw [hR] at HOR HMATH
        have HRN : Hid (R.length ≤ La.length) := Lib.hid (by rw [← hR]; exact notX_le x La)
        obtain ⟨A5, k5, rfl⟩ := ownI_shape HOR.out
        have HOBR := Lib.hid (own_later HOB.out HBR.out)
        have hcap : R.length ≤ k3 := by
          obtain ⟨_, _, hv, hc, _⟩ := ownShape HOB.out
          injection hv with _ _ hc2
          have := HRN.out; have := HLB.out; have := HLA.out
          rw [hc2]; omega
        have cut1 := fun W => run_cut_h (P := Try.prog) (w := W) 22 3 _ _ Try.underlying22 info_i A3 Lb.length k3 R.length hcap
        have hlb : ((Lb.length : Int) == (kn : Int)) = true := by rw [HLB.out]; simp
        have hs2 : (R.length : Int) ≤ (Lb.length : Int) := by have := HRN.out; have := HLB.out; have := HLA.out; omega
        have hs2n : R.length ≤ Lb.length := by omega
        have hs3 : (R.length : Int) ≤ (k3 : Int) := by omega
        have HS := Lib.hid (sameints_true _ _ k5 k3 R.length R.length A5 A3 R wr (ownRow HOR.out) (by have := take_row (ownRow HOBR.out) R.length; rw [← List.map_take, ← HMATH.out.2] at this; exact this) rfl rfl (by have := HRN.out; have := HLS.out; omega))
        have HKX := Lib.hid (HKK.out.below (HB7.out.trans (HBR.out.mono HB7.out.size)) HKK.out.lt)
        have c2 : wr.cell? ⟨w.heap.size, 2, none⟩ = some (.int .i64 (kn : Int)) := HKX.out.cell 2
        clear hR hcap
        go_wp2_with fail
        refine HS.out.mono ?_
        rintro e9 w9 ⟨rfl, q9, hq9⟩
        have hb9 : Below wr.heap.size wr w9 := by rw [hq9]; exact below_drew' _ _ _
        have HB9 : Hid (Below W0.heap.size W0 w9) := Lib.hid ((HB7.out.trans (HBR.out.mono HB7.out.size)).trans (hb9.mono (Nat.le_trans HB7.out.size HBR.out.size)))
        have HHX := Lib.hid (has_any _ k3 Lb.length A3 Lb x rfl (by have := HLB.out; have := HPL.out; omega) w9 (ownRow (own_later HOBR.out hb9)))
        rw [HNOT.out] at HHX
        clear hq9 cut1 hlb hs2 hs2n hs3 c2 hb9
        go_wp2_with fail
        refine HHX.out.mono ?_
        rintro e10 w10 ⟨rfl, rfl⟩
        go_wp2_with (go_at_call 11; refine (known_any _).mono ?_; rintro e11 w11 ⟨rfl, hb11⟩)
        go_ret
        exact ⟨rfl, HBW.out.trans ((HB9.out.trans (hb11.mono HB9.out.size)).mono HBW.out.size)⟩
end Go.Proofs.Ythnfinnlnkjomaa
