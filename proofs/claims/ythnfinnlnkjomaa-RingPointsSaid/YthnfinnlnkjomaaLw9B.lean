/- Of any ring all points, and who keeps each. -/
import Derived.Test.YthnfinnlnkjomaaLw9
import Derived.Test.YthnfinnlnkjomaaRfB
import Derived.Test.YthnfinnlnkjomaaRfC
import Derived.Test.YthnfinnlnkjomaaRfF
namespace Go.Proofs.Ythnfinnlnkjomaa
open Go.RowKit Mem Rg
set_option maxRecDepth 100000
set_option maxHeartbeats 16000000
set_option linter.unusedVariables false
theorem points_walk (A : Option Addr) (n c : Nat) (ns : List Int) (e k : Int) (hn : n = ns.length) (hl : n ≤ maxLen) (w : World) (h : Row w w.heap.size A (ns.map iV)) :
    Calls Try.prog 4 #[.agg #[.slice A n c, .int .i64 e, .int .i64 k]] w (IsTr w) := by
  have hbw : Below w.heap.size w (w.alloc (.cells #[.slice A n c, .int .i64 e, .int .i64 k] 24)) := (Below.refl _ _).alloc (Nat.le_refl _) _
  have hkk : Blk (w.alloc (.cells #[.slice A n c, .int .i64 e, .int .i64 k] 24)) w.heap.size 24 #[.slice A n c, .int .i64 e, .int .i64 k] := Blk.new _ _ _
  obtain ⟨W0, hW0⟩ : ∃ W0, w.alloc (.cells #[.slice A n c, .int .i64 e, .int .i64 k] 24) = W0 := ⟨_, rfl⟩
  have HW0 := Lib.hid hW0
  rw [hW0] at hbw hkk
  have HBW := Lib.hid hbw
  have HKK := Lib.hid hkk
  have hrow : ∀ W, Below W0.heap.size W0 W → Row W W.heap.size A (ns.map iV) := fun W hb => (h.below (hbw.trans (hb.mono hbw.size))).more (Nat.le_trans hbw.size hb.size)
  have HROW := Lib.hid hrow
  have HN := Lib.hid hn
  clear h hn hW0 hbw hkk hrow
  obtain ⟨zz, hzz⟩ : ∃ z, IntKind.i64.wrap ((n : Int) * e) = z := ⟨_, rfl⟩
  have HB0 := Lib.hid (Below.refl W0.heap.size W0)
  have c0 : W0.cell? ⟨w.heap.size, 0, none⟩ = some (.slice A n c) := (HKK.out).cell 0
  have c1 : W0.cell? ⟨w.heap.size, 1, none⟩ = some (.int .i64 e) := (HKK.out).cell 1
  have c2 : W0.cell? ⟨w.heap.size, 2, none⟩ = some (.int .i64 k) := (HKK.out).cell 2
  go_enter Try.func4, Try.ntmps4
  go_wp2_with fail
  rw [HW0.out]
  refine (long_any A n c e k W0).mono ?_
  rintro e1 w1 ⟨b, rfl, hb12, hb1⟩
  have HB1 := Lib.hid hb1
  have HB12 := Lib.hid hb12
  clear c0 c1 c2 hb1 hb12

  have c0 : w1.cell? ⟨w.heap.size, 0, none⟩ = some (.slice A n c) := (HKK.out.below HB1.out HKK.out.lt).cell 0
  have c1 : w1.cell? ⟨w.heap.size, 1, none⟩ = some (.int .i64 e) := (HKK.out.below HB1.out HKK.out.lt).cell 1
  have c2 : w1.cell? ⟨w.heap.size, 2, none⟩ = some (.int .i64 k) := (HKK.out.below HB1.out HKK.out.lt).cell 2
  rcases b with _ | _
  rotate_left
  · skip
    go_wp2_with (go_at_call 11; refine (known_any _).mono ?_; rintro e2 w2 ⟨rfl, hb2⟩)
    go_ret
    exact ⟨rfl, HBW.out.trans ((HB1.out.trans (hb2.mono HB1.out.size)).mono HBW.out.size)⟩
  have HN12 := Lib.hid (HB12.out rfl)
  by_cases hz30 : (30 : Int) < zz
  · skip
    go_wp2_with (go_at_call 11; refine (known_any _).mono ?_; rintro e2 w2 ⟨rfl, hb2⟩)
    go_ret
    exact ⟨rfl, HBW.out.trans ((HB1.out.trans (hb2.mono HB1.out.size)).mono HBW.out.size)⟩
  have HZZ := Lib.hid hzz
  by_cases ok : OkR ns e k
  · skip
    obtain ⟨en, rfl⟩ : ∃ en : Nat, e = (en : Int) := ⟨e.toNat, by have := ok.2.2.1; omega⟩
    obtain ⟨kn, rfl⟩ : ∃ kn : Nat, k = (kn : Int) := ⟨k.toNat, by have := ok.2.2.2.2.1; omega⟩
    have HOK := Lib.hid ok
    have HPL := Lib.hid (pts_len_ok ok)
    clear ok
    skip
    go_wp2_with fail
    refine (points_ok A n c ns en kn HN.out HOK.out _ (HROW.out _ HB1.out)).mono ?_
    rintro e2 w2 ⟨A2, k2, rfl, hra, hb2⟩
    have HB2 := Lib.hid (HB1.out.trans (hb2.mono HB1.out.size))
    have HRA := Lib.hid hra
    clear c0 c1 c2 hb2 hra
    have c0 : w2.cell? ⟨w.heap.size, 0, none⟩ = some (.slice A n c) := (HKK.out.below HB2.out HKK.out.lt).cell 0
    have c1 : w2.cell? ⟨w.heap.size, 1, none⟩ = some (.int .i64 (en : Int)) := (HKK.out.below HB2.out HKK.out.lt).cell 1
    have c2 : w2.cell? ⟨w.heap.size, 2, none⟩ = some (.int .i64 (kn : Int)) := (HKK.out.below HB2.out HKK.out.lt).cell 2
    clear hzz
    go_wp2_with fail
    refine (ringlists_ok A n c ns en kn HN.out HOK.out _ (HROW.out _ HB2.out)).mono ?_
    rintro e3 w3 ⟨A3, k3, rs3, rfl, hrs3, hrb, hri, hb3⟩
    have HB3 := Lib.hid (HB2.out.trans (hb3.mono HB2.out.size))
    replace HRA := Lib.hid ((HRA.out.below hb3).more hb3.size)
    have HRB := Lib.hid hrb
    have HRI := Lib.hid hri
    clear c0 c1 c2 hb3 hrb hri
    have c0 : w3.cell? ⟨w.heap.size, 0, none⟩ = some (.slice A n c) := (HKK.out.below HB3.out HKK.out.lt).cell 0
    have c1 : w3.cell? ⟨w.heap.size, 1, none⟩ = some (.int .i64 (en : Int)) := (HKK.out.below HB3.out HKK.out.lt).cell 1
    have c2 : w3.cell? ⟨w.heap.size, 2, none⟩ = some (.int .i64 (kn : Int)) := (HKK.out.below HB3.out HKK.out.lt).cell 2
    have HRS3 := Lib.hid hrs3
    clear hrs3
    go_wp2_with fail
    refine (refcheck_any A n c ns en kn HN.out hl _ (HROW.out _ HB3.out)).mono ?_
    rintro e4 w4 ⟨⟨q, rfl, hq, _⟩, hb4⟩
    have HB4 := Lib.hid (HB3.out.trans (hb4.mono HB3.out.size))
    replace HRA := Lib.hid ((HRA.out.below hb4).more hb4.size)
    replace HRB := Lib.hid ((HRB.out.below hb4).more hb4.size)
    replace HRI := Lib.hid (rowsI_below HRI.out hb4)
    clear c0 c1 c2 hb4
    have c0 : w4.cell? ⟨w.heap.size, 0, none⟩ = some (.slice A n c) := (HKK.out.below HB4.out HKK.out.lt).cell 0
    have c1 : w4.cell? ⟨w.heap.size, 1, none⟩ = some (.int .i64 (en : Int)) := (HKK.out.below HB4.out HKK.out.lt).cell 1
    have c2 : w4.cell? ⟨w.heap.size, 2, none⟩ = some (.int .i64 (kn : Int)) := (HKK.out.below HB4.out HKK.out.lt).cell 2
    obtain rfl : q = 0 := hq HOK.out
    clear hq
    go_wp2_with fail
    refine (refpoints_ok A n c ns en kn HN.out HOK.out _ (HROW.out _ HB4.out)).mono ?_
    rintro e5 w5 ⟨A5, k5, rfl, hrc, hb5⟩
    have HB5 := Lib.hid (HB4.out.trans (hb5.mono HB4.out.size))
    replace HRA := Lib.hid ((HRA.out.below hb5).more hb5.size)
    replace HRB := Lib.hid ((HRB.out.below hb5).more hb5.size)
    replace HRI := Lib.hid (rowsI_below HRI.out hb5)
    have HRC := Lib.hid hrc
    clear c0 c1 c2 hb5 hrc
    have c0 : w5.cell? ⟨w.heap.size, 0, none⟩ = some (.slice A n c) := (HKK.out.below HB5.out HKK.out.lt).cell 0
    have c1 : w5.cell? ⟨w.heap.size, 1, none⟩ = some (.int .i64 (en : Int)) := (HKK.out.below HB5.out HKK.out.lt).cell 1
    have c2 : w5.cell? ⟨w.heap.size, 2, none⟩ = some (.int .i64 (kn : Int)) := (HKK.out.below HB5.out HKK.out.lt).cell 2
    have hLz : ((ptsP fP ns en).length : Int) ≤ 4096 := by have := HPL.out.1; omega
    have hneq : (((ptsP fP ns en).length : Int) != ((ptsP fP ns en).length : Int)) = false := by simp
    have HLP := Lib.hid HPL.out.2.1
    have HFL := Lib.hid fun W hb => reflists_ok A n c ns en kn HN.out HOK.out W (HROW.out W hb)
    have HLL : Hid ((listsP (ptsP fP ns en) kn).length = (ptsP fP ns en).length ∧ ∀ r ∈ rs3, r.2.1.length ≤ 1000000) := Lib.hid ⟨by unfold listsP; rw [List.length_map], fun r hr => by
      have hm : r.2.1 ∈ listsP (ptsP fP ns en) kn := by rw [← HRS3.out]; exact List.mem_map.2 ⟨r, hr, rfl⟩
      obtain ⟨p, _, hp⟩ := List.mem_map.1 hm
      rw [← hp, keepP_len fP ns HPL.out.2.2.1 en HPL.out.2.2.2.2.2.2 p.1 kn HPL.out.2.2.2.2.2.1]
      have := HPL.out
      omega⟩
    clear c0 c1 c2
    generalize ptsP fP ns en = l at *
    go_wp2
    go_loopw [9] (fun i wr => ∃ t : Nat, t ≤ l.length ∧ i = .int .i64 t ∧ Hid (Below w5.heap.size w5 wr)) (fun i _ => l.length - (intOf i).toNat)
    case atStart => exact ⟨0, by omega, rfl, Lib.hid (Below.refl _ _)⟩
    case round =>
      obtain ⟨t, ht, rfl, HBR⟩ := hrel
      by_cases htl : t < l.length
      · obtain ⟨b4, o4, rfl, _, hc4⟩ := pts_open ((HRA.out.below HBR.out).more HBR.out.size) (by omega)
        obtain ⟨b5, o5, rfl, _, hc5⟩ := pts_open ((HRC.out.below HBR.out).more HBR.out.size) (by omega)
        obtain ⟨a0, a1⟩ := hc4 t htl
        obtain ⟨d0, d1⟩ := hc5 t htl
        obtain ⟨⟨y0, y1⟩, hy⟩ : ∃ y, l[t] = y := ⟨_, rfl⟩
        rw [hy] at a0 a1 d0 d1
        simp only at a0 a1 d0 d1
        have ht0 : (0 : Int) ≤ (t : Int) := by omega
        have ht1 : (t : Int) < (l.length : Int) := by omega
        have e0 : ((y0 : Int) == (y0 : Int)) = true := by simp
        have e1 : (y1 == y1) = true := by simp
        clear hc4 hc5 hy
        go_wp2
        go_quiet (fail)
        go_wp2
        go_roundw
        case rel => exact ⟨t + 1, by omega, by go_num, Lib.hid (HBR.out.trans (below_drew' _ _ _))⟩
        case measure => simp [intOf]; omega
      · have ht1 : ¬ (t : Int) < (l.length : Int) := by omega
        have HBX := Lib.hid (HB5.out.trans (HBR.out.mono HB5.out.size))
        have HRBX := Lib.hid ((HRB.out.below HBR.out).more HBR.out.size)
        have HRIX := Lib.hid (rowsI_below HRI.out HBR.out)
        have HKX := Lib.hid (HKK.out.below HBX.out HKK.out.lt)
        have c0 : wr.cell? ⟨w.heap.size, 0, none⟩ = some (.slice A n c) := HKX.out.cell 0
        have c1 : wr.cell? ⟨w.heap.size, 1, none⟩ = some (.int .i64 (en : Int)) := HKX.out.cell 1
        have c2 : wr.cell? ⟨w.heap.size, 2, none⟩ = some (.int .i64 (kn : Int)) := HKX.out.cell 2
        go_wp2_with fail
        refine (HFL.out _ HBX.out).mono ?_
        rintro e6 w6 ⟨A6, k6, rs6, rfl, hrs6, hr6, hri6, hb6⟩
        have HB6 := Lib.hid (HBX.out.trans (hb6.mono HBX.out.size))
        have HSL := Lib.hid (refsamelists_any A3 A6 k3 k6 (listsP l kn).length (listsP l kn).length rs3 rs6 (by rw [HRS3.out, hrs6]) (by rw [← HRS3.out, List.length_map]) (by rw [← hrs6, List.length_map]) (by have := HLL.out.1; omega) HLL.out.2 w6 ((HRBX.out.below hb6).more hb6.size) hr6 (fun r hr => rowsI_row (rowsI_below HRIX.out hb6) r hr) (fun r hr => rowsI_row hri6 r hr))
        clear hr6 hri6 hb6 hrs6 c0 c1 c2
        go_wp2_with fail
        refine HSL.out.mono ?_
        rintro e7 w7 ⟨rfl, q7, hq7⟩
        have HB7 : Hid (Below W0.heap.size W0 w7) := Lib.hid (by rw [hq7]; exact HB6.out.trans (below_drew' _ _ _))
        clear hq7
        go_wp2_with (go_at_call 11; refine (known_any _).mono ?_; rintro e8 w8 ⟨rfl, hb8⟩)
        go_ret
        exact ⟨rfl, HBW.out.trans ((HB7.out.trans (hb8.mono HB7.out.size)).mono HBW.out.size)⟩
  · skip
    have HOK := Lib.hid ok
    clear ok
    go_wp2_with fail
    refine (points_bad A n c ns e k HN.out hl HOK.out _ (HROW.out _ HB1.out)).mono ?_
    rintro e2 w2 ⟨rfl, hb2⟩
    have HB2 := Lib.hid (HB1.out.trans (hb2.mono HB1.out.size))
    clear c0 c1 c2 hb2
    have c0 : w2.cell? ⟨w.heap.size, 0, none⟩ = some (.slice A n c) := (HKK.out.below HB2.out HKK.out.lt).cell 0
    have c1 : w2.cell? ⟨w.heap.size, 1, none⟩ = some (.int .i64 e) := (HKK.out.below HB2.out HKK.out.lt).cell 1
    have c2 : w2.cell? ⟨w.heap.size, 2, none⟩ = some (.int .i64 k) := (HKK.out.below HB2.out HKK.out.lt).cell 2
    clear hzz
    go_wp2_with fail
    refine (ringlists_bad A n c ns e k HN.out hl HOK.out _ (HROW.out _ HB2.out)).mono ?_
    rintro e3 w3 ⟨rfl, hb3⟩
    have HB3 := Lib.hid (HB2.out.trans (hb3.mono HB2.out.size))
    clear c0 c1 c2 hb3
    have c0 : w3.cell? ⟨w.heap.size, 0, none⟩ = some (.slice A n c) := (HKK.out.below HB3.out HKK.out.lt).cell 0
    have c1 : w3.cell? ⟨w.heap.size, 1, none⟩ = some (.int .i64 e) := (HKK.out.below HB3.out HKK.out.lt).cell 1
    have c2 : w3.cell? ⟨w.heap.size, 2, none⟩ = some (.int .i64 k) := (HKK.out.below HB3.out HKK.out.lt).cell 2
    go_wp2_with fail
    refine (refcheck_any A n c ns e k HN.out hl _ (HROW.out _ HB3.out)).mono ?_
    rintro e4 w4 ⟨⟨q, rfl, _, hq⟩, hb4⟩
    have HB4 := Lib.hid (HB3.out.trans (hb4.mono HB3.out.size))
    clear c0 c1 c2 hb4
    have c0 : w4.cell? ⟨w.heap.size, 0, none⟩ = some (.slice A n c) := (HKK.out.below HB4.out HKK.out.lt).cell 0
    have c1 : w4.cell? ⟨w.heap.size, 1, none⟩ = some (.int .i64 e) := (HKK.out.below HB4.out HKK.out.lt).cell 1
    have c2 : w4.cell? ⟨w.heap.size, 2, none⟩ = some (.int .i64 k) := (HKK.out.below HB4.out HKK.out.lt).cell 2
    obtain rfl : q = 2 := hq HOK.out
    clear hq
    go_wp2_with (go_at_call 11; refine (known_any _).mono ?_; rintro e5 w5 ⟨rfl, hb5⟩)
    go_ret
    exact ⟨rfl, HBW.out.trans ((HB4.out.trans (hb5.mono HB4.out.size)).mono HBW.out.size)⟩
end Go.Proofs.Ythnfinnlnkjomaa
