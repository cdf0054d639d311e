/- BoF: BeatOrders returns true, whatever the arguments; what was there is left as it was. -/
import Derived.Test.YtkfapcigfgfeaaaBoE
import Derived.Test.YtkfapcigfgfeaaaSames
namespace Go.Proofs.Ytkfapcigfgfeaaa
open Go.RowKit Flo Mem
set_option maxRecDepth 100000
set_option maxHeartbeats 2000000
set_option linter.unusedVariables false
theorem iN_row (l : List Nat) : l.map iN = (l.map (fun x : Nat => (x : Int))).map iV := by
  rw [List.map_map]; rfl
theorem not_gt15 {s t : Int} (hs0 : 0 ≤ s) (hs1 : s ≤ 9218868437227405312) (ht0 : 0 ≤ t) (ht1 : t ≤ 9218868437227405312) (h : ¬ cmpZ s t < 0) : (FloatKind.f64.format.order (fnat t) (fnat s) == some .gt) = false := by
  have ps := plain_word hs0 hs1
  have pt := plain_word ht0 ht1
  rw [gt_num pt.1 ps.1 pt.2.1 ps.2.1, ps.2.2, pt.2.2]
  refine decide_eq_false (fun hlt => h ?_)
  rw [cmpZ_lt, can_plain hs0 hs1, can_plain ht0 ht1]
  have k1 : keyZ s = s + 9223372036854775808 := by unfold keyZ; rw [if_neg (by omega)]
  have k2 : keyZ t = t + 9223372036854775808 := by unfold keyZ; rw [if_neg (by omega)]
  rw [k1, k2]; omega
theorem orders_walk (now : Int) (rs : List BtV) (A : Option Addr) (n c : Nat) (hn : n = rs.length) (w : World) (h : Row w w.heap.size A (btsC rs)) (hbt : Bts_ w rs) :
    Calls Try.prog 5 #[.int .i64 now, .slice A n c] w (Ret (.bool true) w) := by
  by_cases h20 : 20 < n
  · have h20' : (20 : Int) < (n : Int) := by omega
    clear h hbt
    go_enter Try.func5, Try.ntmps5
    go_wp2_with (go_at_call 9; refine (known15_any _).mono ?_; rintro e w' ⟨rfl, hb⟩)
    go_ret
    exact ⟨rfl, hb⟩
  have h20' : (n : Int) ≤ 20 := by omega
  have hn20 : n ≤ 20 := by omega
  have HR := Lib.hid h
  have HBT := Lib.hid hbt
  have HN := Lib.hid hn
  have HSW := Lib.hid (fun y => scF_word (rs := rs) (now := now) (fun r hr => (hbt r hr).2.2) y)
  obtain ⟨sc, hsc⟩ : ∃ sc, scF rs now = sc := ⟨_, rfl⟩
  rw [hsc] at HSW
  have HSC := Lib.hid hsc
  clear h hbt hn h20 hsc
  go_enter Try.func5, Try.ntmps5
  go_wp2
  go_loopw [5] (fun iv wr => ∃ k : Nat, k ≤ n ∧ iv = .int .i64 (k : Int) ∧ Hid (∀ y (hy : y < rs.length), y < k → rs[y].2.2.1.length ≤ 30) ∧ Hid (Below w.heap.size w wr)) (fun iv _ => n - (intOf iv).toNat)
  case atStart => exact ⟨0, by omega, rfl, Lib.hid (fun y _ hy => by omega), Lib.hid (Below.refl _ _)⟩
  case round =>
    obtain ⟨k, hk, rfl, H3, HB⟩ := hrel
    have hk0 : (0 : Int) ≤ (k : Int) := by omega
    by_cases hlt : k < n
    · have hlt2 : (k : Int) < (n : Int) := by omega
      have hkr : k < rs.length := by rw [← HN.out]; exact hlt
      obtain ⟨b, o, rfl, hbl, hc⟩ := bts_open (HR.out.below HB.out) (by omega)
      obtain ⟨e0, e1⟩ := hc k hkr
      obtain ⟨r, hr⟩ : ∃ r, rs[k] = r := ⟨_, rfl⟩
      have HRK := Lib.hid hr
      rw [hr] at e0 e1
      obtain ⟨L, Ax, xs, cx⟩ := r
      simp only at e0 e1
      clear hc hr
      by_cases h30 : 30 < xs.length
      · have h30' : (30 : Int) < (xs.length : Int) := by omega
        go_wp2_with (go_at_call 9; refine (known15_any _).mono ?_; rintro e w' ⟨rfl, hbk⟩)
        go_ret
        exact ⟨rfl, HB.out.trans (hbk.mono HB.out.size)⟩
      · have h30' : (xs.length : Int) ≤ 30 := by omega
        have H3' : Hid (∀ y (hy : y < rs.length), y < k + 1 → rs[y].2.2.1.length ≤ 30) := Lib.hid (fun y hy hyk => by
          rcases Nat.lt_or_ge y k with hh | hh
          · exact H3.out y hy hh
          · obtain rfl : y = k := by omega
            rw [HRK.out]; show xs.length ≤ 30; omega)
        clear h30
        go_wp2
        go_roundw
        case rel => exact ⟨k + 1, by omega, by go_num, H3', HB⟩
        case measure => simp [intOf]; omega
    · obtain rfl : k = n := by omega
      have H30 : Hid (∀ r ∈ rs, r.2.2.1.length ≤ 30) := Lib.hid (fun r hr => by
        obtain ⟨y, hy, rfl⟩ := List.mem_iff_getElem.1 hr
        exact H3.out y hy (by have := HN.out; omega))
      have HO1 : Hid (∀ W, Row W W.heap.size A (btsC rs) → Bts_ W rs → Calls Try.prog 27 #[.int .i64 now, .slice A k c] W (OrdP rs now W)) := Lib.hid (fun W h1 h2 => order_any15 now rs A k c HN.out (by have := HN.out; omega) H30.out W h1 h2)
      have HO2 : Hid (∀ W, Row W W.heap.size A (btsC rs) → Bts_ W rs → Calls Try.prog 28 #[.int .i64 now, .slice A k c] W (OrdP rs now W)) := Lib.hid (fun W h1 h2 => reforder_any15 now rs A k c HN.out (by have := HN.out; omega) H30.out W h1 h2)
      have HRA := Lib.hid ((HR.out.below HB.out).more HB.out.size)
      have HBA := Lib.hid (bts_below HBT.out HB.out)
      clear hlt
      go_wp2_with fail
      refine (HO1.out _ HRA.out HBA.out).mono ?_
      rintro e1 w1 (⟨hok, A1, c1, rfl, hr1, hcc1, hb1⟩ | ⟨hno, rfl, hb1⟩)
      · have HOK := Lib.hid hok
        have HB1 := Lib.hid (HB.out.trans (hb1.mono HB.out.size))
        replace HRA := Lib.hid ((HRA.out.below hb1).more hb1.size)
        replace HBA := Lib.hid (bts_below HBA.out hb1)
        have HQ1 : Hid (Row w1 w1.heap.size A1 ((ordS sc k).map iN)) := Lib.hid (by have h := hr1; rw [HSC.out, ← HN.out] at h; exact h)
        have hln := HN.out
        rw [← hln]
        clear hok hr1 hb1 hcc1 hln
        go_wp2_with fail
        refine (HO2.out _ HRA.out HBA.out).mono ?_
        rintro e2 w2 (⟨_, A2, c2, rfl, hr2, hcc2, hb2⟩ | ⟨hno, _, _⟩)
        rotate_left
        · exact absurd HOK.out hno
        have HB2 := Lib.hid (HB1.out.trans (hb2.mono HB1.out.size))
        replace HRA := Lib.hid ((HRA.out.below hb2).more hb2.size)
        replace HBA := Lib.hid (bts_below HBA.out hb2)
        replace HQ1 := Lib.hid ((HQ1.out.below hb2).more hb2.size)
        have HQ2 : Hid (Row w2 w2.heap.size A2 ((ordS sc k).map iN)) := Lib.hid (by have h := hr2; rw [HSC.out, ← HN.out] at h; exact h)
        have hln := HN.out
        rw [← hln]
        clear hr2 hb2 hcc2 hln
        have HSI : Hid (Calls Try.prog 29 #[.slice A1 k c1, .slice A2 k c2] w2 (Quiet (.bool true) w2)) := Lib.hid (sameints_true _ _ c1 c2 k k A1 A2 ((ordS sc k).map (fun x : Nat => (x : Int))) w2 (by rw [← iN_row]; exact HQ1.out) (by rw [← iN_row]; exact HQ2.out) (by rw [List.length_map, ordS_len]) (by rw [List.length_map, ordS_len]) (by rw [List.length_map, ordS_len]; omega))
        go_wp2_with (go_at_call 29; refine HSI.out.mono ?_; rintro e w3 ⟨rfl, hq3⟩)
        have hb3 : Below w2.heap.size w2 w3 := quiet_below hq3
        have HB3 := Lib.hid (HB2.out.trans (hb3.mono HB2.out.size))
        replace HRA := Lib.hid ((HRA.out.below hb3).more hb3.size)
        replace HBA := Lib.hid (bts_below HBA.out hb3)
        replace HQ1 := Lib.hid ((HQ1.out.below hb3).more hb3.size)
        clear hq3 hb3 HSI
        go_loopw [10] (fun iv wr => ∃ q : Nat, q ≤ 20 ∧ iv = .int .i64 ((q : Int) + 1) ∧ Hid (Below w3.heap.size w3 wr)) (fun iv _ => 22 - (intOf iv).toNat)
        case atStart => exact ⟨0, by omega, rfl, Lib.hid (Below.refl _ _)⟩
        case round =>
          obtain ⟨q, hq, rfl, HBW⟩ := hrel
          have hq0 : (0 : Int) ≤ (q : Int) := by omega
          by_cases hqk : q + 1 < k
          · have hqk2 : (q : Int) + 1 < (k : Int) := by omega
            obtain ⟨l, hl⟩ : ∃ l, ordS sc k = l := ⟨_, rfl⟩
            have hlen : l.length = k := by rw [← hl]; exact ordS_len sc k
            have hds : Desc sc l := by rw [← hl]; exact ord_desc sc k
            have hmem : ∀ x ∈ l, x < k := by rw [← hl]; exact ordS_mem sc k
            obtain ⟨bo, oo, rfl, hbo, hco⟩ := (HQ1.out.below HBW.out).open_ (by rw [List.length_map, hl]; omega)
            obtain ⟨x, hx⟩ : ∃ x, l[q]'(by omega) = x := ⟨_, rfl⟩
            obtain ⟨y, hy⟩ : ∃ y, l[q + 1]'(by omega) = y := ⟨_, rfl⟩
            have hd : ¬ cmpZ (sc x) (sc y) < 0 := by rw [← hx, ← hy]; exact List.pairwise_iff_getElem.1 hds q (q + 1) (by omega) (by omega) (by omega)
            have hxk : x < k := by rw [← hx]; exact hmem _ (List.getElem_mem _)
            have hyk : y < k := by rw [← hy]; exact hmem _ (List.getElem_mem _)
            have d0 : wr.cell? ⟨bo, oo + q, none⟩ = some (.int .i64 (x : Int)) := (hco q (by rw [List.length_map, hl]; omega)).trans (by rw [List.getElem_map]; simp only [hl, hx]; rfl)
            have d1 : wr.cell? ⟨bo, oo + (q + 1), none⟩ = some (.int .i64 (y : Int)) := (hco (q + 1) (by rw [List.length_map, hl]; omega)).trans (by rw [List.getElem_map]; simp only [hl, hy]; rfl)
            obtain ⟨b, o, rfl, hbl, hc⟩ := bts_open (HRA.out.below HBW.out) (by have := HN.out; omega)
            have hxr : x < rs.length := by rw [← HN.out]; exact hxk
            have hyr : y < rs.length := by rw [← HN.out]; exact hyk
            obtain ⟨f0, f1⟩ := hc x hxr
            obtain ⟨g0, g1⟩ := hc y hyr
            have hmx := List.getElem_mem hxr
            have hmy := List.getElem_mem hyr
            obtain ⟨r, hr⟩ : ∃ r, rs[x] = r := ⟨_, rfl⟩
            obtain ⟨s, hs⟩ : ∃ s, rs[y] = s := ⟨_, rfl⟩
            have HSX : Hid (sc x = scV r.1 r.2.2.1 now) := Lib.hid (by rw [← HSC.out]; unfold scF; rw [List.getElem?_eq_getElem hxr, hr])
            have HSY : Hid (sc y = scV s.1 s.2.2.1 now) := Lib.hid (by rw [← HSC.out]; unfold scF; rw [List.getElem?_eq_getElem hyr, hs])
            rw [hr] at f0 f1 hmx
            rw [hs] at g0 g1 hmy
            have HX3 := bts_below HBA.out HBW.out r hmx
            have HY3 := bts_below HBA.out HBW.out s hmy
            have HXL := H30.out r hmx
            have HYL := H30.out s hmy
            obtain ⟨L, Ax, xs, cx⟩ := r
            obtain ⟨M, Ay, ys, cy⟩ := s
            simp only at f0 f1 g0 g1 HSX HSY HX3 HY3 HXL HYL
            have HRX := Lib.hid HX3.1
            have HRY := Lib.hid HY3.1
            have HC1 := Lib.hid (fun W hr => score_all L xs _ cx Ax rfl (by omega) HX3.2.2 now W hr)
            have HC2 := Lib.hid (fun W hr => score_all M ys _ cy Ay rfl (by omega) HY3.2.2 now W hr)
            unfold bC at HC1 HC2
            rw [← HSX.out] at HC1
            rw [← HSY.out] at HC2
            have wx := HSW.out x
            have wy := HSW.out y
            have hgt := not_gt15 wx.1 wx.2 wy.1 wy.2 hd
            have hne : (FloatKind.f64.format.order (fnat (sc y)) (fnat (sc y)) != some .eq) = false := by
              have py := plain_word wy.1 wy.2
              rw [ne_self py.1]; exact decide_eq_false py.2.1
            generalize sc x = zx at *
            generalize sc y = zy at *
            generalize rgtE L xs now = ex at *
            generalize rgtE M ys now = ey at *
            have hx0 : (0 : Int) ≤ (x : Int) := by omega
            have hy0 : (0 : Int) ≤ (y : Int) := by omega
            have hx1 : (x : Int) < (k : Int) := by omega
            have hy1 : (y : Int) < (k : Int) := by omega
            have hq1 : (q : Int) < (k : Int) := by omega
            have HD1 := Lib.hid d1
            have HBO : Hid (bo < wr.heap.size ∧ b < wr.heap.size) := Lib.hid ⟨by have := HBW.out.size; omega, by have := HBW.out.size; omega⟩
            clear hc hco hr hs hmx hmy HX3 HY3 HXL HYL HSX HSY hd hds hmem hlen hl hx hy wx wy hxr hyr
            go_wp2_with fail
            refine (HC1.out _ HRX.out).mono ?_
            rintro e w4 ⟨rfl, hb4⟩
            have HBW4 := Lib.hid (HBW.out.trans (hb4.mono HBW.out.size))
            replace HRY := Lib.hid ((HRY.out.below hb4).more hb4.size)
            have c0 : w4.cell? ⟨bo, oo + (q + 1), none⟩ = some (.int .i64 (y : Int)) := (hb4.cell (by first | exact HBO.out.1 | exact HBO.out.2)).trans HD1.out
            have c1' : w4.cell? ⟨b, o + y * 2, none⟩ = some (.int .i64 M) := (hb4.cell (by first | exact HBO.out.1 | exact HBO.out.2)).trans g0
            have c2' : w4.cell? ⟨b, o + y * 2 + 1, none⟩ = some (.slice Ay ys.length cy) := (hb4.cell (by first | exact HBO.out.1 | exact HBO.out.2)).trans g1
            clear hb4 d0 d1 f0 f1 g0 g1
            go_wp2_with fail
            refine (HC2.out _ HRY.out).mono ?_
            rintro e w5 ⟨rfl, hb5⟩
            have HBW5 := Lib.hid (HBW4.out.trans (hb5.mono HBW4.out.size))
            clear hb5 c0 c1' c2'
            go_wp2
            go_roundw
            case rel => exact ⟨q + 1, by omega, by go_num, HBW5⟩
            case measure => simp [intOf]; omega
          · have hqk2 : (k : Int) ≤ (q : Int) + 1 := by omega
            go_wp2_with (go_at_call 9; refine (known15_any _).mono ?_; rintro e w' ⟨rfl, hbk⟩)
            go_ret
            exact ⟨rfl, (HB3.out.trans (HBW.out.mono HB3.out.size)).trans (hbk.mono (HB3.out.trans (HBW.out.mono HB3.out.size)).size)⟩
      · have HNO := Lib.hid hno
        have HB1 := Lib.hid (HB.out.trans (hb1.mono HB.out.size))
        replace HRA := Lib.hid ((HRA.out.below hb1).more hb1.size)
        replace HBA := Lib.hid (bts_below HBA.out hb1)
        clear hno hb1
        go_wp2_with fail
        refine (HO2.out _ HRA.out HBA.out).mono ?_
        rintro e2 w2 (⟨hok, _⟩ | ⟨_, rfl, hb2⟩)
        · exact absurd hok HNO.out
        have HB2 := Lib.hid (HB1.out.trans (hb2.mono HB1.out.size))
        clear hb2
        have HSI : Hid (Calls Try.prog 29 #[.slice none 0 0, .slice none 0 0] w2 (Quiet (.bool true) w2)) := Lib.hid (sameints_true 0 0 0 0 0 0 none none [] w2 (Or.inl rfl) (Or.inl rfl) rfl rfl (by decide))
        go_wp2_with (go_at_call 29; refine HSI.out.mono ?_; rintro e w3 ⟨rfl, hq3⟩)
        have hb3 : Below w2.heap.size w2 w3 := quiet_below hq3
        have HB3 := Lib.hid (HB2.out.trans (hb3.mono HB2.out.size))
        clear hq3 hb3 HSI
        go_loopw [10] (fun iv wr => iv = .int .i64 1 ∧ Hid (wr = w3)) (fun iv _ => 0)
        case atStart => exact ⟨rfl, Lib.hid rfl⟩
        case round =>
          obtain ⟨rfl, HW⟩ := hrel
          go_wp2_with (go_at_call 9; refine (known15_any _).mono ?_; rintro e w' ⟨rfl, hbk⟩)
          go_ret
          have hw := HW.out
          subst hw
          exact ⟨rfl, HB3.out.trans (hbk.mono HB3.out.size)⟩
end Go.Proofs.Ytkfapcigfgfeaaa
