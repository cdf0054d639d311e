/- The law WalSnaps, walked. -/
import Derived.Test.YtkagfjjocmjeoaaLaw7B
namespace Go.Proofs.Ytkagfjjocmjeoaa
open Go.RowKit Mem Be Word Frm
set_option maxRecDepth 100000
set_option maxHeartbeats 4000000
set_option linter.unusedVariables false
theorem lastIs_one (b : List UInt8) (k : UInt8) (hk : k ≠ 0) (bs : List (List UInt8)) : LastIs ((0, b) :: newR k bs) 1 := by
  refine ⟨by simp, fun j hj h1 => ?_, fun i hi => ⟨by simp; omega, ?_⟩⟩
  · obtain ⟨j', rfl⟩ : ∃ j', j = j' + 1 := ⟨j - 1, by omega⟩
    rw [List.getElem_cons_succ]
    unfold newR
    rw [List.getElem_map]
    exact hk
  · obtain rfl : i = 0 := by omega
    rfl
theorem snap_all (b : List UInt8) (h : b.length ≤ 65536) (k : Nat) : (scanS (allB (([(0, b)] : List Rc).take 1) ++ (allB (([(0, b)] : List Rc).drop 1)).take k)).1 = [(0, b)] := by
  have e : allB (([(0, b)] : List Rc).take 1) ++ (allB (([(0, b)] : List Rc).drop 1)).take k = allB [(0, b)] := by
    show allB [(0, b)] ++ (allB []).take k = _
    simp [allB]
  rw [e, scan_all _ (by intro r hr; simp at hr; subst hr; exact h)]
/-- The bytes of rows, counted. -/
def lenR (ms : List RowV) : Nat := (ms.map fun r => r.2.1.length).sum
theorem lenR_snoc (rs : List RowV) (k : Nat) (h : k < rs.length) : lenR (rs.take (k + 1)) = lenR (rs.take k) + rs[k].2.1.length := by
  unfold lenR; rw [List.take_succ_eq_append_getElem h, List.map_append, List.sum_append]; simp
theorem lenR_each {ms : List RowV} {r : RowV} (h : r ∈ ms) : r.2.1.length ≤ lenR ms := by
  obtain ⟨a, b, rfl⟩ := List.append_of_mem h
  unfold lenR; rw [List.map_append, List.sum_append, List.map_cons, List.sum_cons]; omega
theorem lenR_le (ms : List RowV) (k : Nat) : lenR (ms.take k) ≤ lenR ms := by
  have : lenR ms = lenR (ms.take k) + lenR (ms.drop k) := by unfold lenR; rw [← List.sum_append, ← List.map_append, List.take_append_drop]
  omega
theorem lenR_max (ms : List RowV) (M : Nat) (h : ∀ r ∈ ms, r.2.1.length ≤ M) : lenR ms ≤ ms.length * M := by
  induction ms with
  | nil => exact Nat.zero_le _
  | cons r ms ih =>
    have h1 := ih (fun x hx => h x (by simp [hx]))
    have h2 := h r (by simp)
    unfold lenR at h1 ⊢
    rw [List.map_cons, List.sum_cons, List.length_cons, Nat.add_mul]
    omega
theorem all_newR (k : UInt8) (ms : List RowV) : (allB (newR k (bytesR ms))).length = lenR ms + ms.length * 10 := by
  induction ms with
  | nil => rfl
  | cons r ms ih =>
    have e : newR k (bytesR (r :: ms)) = (k, r.2.1) :: newR k (bytesR ms) := rfl
    rw [e, all_cons, List.length_append, fr_len, ih]
    unfold lenR
    rw [List.map_cons, List.sum_cons, List.length_cons]
    simp only
    omega
theorem snaps7_walk (A AB AM : Option Addr) (rs : List DoG) (bs : List UInt8) (ms : List RowV) (n c nb cb nm cm kept : Nat) (hn : n = rs.length) (hnl : n ≤ 140737488355328) (hrl : ∀ r ∈ rs, r.rows.length ≤ 5864062014805) (hkp : kept ≤ 65535)
    (hnb : nb = bs.length) (hnbm : nb ≤ maxLen) (hnm : nm = ms.length) (hnmm : nm ≤ maxLen) (hml : ∀ r ∈ ms, r.2.1.length ≤ 140737488355328) (w : World) (h : InG w A rs) (hB : Row w w.heap.size AB (bs.map byteV)) (hM : Row w w.heap.size AM (ms.map rowV)) (hMO : ∀ r ∈ ms, RowOk w w.heap.size r) :
    Calls Try.prog 6 #[.slice A n c, .slice AB nb cb, .slice AM nm cm, .int .u16 (kept : Int)] w (IsT true w) := by
  have HLG := Lib.hid (longG_any n c A rs hn (by unfold maxLen; omega) w h)
  have HIN := Lib.hid h
  have HN := Lib.hid hn
  have HNL := Lib.hid hnl
  have HRL := Lib.hid hrl
  have HBR := Lib.hid hB
  have HMR := Lib.hid hM
  have HMO := Lib.hid hMO
  have HML := Lib.hid hml
  have HNB := Lib.hid hnb
  have HNM := Lib.hid hnm
  have hni : (n : Int) ≤ 140737488355328 := by omega
  have hnbi : (nb : Int) ≤ 9223372036854775807 := by unfold maxLen at hnbm; omega
  have hnmi : (nm : Int) ≤ 9223372036854775807 := by unfold maxLen at hnmm; omega
  have hkp0 : (0 : Int) ≤ (kept : Int) := by omega
  have hkp1 : (kept : Int) ≤ 65535 := by omega
  clear h hn hnl hrl hkp hB hM hMO hml hnb hnbm hnm hnmm
  go_enter Try.func6, Try.ntmps6
  go_wp2_with fail
  refine HLG.out.mono ?_
  rintro e w' ⟨⟨lb, rfl⟩, rfl⟩
  clear HLG
  by_cases hbig : 600 < lb ∨ 300 < nb ∨ 10 < nm
  · have fin : ∀ (w1 : World) , True := fun _ => trivial
    by_cases h1 : 600 < lb
    · clear hbig fin
      go_wp2_with fail
      refine (known7_any _).mono ?_
      rintro e w1 ⟨rfl, hb⟩
      have HB := Lib.hid hb
      clear hb
      go_wp2
      go_ret
      exact ⟨rfl, HB.out⟩
    have h1' : lb ≤ 600 := by omega
    by_cases h2 : 300 < nb
    · have h2' : (300 : Int) < (nb : Int) := by omega
      clear hbig fin h1 h2
      go_wp2_with fail
      refine (known7_any _).mono ?_
      rintro e w1 ⟨rfl, hb⟩
      have HB := Lib.hid hb
      clear hb
      go_wp2
      go_ret
      exact ⟨rfl, HB.out⟩
    have h2' : (nb : Int) ≤ 300 := by omega
    have h3' : (10 : Int) < (nm : Int) := by omega
    clear hbig fin h1 h2
    go_wp2_with fail
    refine (known7_any _).mono ?_
    rintro e w1 ⟨rfl, hb⟩
    have HB := Lib.hid hb
    clear hb
    go_wp2
    go_ret
    exact ⟨rfl, HB.out⟩
  have hlb2 : lb ≤ 600 := by omega
  have hnb3 : (nb : Int) ≤ 300 := by omega
  have hnm3 : (nm : Int) ≤ 10 := by omega
  have HNB3 : Hid (nb ≤ 300) := Lib.hid (by omega)
  have HNM3 : Hid (nm ≤ 10) := Lib.hid (by omega)
  clear hbig hnbi hnmi
  go_wp2_with fail
  refine (newlg_any w).mono ?_
  rintro e w1 ⟨g0, F0, rfl, hF, hd, hb⟩
  have HK0 : Hid (Lg1 w w1 F0 g0 [] 0 0) := Lib.hid ⟨hF, hd, hb⟩
  simp only [id]
  clear hF hd hb
  go_wp2_with fail
  go_loopw [9, 10] (fun z i wr => ∃ k : Nat, k ≤ n ∧ i = .int .i64 k ∧ ∃ g, z = .pointer (some ⟨g, 0, none⟩) ∧ Hid (∃ F ls m q, q ≤ k ∧ Lg1 w wr F g ls m q)) (fun _ i _ => n - (intOf i).toNat)
  case atStart => exact ⟨0, by omega, rfl, g0, rfl, Lib.hid ⟨F0, [], 0, 0, by omega, HK0.out⟩⟩
  case round =>
    obtain ⟨k, hk, rfl, g, rfl, HK⟩ := hrel
    obtain ⟨F, ls, m, q, hq, hd⟩ := HK.out
    have HD := Lib.hid hd
    have HQ := Lib.hid hq
    clear HK hd hq HK0
    by_cases hlt : k < n
    · have hk1 : k < rs.length := by rw [← HN.out]; exact hlt
      obtain ⟨b, o, rfl, _, hc⟩ := dosG_open (HIN.out wr HD.out.bel).1 (by omega)
      obtain ⟨d0, d1, d2, d3⟩ := hc k hk1
      have C := doneG_round HIN.out HD.out hk1 (by have := HQ.out; have := HNL.out; omega) HRL.out
      obtain ⟨⟨kd, of_, A1, ys, c1, kp⟩, hy1⟩ : ∃ y, rs[k] = y := ⟨_, rfl⟩
      rw [hy1] at d0 d1 d2 d3 C
      simp only at d0 d1 d2 d3 C
      have HC := Lib.hid C
      have hki : (0 : Int) ≤ (k : Int) := by omega
      have hki2 : (k : Int) < (n : Int) := by omega
      clear hc hy1 C
      go_wp2_with fail
      refine HC.out.mono ?_
      intro e w2 hx
      obtain ⟨g2, F2, q2, rfl, hq2, hl2⟩ := HD.out.done hx
      have HK2 : Hid (∃ F ls m q, q ≤ k + 1 ∧ Lg1 w w2 F g2 ls m q) := Lib.hid ⟨F2, _, _, q2, by have := HQ.out; omega, hl2⟩
      clear hx hq2 hl2 HC d0 d1 d2 d3
      go_wp2
      go_roundw
      case rel => exact ⟨k + 1, by omega, by go_num, g2, rfl, HK2⟩
      case measure => simp [intOf]; omega
    · obtain rfl : k = n := by omega
      have hq1 : q ≤ 4611686018427387904 := by have := HQ.out; have := HNL.out; omega
      clear HQ
      have HSN := Lib.hid (snap7_any F g m q nb cb ls AB bs HNB.out wr HD.out.at_ (RowN.of_low (HBR.out.below HD.out.bel) HD.out.bel.size HD.out.new))
      rw [show snapS ls m bs = ([(0, bs)], 1, 0) from if_neg (by have := HNB.out; have := HNB3.out; omega)] at HSN
      simp only at HSN
      go_wp2_with fail
      refine HSN.out.mono ?_
      rintro e w2 ⟨rfl, F2, hf2, hl2, ht2⟩
      have HD2 := Lib.hid (HD.out.to hf2 hl2 ht2)
      clear hf2 hl2 ht2 HSN HD
      have hc3 := crash7_any F2 g 1 q kept _ w2 HD2.out.at_ _ rfl
      rw [snap_all bs (by have := HNB.out; have := HNB3.out; omega) kept] at hc3
      have HC3 := Lib.hid hc3
      clear hc3
      go_wp2_with fail
      refine HC3.out.mono ?_
      rintro e w3 ⟨g3, F3, rfl, hf3, hl3, hb⟩
      have HL3 : Hid (Lg1 w w3 F3 g3 [(0, bs)] 1 q) := Lib.hid (HD2.out.new_ hf3 hl3 hb)
      have HD3 := Lib.hid (HD2.out.below hb)
      clear hf3 hl3 hb HC3 HD2
      go_wp2_with fail
      refine (lasting7_any F3 g3 _ _ _ w3 HL3.out.at_).mono ?_
      rintro e w' ⟨rfl, rfl⟩
      go_wp2_with fail
      refine (pending7_any F2 g _ _ _ w3 HD3.out.at_).mono ?_
      rintro e w4 ⟨rfl, hb⟩
      have HL4 := Lib.hid (HL3.out.below hb)
      simp only [List.length_cons, List.length_nil]
      clear hb HL3 HD3
      go_wp2_with fail
      refine (last7_any F3 g3 _ _ _ w4 HL4.out.at_).mono ?_
      rintro e w5 ⟨p, A5, c5, us, A6, c6, hp, hus, rfl, ho5, ho6, hrc, hb⟩
      obtain rfl := lastIs_unique hp (lastIs_one bs 3 (by decide) [])
      have hul : us.length = 0 := by have := congrArg List.length hus; rw [List.length_map] at this; exact this
      have hlb : lastB [(0, bs)] 1 = bs := rfl
      rw [hlb] at ho5 ⊢
      rw [hul]
      have HL5 := Lib.hid (HL4.out.below hb)
      have HSA := Lib.hid (same6_true w5.heap.size w.heap.size c5 cb bs.length nb A5 AB bs w5 (Row.of_own ho5) (HBR.out.below HL5.out.bel) rfl HNB.out)
      clear hp hus ho5 ho6 hrc hb hul hlb HL4
      go_wp2_with fail
      refine HSA.out.mono ?_
      rintro e w' ⟨rfl, rfl⟩
      clear HSA
      have HBEL : Hid (Below w.heap.size w w5) := Lib.hid HL5.out.bel
      go_wp2_with fail
      go_loop [18, 19] (fun z i => ∃ j : Nat, j ≤ nm ∧ i = .int .i64 j ∧ z = .int .i64 ((lenR (ms.take j) : Nat) : Int)) (fun _ i => nm - (intOf i).toNat)
      case atStart => exact ⟨0, by omega, rfl, by simp [lenR]⟩
      case round =>
        obtain ⟨j, hj, rfl, rfl⟩ := hrel
        by_cases hlt2 : j < nm
        · have hj1 : j < ms.length := by rw [← HNM.out]; exact hlt2
          obtain ⟨b, o, rfl, _, hc⟩ := (HMR.out.below HBEL.out).open_ (by simp; omega)
          have hcell : w5.cell? ⟨b, o + j, none⟩ = some (rowV ms[j]) := (hc j (by simpa using hj1)).trans (congrArg some (List.getElem_map (f := rowV) (h := by simpa using hj1)))
          have hs := lenR_snoc ms j hj1
          have hyl := HML.out ms[j] (List.getElem_mem hj1)
          have hmx := lenR_max (ms.take j) 140737488355328 (fun r hr => HML.out r (List.mem_of_mem_take hr))
          have hjl : (ms.take j).length ≤ 10 := by rw [List.length_take]; have := HNM3.out; omega
          obtain ⟨⟨A7, y, c7⟩, hy⟩ : ∃ y, ms[j] = y := ⟨_, rfl⟩
          rw [hy] at hcell hs hyl
          unfold rowV at hcell
          simp only at hcell hs hyl
          obtain ⟨z, hz⟩ : ∃ z, lenR (ms.take j) = z := ⟨_, rfl⟩
          rw [hz] at hs hmx ⊢
          have HS := Lib.hid hs
          have hz1 : (z : Int) ≤ 1407374883553280 := by omega
          have hz0 : (0 : Int) ≤ (z : Int) := by omega
          have hyi : (y.length : Int) ≤ 140737488355328 := by omega
          have hji : (0 : Int) ≤ (j : Int) := by omega
          have hji2 : (j : Int) < (nm : Int) := by omega
          clear hc hy hs hyl hmx hjl hz
          go_wp2
          go_round
          case rel => exact ⟨j + 1, by omega, by go_num, by rw [HS.out]; go_num⟩
          case measure => simp [intOf]; omega
        · obtain rfl : j = nm := by omega
          have ht : ms.take j = ms := List.take_of_length_le (by rw [← HNM.out]; omega)
          rw [ht]
          obtain ⟨z, hz⟩ : ∃ z, lenR ms = z := ⟨_, rfl⟩
          rw [hz]
          by_cases hzb : 600 < z
          · have hzi : (600 : Int) < (z : Int) := by omega
            clear hz hzb ht
            go_wp2_with fail
            refine (known7_any _).mono ?_
            rintro e w6 ⟨rfl, hb⟩
            have HB6 := Lib.hid (HL5.out.bel.trans (hb.mono HL5.out.bel.size))
            clear hb
            go_wp2
            go_ret
            exact ⟨rfl, HB6.out⟩
          have hzi : (z : Int) ≤ 600 := by omega
          have hadd : addS [(0, bs)] 3 (bytesR ms) = ((0, bs) :: newR 3 (bytesR ms), 0) := by
            refine add_ok (fun b hb => ?_) ?_
            · obtain ⟨r, hr, rfl⟩ := List.mem_map.1 hb
              have := lenR_each hr
              show r.2.1.length ≤ _
              omega
            · show (allB ((0, bs) :: newR 3 (bytesR ms))).length ≤ _
              rw [all_cons, List.length_append, fr_len, all_newR]
              have h1 := HNB.out; have h2 := HNB3.out; have h3 := HNM.out; have h4 := HNM3.out
              show bs.length + 10 + _ ≤ _
              omega
          have hap := append7_any F3 g3 1 q j cm 3 (by decide) [(0, bs)] AM ms HNM.out (by have := HNM3.out; omega) (fun r hr => by have := HML.out r hr; unfold maxLen; omega) w5 HL5.out.at_ (RowN.of_low (HMR.out.below HL5.out.bel) HL5.out.bel.size HL5.out.new) (fun r hr => RowN.of_low ((HMO.out r hr).1.below HL5.out.bel) HL5.out.bel.size HL5.out.new)
          rw [hadd] at hap
          have HAP := Lib.hid hap
          clear hz hzb ht hadd hap
          go_wp2_with fail
          refine HAP.out.mono ?_
          rintro e w6 ⟨rfl, F6, hf6, hl6, ht6⟩
          have HL6 := Lib.hid (HL5.out.to hf6 hl6 ht6)
          clear hf6 hl6 ht6 HAP HL5 HBEL
          go_wp2_with fail
          refine (last7_any F6 g3 _ _ _ w6 HL6.out.at_).mono ?_
          rintro e w7 ⟨p, A7, c7, us, A8, c8, hp, hus, rfl, ho7, ho8, hrc, hb⟩
          obtain rfl := lastIs_unique hp (lastIs_one bs 3 (by decide) (bytesR ms))
          have hus2 : us.map rcOf = newR 3 (bytesR ms) := hus
          have hul : us.length = j := by have := congrArg List.length hus2; rw [List.length_map] at this; rw [this, HNM.out]; simp [newR, bytesR]
          have hlb : lastB ((0, bs) :: newR 3 (bytesR ms)) 1 = bs := rfl
          rw [hlb] at ho7 ⊢
          have HU := Lib.hid (inRs_of ho8 hrc)
          have HUS := Lib.hid hus2
          have HUL := Lib.hid hul
          have HL7 := Lib.hid (HL6.out.below hb)
          have HSA := Lib.hid (same6_true w7.heap.size w.heap.size c7 cb bs.length nb A7 AB bs w7 (Row.of_own ho7) (HBR.out.below HL7.out.bel) rfl HNB.out)
          rw [hul]
          clear hp hus hus2 ho7 ho8 hrc hb hul hlb HL6
          go_wp2_with fail
          refine HSA.out.mono ?_
          rintro e w' ⟨rfl, rfl⟩
          clear HSA
          go_wp2_with fail
          refine (pending7_any F6 g3 _ _ _ w7 HL7.out.at_).mono ?_
          have hpl : ((((0, bs) :: newR 3 (bytesR ms)).length : Nat) : Int) - ((1 : Nat) : Int) = (j : Int) := by
            have : (newR 3 (bytesR ms)).length = j := by rw [HNM.out]; simp [newR, bytesR]
            rw [List.length_cons, this]; omega
          rw [hpl]
          rintro e w8 ⟨rfl, hb⟩
          have HU8 := Lib.hid (HU.out.later hb)
          have HB8 := Lib.hid (HL7.out.bel.trans (hb.mono HL7.out.bel.size))
          clear hb hpl HU HL7
          go_wp2_with fail
          go_loopw [20] (fun i wr => ∃ t : Nat, t ≤ j ∧ i = .int .i64 t ∧ Hid (Below w8.heap.size w8 wr)) (fun i _ => j - (intOf i).toNat)
          case atStart => exact ⟨0, by omega, rfl, Lib.hid (Below.refl _ _)⟩
          case round =>
            obtain ⟨t, ht, rfl, HBt⟩ := hrel
            by_cases hlt3 : t < j
            · have ht1 : t < ms.length := by rw [← HNM.out]; exact hlt3
              have ht2 : t < us.length := by rw [HUL.out]; exact hlt3
              have HBw := Lib.hid (HB8.out.trans (HBt.out.mono HB8.out.size))
              obtain ⟨b, o, rfl, _, hc⟩ := (HMR.out.below HBw.out).open_ (by simp; omega)
              have hcell : wr.cell? ⟨b, o + t, none⟩ = some (rowV ms[t]) := (hc t (by simpa using ht1)).trans (congrArg some (List.getElem_map (f := rowV) (h := by simpa using ht1)))
              have hmrow := (HMO.out ms[t] (List.getElem_mem ht1)).1.below HBw.out
              obtain ⟨b2, o2, rfl, _, hc2⟩ := recs_open (HU8.out wr HBt.out).1 (by omega)
              obtain ⟨e0, e1⟩ := hc2 t ht2
              have hurow := (HU8.out wr HBt.out).2 us[t] (List.getElem_mem ht2)
              have hrc : rcOf us[t] = (3, ms[t].2.1) := by
                have h1 : (us.map rcOf)[t]? = (newR 3 (bytesR ms))[t]? := by rw [HUS.out]
                rw [List.getElem?_map, List.getElem?_eq_getElem ht2] at h1
                unfold newR bytesR at h1
                rw [List.getElem?_map, List.getElem?_map, List.getElem?_eq_getElem ht1] at h1
                simpa using h1
              obtain ⟨⟨kd, A9, y9, c9⟩, hy9⟩ : ∃ y, us[t] = y := ⟨_, rfl⟩
              obtain ⟨⟨A10, y10, c10⟩, hy10⟩ : ∃ y, ms[t] = y := ⟨_, rfl⟩
              rw [hy9] at e0 e1 hurow hrc
              rw [hy10] at hcell hmrow hrc
              unfold rowV at hcell
              unfold rcOf at hrc
              simp only at e0 e1 hurow hcell hmrow hrc
              obtain ⟨rfl, rfl⟩ : kd = 3 ∧ y9 = y10 := by simpa using hrc
              have e0' : wr.cell? ⟨b2, o2 + t * 2, none⟩ = some (.int .u8 3) := e0
              have l0 := later_cell e0'
              have l1 := later_cell e1
              have l2 := later_cell hcell
              have HSA := Lib.hid fun p : Later wr => same6_true wr.heap.size wr.heap.size c9 c10 y9.length y9.length A9 A10 y9 p.world (hurow.below p.bel) ((hmrow.more (HBw.out.size)).below p.bel) rfl rfl
              have hti : (0 : Int) ≤ (t : Int) := by omega
              have hti2 : (t : Int) < (j : Int) := by omega
              clear hc hc2 hurow hmrow hrc hy9 hy10 e0 e0' e1 hcell
              go_wp2_with fail
              refine wp_region_later (by kernel_rfl) (by kernel_rfl) ?_
              repeat (go_big_quiet_step (first
                | (go_at_call 21; exact later_same (HSA.out _))))
              refine wpQuiet_nil ?_
              intro w' hw'
              obtain ⟨p, rfl⟩ := hw'
              have HB2 := Lib.hid (HBt.out.trans (p.bel.mono HBt.out.size))
              clear l0 l1 l2 HSA
              go_wp2
              go_roundw
              case rel => exact ⟨t + 1, by omega, by go_num, HB2⟩
              case measure => simp [intOf]; omega
            · obtain rfl : t = j := by omega
              go_wp2_with fail
              refine (known7_any _).mono ?_
              rintro e w9 ⟨rfl, hb⟩
              have HB9 := Lib.hid ((HB8.out.trans (HBt.out.mono HB8.out.size)).trans (hb.mono (Nat.le_trans HB8.out.size HBt.out.size)))
              clear hb
              go_wp2
              go_ret
              exact ⟨rfl, HB9.out⟩
end Go.Proofs.Ytkagfjjocmjeoaa
