/- The law DiskParts, walked. -/
import Derived.Test.YtmmhiolmeijemaaLaw6C
import Derived.Test.YtmmhiolmeijemaaOpenL
namespace Go.Proofs.Ytmmhiolmeijemaa
open Go.RowKit Mem
set_option maxRecDepth 100000
set_option maxHeartbeats 4000000
set_option linter.unusedVariables false
open Go.ChangeShapes Go.WideShapes in
theorem count_dos {H : Type} {enc : TypeId × Value → H} {w : World} {base : Nat} {held : Bool} {a : Option Addr} {len cap : Nat} {d : DataW H} {ps : List MemPlace} (h : DataW.Trod enc Try.prog w base (fun _ => true) held 23 (.slice a len cap) d ps) : len ≤ Rows.uptoBulk d := by
  obtain ⟨fuel, hf⟩ := h
  rcases Go.Deep.open_slice Try.underlying23 (by simpa [Value.cells] using hf) with ⟨hcs, _⟩ | ⟨x, l, c, m, n, D, Pl, hcs, _, hl, hm, hmm, hd, hx⟩
  · simp only [List.cons.injEq, and_true] at hcs
    injection hcs with h1 h2 h3
    subst h2
    exact Nat.zero_le _
  · simp only [List.cons.injEq, and_true] at hcs
    injection hcs with h1 h2 h3
    subst h2
    have h3 := congrArg Prod.fst hd
    simp only at h3
    subst h3
    have h4 := Bulk.elems_bulk ((List.range len).map D) ((List.range (m - len)).map fun j => D (len + j))
    have h5 := Bulk.count_bulk ((List.range len).map D)
    simp only [List.length_map, List.length_range] at h5
    omega
theorem cat_sum (rs : List RowV) : (catB rs).length ≤ sumL rs := by
  induction rs with
  | nil => exact Nat.le_refl _
  | cons r rs ih =>
    unfold sumL catB at ih ⊢
    rw [List.flatMap_cons, List.length_append, List.map_cons, List.sum_cons]; omega
/-- Rows that came in: where they lie, in whatever later world. -/
def InL (w : World) (A : Option Addr) (rs : List RowV) : Prop := ∀ W, Below w.heap.size w W → Row W w.heap.size A (rs.map rowV) ∧ ∀ r ∈ rs, Row W w.heap.size r.1 (r.2.1.map byteV)
theorem inL_of {w : World} {A : Option Addr} {rs : List RowV} (h : Row w w.heap.size A (rs.map rowV)) (hr : ∀ r ∈ rs, RowOk w w.heap.size r) : InL w A rs := fun W hb => ⟨h.below hb, fun r hm => (hr r hm).1.below hb⟩
theorem parts_walk (B A : Option Addr) (ls : List RowV) (rs : List DoV) (m d n c : Nat) (hm : m = ls.length) (hn : n = rs.length) (hml : sumL ls ≤ 1048576) (hnl : n ≤ 1048576) (w : World) (hB : InL w B ls) (h : InD w A rs) :
    Calls Try.prog 5 #[.slice B m d, .slice A n c] w (IsT6 true w) := by
  have HLG := Lib.hid (longdo_any n c A rs hn (by unfold maxLen; omega) w h)
  have HIN := Lib.hid h
  have HIL := Lib.hid hB
  have HN := Lib.hid hn
  have HM := Lib.hid hm
  have HNL := Lib.hid hnl
  have HML := Lib.hid hml
  have hni : (n : Int) ≤ 1048576 := by omega
  have hmi : (m : Int) ≤ 1048576 := by have := sumL_len ls; omega
  clear h hB hn hm hnl hml
  go_enter Try.func5, Try.ntmps5
  go_wp2_with fail
  go_loopw [5, 6] (fun z i wr => ∃ k : Nat, k ≤ m ∧ i = .int .i64 k ∧ z = .int .i64 (sumL (ls.take k) : Nat) ∧ w = wr) (fun _ i _ => m - (intOf i).toNat)
  case atStart => exact ⟨0, by omega, rfl, rfl, rfl⟩
  case round =>
    obtain ⟨k, hk, rfl, rfl, rfl⟩ := hrel
    by_cases hlt : k < m
    · have hk1 : k < ls.length := by rw [← HM.out]; exact hlt
      obtain ⟨b, o, rfl, _, hc⟩ := (HIL.out w (Below.refl _ _)).1.open_ (by simp; omega)
      have hcell : w.cell? ⟨b, o + k, none⟩ = some (rowV ls[k]) := (hc k (by simpa using hk1)).trans (congrArg some (List.getElem_map (f := rowV) (h := by simpa using hk1)))
      have hs := sumL_snoc ls k hk1
      have hle := sumL_le ls (k + 1)
      obtain ⟨⟨A1, y1, c1⟩, hy1⟩ : ∃ y, ls[k] = y := ⟨_, rfl⟩
      rw [hy1] at hcell hs
      unfold rowV at hcell
      simp only at hcell hs
      obtain ⟨z, hz⟩ : ∃ z, sumL (ls.take k) = z := ⟨_, rfl⟩
      rw [hz] at hs ⊢
      have HS : Hid (sumL (ls.take (k + 1)) = z + 1 + y1.length) := Lib.hid (by omega)
      have hzl : (z : Int) + 1 + (y1.length : Int) ≤ 1048576 := by have := HML.out; omega
      have hz0 : (0 : Int) ≤ (z : Int) := by omega
      have hki : (0 : Int) ≤ (k : Int) := by omega
      have hki2 : (k : Int) < (m : Int) := by omega
      clear hc hy1 hs hle hz
      go_wp2
      go_roundw
      case rel => exact ⟨k + 1, by omega, by go_num, by rw [HS.out]; go_num, by first | rfl | trivial⟩
      case measure => simp [intOf]; omega
    · obtain rfl : k = m := by omega
      have ht : ls.take k = ls := List.take_of_length_le (by rw [← HM.out]; omega)
      rw [ht]
      obtain ⟨S, hS⟩ : ∃ S, sumL ls = S := ⟨_, rfl⟩
      have hcs := cat_sum ls
      have hls := sumL_len ls
      rw [hS] at hcs hls ⊢
      have hSi : (S : Int) ≤ 1048576 := by have := HML.out; omega
      by_cases h1 : 1000 < S
      · have hg : (1000 : Int) < (S : Int) := by omega
        clear hcs hls hS h1 ht
        go_wp2_with fail
        refine (known6_any _).mono ?_
        rintro e w1 ⟨rfl, hb⟩
        have HB := Lib.hid hb
        clear hb
        go_wp2
        go_ret
        exact ⟨rfl, HB.out⟩
      have hg : (S : Int) ≤ 1000 := by omega
      have HCS : Hid ((catB ls).length ≤ 1000 ∧ ls.length ≤ 1000) := Lib.hid (by omega)
      clear hcs hls hS h1 ht
      go_wp2_with fail
      refine HLG.out.mono ?_
      rintro e w' ⟨⟨lb, rfl⟩, rfl⟩
      clear HLG
      cases lb with
      | true =>
        go_wp2_with fail
        refine (known6_any _).mono ?_
        rintro e w1 ⟨rfl, hb⟩
        have HB := Lib.hid hb
        clear hb
        go_wp2
        go_ret
        exact ⟨rfl, HB.out⟩
      | false =>
      go_wp2_with fail
      refine (newdk_any w).mono ?_
      rintro e w1 ⟨g, F0, rfl, hF, hd, hb⟩
      have HD0 : Hid (Dk1 w w1 F0 g [] [] 0) := Lib.hid ⟨hF, hd, hb⟩
      simp only [id]
      clear hF hd hb
      have HAP := Lib.hid (append_any F0 g 0 k d [] [] B ls HM.out (by have := HM.out; have := HCS.out; unfold maxLen; omega) w1 HD0.out.at_ (RowN.of_low (HIL.out w1 HD0.out.bel).1 HD0.out.bel.size HD0.out.new) (fun r hr => RowN.of_low ((HIL.out w1 HD0.out.bel).2 r hr) HD0.out.bel.size HD0.out.new) (by have := HCS.out; simp; omega))
      go_wp2_with fail
      refine HAP.out.mono ?_
      rintro e w2 ⟨rfl, F, hf, hd, ht⟩
      have HD : Hid (Dk1 w w2 F g [] (catB ls) 0) := Lib.hid (HD0.out.to hf hd ht)
      clear hf hd ht HAP HD0
      go_wp2_with fail
      refine (newdk_any w2).mono ?_
      rintro e w3 ⟨o, Fo0, rfl, hF, hd, hb⟩
      have HO0 : Hid (Dk1 w w3 Fo0 o [] [] 0 ∧ NoMeet Fo0 F) := Lib.hid ⟨⟨fun j hj => Nat.le_trans HD.out.bel.size (hF j hj), hd, HD.out.bel.trans (hb.mono HD.out.bel.size)⟩, meet_new HD.out.at_.lt hF⟩
      have HD := Lib.hid (HD.out.below hb)
      simp only [id]
      clear hF hd hb
      go_wp2_with fail
      go_loopw [10] (fun i wr => ∃ j : Nat, j ≤ k ∧ i = .int .i64 j ∧ Hid (∃ Fo, Dk1 w wr F g [] (catB ls) 0 ∧ Dk1 w wr Fo o [] (catB (ls.take j)) 0 ∧ NoMeet Fo F)) (fun i _ => k - (intOf i).toNat)
      case atStart => exact ⟨0, by omega, rfl, Lib.hid ⟨Fo0, HD.out, HO0.out.1, HO0.out.2⟩⟩
      case round =>
        clear HD HO0
        obtain ⟨j, hj, rfl, HK⟩ := hrel
        obtain ⟨Fo, hkd, hko, hkm⟩ := HK.out
        have HD := Lib.hid hkd
        have HO := Lib.hid hko
        have HMT := Lib.hid hkm
        clear HK hkd hko hkm
        by_cases hlt : j < k
        · have hk1 : j < ls.length := by rw [← HM.out]; exact hlt
          obtain ⟨b, ob, rfl, _, hc⟩ := (HIL.out wr HD.out.bel).1.open_ (by simp; omega)
          have hcell : wr.cell? ⟨b, ob + j, none⟩ = some (rowV ls[j]) := (hc j (by simpa using hk1)).trans (congrArg some (List.getElem_map (f := rowV) (h := by simpa using hk1)))
          have hrow := (HIL.out wr HD.out.bel).2 ls[j] (List.getElem_mem hk1)
          have hs := catB_snoc ls j hk1
          have hle := catB_le ls (j + 1)
          obtain ⟨⟨A1, y1, c1⟩, hy1⟩ : ∃ y, ls[j] = y := ⟨_, rfl⟩
          rw [hy1] at hcell hs hrow
          unfold rowV at hcell
          simp only at hcell hs hrow
          rw [hs, List.length_append] at hle
          have hA := append_one wr.heap.size Fo o 0 [] (catB (ls.take j)) A1 y1 c1 wr rfl HO.out.at_ (RowN.of_low hrow HO.out.bel.size HO.out.new) (by have := HCS.out; unfold maxLen; omega)
          rw [if_neg (by have := HCS.out; simp; omega), ← hs] at hA
          have HA := Lib.hid hA
          have hki : (0 : Int) ≤ (j : Int) := by omega
          have hki2 : (j : Int) < (k : Int) := by omega
          clear hc hy1 hs hle hrow hA
          go_wp2_with fail
          refine HA.out.mono ?_
          rintro e w4 ⟨rfl, Fo2, hf, hd, ht⟩
          have HK2 : Hid (∃ Fo, Dk1 w w4 F g [] (catB ls) 0 ∧ Dk1 w w4 Fo o [] (catB (ls.take (j + 1))) 0 ∧ NoMeet Fo F) := Lib.hid ⟨Fo2, HD.out.far HMT.out ht HO.out, HO.out.to hf hd ht, meet_step HMT.out HD.out.at_.lt hf⟩
          simp only
          clear hf hd ht HA
          go_wp2
          go_roundw
          case rel => exact ⟨j + 1, by omega, by go_num, HK2⟩
          case measure => simp [intOf]; omega
        · obtain rfl : j = k := by omega
          have ht : ls.take j = ls := List.take_of_length_le (by rw [← HM.out]; omega)
          rw [ht] at HO
          obtain ⟨X, hX⟩ : ∃ X, catB ls = X := ⟨_, rfl⟩
          have HXL : Hid (X.length ≤ 1000) := Lib.hid (by rw [← hX]; exact HCS.out.1)
          rw [hX] at HO HD
          clear ht hX
          go_wp2_with fail
          refine (copy_any F g 0 [] X wr HD.out.at_).mono ?_
          rintro e w4 ⟨cc, Fc0, rfl, hf, hd, hb⟩
          have HC0 := Lib.hid (HD.out.copy hf hd hb)
          have HM1 := Lib.hid (meet_new HD.out.at_.lt hf)
          have HM2 := Lib.hid (meet_new HO.out.at_.lt hf)
          have HD := Lib.hid (HD.out.below hb)
          have HO := Lib.hid (HO.out.below hb)
          simp only [id]
          clear hf hd hb
          go_wp2_with fail
          have hb1 := bytes_any Fc0 cc 0 [] X w4 HC0.out.at_
          rw [List.nil_append] at hb1
          refine hb1.mono ?_
          rintro e w5 ⟨A5, c5, rfl, ho, hb⟩
          have HR5 := Lib.hid (Row.of_own ho)
          have HC0 := Lib.hid (HC0.out.below hb)
          have HD := Lib.hid (HD.out.below hb)
          have HO := Lib.hid (HO.out.below hb)
          clear ho hb hb1
          go_wp2_with fail
          have hb1 := bytes_any F g 0 [] X w5 HD.out.at_
          rw [List.nil_append] at hb1
          refine hb1.mono ?_
          rintro e w6 ⟨A6, c6, rfl, ho, hb⟩
          have HS := Lib.hid (same6_true w6.heap.size w6.heap.size c5 c6 X.length X.length A5 A6 X w6 ((HR5.out.below hb).more hb.size) (Row.of_own ho) rfl rfl)
          have HC0 := Lib.hid (HC0.out.below hb)
          have HD := Lib.hid (HD.out.below hb)
          have HO := Lib.hid (HO.out.below hb)
          clear ho hb hb1 HR5
          go_wp2_with fail
          refine HS.out.mono ?_
          rintro e w' ⟨rfl, rfl⟩
          clear HS
          go_wp2_with fail
          refine (syncs_any Fc0 cc 0 [] X w6 HC0.out.at_).mono ?_
          rintro e w' ⟨rfl, rfl⟩
          go_wp2_with fail
          refine (syncs_any F g 0 [] X w6 HD.out.at_).mono ?_
          rintro e w' ⟨rfl, rfl⟩
          go_wp2_with fail
          go_loopw [12] (fun i wr => ∃ k2 : Nat, k2 ≤ n ∧ i = .int .i64 k2 ∧ Hid (∃ Fc L T q, q ≤ k2 ∧ Dk1 w wr Fc cc L T q ∧ Dk1 w wr F g [] X 0 ∧ Dk1 w wr Fo o [] X 0 ∧ NoMeet Fc F ∧ NoMeet Fc Fo)) (fun i _ => n - (intOf i).toNat)
          case atStart => exact ⟨0, by omega, rfl, Lib.hid ⟨Fc0, [], X, 0, by omega, HC0.out, HD.out, HO.out, HM1.out, HM2.out⟩⟩
          case round =>
            clear HC0 HD HO HM1 HM2
            obtain ⟨k2, hk2, rfl, HK⟩ := hrel
            obtain ⟨Fc, L, T, q, hq, h1, h2, h3, h4, h5⟩ := HK.out
            have HQ := Lib.hid hq
            have HC := Lib.hid h1
            have HD := Lib.hid h2
            have HO := Lib.hid h3
            have HM1 := Lib.hid h4
            have HM2 := Lib.hid h5
            clear HK hq h1 h2 h3 h4 h5
            by_cases hlt2 : k2 < n
            · have hkn : k2 < rs.length := by rw [← HN.out]; exact hlt2
              obtain ⟨b', o', rfl, _, hc⟩ := dos_open (HIN.out wr HC.out.bel).1 (by omega)
              obtain ⟨d0, d1, d2⟩ := hc k2 hkn
              have C := done_round HIN.out HC.out hkn (by have := HQ.out; have := HNL.out; omega)
              have hqn := doS_n L T q rs[k2].kind rs[k2].row.2.1 rs[k2].kept
              unfold rowV at d1
              obtain ⟨⟨kd, ⟨A1, y1, c1⟩, kp⟩, hy1⟩ : ∃ y, rs[k2] = y := ⟨_, rfl⟩
              rw [hy1] at d0 d1 d2 C hqn
              simp only at d0 d1 d2 C hqn
              have HCC := Lib.hid C
              have HQN := Lib.hid hqn
              have hki : (0 : Int) ≤ (k2 : Int) := by omega
              have hki2 : (k2 : Int) < (n : Int) := by omega
              clear hc hy1 C hqn
              go_wp2_with fail
              refine HCC.out.mono ?_
              rintro e w7 ⟨rfl, Fc2, hf, hd, ht⟩
              have HK2 : Hid (∃ Fc L T q, q ≤ k2 + 1 ∧ Dk1 w w7 Fc cc L T q ∧ Dk1 w w7 F g [] X 0 ∧ Dk1 w w7 Fo o [] X 0 ∧ NoMeet Fc F ∧ NoMeet Fc Fo) := Lib.hid ⟨Fc2, _, _, _, by have := HQN.out; have := HQ.out; omega, HC.out.to hf hd ht, HD.out.far HM1.out ht HC.out, HO.out.far HM2.out ht HC.out, meet_step HM1.out HD.out.at_.lt hf, meet_step HM2.out HO.out.at_.lt hf⟩
              clear hf hd ht
              go_wp2
              go_roundw
              case rel => exact ⟨k2 + 1, by omega, by go_num, HK2⟩
              case measure => simp [intOf]; omega
            · obtain rfl : k2 = n := by omega
              clear HC HQ HM1 HM2
              go_wp2_with fail
              have hb1 := bytes_any Fo o 0 [] X wr HO.out.at_
              rw [List.nil_append] at hb1
              refine hb1.mono ?_
              rintro e w7 ⟨A7, c7, rfl, ho, hb⟩
              have HR7 := Lib.hid (Row.of_own ho)
              have HD := Lib.hid (HD.out.below hb)
              have HO := Lib.hid (HO.out.below hb)
              clear ho hb hb1
              go_wp2_with fail
              refine (of_any X.length w7.heap.size c7 X A7 rfl (by have := HXL.out; omega) w7 HR7.out (Nat.le_refl _)).mono ?_
              rintro e w8 ⟨f, Ff, rfl, hf, hd, hb⟩
              have HF : Hid (Dk1 w w8 Ff f X [] 0) := Lib.hid ⟨fun j hj => Nat.le_trans HD.out.bel.size (hf j hj), hd, HD.out.bel.trans (hb.mono HD.out.bel.size)⟩
              have HD := Lib.hid (HD.out.below hb)
              have HO := Lib.hid (HO.out.below hb)
              simp only
              clear hf hd hb HR7
              go_wp2_with fail
              refine (tail_any F g 0 [] X w8 HD.out.at_).mono ?_
              rintro e w9 ⟨A9, c9, rfl, ho, hb⟩
              have HR9 := Lib.hid (Row.of_own ho)
              have HD := Lib.hid (HD.out.below hb)
              have HO := Lib.hid (HO.out.below hb)
              have HF := Lib.hid (HF.out.below hb)
              clear ho hb
              go_wp2_with fail
              refine (tail_any Fo o 0 [] X w9 HO.out.at_).mono ?_
              rintro e w10 ⟨A10, c10, rfl, ho, hb⟩
              have HS := Lib.hid (same6_true w10.heap.size w10.heap.size c9 c10 X.length X.length A9 A10 X w10 ((HR9.out.below hb).more hb.size) (Row.of_own ho) rfl rfl)
              have HD := Lib.hid (HD.out.below hb)
              have HF := Lib.hid (HF.out.below hb)
              clear ho hb HR9 HO
              go_wp2_with fail
              refine HS.out.mono ?_
              rintro e w' ⟨rfl, rfl⟩
              clear HS
              go_wp2_with fail
              refine (lasting_any F g 0 [] X w10 HD.out.at_).mono ?_
              rintro e w11 ⟨A11, c11, rfl, ho, hb⟩
              have HD := Lib.hid (HD.out.below hb)
              have HF := Lib.hid (HF.out.below hb)
              simp only [List.length_nil]
              clear ho hb
              go_wp2_with fail
              refine (lasting_any Ff f 0 X [] w11 HF.out.at_).mono ?_
              rintro e w12 ⟨A12, c12, rfl, ho, hb⟩
              have HR12 := Lib.hid (Row.of_own ho)
              have HD := Lib.hid (HD.out.below hb)
              have HF := Lib.hid (HF.out.below hb)
              clear ho hb
              go_wp2_with fail
              refine (tail_any F g 0 [] X w12 HD.out.at_).mono ?_
              rintro e w13 ⟨A13, c13, rfl, ho, hb⟩
              have HS := Lib.hid (same6_true w13.heap.size w13.heap.size c12 c13 X.length X.length A12 A13 X w13 ((HR12.out.below hb).more hb.size) (Row.of_own ho) rfl rfl)
              have HF := Lib.hid (HF.out.below hb)
              clear ho hb HR12 HD
              go_wp2_with fail
              refine HS.out.mono ?_
              rintro e w' ⟨rfl, rfl⟩
              clear HS
              go_wp2_with fail
              refine (tail_any Ff f 0 X [] w13 HF.out.at_).mono ?_
              rintro e w14 ⟨A14, c14, rfl, ho, hb⟩
              have HF := Lib.hid (HF.out.below hb)
              simp only [List.length_nil]
              clear ho hb
              go_wp2_with fail
              refine (known6_any _).mono ?_
              rintro e w15 ⟨rfl, hb⟩
              have HB := Lib.hid (HF.out.bel.trans (hb.mono HF.out.bel.size))
              clear hb
              go_wp2
              go_ret
              exact ⟨rfl, HB.out⟩
end Go.Proofs.Ytmmhiolmeijemaa
