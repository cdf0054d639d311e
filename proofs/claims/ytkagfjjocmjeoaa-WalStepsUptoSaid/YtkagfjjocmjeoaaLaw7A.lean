/- The law WalOpened, walked. -/
import Derived.Test.YtkagfjjocmjeoaaKnown7
import Derived.Test.YtkagfjjocmjeoaaLong7
namespace Go.Proofs.Ytkagfjjocmjeoaa
open Go.RowKit Mem Be Word Frm
set_option maxRecDepth 100000
set_option maxHeartbeats 4000000
set_option linter.unusedVariables false
/-- Things are done, one behind the other: one round. -/
theorem doneG_round {w0 w : World} {A : Option Addr} {rs : List DoG} (hin : InG w0 A rs) {F : Nat → Prop} {g q m k : Nat} {ls : List Rc} (h : Lg1 w0 w F g ls m q) (hk : k < rs.length) (hq : q ≤ 4611686018427387904) (hnl : ∀ r ∈ rs, r.rows.length ≤ 5864062014805) :
    Calls Try.prog 13 #[.pointer (some ⟨g, 0, none⟩), .agg #[.int .i64 rs[k].kind, .int .u8 (rs[k].of_.toNat : Int), .slice rs[k].at_ rs[k].rows.length rs[k].room, .int .i64 rs[k].kept]] w (DoneG F (gS ls m rs[k]) q w) := by
  have hok := (hin w h.bel).2 rs[k] (List.getElem_mem hk)
  have hs := h.bel.size
  exact done7_any F g m q ls rs[k] w hq h.at_ ⟨hok.row.more hs, fun r hr => ⟨(hok.rows r hr).1.more hs, (hok.rows r hr).2⟩, hok.cap, hok.mx, hok.k0, hok.k1, hok.p0, hok.p1⟩ (hnl _ (List.getElem_mem hk)) (RowN.of_low hok.row hs h.new) (fun r hr => RowN.of_low (hok.rows r hr).1 hs h.new)
theorem Lg1.done {w0 w w1 : World} {F : Nat → Prop} {g q m : Nat} {rs : List Rc} {s : List Rc × Nat × Int} {e : Ending} (h : Lg1 w0 w F g rs m q) (hd : DoneG F s q w e w1) : ∃ g' F' q', e = .returned (.tuple #[.pointer (some ⟨g', 0, none⟩), .int .i64 s.2.2]) ∧ q' ≤ q + 1 ∧ Lg1 w0 w1 F' g' s.1 s.2.1 q' := by
  obtain ⟨g', F', q', h1, h2, h3, h4, h5⟩ := hd
  exact ⟨g', F', q', h1, h4, h.to h2 h3 h5⟩
theorem Lg1.touch {w0 w w1 : World} {F G : Nat → Prop} {g q m : Nat} {rs : List Rc} (h : Lg1 w0 w F g rs m q) (ht : Touch G w w1) (hd : ∀ k, F k → ¬ G k) (hG : ∀ k, G k → w0.heap.size ≤ k) : Lg1 w0 w1 F g rs m q := ⟨h.new, h.at_.touch ht hd, h.bel.trans (ht.below h.bel.size hG)⟩
theorem opened_walk (A : Option Addr) (rs : List DoG) (n c : Nat) (hn : n = rs.length) (hnl : n ≤ 140737488355328) (hrl : ∀ r ∈ rs, r.rows.length ≤ 5864062014805) (w : World) (h : InG w A rs) :
    Calls Try.prog 8 #[.slice A n c] w (IsT true w) := by
  have HLG := Lib.hid (longG_any n c A rs hn (by unfold maxLen; omega) w h)
  have HIN := Lib.hid h
  have HN := Lib.hid hn
  have HNL := Lib.hid hnl
  have HRL := Lib.hid hrl
  have hni : (n : Int) ≤ 140737488355328 := by omega
  clear h hn hnl hrl
  go_enter Try.func8, Try.ntmps8
  go_wp2_with fail
  refine HLG.out.mono ?_
  rintro e w' ⟨⟨lb, rfl⟩, rfl⟩
  clear HLG
  by_cases hlb : 1000 < lb
  · go_wp2_with fail
    refine (known7_any _).mono ?_
    rintro e w1 ⟨rfl, hb⟩
    have HB := Lib.hid hb
    clear hb
    go_wp2
    go_ret
    exact ⟨rfl, HB.out⟩
  have hlb2 : lb ≤ 1000 := by omega
  clear hlb
  go_wp2_with fail
  refine (newlg_any w).mono ?_
  rintro e w1 ⟨g0, F0, rfl, hF, hd, hb⟩
  have HK0 : Hid (Lg1 w w1 F0 g0 [] 0 0) := Lib.hid ⟨hF, hd, hb⟩
  simp only [id]
  clear hF hd hb
  go_wp2_with fail
  go_loopw [3, 4] (fun z i wr => ∃ k : Nat, k ≤ n ∧ i = .int .i64 k ∧ ∃ g, z = .pointer (some ⟨g, 0, none⟩) ∧ Hid (∃ F ls m q, q ≤ k ∧ Lg1 w wr F g ls m q)) (fun _ i _ => n - (intOf i).toNat)
  case atStart => exact ⟨0, by omega, rfl, g0, rfl, Lib.hid ⟨F0, [], 0, 0, by omega, HK0.out⟩⟩
  case round =>
    obtain ⟨k, hk, rfl, g, rfl, HK⟩ := hrel
    obtain ⟨F, ls, m, q, hq, hd⟩ := HK.out
    have HD := Lib.hid hd
    have HQ := Lib.hid hq
    clear HK hd hq HK0
    by_cases hlt : k < n
    · have hk1 : k < rs.length := by rw [← HN.out]; exact hlt
      obtain ⟨b, o, rfl, _, hc⟩ := dosG_open (HIN.out wr HD.out.bel).1 (by omega)
      obtain ⟨d0, d1, d2, d3⟩ := hc k hk1
      have C := doneG_round HIN.out HD.out hk1 (by have := HQ.out; have := HNL.out; omega) HRL.out
      obtain ⟨⟨kd, of_, A1, ys, c1, kp⟩, hy1⟩ : ∃ y, rs[k] = y := ⟨_, rfl⟩
      rw [hy1] at d0 d1 d2 d3 C
      simp only at d0 d1 d2 d3 C
      have HC := Lib.hid C
      have hki : (0 : Int) ≤ (k : Int) := by omega
      have hki2 : (k : Int) < (n : Int) := by omega
      clear hc hy1 C
      go_wp2_with fail
      refine HC.out.mono ?_
      intro e w2 hx
      obtain ⟨g2, F2, q2, rfl, hq2, hl2⟩ := HD.out.done hx
      have HK2 : Hid (∃ F ls m q, q ≤ k + 1 ∧ Lg1 w w2 F g2 ls m q) := Lib.hid ⟨F2, _, _, q2, by have := HQ.out; omega, hl2⟩
      clear hx hq2 hl2 HC d0 d1 d2 d3
      go_wp2
      go_roundw
      case rel => exact ⟨k + 1, by omega, by go_num, g2, rfl, HK2⟩
      case measure => simp [intOf]; omega
    · obtain rfl : k = n := by omega
      have hmany := HD.out.at_.many
      have hmi : (ls.length : Int) ≤ 419430 := by omega
      have hml : (m : Int) ≤ (ls.length : Int) := by have := HD.out.at_.le; omega
      have hm0 : (0 : Int) ≤ (m : Int) := by omega
      have HSH := Lib.hid HD.out.at_.short
      clear HQ hmany
      go_wp2_with fail
      refine (disk7_any F g m q ls wr HD.out.at_).mono ?_
      rintro e w2 ⟨y, Fy, rfl, hfy, hdy, hb⟩
      have HFY := Lib.hid hfy
      have HDY := Lib.hid hdy
      have HD2 := Lib.hid (HD.out.below hb)
      have HLT : Hid (∀ k, F k → k < wr.heap.size) := Lib.hid HD.out.at_.lt
      have HBW : Hid (w.heap.size ≤ wr.heap.size ∧ wr.heap.size ≤ w2.heap.size) := Lib.hid ⟨HD.out.bel.size, hb.size⟩
      simp only [id]
      have hop := open_any Fy y q _ _ w2 hdy
      rw [← all_drop] at hop
      unfold OpenP at hop
      rw [scan_all _ HSH.out] at hop
      simp only [Int.sub_self] at hop
      have HOP := Lib.hid hop
      clear hfy hdy hb hop HD
      go_wp2_with fail
      refine HOP.out.mono ?_
      rintro e w3 ⟨g3, F3, rfl, hf3, hl3, hb⟩
      have HL3 := Lib.hid (HD2.out.new_ hf3 hl3 hb)
      have HD3 := Lib.hid (HD2.out.below hb)
      have HDY3 := Lib.hid (HDY.out.below hb)
      have HYL : Hid (∀ k, Fy k → k < w2.heap.size) := Lib.hid HDY.out.lt
      have HF3 : Hid (∀ k, F3 k → w2.heap.size ≤ k) := Lib.hid hf3
      clear hf3 hl3 hb HOP HD2 HDY
      have hal : Below w3.heap.size w3 (w3.alloc (.cells #[.int .u8 1, .int .u8 2, .int .u8 3] 5)) := (Below.refl _ _).alloc (Nat.le_refl _) _
      have hAP := append_one (w3.heap.size + 1) Fy y q _ _ (some ⟨w3.heap.size, 0, none⟩) [1, 2, 3] 3 (w3.alloc (.cells #[.int .u8 1, .int .u8 2, .int .u8 3] 5)) (by simp) (HDY3.out.below hal) (rowN_new _ rfl (fun hf => by have := HDY3.out.lt _ hf; omega) rfl) (by show (3 : Nat) ≤ maxLen; unfold maxLen; omega)
      generalize hs : (if 4194304 < (allB (ls.take m)).length + (allB (ls.drop m)).length + ([1, 2, 3] : List UInt8).length then (allB (ls.take m), allB (ls.drop m), q, (3 : Int)) else (allB (ls.take m), allB (ls.drop m) ++ [1, 2, 3], q, 0)) = s at hAP
      have HAL := Lib.hid hal
      have HAP := Lib.hid hAP
      clear hs
      clear hal hAP HDY3
      go_wp2_with fail
      refine HAP.out.mono ?_
      rintro e w4 ⟨rfl, F4, hf4, hd4, ht4⟩
      have HT : Hid (Touch Fy w3 w4) := Lib.hid ((Touch.ofBelow HAL.out).trans ht4 (fun k hk => Or.inl hk))
      have HL4 := Lib.hid (HL3.out.touch HT.out (fun k h1 h2 => by have := HF3.out k h1; have := HYL.out k h2; omega) (fun k hk => by have := HFY.out k hk; have := HBW.out; omega))
      have HD4 := Lib.hid (HD3.out.touch HT.out (fun k h1 h2 => by have := HLT.out k h1; have := HFY.out k h2; omega) (fun k hk => by have := HFY.out k hk; have := HBW.out; omega))
      clear hf4 hd4 ht4 HAP HT HL3 HD3 HAL HYL HF3 HFY HLT HBW
      go_wp2_with fail
      refine (records7_any F3 g3 _ _ _ w4 HL4.out.at_).mono ?_
      rintro e w5 ⟨us, A5, c5, hus, rfl, hou, hrc, hb⟩
      have HUS := Lib.hid hus
      have HOU := Lib.hid hou
      have HRC := Lib.hid hrc
      have HL5 := Lib.hid (HL4.out.below hb)
      have HD5 := Lib.hid (HD4.out.below hb)
      clear hus hou hrc hb HL4 HD4
      go_wp2_with fail
      refine (records7_any F g _ _ _ w5 HD5.out.at_).mono ?_
      rintro e w6 ⟨vs, A6, c6, hvs, rfl, hov, hrv, hb⟩
      have hmu : us.length ≤ 1073741824 := by have h1 := congrArg List.length HUS.out; have h2 := HL5.out.at_.many; rw [List.length_map] at h1; omega
      have HS := Lib.hid (refsame5_true us.length vs.length c5 c6 A5 A6 us vs rfl rfl (HUS.out.trans hvs.symm) w6 (((ownRow HOU.out).below hb).more hb.size) (ownRow hov) (recs_below (recsO_recs HRC.out) hb) (recsO_recs hrv) hmu)
      have HL6 := Lib.hid (HL5.out.below hb)
      have HD6 := Lib.hid (HD5.out.below hb)
      clear hvs hov hrv hb HL5 HD5 HUS HOU HRC hmu
      go_wp2_with fail
      refine HS.out.mono ?_
      rintro e w7 ⟨rfl, hb⟩
      have HL7 := Lib.hid (HL6.out.below hb)
      have HD7 := Lib.hid (HD6.out.below hb)
      clear hb HS HL6 HD6
      go_wp2_with fail
      refine (pending7_any F3 g3 _ _ _ w7 HL7.out.at_).mono ?_
      rintro e w8 ⟨rfl, hb⟩
      have HL8 := Lib.hid (HL7.out.below hb)
      have HD8 := Lib.hid (HD7.out.below hb)
      simp only [Int.sub_self]
      clear hb HL7 HD7
      go_wp2_with fail
      refine (lasting7_any F3 g3 _ _ _ w8 HL8.out.at_).mono ?_
      rintro e w' ⟨rfl, rfl⟩
      go_wp2_with fail
      refine (lasting7_any F g _ _ _ w8 HD8.out.at_).mono ?_
      rintro e w' ⟨rfl, rfl⟩
      go_wp2_with fail
      refine (pending7_any F g _ _ _ w8 HD8.out.at_).mono ?_
      rintro e w9 ⟨rfl, hb⟩
      have HL9 := Lib.hid (HL8.out.below hb)
      have HD9 := Lib.hid (HD8.out.below hb)
      have hsum : (m : Int) + ((ls.length : Int) - (m : Int)) = (ls.length : Int) := by omega
      clear hb HL8 HD8
      go_wp2_with fail
      refine (disk7_any F g m q ls w9 HD9.out.at_).mono ?_
      rintro e w10 ⟨y2, Fy2, rfl, hfy, hdy, hb⟩
      have HDY2 := Lib.hid hdy
      have HL10 := Lib.hid (HL9.out.below hb)
      simp only [id]
      clear hfy hdy hb HL9 HD9
      go_wp2_with fail
      refine (disk7_any F3 g3 _ _ _ w10 HL10.out.at_).mono ?_
      rintro e w11 ⟨y3, Fy3, rfl, hfy, hdy, hb⟩
      have HDY3 := Lib.hid hdy
      have HDY4 := Lib.hid (HDY2.out.below hb)
      have HB11 := Lib.hid (HL10.out.bel.trans (hb.mono HL10.out.bel.size))
      simp only [id]
      clear hfy hdy hb HL10 HDY2
      go_wp2_with fail
      refine (lasting_any Fy3 y3 _ _ _ w11 HDY3.out).mono ?_
      rintro e w12 ⟨A12, c12, rfl, ho, hb⟩
      have HO12 := Lib.hid ho
      have HDY5 := Lib.hid (HDY4.out.below hb)
      have HB12 := Lib.hid (HB11.out.trans (hb.mono HB11.out.size))
      rw [List.take_of_length_le (Nat.le_refl _)] at HO12 ⊢
      clear ho hb HDY3 HDY4 HB11
      go_wp2_with fail
      refine (bytes_any Fy2 y2 _ _ _ w12 HDY5.out).mono ?_
      rw [← all_drop]
      rintro e w13 ⟨A13, c13, rfl, ho, hb⟩
      obtain ⟨X, hX⟩ : ∃ X, allB ls = X := ⟨_, rfl⟩
      rw [hX] at HO12 ho ⊢
      have HSA := Lib.hid (same6_true w13.heap.size w13.heap.size c12 c13 X.length X.length A12 A13 X w13 (((Row.of_own HO12.out).below hb).more hb.size) (Row.of_own ho) rfl rfl)
      have HB13 := Lib.hid (HB12.out.trans (hb.mono HB12.out.size))
      clear ho hb hX HO12 HDY5 HB12
      go_wp2_with fail
      refine HSA.out.mono ?_
      rintro e w' ⟨rfl, rfl⟩
      go_wp2_with fail
      refine (known7_any _).mono ?_
      rintro e w14 ⟨rfl, hb⟩
      have HB14 := Lib.hid (HB13.out.trans (hb.mono HB13.out.size))
      clear hb
      go_wp2
      go_ret
      exact ⟨rfl, HB14.out⟩
end Go.Proofs.Ytkagfjjocmjeoaa
