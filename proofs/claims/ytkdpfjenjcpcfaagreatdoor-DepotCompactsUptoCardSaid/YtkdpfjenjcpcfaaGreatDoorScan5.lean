/- All frames, found by the program: one contract. -/
import Derived.Test.YtkdpfjenjcpcfaaGreatDoorRefNext5
import Derived.Test.YtkdpfjenjcpcfaaGreatDoorRecs
import Derived.Deep.LoopGhost
namespace Go.Proofs.YtkdpfjenjcpcfaaGreatDoor
open Go.RowKit Mem Be Word Frm
set_option maxRecDepth 10000
set_option maxHeartbeats 1000000
set_option linter.unusedVariables false
theorem scan_any (B c n : Nat) (A : Option Addr) (bs : List UInt8) (hn : n = bs.length) (hc : n ≤ c) (w : World) (h : Row w B A (bs.map byteV)) (hB : B ≤ w.heap.size) (hnm : n ≤ 4194304) :
    Calls Tryz.prog 153 #[.slice A n c] w (ScanP (scanS bs) w) := by
  have hcut : ∀ (k : Nat) W, k ≤ n → (Instr.slice 27 (.slice A n c) (some (.int .i64 (k : Int))) none none).run Tryz.prog W = .ok (.slice (cutA A k c) (n - k) (c - k)) W := fun k W hk =>
    run_cut_l (P := Tryz.prog) (w := W) 27 5 _ _ Tryz.underlying27 info_b A n c k hk
  have HCUT := Lib.hid hcut
  have HNX : Hid (∀ (k : Nat) W, k ≤ n → Below w.heap.size w W → Calls Tryz.prog 176 #[.slice (cutA A k c) (n - k) (c - k)] W (NextP (nextS (bs.drop k)) W)) := Lib.hid fun k W hk hb =>
    next_any W.heap.size (c - k) (n - k) _ (bs.drop k) (by rw [List.length_drop]; omega) (by omega) W (by
      rw [List.map_drop]
      exact cut_row ((h.below (hb.mono hB)).more (Nat.le_trans hB hb.size)) k c (by rw [List.length_map]; omega)) (Nat.le_refl _) (by omega)
  have HN := Lib.hid hn
  have hnm' : (n : Int) ≤ 4194304 := by omega
  clear h hc hn hcut
  go_enter Tryz.func153, Tryz.ntmps153
  go_wp2
  go_step3
  go_wp2
  go_step3
  go_wp2
  go_loopg [5, 6, 7] n (fun gk l at_ fault wr => ∃ (rs : List RecV) (A2 : Option Addr) (c2 p : Nat), p + gk = n ∧ l = .slice A2 rs.length c2 ∧ at_ = .int .i64 (p : Int) ∧ fault = .int .i64 0 ∧ rs.length ≤ p ∧
      Hid (scanS bs = (rs.map rcOf ++ (scanS (bs.drop p)).1, p + (scanS (bs.drop p)).2.1, (scanS (bs.drop p)).2.2)) ∧
      Hid (wr.ownsRow w.heap.size 168 2 (.slice A2 rs.length c2) rs.length (recsC rs)) ∧ Hid (RecsO wr w.heap.size rs) ∧ Hid (Below w.heap.size w wr))
  case atStart => exact ⟨[], none, 0, 0, by omega, rfl, rfl, rfl, by simp, Lib.hid (by simp), Lib.hid (World.ownsRow_nil _ _ _ _), Lib.hid (recsO_nil _ _), Lib.hid (Below.refl _ _)⟩
  case round =>
    obtain ⟨rs, A2, c2, p, hp, rfl, rfl, rfl, hrl, HS, HO, HR, HB⟩ := hrel
    have hpn : p ≤ n := by omega
    have hcut := fun W => HCUT.out p W hpn
    cases hx : nextS (bs.drop p) with
    | bad e0 =>
      have HX := Lib.hid hx
      have hnx := HNX.out p wr hpn HB.out
      rw [hx] at hnx
      have HNX2 := Lib.hid hnx
      clear hx hnx HNX HCUT
      have HB1 : Hid (∀ w1, Below wr.heap.size wr w1 → Below w.heap.size w w1) := Lib.hid fun w1 hb => HB.out.trans (hb.mono HB.out.size)
      have hfin : Hid (scanS bs = (rs.map rcOf, p, if e0 = 4 then 0 else e0)) := Lib.hid (by rw [HS.out, scan_bad HX.out]; simp)
      have h0 : (e0 == 0) = false := by
        rcases next_bad HX.out with ⟨h, _⟩ | ⟨h | h | h, _⟩ <;> subst h <;> rfl
      by_cases h4 : e0 = 4
      · subst h4
        have hfin2 := hfin.out
        rw [if_pos rfl] at hfin2
        have HF := Lib.hid hfin2
        clear hfin hfin2 h0
        go_wp2_with fail
        refine HNX2.out.mono ?_
        rintro e w1 ⟨rfl, hb⟩
        have HB2 := Lib.hid hb
        clear hb
        go_wp2
        try rw [Exit.noGoto_ret]
        go_ret3
        rw [HF.out]
        exact ⟨rs, A2, c2, rfl, rfl, ownLater HO.out HB2.out, recsO_below HR.out HB2.out, HB1.out _ HB2.out⟩
      · have hfin2 := hfin.out
        rw [if_neg h4] at hfin2
        have HF := Lib.hid hfin2
        have h4b : (e0 == 4) = false := by simpa using h4
        clear hfin hfin2 h4
        go_wp2_with fail
        refine HNX2.out.mono ?_
        rintro e w1 ⟨rfl, hb⟩
        have HB2 := Lib.hid hb
        clear hb
        go_wp2
        try rw [Exit.noGoto_ret]
        go_ret3
        rw [HF.out]
        exact ⟨rs, A2, c2, rfl, rfl, ownLater HO.out HB2.out, recsO_below HR.out HB2.out, HB1.out _ HB2.out⟩
    | ok r =>
      have hnx := HNX.out p wr hpn HB.out
      rw [hx] at hnx
      have hk := next_ok hx
      have hnl : (bs.drop p).length = n - p := by rw [List.length_drop, HN.out]
      rw [hnl] at hk
      obtain ⟨kk, ys⟩ := r
      simp only at hk
      obtain ⟨G, hG⟩ : ∃ G, gk = G + (ys.length + 10) := ⟨gk - (ys.length + 10), by omega⟩
      have hs := scan_ok hx
      simp only at hs
      rw [List.drop_drop] at hs
      obtain ⟨Z, hZ⟩ : ∃ Z, ys.length + 10 = Z := ⟨_, rfl⟩
      have HNX2 : Hid (Calls Tryz.prog 176 #[.slice (cutA A p c) (n - p) (c - p)] wr fun e w' => ∃ A1 c1, e = .returned (.tuple #[.int .u8 (kk.toNat : Int), .slice A1 ys.length c1, .int .i64 (Z : Int), .int .i64 0]) ∧
        w'.ownsRow wr.heap.size 5 1 (.slice A1 ys.length c1) ys.length (ys.map byteV) ∧ Below wr.heap.size wr w') := Lib.hid (by rw [← hZ]; exact hnx)
      have hs2 : Hid (∀ A1 c1, scanS bs = ((rs ++ [(kk, A1, ys, c1)]).map rcOf ++ (scanS (bs.drop (p + Z))).1, (p + Z) + (scanS (bs.drop (p + Z))).2.1, (scanS (bs.drop (p + Z))).2.2)) := Lib.hid (by
        intro A1 c1
        rw [HS.out, hs, hZ]
        simp only [List.map_append, List.map_cons, List.map_nil, rcOf, List.append_assoc, List.cons_append, List.nil_append]
        refine Prod.ext rfl (Prod.ext ?_ rfl)
        simp only
        omega)
      have hpz : p + Z ≤ n := by omega
      have hpz' : (p : Int) + (Z : Int) ≤ (n : Int) := by omega
      rw [hZ] at hG
      have HG := Lib.hid hG
      have hzp : 10 ≤ Z := by omega
      clear hx hnx hk hnl hs hZ hG HNX HCUT HS
      go_wp2_with fail
      refine HNX2.out.mono ?_
      rintro e w1 ⟨A1, c1, rfl, ho, hb⟩
      have HB1 : Hid (Below w.heap.size w w1) := Lib.hid (HB.out.trans (hb.mono HB.out.size))
      have HO1 := Lib.hid (ownLater HO.out hb)
      have HR1 : Hid (RecsO w1 w.heap.size (rs ++ [(kk, A1, ys, c1)])) := Lib.hid (recsO_app (recsO_below HR.out hb) (recsO_one (r := (kk, A1, ys, c1)) (ownBase ho HB.out.size)))
      clear ho hb HNX2 HO HR HB
      have HB2 : Hid (∀ o, Below w.heap.size w (w1.alloc o)) := Lib.hid fun o => HB1.out.alloc HB1.out.size o
      have HO2 : Hid (∀ o, (w1.alloc o).ownsRow w.heap.size 168 2 (.slice A2 rs.length c2) rs.length (recsC rs)) := Lib.hid fun o => ownLater HO1.out ((Below.refl _ _).alloc (Nat.le_refl _) o)
      have HR2 : Hid (∀ o, RecsO (w1.alloc o) w.heap.size (rs ++ [(kk, A1, ys, c1)])) := Lib.hid fun o => recsO_below HR1.out ((Below.refl _ _).alloc (Nat.le_refl _) o)
      have hsz : w.heap.size ≤ w1.heap.size := HB1.out.size
      go_wp2_with (at_builtin; refine wpList_appR rfl _ _ rfl w.heap.size _ rs.length rs rfl (HO2.out _) (w1.heap.size + 1) _ 1 1 [(kk, A1, ys, c1)] rfl rfl (rec_lit (r := (kk, A1, ys, c1)) rfl rfl rfl) (by omega) (by simp; omega) ?_)
      intro A3 c3 w2 hown hgr
      have HB3 : Hid (Below w.heap.size w w2) := Lib.hid ((HB2.out _).grown hgr (HB2.out _).size fun g h => ((HO2.out (.cells #[.int .u8 (kk.toNat : Int), .slice A1 ys.length c1] 168)).lt g h).1)
      have HR3 := Lib.hid (recsO_grown (HR2.out _) (HO2.out _) hgr)
      have HO3 := Lib.hid hown
      clear hown hgr
      go_wp2
      go_roundg G
      case measure => have := HG.out; omega
      case rel => exact ⟨rs ++ [(kk, A1, ys, c1)], A3, c3, p + Z, by have := HG.out; omega, by rw [List.length_append]; rfl, by go_num, rfl, by rw [List.length_append]; simp; omega, Lib.hid (hs2.out A1 c1), Lib.hid (by rw [List.length_append, recsC_app]; simpa [recsC] using HO3.out), HR3, HB3⟩
end Go.Proofs.YtkdpfjenjcpcfaaGreatDoor
