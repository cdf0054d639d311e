/- All frames, found by the document: one contract, by what is left. -/
import Derived.Test.YtkdpfjenjcpcfaaGreatDoorScan5
namespace Go.Proofs.YtkdpfjenjcpcfaaGreatDoor
open Go.RowKit Mem Be Word Frm
set_option maxRecDepth 10000
set_option maxHeartbeats 1000000
set_option linter.unusedVariables false
theorem own_litR (w : World) (r : RecV) (n : Nat) (hn : n = r.2.2.1.length) : (w.alloc (.cells #[.int .u8 (r.1.toNat : Int), .slice r.2.1 n r.2.2.2] 168)).ownsRow w.heap.size 168 2 (.slice (some ⟨w.heap.size, 0, none⟩) 1 1) 1 (recsC [r]) := by
  subst hn
  exact ⟨rfl, Or.inr ⟨w.heap.size, 1, _, rfl, Nat.le_refl _, heap_alloc_new w _, Nat.le_refl _, by unfold maxLen; omega, rfl, rfl⟩⟩
theorem refscan_step (B c n : Nat) (A : Option Addr) (bs : List UInt8) (hn : n = bs.length) (hc : n ≤ c) (w : World) (h : Row w B A (bs.map byteV)) (hB : B ≤ w.heap.size) (hnm : n ≤ 4194304)
    (IH : ∀ (k : Nat) W, 0 < k → k ≤ n → Below w.heap.size w W → Calls Tryz.prog 133 #[.slice (cutA A k c) (n - k) (c - k)] W (ScanP (scanS (bs.drop k)) W)) :
    Calls Tryz.prog 133 #[.slice A n c] w (ScanP (scanS bs) w) := by
  have hnx := refnext_any B c n A bs hn hc w h hB (by omega)
  cases hx : nextS bs with
  | bad e0 =>
    rw [hx] at hnx
    have HNX := Lib.hid hnx
    have hs := scan_bad hx
    have he := next_bad hx
    by_cases h4 : e0 = 4
    · subst h4
      rw [if_pos rfl] at hs
      rw [hs]
      clear hs he hx hnx h hn hc IH
      go_enter Tryz.func133, Tryz.ntmps133
      go_wp2_with fail
      refine HNX.out.mono ?_
      rintro e w1 ⟨rfl, hb⟩
      have HB := Lib.hid hb
      clear hb
      go_wp2
      go_ret3
      exact ⟨[], none, 0, rfl, rfl, World.ownsRow_nil _ _ _ _, recsO_nil _ _, HB.out⟩
    · rw [if_neg h4] at hs
      rw [hs]
      have h4b : (e0 == 4) = false := by simpa using h4
      have h0 : (e0 != 0) = true := by
        rcases he with ⟨h, _⟩ | ⟨h | h | h, _⟩ <;> subst h <;> rfl
      clear hs he hx hnx h hn hc IH h4
      go_enter Tryz.func133, Tryz.ntmps133
      go_wp2_with fail
      refine HNX.out.mono ?_
      rintro e w1 ⟨rfl, hb⟩
      have HB := Lib.hid hb
      clear hb
      go_wp2
      go_ret3
      exact ⟨[], none, 0, rfl, rfl, World.ownsRow_nil _ _ _ _, recsO_nil _ _, HB.out⟩
  | ok r =>
    rw [hx] at hnx
    have hk := next_ok hx
    have hs := scan_ok hx
    obtain ⟨kk, ys⟩ := r
    simp only at hk hs
    obtain ⟨Z, hZ⟩ : ∃ Z, ys.length + 10 = Z := ⟨_, rfl⟩
    rw [hZ] at hs
    have HNX : Hid (Calls Tryz.prog 160 #[.slice A n c] w fun e w' => ∃ A1 c1, e = .returned (.tuple #[.int .u8 (kk.toNat : Int), .slice A1 ys.length c1, .int .i64 (Z : Int), .int .i64 0]) ∧
        w'.ownsRow w.heap.size 5 1 (.slice A1 ys.length c1) ys.length (ys.map byteV) ∧ Below w.heap.size w w') := Lib.hid (by rw [← hZ]; exact hnx)
    have HIH := Lib.hid (fun W => IH Z W (by omega) (by omega))
    have hrest := scan_back _ (bs.drop Z) (Nat.le_refl _)
    have hmany := long_many (scanS (bs.drop Z)).1
    unfold longN at hmany
    rw [← hrest.2.1] at hmany
    obtain ⟨⟨l2, a2, e2⟩, hs2⟩ : ∃ s, scanS (bs.drop Z) = s := ⟨_, rfl⟩
    rw [hs2] at hs HIH hrest hmany
    simp only at hs hrest hmany
    have ha2 : a2 ≤ n := by have := hrest.2.2.1; rw [List.length_drop] at this; omega
    have hZn : Z ≤ n := by omega
    obtain ⟨S, hS⟩ : ∃ S, Z + a2 = S := ⟨_, rfl⟩
    have hsum : (Z : Int) + (a2 : Int) = (S : Int) := by omega
    have hS2 : (S : Int) ≤ 8388608 := by omega
    have r7 : IntKind.i64.wrap (S : Int) = (S : Int) := by rw [IntKind.wrap_i64]; omega
    have HSS := Lib.hid hS
    clear hS2
    have hcut := fun W => run_cut_l (P := Tryz.prog) (w := W) 27 5 _ _ Tryz.underlying27 info_b A n c Z hZn
    have ha2' : (a2 : Int) ≤ 4194304 := by omega
    have hZ' : (Z : Int) ≤ 4194304 := by omega
    have hll : l2.length ≤ 4194304 := by omega
    rw [hs]
    have HYZ := Lib.hid hZ
    clear hk hs hZ hnx hx IH hrest hmany hs2 h hn hc hS ha2
    go_enter Tryz.func133, Tryz.ntmps133
    go_wp2_with fail
    refine HNX.out.mono ?_
    rintro e w1 ⟨A1, c1, rfl, ho, hb⟩
    have HB1 := Lib.hid hb
    have HO1 := Lib.hid ho
    clear ho hb HNX
    go_wp2_with fail
    refine (HIH.out w1 HB1.out).mono ?_
    rintro e w2 ⟨rs2, A2, c2, hrs, rfl, ho2, hr2, hb2⟩
    have hl2 : rs2.length ≤ 4194304 := by rw [← List.length_map (f := rcOf), hrs]; exact hll
    have HRS := Lib.hid hrs
    have HB2 : Hid (Below w.heap.size w w2) := Lib.hid (HB1.out.trans (hb2.mono HB1.out.size))
    have HO2 := Lib.hid (ownLater HO1.out hb2)
    have HR2 := Lib.hid (recsO_base hr2 HB1.out.size)
    have HA2 := Lib.hid (ownRow ho2)
    clear hrs ho2 hr2 hb2 HIH HO1 HB1
    have HOL : Hid (∀ W : World, (W.alloc (.cells #[.int .u8 (kk.toNat : Int), .slice A1 ys.length c1] 168)).ownsRow W.heap.size 168 2 (.slice (some ⟨W.heap.size, 0, none⟩) 1 1) 1 (recsC [(kk, A1, ys, c1)])) := Lib.hid fun W =>
      own_litR W (kk, A1, ys, c1) ys.length rfl
    have HBL : Hid (∀ o, Below w.heap.size w (w2.alloc o)) := Lib.hid fun o => HB2.out.alloc HB2.out.size o
    have HAL : Hid (∀ o, Row (w2.alloc o) w2.heap.size A2 (recsC rs2)) := Lib.hid fun o => HA2.out.alloc (Nat.le_refl _) o
    have HRL : Hid (∀ o, RecsO (w2.alloc o) w.heap.size ([(kk, A1, ys, c1)] ++ rs2)) := Lib.hid fun o => recsO_below (recsO_app (recsO_one (r := (kk, A1, ys, c1)) HO2.out) HR2.out) ((Below.refl _ _).alloc (Nat.le_refl _) o)
    go_wp2_with (at_builtin; refine wpList_appR rfl _ _ rfl w2.heap.size _ 1 [(kk, A1, ys, c1)] rfl (HOL.out w2) w2.heap.size _ rs2.length c2 rs2 rfl rfl (HAL.out _) (by omega) (by simp) ?_)
    intro A3 c3 w3 hown hgr
    have HB3 : Hid (Below w.heap.size w w3) := Lib.hid ((HBL.out _).grown hgr (HBL.out _).size fun g h => by have := ((HOL.out w2).lt g h).1; have := HB2.out.size; omega)
    have HR3 := Lib.hid (recsO_grown (HRL.out _) (HOL.out w2) hgr)
    have HO3 := Lib.hid (ownBase hown (Nat.le_trans HB2.out.size (Nat.le_refl _)))
    clear hown hgr hl2 hll ha2' hZ' hnm HAL HRL HBL HOL
    go_wp2
    go_ret3
    refine ⟨[(kk, A1, ys, c1)] ++ rs2, A3, c3, ?_, ?_, ?_, HR3.out, HB3.out⟩
    · rw [List.map_append, HRS.out]; rfl
    · rw [List.length_append, HSS.out]; rfl
    · rw [List.length_append]; exact HO3.out
theorem refscan_any : ∀ (m B c n : Nat) (A : Option Addr) (bs : List UInt8) (hm : n ≤ m) (hn : n = bs.length) (hc : n ≤ c) (w : World) (h : Row w B A (bs.map byteV)) (hB : B ≤ w.heap.size) (hnm : n ≤ 4194304),
    Calls Tryz.prog 133 #[.slice A n c] w (ScanP (scanS bs) w)
  | 0, B, c, n, A, bs, hm, hn, hc, w, h, hB, hnm => refscan_step B c n A bs hn hc w h hB hnm (fun k W h0 hk => by omega)
  | m + 1, B, c, n, A, bs, hm, hn, hc, w, h, hB, hnm => refscan_step B c n A bs hn hc w h hB hnm (fun k W h0 hk hb =>
      refscan_any m W.heap.size (c - k) (n - k) (cutA A k c) (bs.drop k) (by omega) (by rw [List.length_drop]; omega) (by omega) W (by
        rw [List.map_drop]
        exact cut_row ((h.below (hb.mono hB)).more (Nat.le_trans hB hb.size)) k c (by rw [List.length_map]; omega)) (Nat.le_refl _) (by omega))
end Go.Proofs.YtkdpfjenjcpcfaaGreatDoor
