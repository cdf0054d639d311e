/- MsRrd: The reference's Read of a message, by the fields that its kind has: nfl. -/
import Derived.Test.YtfamklplhdnaiaaDoorMsRd
import Derived.Test.YtfamklplhdnaiaaDoorMsCk
import Derived.Test.YtfamklplhdnaiaaDoorMsRq
namespace Go.Proofs.YtfamklplhdnaiaaDoor
open Go.RowKit Mem Be Rg
set_option maxRecDepth 100000
set_option maxHeartbeats 16000000
set_option linter.unusedVariables false
set_option linter.unusedSimpArgs false
theorem refread12_nfl (n c : Nat) (A : Option Addr) (bs : List UInt8) (hn : n = bs.length) (hl : n ≤ 1000000) (hc : n ≤ c) (w : World) (h : Row w w.heap.size A (bs.map byteV)) {k f d ep op : Int} {p2 : Nat} (hp2 : p2 ≤ n)
    (HCH : Hid (∀ W, Row W w.heap.size A (bs.map byteV) → w.heap.size ≤ W.heap.size → Calls Tryd.prog 66 #[.slice A n c] W (HeadY k f d ep op p2 W)))
    (HF : Hid (readM bs = fin0 n k ⟨k, f, d, ep, op, 0, false, entP0, [], [], 0, 0⟩ p2 (bs.drop p2))) (qn : hasN k = true) (qf : hasF k = true) (qe : hasE k = false) (ql : hasL k = true) (qr : hasR k = false) :
    Calls Tryd.prog 18 #[.slice A n c] w (ReadMP (readM bs) w) := by
  have hb0 : Below w.heap.size w (w.alloc (.cells #[.int .i64 0, .int .i64 0, .int .i64 0, .int .i64 0, .int .i64 0, .int .i64 0, .bool false, .string ⟨#[]⟩, .int .i64 0, .int .i64 0, .int .i64 0, .bool false, .slice none 0 0, .slice none 0 0, .slice none 0 0, .int .i64 0, .int .i64 0] 34)) := (Below.refl _ _).alloc (Nat.le_refl _) _
  have HK0 := Lib.hid (Blk.new w 34 #[.int .i64 0, .int .i64 0, .int .i64 0, .int .i64 0, .int .i64 0, .int .i64 0, .bool false, .string ⟨#[]⟩, .int .i64 0, .int .i64 0, .int .i64 0, .bool false, .slice none 0 0, .slice none 0 0, .slice none 0 0, .int .i64 0, .int .i64 0])
  have hr0 := h.alloc (Nat.le_refl _) (.cells #[.int .i64 0, .int .i64 0, .int .i64 0, .int .i64 0, .int .i64 0, .int .i64 0, .bool false, .string ⟨#[]⟩, .int .i64 0, .int .i64 0, .int .i64 0, .bool false, .slice none 0 0, .slice none 0 0, .slice none 0 0, .int .i64 0, .int .i64 0] 34)
  obtain ⟨W, hW⟩ : ∃ W, w.alloc (.cells #[.int .i64 0, .int .i64 0, .int .i64 0, .int .i64 0, .int .i64 0, .int .i64 0, .bool false, .string ⟨#[]⟩, .int .i64 0, .int .i64 0, .int .i64 0, .bool false, .slice none 0 0, .slice none 0 0, .slice none 0 0, .int .i64 0, .int .i64 0] 34) = W := ⟨_, rfl⟩
  rw [hW] at HK0 hb0 hr0
  have HC1 := Lib.hid (HCH.out W hr0 hb0.size)
  have HR0 := Lib.hid hr0
  have HB0 := Lib.hid hb0
  have HN := Lib.hid hn
  obtain ⟨RM, hRM⟩ : ∃ r, readM bs = r := ⟨_, rfl⟩
  rw [hRM] at HF ⊢
  have HCn := Lib.hid fun W' => rhasN_any k W'
  rw [qn] at HCn
  have Qn := Lib.hid qn
  have HCf := Lib.hid fun W' => rhasF_any k W'
  rw [qf] at HCf
  have Qf := Lib.hid qf
  have HCe := Lib.hid fun W' => rhasE_any k W'
  rw [qe] at HCe
  have Qe := Lib.hid qe
  have HCl := Lib.hid fun W' => rhasL_any k W'
  rw [ql] at HCl
  have Ql := Lib.hid ql
  have HCr := Lib.hid fun W' => rhasR_any k W'
  rw [qr] at HCr
  have Qr := Lib.hid qr
  clear h hb0 hr0 hn hRM HCH qn qf qe ql qr
  go_enter Tryd.func18, Tryd.ntmps18
  go_wp2_with fail
  refine HC1.out.mono ?_
  rintro e w1 ⟨rfl, hb1⟩
  have HB1 := Lib.hid (HB0.out.trans (hb1.mono HB0.out.size))
  have HK1 := Lib.hid (HK0.out.below hb1 HK0.out.lt)
  have HR1 := Lib.hid (HR0.out.below (hb1.mono HB0.out.size))
  clear hb1 HB0 HK0 HR0 HC1 hW
  go_upto_region 2 with (refine wpList_boxM rfl rfl _ rfl 34 #[.int .i64 0, .int .i64 0, .int .i64 0, .int .i64 0, .int .i64 0, .int .i64 0, .bool false, .string ⟨#[]⟩, .int .i64 0, .int .i64 0, .int .i64 0, .bool false, .slice none 0 0, .slice none 0 0, .slice none 0 0, .int .i64 0, .int .i64 0] (by kernel_rfl) _ _ rfl #[.int .i64 k, .int .i64 f, .int .i64 d, .int .i64 ep, .int .i64 op, .int .i64 0, .bool false, .string ⟨#[]⟩, .int .i64 0, .int .i64 0, .int .i64 0, .bool false, .slice none 0 0, .slice none 0 0, .slice none 0 0, .int .i64 0, .int .i64 0] rfl rfl rfl (by kernel_rfl) (by kernel_rfl) ?_)
  have hal : Below w1.heap.size w1 (w1.alloc (.cells #[.int .i64 k, .int .i64 f, .int .i64 d, .int .i64 ep, .int .i64 op, .int .i64 0, .bool false, .string ⟨#[]⟩, .int .i64 0, .int .i64 0, .int .i64 0, .bool false, .slice none 0 0, .slice none 0 0, .slice none 0 0, .int .i64 0, .int .i64 0] 34)) := (Below.refl _ _).alloc (Nat.le_refl _) _
  have hbk := Blk.new w1 34 #[.int .i64 k, .int .i64 f, .int .i64 d, .int .i64 ep, .int .i64 op, .int .i64 0, .bool false, .string ⟨#[]⟩, .int .i64 0, .int .i64 0, .int .i64 0, .bool false, .slice none 0 0, .slice none 0 0, .slice none 0 0, .int .i64 0, .int .i64 0]
  obtain ⟨V, hV⟩ : ∃ V, w1.alloc (.cells #[.int .i64 k, .int .i64 f, .int .i64 d, .int .i64 ep, .int .i64 op, .int .i64 0, .bool false, .string ⟨#[]⟩, .int .i64 0, .int .i64 0, .int .i64 0, .bool false, .slice none 0 0, .slice none 0 0, .slice none 0 0, .int .i64 0, .int .i64 0] 34) = V := ⟨_, rfl⟩
  obtain ⟨P, hP⟩ : ∃ p, w1.heap.size = p := ⟨_, rfl⟩
  rw [hV] at hal hbk
  have hgP : w.heap.size < P := by rw [← hP]; exact HK1.out.lt
  have HB2 := Lib.hid (HB1.out.trans (hal.mono HB1.out.size))
  have HK2 := Lib.hid (HK1.out.below hal HK1.out.lt)
  have HR2 := Lib.hid (HR1.out.below (hal.mono HB1.out.size))
  rw [hP] at hbk
  simp only [hV, hP]
  obtain ⟨x2, hx2⟩ : ∃ x : MV, x = ⟨k, f, d, ep, op, 0, false, (⟨[], 0, 0, 0, false, []⟩, none, 0), none, [], 0, none, [], 0, 0, 0⟩ := ⟨_, rfl⟩
  have hO : MsgO V P x2 := by
    subst hx2
    exact ⟨hbk, World.ownsRow_nil _ _ _ _, World.ownsRow_nil _ _ _ _, entsO_nil _ _, World.ownsRow_nil _ _ _ _, by simp, by simp, by simp⟩
  have HO2 := Lib.hid hO
  have HX2 : Hid (mP x2 = ⟨k, f, d, ep, op, 0, false, entP0, [], [], 0, 0⟩) := Lib.hid (by subst hx2; rfl)
  have HF2 := HF
  have hp := hp2
  clear hal hbk hO hx2 HB1 HK1 HR1 HF hV hP
  have hk0 : x2.kind = k := congrArg MsgP.kind HX2.out
  have d0 : V.cell? ⟨P, 0, none⟩ = some (.int .i64 k) := by
    have := HO2.out.blk.cell 0
    rw [hk0] at this; exact this
  clear hk0
  go_wp2_with fail
  refine (HCn.out _).mono ?_
  rintro e w3 ⟨rfl, hb3⟩
  have HX3 := HX2
  have HF3 := HF2
  clear d0
  have HB3 := Lib.hid (HB2.out.trans (hb3.mono HB2.out.size))
  have HK3 := Lib.hid (HK2.out.below hb3 HK2.out.lt)
  have HR3 := Lib.hid (HR2.out.below (hb3.mono HB2.out.size))
  have HO3 := Lib.hid (HO2.out.below hb3)
  clear hb3 HB2 HK2 HR2 HO2 HX2 HF2
  obtain ⟨⟨vn0, q, e⟩, hg⟩ : ∃ y, getB 1099511627776 (bs.drop p2) = y := ⟨_, rfl⟩
  have hpn : p2 ≤ n := hp
  have HG := Lib.hid (refgetnum_any w.heap.size c n p2 1099511627775 A bs w3 HR3.out HN.out (by omega))
  rw [show getB (1099511627775 + 1) (bs.drop p2) = (vn0, q, e) from hg] at HG
  unfold At3 three at HG
  simp only at HG
  rcases Decidable.em (e = 0) with he | he
  rotate_left
  · have HFE : Hid (RM = (msgP0, e)) := Lib.hid (HF3.out.trans (fldS_err Qn.out hg he))
    have hne : (e == 0) = false := by simpa using he
    have hne2 : (e != 0) = true := by simpa using he
    clear hg he
    go_wp2_with fail
    refine HG.out.mono ?_
    rintro e5 w5 ⟨rfl, rfl⟩
    have HB5 := HB3
    have HK5 := HK3
    have HR5 := HR3
    have HO5 := HO3
    have m5 : w3.cell? ⟨P, 5, none⟩ = some (.int .i64 x2.n) := HO5.out.blk.cell 5
    have z5 : w3.frozen? ⟨P, 5, none⟩ = false := HO5.out.blk.frozen 5
    have HSG : Hid (w3.grownBy (w3.setCell ⟨P, 5, none⟩ (.int .i64 vn0)) (some P)) := Lib.hid (grown_set _ P 5 (.int .i64 vn0))
    have HK6 : Hid (Blk (w3.setCell ⟨P, 5, none⟩ (.int .i64 vn0)) w.heap.size 34 #[.int .i64 0, .int .i64 0, .int .i64 0, .int .i64 0, .int .i64 0, .int .i64 0, .bool false, .string ⟨#[]⟩, .int .i64 0, .int .i64 0, .int .i64 0, .bool false, .slice none 0 0, .slice none 0 0, .slice none 0 0, .int .i64 0, .int .i64 0]) := Lib.hid (HK5.out.grown HSG.out (fun e => by injection e with e; omega))
    have HB6 : Hid (Below w.heap.size w (w3.setCell ⟨P, 5, none⟩ (.int .i64 vn0))) := Lib.hid (HB5.out.grown HSG.out HB5.out.size fun g hg => by cases hg; omega)
    clear HG HX3 HF3 HK5 HR5 HO5 HSG 
    go_upto_region 4 with fail
    obtain ⟨w6, hw6⟩ : ∃ W, (w3.setCell ⟨P, 5, none⟩ (.int .i64 vn0)) = W := ⟨_, rfl⟩
    rw [hw6] at HK6 HB6
    simp only [hw6]
    clear hw6 m5 z5
    go_wp2_with (refine wpList_store_box rfl 34 _ _ rfl w.heap.size 34 #[.int .i64 0, .int .i64 0, .int .i64 0, .int .i64 0, .int .i64 0, .int .i64 0, .bool false, .string ⟨#[]⟩, .int .i64 0, .int .i64 0, .int .i64 0, .bool false, .slice none 0 0, .slice none 0 0, .slice none 0 0, .int .i64 0, .int .i64 0] #[.int .i64 0, .int .i64 0, .int .i64 0, .int .i64 0, .int .i64 0, .int .i64 0, .bool false, .string ⟨#[]⟩, .int .i64 0, .int .i64 0, .int .i64 0, .bool false, .slice none 0 0, .slice none 0 0, .slice none 0 0, .int .i64 0, .int .i64 0] HK6.out rfl rfl rfl (by kernel_rfl) (by kernel_rfl) ?_)
    intro wz hkz hgz
    have HKz := Lib.hid hkz
    have HBz := Lib.hid (HB6.out.grown hgz HB6.out.size fun g hg => by cases hg; exact Nat.le_refl _)
    clear hkz hgz
    go_wp2
    exact bodyPost_ret (v := .tuple #[.agg #[.int .i64 0, .int .i64 0, .int .i64 0, .int .i64 0, .int .i64 0, .int .i64 0, .bool false, .string ⟨#[]⟩, .int .i64 0, .int .i64 0, .int .i64 0, .bool false, .slice none 0 0, .slice none 0 0, .slice none 0 0, .int .i64 0, .int .i64 0], .int .i64 e]) (results_cell_row2 (p := 2) (q := 3) (ty := 34) Tryd.results18 _ _ w.heap.size 34 #[.int .i64 0, .int .i64 0, .int .i64 0, .int .i64 0, .int .i64 0, .int .i64 0, .bool false, .string ⟨#[]⟩, .int .i64 0, .int .i64 0, .int .i64 0, .bool false, .slice none 0 0, .slice none 0 0, .slice none 0 0, .int .i64 0, .int .i64 0] (0, 0) _ rfl HKz.out Tryd.underlying34 rfl (by kernel_rfl)) rfl ⟨zMV, by rw [HFE.out]; rfl, by rw [HFE.out]; rfl, zMV_m _, HBz.out⟩
  subst he
  have hqn := ((goodB 1099511627776 (by decide)).back _ _ _ hg).2.1
  rw [List.length_drop] at hqn
  have hqn2 : p2 + q ≤ n := by have := HN.out; omega
  clear hqn
  have HGG := Lib.hid hg
  obtain ⟨p4, hpp⟩ : ∃ y, p2 + q = y := ⟨_, rfl⟩
  rw [hpp] at hqn2 HG
  have HF4 : Hid (RM = fin1 n k ⟨k, f, d, ep, op, vn0, false, entP0, [], [], 0, 0⟩ p4 (bs.drop p4)) := Lib.hid (by
    have h9 := HF3.out.trans (fldS_ok Qn.out hg)
    rw [List.drop_drop, hpp] at h9
    exact h9)
  clear hg hpp
  go_wp2_with fail
  refine HG.out.mono ?_
  rintro e5 w5 ⟨rfl, rfl⟩
  have HB5 := HB3
  have HK5 := HK3
  have HR5 := HR3
  have HO5 := HO3
  have m5 : w3.cell? ⟨P, 5, none⟩ = some (.int .i64 x2.n) := HO5.out.blk.cell 5
  have z5 : w3.frozen? ⟨P, 5, none⟩ = false := HO5.out.blk.frozen 5
  have HSG : Hid (w3.grownBy (w3.setCell ⟨P, 5, none⟩ (.int .i64 vn0)) (some P)) := Lib.hid (grown_set _ P 5 (.int .i64 vn0))
  have HK6 : Hid (Blk (w3.setCell ⟨P, 5, none⟩ (.int .i64 vn0)) w.heap.size 34 #[.int .i64 0, .int .i64 0, .int .i64 0, .int .i64 0, .int .i64 0, .int .i64 0, .bool false, .string ⟨#[]⟩, .int .i64 0, .int .i64 0, .int .i64 0, .bool false, .slice none 0 0, .slice none 0 0, .slice none 0 0, .int .i64 0, .int .i64 0]) := Lib.hid (HK5.out.grown HSG.out (fun e => by injection e with e; omega))
  have HB6 : Hid (Below w.heap.size w (w3.setCell ⟨P, 5, none⟩ (.int .i64 vn0))) := Lib.hid (HB5.out.grown HSG.out HB5.out.size fun g hg => by cases hg; omega)
  obtain ⟨x4, hx6⟩ : ∃ x : MV, x = { x2 with n := vn0 } := ⟨_, rfl⟩
  have HO6 : Hid (MsgO (w3.setCell ⟨P, 5, none⟩ (.int .i64 vn0)) P x4) := Lib.hid (by
    subst hx6
    exact HO5.out.put HSG.out (by have := (HO5.out.blk.set_ 5 (.int .i64 vn0)); simpa only [List.setIfInBounds_toArray, List.set_cons_succ, List.set_cons_zero] using this) (Or.inl rfl) (Or.inl ⟨rfl, rfl, rfl⟩) (Or.inl ⟨rfl, rfl, rfl⟩))
  have HX6 : Hid (mP x4 = ⟨k, f, d, ep, op, vn0, false, entP0, [], [], 0, 0⟩) := Lib.hid (by
    have h8 : mP x4 = { mP x2 with n := vn0 } := by subst hx6; rfl
    rw [h8, HX3.out])
  have HR6 : Hid (Row (w3.setCell ⟨P, 5, none⟩ (.int .i64 vn0)) w.heap.size A (bs.map byteV)) := Lib.hid (HR5.out.grownBy HSG.out HB5.out.size fun g hg => by cases hg; omega)
  have hp4 := hqn2
  clear HG HX3 HF3 HK5 HB5 HR5 HO5 HSG HGG hx6 
  have HK4 := HK6
  have HB4 := HB6
  have HO4 := HO6
  have HX4 := HX6
  have HR4 := HR6
  clear HK6 HB6 HO6 HX6 HR6
  go_upto_region 4 with fail
  obtain ⟨W4, hw6⟩ : ∃ W, (w3.setCell ⟨P, 5, none⟩ (.int .i64 vn0)) = W := ⟨_, rfl⟩
  rw [hw6] at HK4 HB4 HO4 HR4
  simp only [hw6]
  clear hw6 m5 z5
  have hp := hp4
  clear hpn
  have hk0 : x4.kind = k := congrArg MsgP.kind HX4.out
  have d0 : W4.cell? ⟨P, 0, none⟩ = some (.int .i64 k) := by
    have := HO4.out.blk.cell 0
    rw [hk0] at this; exact this
  clear hk0
  go_wp2_with fail
  refine (HCf.out _).mono ?_
  rintro e w5 ⟨rfl, hb5⟩
  have HX5 := HX4
  have HF5 := HF4
  clear d0
  have HB5 := Lib.hid (HB4.out.trans (hb5.mono HB4.out.size))
  have HK5 := Lib.hid (HK4.out.below hb5 HK4.out.lt)
  have HR5 := Lib.hid (HR4.out.below (hb5.mono HB4.out.size))
  have HO5 := Lib.hid (HO4.out.below hb5)
  clear hb5 HB4 HK4 HR4 HO4 HX4 HF4
  obtain ⟨⟨vf0, q, e⟩, hg⟩ : ∃ y, getT (bs.drop p4) = y := ⟨_, rfl⟩
  have hpn : p4 ≤ n := hp
  have HG := Lib.hid (refgettruth_any w.heap.size c n p4 A bs w5 HR5.out HN.out (by omega))
  rw [hg] at HG
  unfold AtT at HG
  simp only at HG
  rcases Decidable.em (e = 0) with he | he
  rotate_left
  · have HFE : Hid (RM = (msgP0, e)) := Lib.hid (HF5.out.trans (fldS_err Qf.out hg he))
    have hne : (e == 0) = false := by simpa using he
    have hne2 : (e != 0) = true := by simpa using he
    clear hg he
    go_wp2_with fail
    refine HG.out.mono ?_
    rintro e5 w5 ⟨rfl, rfl⟩
    have HB5 := HB5
    have HK5 := HK5
    have HR5 := HR5
    have HO5 := HO5
    have m6 : w5.cell? ⟨P, 6, none⟩ = some (.bool x4.flag) := HO5.out.blk.cell 6
    have z6 : w5.frozen? ⟨P, 6, none⟩ = false := HO5.out.blk.frozen 6
    have HSG : Hid (w5.grownBy (w5.setCell ⟨P, 6, none⟩ (.bool vf0)) (some P)) := Lib.hid (grown_set _ P 6 (.bool vf0))
    have HK6 : Hid (Blk (w5.setCell ⟨P, 6, none⟩ (.bool vf0)) w.heap.size 34 #[.int .i64 0, .int .i64 0, .int .i64 0, .int .i64 0, .int .i64 0, .int .i64 0, .bool false, .string ⟨#[]⟩, .int .i64 0, .int .i64 0, .int .i64 0, .bool false, .slice none 0 0, .slice none 0 0, .slice none 0 0, .int .i64 0, .int .i64 0]) := Lib.hid (HK5.out.grown HSG.out (fun e => by injection e with e; omega))
    have HB6 : Hid (Below w.heap.size w (w5.setCell ⟨P, 6, none⟩ (.bool vf0))) := Lib.hid (HB5.out.grown HSG.out HB5.out.size fun g hg => by cases hg; omega)
    clear HG HX5 HF5 HK5 HR5 HO5 HSG 
    go_upto_region 6 with fail
    obtain ⟨w6, hw6⟩ : ∃ W, (w5.setCell ⟨P, 6, none⟩ (.bool vf0)) = W := ⟨_, rfl⟩
    rw [hw6] at HK6 HB6
    simp only [hw6]
    clear hw6 m6 z6
    go_wp2_with (refine wpList_store_box rfl 34 _ _ rfl w.heap.size 34 #[.int .i64 0, .int .i64 0, .int .i64 0, .int .i64 0, .int .i64 0, .int .i64 0, .bool false, .string ⟨#[]⟩, .int .i64 0, .int .i64 0, .int .i64 0, .bool false, .slice none 0 0, .slice none 0 0, .slice none 0 0, .int .i64 0, .int .i64 0] #[.int .i64 0, .int .i64 0, .int .i64 0, .int .i64 0, .int .i64 0, .int .i64 0, .bool false, .string ⟨#[]⟩, .int .i64 0, .int .i64 0, .int .i64 0, .bool false, .slice none 0 0, .slice none 0 0, .slice none 0 0, .int .i64 0, .int .i64 0] HK6.out rfl rfl rfl (by kernel_rfl) (by kernel_rfl) ?_)
    intro wz hkz hgz
    have HKz := Lib.hid hkz
    have HBz := Lib.hid (HB6.out.grown hgz HB6.out.size fun g hg => by cases hg; exact Nat.le_refl _)
    clear hkz hgz
    go_wp2
    exact bodyPost_ret (v := .tuple #[.agg #[.int .i64 0, .int .i64 0, .int .i64 0, .int .i64 0, .int .i64 0, .int .i64 0, .bool false, .string ⟨#[]⟩, .int .i64 0, .int .i64 0, .int .i64 0, .bool false, .slice none 0 0, .slice none 0 0, .slice none 0 0, .int .i64 0, .int .i64 0], .int .i64 e]) (results_cell_row2 (p := 2) (q := 3) (ty := 34) Tryd.results18 _ _ w.heap.size 34 #[.int .i64 0, .int .i64 0, .int .i64 0, .int .i64 0, .int .i64 0, .int .i64 0, .bool false, .string ⟨#[]⟩, .int .i64 0, .int .i64 0, .int .i64 0, .bool false, .slice none 0 0, .slice none 0 0, .slice none 0 0, .int .i64 0, .int .i64 0] (0, 0) _ rfl HKz.out Tryd.underlying34 rfl (by kernel_rfl)) rfl ⟨zMV, by rw [HFE.out]; rfl, by rw [HFE.out]; rfl, zMV_m _, HBz.out⟩
  subst he
  have hqn := (goodT.back _ _ _ hg).2.1
  rw [List.length_drop] at hqn
  have hqn2 : p4 + q ≤ n := by have := HN.out; omega
  clear hqn
  have HGG := Lib.hid hg
  obtain ⟨p6, hpp⟩ : ∃ y, p4 + q = y := ⟨_, rfl⟩
  rw [hpp] at hqn2 HG
  have HF6 : Hid (RM = fin2 n k ⟨k, f, d, ep, op, vn0, vf0, entP0, [], [], 0, 0⟩ p6 (bs.drop p6)) := Lib.hid (by
    have h9 := HF5.out.trans (fldS_ok Qf.out hg)
    rw [List.drop_drop, hpp] at h9
    exact h9)
  clear hg hpp
  go_wp2_with fail
  refine HG.out.mono ?_
  rintro e5 w5 ⟨rfl, rfl⟩
  have HB5 := HB5
  have HK5 := HK5
  have HR5 := HR5
  have HO5 := HO5
  have m6 : w5.cell? ⟨P, 6, none⟩ = some (.bool x4.flag) := HO5.out.blk.cell 6
  have z6 : w5.frozen? ⟨P, 6, none⟩ = false := HO5.out.blk.frozen 6
  have HSG : Hid (w5.grownBy (w5.setCell ⟨P, 6, none⟩ (.bool vf0)) (some P)) := Lib.hid (grown_set _ P 6 (.bool vf0))
  have HK6 : Hid (Blk (w5.setCell ⟨P, 6, none⟩ (.bool vf0)) w.heap.size 34 #[.int .i64 0, .int .i64 0, .int .i64 0, .int .i64 0, .int .i64 0, .int .i64 0, .bool false, .string ⟨#[]⟩, .int .i64 0, .int .i64 0, .int .i64 0, .bool false, .slice none 0 0, .slice none 0 0, .slice none 0 0, .int .i64 0, .int .i64 0]) := Lib.hid (HK5.out.grown HSG.out (fun e => by injection e with e; omega))
  have HB6 : Hid (Below w.heap.size w (w5.setCell ⟨P, 6, none⟩ (.bool vf0))) := Lib.hid (HB5.out.grown HSG.out HB5.out.size fun g hg => by cases hg; omega)
  obtain ⟨x6, hx6⟩ : ∃ x : MV, x = { x4 with flag := vf0 } := ⟨_, rfl⟩
  have HO6 : Hid (MsgO (w5.setCell ⟨P, 6, none⟩ (.bool vf0)) P x6) := Lib.hid (by
    subst hx6
    exact HO5.out.put HSG.out (by have := (HO5.out.blk.set_ 6 (.bool vf0)); simpa only [List.setIfInBounds_toArray, List.set_cons_succ, List.set_cons_zero] using this) (Or.inl rfl) (Or.inl ⟨rfl, rfl, rfl⟩) (Or.inl ⟨rfl, rfl, rfl⟩))
  have HX6 : Hid (mP x6 = ⟨k, f, d, ep, op, vn0, vf0, entP0, [], [], 0, 0⟩) := Lib.hid (by
    have h8 : mP x6 = { mP x4 with flag := vf0 } := by subst hx6; rfl
    rw [h8, HX5.out])
  have HR6 : Hid (Row (w5.setCell ⟨P, 6, none⟩ (.bool vf0)) w.heap.size A (bs.map byteV)) := Lib.hid (HR5.out.grownBy HSG.out HB5.out.size fun g hg => by cases hg; omega)
  have hp6 := hqn2
  clear HG HX5 HF5 HK5 HB5 HR5 HO5 HSG HGG hx6 
  have HK6 := HK6
  have HB6 := HB6
  have HO6 := HO6
  have HX6 := HX6
  have HR6 := HR6
  go_upto_region 6 with fail
  obtain ⟨W6, hw6⟩ : ∃ W, (w5.setCell ⟨P, 6, none⟩ (.bool vf0)) = W := ⟨_, rfl⟩
  rw [hw6] at HK6 HB6 HO6 HR6
  simp only [hw6]
  clear hw6 m6 z6
  have hp := hp6
  clear hpn
  have hk0 : x6.kind = k := congrArg MsgP.kind HX6.out
  have d0 : W6.cell? ⟨P, 0, none⟩ = some (.int .i64 k) := by
    have := HO6.out.blk.cell 0
    rw [hk0] at this; exact this
  clear hk0
  go_wp2_with fail
  refine (HCe.out _).mono ?_
  rintro e w7 ⟨rfl, hb7⟩
  have HX7 := HX6
  have HF7 := HF6
  clear d0
  have HB7 := Lib.hid (HB6.out.trans (hb7.mono HB6.out.size))
  have HK7 := Lib.hid (HK6.out.below hb7 HK6.out.lt)
  have HR7 := Lib.hid (HR6.out.below (hb7.mono HB6.out.size))
  have HO7 := Lib.hid (HO6.out.below hb7)
  clear hb7 HB6 HK6 HR6 HO6 HX6 HF6
  have HF8 : Hid (RM = fin3 n k ⟨k, f, d, ep, op, vn0, vf0, entP0, [], [], 0, 0⟩ p6 (bs.drop p6)) := Lib.hid (HF7.out.trans (fldS_no Qe.out))
  have HB8 := HB7
  have HK8 := HK7
  have HR8 := HR7
  have HO8 := HO7
  have HX8 := HX7
  clear HB7 HK7 HR7 HO7 HX7 HF7
  have hk0 : x6.kind = k := congrArg MsgP.kind HX8.out
  have d0 : w7.cell? ⟨P, 0, none⟩ = some (.int .i64 k) := by
    have := HO8.out.blk.cell 0
    rw [hk0] at this; exact this
  clear hk0
  go_wp2_with fail
  refine (HCl.out _).mono ?_
  rintro e w9 ⟨rfl, hb9⟩
  have HX9 := HX8
  have HF9 := HF8
  clear d0
  have HB9 := Lib.hid (HB8.out.trans (hb9.mono HB8.out.size))
  have HK9 := Lib.hid (HK8.out.below hb9 HK8.out.lt)
  have HR9 := Lib.hid (HR8.out.below (hb9.mono HB8.out.size))
  have HO9 := Lib.hid (HO8.out.below hb9)
  clear hb9 HB8 HK8 HR8 HO8 HX8 HF8
  obtain ⟨⟨vl0, q, e⟩, hg⟩ : ∃ y, getL12 (bs.drop p6) = y := ⟨_, rfl⟩
  have hpn : p6 ≤ n := hp
  have HG := Lib.hid (reflist_any n c p6 A bs HN.out hl hc hpn w9 (HR9.out.more HB9.out.size))
  rcases Decidable.em (e = 0) with he | he
  rotate_left
  · have HFE : Hid (RM = (msgP0, e)) := Lib.hid (HF9.out.trans (fldS_err Ql.out hg he))
    have hne : (e == 0) = false := by simpa using he
    have hne2 : (e != 0) = true := by simpa using he
    rw [show listA p6 (bs.drop p6) = ([], p6, e) from by unfold listA; rw [hg]; exact if_neg he] at HG
    unfold ListR at HG
    simp only at HG
    clear hg he
    go_wp2_with fail
    refine HG.out.mono ?_
    rintro e5 w5 ⟨Al0, cl0, usl0, rfl, hus5, hul5, hun5, hor5, heo5, hb5⟩
    have HB5 := Lib.hid (HB9.out.trans (hb5.mono HB9.out.size))
    have HK5 := Lib.hid (HK9.out.below hb5 HK9.out.lt)
    have HR5 := Lib.hid (HR9.out.below (hb5.mono HB9.out.size))
    have HO5 := Lib.hid (HO9.out.below hb5)
    have hPw : P < w9.heap.size := HO9.out.blk.lt
    have m13 : w5.cell? ⟨P, 13, none⟩ = some (.slice x6.lA x6.l.length x6.lc) := HO5.out.blk.cell 13
    have z13 : w5.frozen? ⟨P, 13, none⟩ = false := HO5.out.blk.frozen 13
    have HSG : Hid (w5.grownBy (w5.setCell ⟨P, 13, none⟩ (.slice Al0 usl0.length cl0)) (some P)) := Lib.hid (grown_set _ P 13 (.slice Al0 usl0.length cl0))
    have HK6 : Hid (Blk (w5.setCell ⟨P, 13, none⟩ (.slice Al0 usl0.length cl0)) w.heap.size 34 #[.int .i64 0, .int .i64 0, .int .i64 0, .int .i64 0, .int .i64 0, .int .i64 0, .bool false, .string ⟨#[]⟩, .int .i64 0, .int .i64 0, .int .i64 0, .bool false, .slice none 0 0, .slice none 0 0, .slice none 0 0, .int .i64 0, .int .i64 0]) := Lib.hid (HK5.out.grown HSG.out (fun e => by injection e with e; omega))
    have HB6 : Hid (Below w.heap.size w (w5.setCell ⟨P, 13, none⟩ (.slice Al0 usl0.length cl0))) := Lib.hid (HB5.out.grown HSG.out HB5.out.size fun g hg => by cases hg; omega)
    clear HG HX9 HF9 HK5 HR5 HO5 HSG hus5 hul5 hun5 hor5 heo5 hb5 hPw
    go_upto_region 10 with fail
    obtain ⟨w6, hw6⟩ : ∃ W, (w5.setCell ⟨P, 13, none⟩ (.slice Al0 usl0.length cl0)) = W := ⟨_, rfl⟩
    rw [hw6] at HK6 HB6
    simp only [hw6]
    clear hw6 m13 z13
    go_wp2_with (refine wpList_store_box rfl 34 _ _ rfl w.heap.size 34 #[.int .i64 0, .int .i64 0, .int .i64 0, .int .i64 0, .int .i64 0, .int .i64 0, .bool false, .string ⟨#[]⟩, .int .i64 0, .int .i64 0, .int .i64 0, .bool false, .slice none 0 0, .slice none 0 0, .slice none 0 0, .int .i64 0, .int .i64 0] #[.int .i64 0, .int .i64 0, .int .i64 0, .int .i64 0, .int .i64 0, .int .i64 0, .bool false, .string ⟨#[]⟩, .int .i64 0, .int .i64 0, .int .i64 0, .bool false, .slice none 0 0, .slice none 0 0, .slice none 0 0, .int .i64 0, .int .i64 0] HK6.out rfl rfl rfl (by kernel_rfl) (by kernel_rfl) ?_)
    intro wz hkz hgz
    have HKz := Lib.hid hkz
    have HBz := Lib.hid (HB6.out.grown hgz HB6.out.size fun g hg => by cases hg; exact Nat.le_refl _)
    clear hkz hgz
    go_wp2
    exact bodyPost_ret (v := .tuple #[.agg #[.int .i64 0, .int .i64 0, .int .i64 0, .int .i64 0, .int .i64 0, .int .i64 0, .bool false, .string ⟨#[]⟩, .int .i64 0, .int .i64 0, .int .i64 0, .bool false, .slice none 0 0, .slice none 0 0, .slice none 0 0, .int .i64 0, .int .i64 0], .int .i64 e]) (results_cell_row2 (p := 2) (q := 3) (ty := 34) Tryd.results18 _ _ w.heap.size 34 #[.int .i64 0, .int .i64 0, .int .i64 0, .int .i64 0, .int .i64 0, .int .i64 0, .bool false, .string ⟨#[]⟩, .int .i64 0, .int .i64 0, .int .i64 0, .bool false, .slice none 0 0, .slice none 0 0, .slice none 0 0, .int .i64 0, .int .i64 0] (0, 0) _ rfl HKz.out Tryd.underlying34 rfl (by kernel_rfl)) rfl ⟨zMV, by rw [HFE.out]; rfl, by rw [HFE.out]; rfl, zMV_m _, HBz.out⟩
  subst he
  have hqn := (goodL.back _ _ _ hg).2.1
  rw [List.length_drop] at hqn
  have hqn2 : p6 + q ≤ n := by have := HN.out; omega
  clear hqn
  have HGG := Lib.hid hg
  rw [show listA p6 (bs.drop p6) = (vl0.2, p6 + q, 0) from by unfold listA; rw [hg]; exact if_pos rfl] at HG
  unfold ListR at HG
  simp only at HG
  obtain ⟨p10, hpp⟩ : ∃ y, p6 + q = y := ⟨_, rfl⟩
  rw [hpp] at hqn2 HG
  have HF10 : Hid (RM = fin4 n k ⟨k, f, d, ep, op, vn0, vf0, entP0, vl0.2, [], 0, 0⟩ p10 (bs.drop p10)) := Lib.hid (by
    have h9 := HF9.out.trans (fldS_ok Ql.out hg)
    rw [List.drop_drop, hpp] at h9
    exact h9)
  clear hg hpp
  go_wp2_with fail
  refine HG.out.mono ?_
  rintro e5 w5 ⟨Al0, cl0, usl0, rfl, hus5, hul5, hun5, hor5, heo5, hb5⟩
  have HB5 := Lib.hid (HB9.out.trans (hb5.mono HB9.out.size))
  have HK5 := Lib.hid (HK9.out.below hb5 HK9.out.lt)
  have HR5 := Lib.hid (HR9.out.below (hb5.mono HB9.out.size))
  have HO5 := Lib.hid (HO9.out.below hb5)
  have hPw : P < w9.heap.size := HO9.out.blk.lt
  have m13 : w5.cell? ⟨P, 13, none⟩ = some (.slice x6.lA x6.l.length x6.lc) := HO5.out.blk.cell 13
  have z13 : w5.frozen? ⟨P, 13, none⟩ = false := HO5.out.blk.frozen 13
  have HSG : Hid (w5.grownBy (w5.setCell ⟨P, 13, none⟩ (.slice Al0 usl0.length cl0)) (some P)) := Lib.hid (grown_set _ P 13 (.slice Al0 usl0.length cl0))
  have HK6 : Hid (Blk (w5.setCell ⟨P, 13, none⟩ (.slice Al0 usl0.length cl0)) w.heap.size 34 #[.int .i64 0, .int .i64 0, .int .i64 0, .int .i64 0, .int .i64 0, .int .i64 0, .bool false, .string ⟨#[]⟩, .int .i64 0, .int .i64 0, .int .i64 0, .bool false, .slice none 0 0, .slice none 0 0, .slice none 0 0, .int .i64 0, .int .i64 0]) := Lib.hid (HK5.out.grown HSG.out (fun e => by injection e with e; omega))
  have HB6 : Hid (Below w.heap.size w (w5.setCell ⟨P, 13, none⟩ (.slice Al0 usl0.length cl0))) := Lib.hid (HB5.out.grown HSG.out HB5.out.size fun g hg => by cases hg; omega)
  obtain ⟨x10, hx6⟩ : ∃ x : MV, x = { x6 with lA := Al0, l := usl0, lc := cl0 } := ⟨_, rfl⟩
  have HO6 : Hid (MsgO (w5.setCell ⟨P, 13, none⟩ (.slice Al0 usl0.length cl0)) P x10) := Lib.hid (by
    subst hx6
    exact HO5.out.put HSG.out (by have := (HO5.out.blk.set_ 13 (.slice Al0 usl0.length cl0)); simpa only [List.setIfInBounds_toArray, List.set_cons_succ, List.set_cons_zero] using this) (Or.inl rfl) (Or.inr ⟨ownBase hor5 hPw, entsO_base heo5 hPw, hul5, hun5⟩) (Or.inl ⟨rfl, rfl, rfl⟩))
  have HX6 : Hid (mP x10 = ⟨k, f, d, ep, op, vn0, vf0, entP0, vl0.2, [], 0, 0⟩) := Lib.hid (by
    have h8 : mP x10 = { mP x6 with l := vl0.2 } := by subst hx6; unfold mP; simp only [hus5]
    rw [h8, HX9.out])
  have HR6 : Hid (Row (w5.setCell ⟨P, 13, none⟩ (.slice Al0 usl0.length cl0)) w.heap.size A (bs.map byteV)) := Lib.hid (HR5.out.grownBy HSG.out HB5.out.size fun g hg => by cases hg; omega)
  have hp10 := hqn2
  clear HG HX9 HF9 HK5 HB5 HR5 HO5 HSG HGG hx6 hus5 hul5 hun5 hor5 heo5 hb5 hPw
  have HK10 := HK6
  have HB10 := HB6
  have HO10 := HO6
  have HX10 := HX6
  have HR10 := HR6
  clear HK6 HB6 HO6 HX6 HR6
  go_upto_region 10 with fail
  obtain ⟨W10, hw6⟩ : ∃ W, (w5.setCell ⟨P, 13, none⟩ (.slice Al0 usl0.length cl0)) = W := ⟨_, rfl⟩
  rw [hw6] at HK10 HB10 HO10 HR10
  simp only [hw6]
  clear hw6 m13 z13
  have hp := hp10
  clear hpn
  have hk0 : x10.kind = k := congrArg MsgP.kind HX10.out
  have d0 : W10.cell? ⟨P, 0, none⟩ = some (.int .i64 k) := by
    have := HO10.out.blk.cell 0
    rw [hk0] at this; exact this
  clear hk0
  go_wp2_with fail
  refine (HCr.out _).mono ?_
  rintro e w11 ⟨rfl, hb11⟩
  have HX11 := HX10
  have HF11 := HF10
  clear d0
  have HB11 := Lib.hid (HB10.out.trans (hb11.mono HB10.out.size))
  have HK11 := Lib.hid (HK10.out.below hb11 HK10.out.lt)
  have HR11 := Lib.hid (HR10.out.below (hb11.mono HB10.out.size))
  have HO11 := Lib.hid (HO10.out.below hb11)
  clear hb11 HB10 HK10 HR10 HO10 HX10 HF10
  have HF12 : Hid (RM = fin5 n ⟨k, f, d, ep, op, vn0, vf0, entP0, vl0.2, [], 0, 0⟩ p10) := Lib.hid (HF11.out.trans (fldS_no Qr.out))
  have HB12 := HB11
  have HK12 := HK11
  have HR12 := HR11
  have HO12 := HO11
  have HX12 := HX11
  clear HB11 HK11 HR11 HO11 HX11 HF11
  rcases Nat.lt_or_ge p10 n with hpl | hpl
  · have HFE : Hid (RM = (msgP0, 11)) := Lib.hid (HF12.out.trans (if_pos (Or.inl hpl)))
    have hpi : (p10 : Int) < (n : Int) := by omega
    clear HX12 HF12 HR12
    go_wp2_with (refine wpList_store_box rfl 34 _ _ rfl w.heap.size 34 #[.int .i64 0, .int .i64 0, .int .i64 0, .int .i64 0, .int .i64 0, .int .i64 0, .bool false, .string ⟨#[]⟩, .int .i64 0, .int .i64 0, .int .i64 0, .bool false, .slice none 0 0, .slice none 0 0, .slice none 0 0, .int .i64 0, .int .i64 0] #[.int .i64 0, .int .i64 0, .int .i64 0, .int .i64 0, .int .i64 0, .int .i64 0, .bool false, .string ⟨#[]⟩, .int .i64 0, .int .i64 0, .int .i64 0, .bool false, .slice none 0 0, .slice none 0 0, .slice none 0 0, .int .i64 0, .int .i64 0] HK12.out rfl rfl rfl (by kernel_rfl) (by kernel_rfl) ?_)
    intro wz hkz hgz
    have HKz := Lib.hid hkz
    have HBz := Lib.hid (HB12.out.grown hgz HB12.out.size fun g hg => by cases hg; exact Nat.le_refl _)
    clear hkz hgz
    go_wp2
    exact bodyPost_ret (v := .tuple #[.agg #[.int .i64 0, .int .i64 0, .int .i64 0, .int .i64 0, .int .i64 0, .int .i64 0, .bool false, .string ⟨#[]⟩, .int .i64 0, .int .i64 0, .int .i64 0, .bool false, .slice none 0 0, .slice none 0 0, .slice none 0 0, .int .i64 0, .int .i64 0], .int .i64 11]) (results_cell_row2 (p := 2) (q := 3) (ty := 34) Tryd.results18 _ _ w.heap.size 34 #[.int .i64 0, .int .i64 0, .int .i64 0, .int .i64 0, .int .i64 0, .int .i64 0, .bool false, .string ⟨#[]⟩, .int .i64 0, .int .i64 0, .int .i64 0, .bool false, .slice none 0 0, .slice none 0 0, .slice none 0 0, .int .i64 0, .int .i64 0] (0, 0) _ rfl HKz.out Tryd.underlying34 rfl (by kernel_rfl)) rfl ⟨zMV, by rw [HFE.out]; rfl, by rw [HFE.out]; rfl, zMV_m _, HBz.out⟩
  have hpi : ¬ ((p10 : Int) < (n : Int)) := by omega
  rcases Bool.eq_false_or_eq_true (okM ⟨k, f, d, ep, op, vn0, vf0, entP0, vl0.2, [], 0, 0⟩) with hok | hok
  · have HFE : Hid (RM = (⟨k, f, d, ep, op, vn0, vf0, entP0, vl0.2, [], 0, 0⟩, 0)) := Lib.hid (HF12.out.trans (if_neg (by rw [hok]; simp; omega)))
    have HCK := Lib.hid (refcheck12 x10 w11 HO12.out.msgM)
    rw [show checkM (mP x10) = 0 from by rw [HX12.out]; unfold checkM; rw [hok]; rfl] at HCK
    clear HF12 HR12 hok
    have hxc := HO12.out.blk
    have l0 : w11.cell? ⟨P, 0, none⟩ = some (.int .i64 x10.kind) := hxc.cell 0
    have l1 : w11.cell? ⟨P, 1, none⟩ = some (.int .i64 x10.fr) := hxc.cell 1
    have l2 : w11.cell? ⟨P, 2, none⟩ = some (.int .i64 x10.dst) := hxc.cell 2
    have l3 : w11.cell? ⟨P, 3, none⟩ = some (.int .i64 x10.ep) := hxc.cell 3
    have l4 : w11.cell? ⟨P, 4, none⟩ = some (.int .i64 x10.op) := hxc.cell 4
    have l5 : w11.cell? ⟨P, 5, none⟩ = some (.int .i64 x10.n) := hxc.cell 5
    have l6 : w11.cell? ⟨P, 6, none⟩ = some (.bool x10.flag) := hxc.cell 6
    have l7 : w11.cell? ⟨P, 7, none⟩ = some (.string ⟨x10.e.1.k.toArray⟩) := hxc.cell 7
    have l8 : w11.cell? ⟨P, 8, none⟩ = some (.int .i64 x10.e.1.s) := hxc.cell 8
    have l9 : w11.cell? ⟨P, 9, none⟩ = some (.int .i64 x10.e.1.u) := hxc.cell 9
    have l10 : w11.cell? ⟨P, 10, none⟩ = some (.int .i64 x10.e.1.o) := hxc.cell 10
    have l11 : w11.cell? ⟨P, 11, none⟩ = some (.bool x10.e.1.has) := hxc.cell 11
    have l12 : w11.cell? ⟨P, 12, none⟩ = some (.slice x10.e.2.1 x10.e.1.v.length x10.e.2.2) := hxc.cell 12
    have l13 : w11.cell? ⟨P, 13, none⟩ = some (.slice x10.lA x10.l.length x10.lc) := hxc.cell 13
    have l14 : w11.cell? ⟨P, 14, none⟩ = some (.slice x10.rA x10.ns.length x10.rc) := hxc.cell 14
    have l15 : w11.cell? ⟨P, 15, none⟩ = some (.int .i64 x10.each) := hxc.cell 15
    have l16 : w11.cell? ⟨P, 16, none⟩ = some (.int .i64 x10.keep) := hxc.cell 16
    clear hxc
    go_wp2_with fail
    refine HCK.out.mono ?_
    rintro e w8 ⟨rfl, hb8⟩
    have HB8 := Lib.hid (HB12.out.trans (hb8.mono HB12.out.size))
    have HK8 := Lib.hid (HK12.out.below hb8 HK12.out.lt)
    have HO8 := Lib.hid (HO12.out.below hb8)
    clear hb8 HCK HB12 HK12 HO12 l0 l1 l2 l3 l4 l5 l6 l7 l8 l9 l10 l11 l12 l13 l14 l15 l16
    go_wp2_with (first | (refine wpList_load_row rfl 34 _ rfl _ rfl _ _ _ _ (show _ = _ from HO8.out.blk) Tryd.underlying34 rfl (by kernel_rfl) ?_) | (refine wpList_store_box rfl 34 _ _ rfl w.heap.size 34 #[.int .i64 0, .int .i64 0, .int .i64 0, .int .i64 0, .int .i64 0, .int .i64 0, .bool false, .string ⟨#[]⟩, .int .i64 0, .int .i64 0, .int .i64 0, .bool false, .slice none 0 0, .slice none 0 0, .slice none 0 0, .int .i64 0, .int .i64 0] #[.int .i64 x10.kind, .int .i64 x10.fr, .int .i64 x10.dst, .int .i64 x10.ep, .int .i64 x10.op, .int .i64 x10.n, .bool x10.flag, .string ⟨x10.e.1.k.toArray⟩, .int .i64 x10.e.1.s, .int .i64 x10.e.1.u, .int .i64 x10.e.1.o, .bool x10.e.1.has, .slice x10.e.2.1 x10.e.1.v.length x10.e.2.2, .slice x10.lA x10.l.length x10.lc, .slice x10.rA x10.ns.length x10.rc, .int .i64 x10.each, .int .i64 x10.keep] HK8.out rfl rfl rfl (by kernel_rfl) (by kernel_rfl) ?_))
    intro wz hkz hgz
    have HKz := Lib.hid hkz
    have HOz := Lib.hid (HO8.out.grown hgz hgP)
    have HBz := Lib.hid (HB8.out.grown hgz HB8.out.size fun g hg => by cases hg; exact Nat.le_refl _)
    clear hkz hgz
    go_wp2
    exact bodyPost_ret (v := .tuple #[.agg #[.int .i64 x10.kind, .int .i64 x10.fr, .int .i64 x10.dst, .int .i64 x10.ep, .int .i64 x10.op, .int .i64 x10.n, .bool x10.flag, .string ⟨x10.e.1.k.toArray⟩, .int .i64 x10.e.1.s, .int .i64 x10.e.1.u, .int .i64 x10.e.1.o, .bool x10.e.1.has, .slice x10.e.2.1 x10.e.1.v.length x10.e.2.2, .slice x10.lA x10.l.length x10.lc, .slice x10.rA x10.ns.length x10.rc, .int .i64 x10.each, .int .i64 x10.keep], .int .i64 0]) (results_cell_row2 (p := 2) (q := 3) (ty := 34) Tryd.results18 _ _ w.heap.size 34 #[.int .i64 x10.kind, .int .i64 x10.fr, .int .i64 x10.dst, .int .i64 x10.ep, .int .i64 x10.op, .int .i64 x10.n, .bool x10.flag, .string ⟨x10.e.1.k.toArray⟩, .int .i64 x10.e.1.s, .int .i64 x10.e.1.u, .int .i64 x10.e.1.o, .bool x10.e.1.has, .slice x10.e.2.1 x10.e.1.v.length x10.e.2.2, .slice x10.lA x10.l.length x10.lc, .slice x10.rA x10.ns.length x10.rc, .int .i64 x10.each, .int .i64 x10.keep] (0, 0) _ rfl HKz.out Tryd.underlying34 rfl (by kernel_rfl)) rfl ⟨x10, by rw [HFE.out], by rw [HFE.out]; exact HX12.out, HOz.out.msgM, HBz.out⟩
  · have HFE : Hid (RM = (msgP0, 11)) := Lib.hid (HF12.out.trans (if_pos (Or.inr hok)))
    have HCK := Lib.hid (refcheck12 x10 w11 HO12.out.msgM)
    rw [show checkM (mP x10) = 2 from by rw [HX12.out]; exact checkM_no hok] at HCK
    clear HX12 HF12 HR12 hok
    have hxc := HO12.out.blk
    have l0 : w11.cell? ⟨P, 0, none⟩ = some (.int .i64 x10.kind) := hxc.cell 0
    have l1 : w11.cell? ⟨P, 1, none⟩ = some (.int .i64 x10.fr) := hxc.cell 1
    have l2 : w11.cell? ⟨P, 2, none⟩ = some (.int .i64 x10.dst) := hxc.cell 2
    have l3 : w11.cell? ⟨P, 3, none⟩ = some (.int .i64 x10.ep) := hxc.cell 3
    have l4 : w11.cell? ⟨P, 4, none⟩ = some (.int .i64 x10.op) := hxc.cell 4
    have l5 : w11.cell? ⟨P, 5, none⟩ = some (.int .i64 x10.n) := hxc.cell 5
    have l6 : w11.cell? ⟨P, 6, none⟩ = some (.bool x10.flag) := hxc.cell 6
    have l7 : w11.cell? ⟨P, 7, none⟩ = some (.string ⟨x10.e.1.k.toArray⟩) := hxc.cell 7
    have l8 : w11.cell? ⟨P, 8, none⟩ = some (.int .i64 x10.e.1.s) := hxc.cell 8
    have l9 : w11.cell? ⟨P, 9, none⟩ = some (.int .i64 x10.e.1.u) := hxc.cell 9
    have l10 : w11.cell? ⟨P, 10, none⟩ = some (.int .i64 x10.e.1.o) := hxc.cell 10
    have l11 : w11.cell? ⟨P, 11, none⟩ = some (.bool x10.e.1.has) := hxc.cell 11
    have l12 : w11.cell? ⟨P, 12, none⟩ = some (.slice x10.e.2.1 x10.e.1.v.length x10.e.2.2) := hxc.cell 12
    have l13 : w11.cell? ⟨P, 13, none⟩ = some (.slice x10.lA x10.l.length x10.lc) := hxc.cell 13
    have l14 : w11.cell? ⟨P, 14, none⟩ = some (.slice x10.rA x10.ns.length x10.rc) := hxc.cell 14
    have l15 : w11.cell? ⟨P, 15, none⟩ = some (.int .i64 x10.each) := hxc.cell 15
    have l16 : w11.cell? ⟨P, 16, none⟩ = some (.int .i64 x10.keep) := hxc.cell 16
    clear hxc
    go_wp2_with fail
    refine HCK.out.mono ?_
    rintro e w8 ⟨rfl, hb8⟩
    have HB8 := Lib.hid (HB12.out.trans (hb8.mono HB12.out.size))
    have HK8 := Lib.hid (HK12.out.below hb8 HK12.out.lt)
    have HO8 := Lib.hid (HO12.out.below hb8)
    clear hb8 HCK HB12 HK12 HO12 l0 l1 l2 l3 l4 l5 l6 l7 l8 l9 l10 l11 l12 l13 l14 l15 l16
    go_wp2_with (refine wpList_store_box rfl 34 _ _ rfl w.heap.size 34 #[.int .i64 0, .int .i64 0, .int .i64 0, .int .i64 0, .int .i64 0, .int .i64 0, .bool false, .string ⟨#[]⟩, .int .i64 0, .int .i64 0, .int .i64 0, .bool false, .slice none 0 0, .slice none 0 0, .slice none 0 0, .int .i64 0, .int .i64 0] #[.int .i64 0, .int .i64 0, .int .i64 0, .int .i64 0, .int .i64 0, .int .i64 0, .bool false, .string ⟨#[]⟩, .int .i64 0, .int .i64 0, .int .i64 0, .bool false, .slice none 0 0, .slice none 0 0, .slice none 0 0, .int .i64 0, .int .i64 0] HK8.out rfl rfl rfl (by kernel_rfl) (by kernel_rfl) ?_)
    intro wz hkz hgz
    have HKz := Lib.hid hkz
    have HBz := Lib.hid (HB8.out.grown hgz HB8.out.size fun g hg => by cases hg; exact Nat.le_refl _)
    clear hkz hgz
    go_wp2
    exact bodyPost_ret (v := .tuple #[.agg #[.int .i64 0, .int .i64 0, .int .i64 0, .int .i64 0, .int .i64 0, .int .i64 0, .bool false, .string ⟨#[]⟩, .int .i64 0, .int .i64 0, .int .i64 0, .bool false, .slice none 0 0, .slice none 0 0, .slice none 0 0, .int .i64 0, .int .i64 0], .int .i64 11]) (results_cell_row2 (p := 2) (q := 3) (ty := 34) Tryd.results18 _ _ w.heap.size 34 #[.int .i64 0, .int .i64 0, .int .i64 0, .int .i64 0, .int .i64 0, .int .i64 0, .bool false, .string ⟨#[]⟩, .int .i64 0, .int .i64 0, .int .i64 0, .bool false, .slice none 0 0, .slice none 0 0, .slice none 0 0, .int .i64 0, .int .i64 0] (0, 0) _ rfl HKz.out Tryd.underlying34 rfl (by kernel_rfl)) rfl ⟨zMV, by rw [HFE.out]; rfl, by rw [HFE.out]; rfl, zMV_m _, HBz.out⟩
end Go.Proofs.YtfamklplhdnaiaaDoor
