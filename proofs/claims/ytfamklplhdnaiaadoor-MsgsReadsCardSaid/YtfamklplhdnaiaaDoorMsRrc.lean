/- MsRrc: The reference's Read of a message, by the fields that its kind has: r, nfe. -/
import Derived.Test.YtfamklplhdnaiaaDoorMsRd
import Derived.Test.YtfamklplhdnaiaaDoorMsCk
import Derived.Test.YtfamklplhdnaiaaDoorMsRq
namespace Go.Proofs.YtfamklplhdnaiaaDoor
open Go.RowKit Mem Be Rg
set_option maxRecDepth 100000
set_option maxHeartbeats 16000000
set_option linter.unusedVariables false
set_option linter.unusedSimpArgs false
theorem refread12_r (n c : Nat) (A : Option Addr) (bs : List UInt8) (hn : n = bs.length) (hl : n ≤ 1000000) (hc : n ≤ c) (w : World) (h : Row w w.heap.size A (bs.map byteV)) {k f d ep op : Int} {p2 : Nat} (hp2 : p2 ≤ n)
    (HCH : Hid (∀ W, Row W w.heap.size A (bs.map byteV) → w.heap.size ≤ W.heap.size → Calls Tryd.prog 66 #[.slice A n c] W (HeadY k f d ep op p2 W)))
    (HF : Hid (readM bs = fin0 n k ⟨k, f, d, ep, op, 0, false, entP0, [], [], 0, 0⟩ p2 (bs.drop p2))) (qn : hasN k = false) (qf : hasF k = false) (qe : hasE k = false) (ql : hasL k = false) (qr : hasR k = true) :
    Calls Tryd.prog 18 #[.slice A n c] w (ReadMP (readM bs) w) := by
  have hb0 : Below w.heap.size w (w.alloc (.cells #[.int .i64 0, .int .i64 0, .int .i64 0, .int .i64 0, .int .i64 0, .int .i64 0, .bool false, .string ⟨#[]⟩, .int .i64 0, .int .i64 0, .int .i64 0, .bool false, .slice none 0 0, .slice none 0 0, .slice none 0 0, .int .i64 0, .int .i64 0] 34)) := (Below.refl _ _).alloc (Nat.le_refl _) _
  have HK0 := Lib.hid (Blk.new w 34 #[.int .i64 0, .int .i64 0, .int .i64 0, .int .i64 0, .int .i64 0, .int .i64 0, .bool false, .string ⟨#[]⟩, .int .i64 0, .int .i64 0, .int .i64 0, .bool false, .slice none 0 0, .slice none 0 0, .slice none 0 0, .int .i64 0, .int .i64 0])
  have hr0 := h.alloc (Nat.le_refl _) (.cells #[.int .i64 0, .int .i64 0, .int .i64 0, .int .i64 0, .int .i64 0, .int .i64 0, .bool false, .string ⟨#[]⟩, .int .i64 0, .int .i64 0, .int .i64 0, .bool false, .slice none 0 0, .slice none 0 0, .slice none 0 0, .int .i64 0, .int .i64 0] 34)
  obtain ⟨W, hW⟩ : ∃ W, w.alloc (.cells #[.int .i64 0, .int .i64 0, .int .i64 0, .int .i64 0, .int .i64 0, .int .i64 0, .bool false, .string ⟨#[]⟩, .int .i64 0, .int .i64 0, .int .i64 0, .bool false, .slice none 0 0, .slice none 0 0, .slice none 0 0, .int .i64 0, .int .i64 0] 34) = W := ⟨_, rfl⟩
  rw [hW] at HK0 hb0 hr0
  have HC1 := Lib.hid (HCH.out W hr0 hb0.size)
  have HR0 := Lib.hid hr0
  have HB0 := Lib.hid hb0
  have HN := Lib.hid hn
  obtain ⟨RM, hRM⟩ : ∃ r, readM bs = r := ⟨_, rfl⟩
  rw [hRM] at HF ⊢
  have HCn := Lib.hid fun W' => rhasN_any k W'
  rw [qn] at HCn
  have Qn := Lib.hid qn
  have HCf := Lib.hid fun W' => rhasF_any k W'
  rw [qf] at HCf
  have Qf := Lib.hid qf
  have HCe := Lib.hid fun W' => rhasE_any k W'
  rw [qe] at HCe
  have Qe := Lib.hid qe
  have HCl := Lib.hid fun W' => rhasL_any k W'
  rw [ql] at HCl
  have Ql := Lib.hid ql
  have HCr := Lib.hid fun W' => rhasR_any k W'
  rw [qr] at HCr
  have Qr := Lib.hid qr
  clear h hb0 hr0 hn hRM HCH qn qf qe ql qr
  go_enter Tryd.func18, Tryd.ntmps18
  go_wp2_with fail
  refine HC1.out.mono ?_
  rintro e w1 ⟨rfl, hb1⟩
  have HB1 := Lib.hid (HB0.out.trans (hb1.mono HB0.out.size))
  have HK1 := Lib.hid (HK0.out.below hb1 HK0.out.lt)
  have HR1 := Lib.hid (HR0.out.below (hb1.mono HB0.out.size))
  clear hb1 HB0 HK0 HR0 HC1 hW
  go_upto_region 2 with (refine wpList_boxM rfl rfl _ rfl 34 #[.int .i64 0, .int .i64 0, .int .i64 0, .int .i64 0, .int .i64 0, .int .i64 0, .bool false, .string ⟨#[]⟩, .int .i64 0, .int .i64 0, .int .i64 0, .bool false, .slice none 0 0, .slice none 0 0, .slice none 0 0, .int .i64 0, .int .i64 0] (by kernel_rfl) _ _ rfl #[.int .i64 k, .int .i64 f, .int .i64 d, .int .i64 ep, .int .i64 op, .int .i64 0, .bool false, .string ⟨#[]⟩, .int .i64 0, .int .i64 0, .int .i64 0, .bool false, .slice none 0 0, .slice none 0 0, .slice none 0 0, .int .i64 0, .int .i64 0] rfl rfl rfl (by kernel_rfl) (by kernel_rfl) ?_)
  have hal : Below w1.heap.size w1 (w1.alloc (.cells #[.int .i64 k, .int .i64 f, .int .i64 d, .int .i64 ep, .int .i64 op, .int .i64 0, .bool false, .string ⟨#[]⟩, .int .i64 0, .int .i64 0, .int .i64 0, .bool false, .slice none 0 0, .slice none 0 0, .slice none 0 0, .int .i64 0, .int .i64 0] 34)) := (Below.refl _ _).alloc (Nat.le_refl _) _
  have hbk := Blk.new w1 34 #[.int .i64 k, .int .i64 f, .int .i64 d, .int .i64 ep, .int .i64 op, .int .i64 0, .bool false, .string ⟨#[]⟩, .int .i64 0, .int .i64 0, .int .i64 0, .bool false, .slice none 0 0, .slice none 0 0, .slice none 0 0, .int .i64 0, .int .i64 0]
  obtain ⟨V, hV⟩ : ∃ V, w1.alloc (.cells #[.int .i64 k, .int .i64 f, .int .i64 d, .int .i64 ep, .int .i64 op, .int .i64 0, .bool false, .string ⟨#[]⟩, .int .i64 0, .int .i64 0, .int .i64 0, .bool false, .slice none 0 0, .slice none 0 0, .slice none 0 0, .int .i64 0, .int .i64 0] 34) = V := ⟨_, rfl⟩
  obtain ⟨P, hP⟩ : ∃ p, w1.heap.size = p := ⟨_, rfl⟩
  rw [hV] at hal hbk
  have hgP : w.heap.size < P := by rw [← hP]; exact HK1.out.lt
  have HB2 := Lib.hid (HB1.out.trans (hal.mono HB1.out.size))
  have HK2 := Lib.hid (HK1.out.below hal HK1.out.lt)
  have HR2 := Lib.hid (HR1.out.below (hal.mono HB1.out.size))
  rw [hP] at hbk
  simp only [hV, hP]
  obtain ⟨x2, hx2⟩ : ∃ x : MV, x = ⟨k, f, d, ep, op, 0, false, (⟨[], 0, 0, 0, false, []⟩, none, 0), none, [], 0, none, [], 0, 0, 0⟩ := ⟨_, rfl⟩
  have hO : MsgO V P x2 := by
    subst hx2
    exact ⟨hbk, World.ownsRow_nil _ _ _ _, World.ownsRow_nil _ _ _ _, entsO_nil _ _, World.ownsRow_nil _ _ _ _, by simp, by simp, by simp⟩
  have HO2 := Lib.hid hO
  have HX2 : Hid (mP x2 = ⟨k, f, d, ep, op, 0, false, entP0, [], [], 0, 0⟩) := Lib.hid (by subst hx2; rfl)
  have HF2 := HF
  have hp := hp2
  clear hal hbk hO hx2 HB1 HK1 HR1 HF hV hP
  have hk0 : x2.kind = k := congrArg MsgP.kind HX2.out
  have d0 : V.cell? ⟨P, 0, none⟩ = some (.int .i64 k) := by
    have := HO2.out.blk.cell 0
    rw [hk0] at this; exact this
  clear hk0
  go_wp2_with fail
  refine (HCn.out _).mono ?_
  rintro e w3 ⟨rfl, hb3⟩
  have HX3 := HX2
  have HF3 := HF2
  clear d0
  have HB3 := Lib.hid (HB2.out.trans (hb3.mono HB2.out.size))
  have HK3 := Lib.hid (HK2.out.below hb3 HK2.out.lt)
  have HR3 := Lib.hid (HR2.out.below (hb3.mono HB2.out.size))
  have HO3 := Lib.hid (HO2.out.below hb3)
  clear hb3 HB2 HK2 HR2 HO2 HX2 HF2
  have HF4 : Hid (RM = fin1 n k ⟨k, f, d, ep, op, 0, false, entP0, [], [], 0, 0⟩ p2 (bs.drop p2)) := Lib.hid (HF3.out.trans (fldS_no Qn.out))
  have HB4 := HB3
  have HK4 := HK3
  have HR4 := HR3
  have HO4 := HO3
  have HX4 := HX3
  clear HB3 HK3 HR3 HO3 HX3 HF3
  have hk0 : x2.kind = k := congrArg MsgP.kind HX4.out
  have d0 : w3.cell? ⟨P, 0, none⟩ = some (.int .i64 k) := by
    have := HO4.out.blk.cell 0
    rw [hk0] at this; exact this
  clear hk0
  go_wp2_with fail
  refine (HCf.out _).mono ?_
  rintro e w5 ⟨rfl, hb5⟩
  have HX5 := HX4
  have HF5 := HF4
  clear d0
  have HB5 := Lib.hid (HB4.out.trans (hb5.mono HB4.out.size))
  have HK5 := Lib.hid (HK4.out.below hb5 HK4.out.lt)
  have HR5 := Lib.hid (HR4.out.below (hb5.mono HB4.out.size))
  have HO5 := Lib.hid (HO4.out.below hb5)
  clear hb5 HB4 HK4 HR4 HO4 HX4 HF4
  have HF6 : Hid (RM = fin2 n k ⟨k, f, d, ep, op, 0, false, entP0, [], [], 0, 0⟩ p2 (bs.drop p2)) := Lib.hid (HF5.out.trans (fldS_no Qf.out))
  have HB6 := HB5
  have HK6 := HK5
  have HR6 := HR5
  have HO6 := HO5
  have HX6 := HX5
  clear HB5 HK5 HR5 HO5 HX5 HF5
  have hk0 : x2.kind = k := congrArg MsgP.kind HX6.out
  have d0 : w5.cell? ⟨P, 0, none⟩ = some (.int .i64 k) := by
    have := HO6.out.blk.cell 0
    rw [hk0] at this; exact this
  clear hk0
  go_wp2_with fail
  refine (HCe.out _).mono ?_
  rintro e w7 ⟨rfl, hb7⟩
  have HX7 := HX6
  have HF7 := HF6
  clear d0
  have HB7 := Lib.hid (HB6.out.trans (hb7.mono HB6.out.size))
  have HK7 := Lib.hid (HK6.out.below hb7 HK6.out.lt)
  have HR7 := Lib.hid (HR6.out.below (hb7.mono HB6.out.size))
  have HO7 := Lib.hid (HO6.out.below hb7)
  clear hb7 HB6 HK6 HR6 HO6 HX6 HF6
  have HF8 : Hid (RM = fin3 n k ⟨k, f, d, ep, op, 0, false, entP0, [], [], 0, 0⟩ p2 (bs.drop p2)) := Lib.hid (HF7.out.trans (fldS_no Qe.out))
  have HB8 := HB7
  have HK8 := HK7
  have HR8 := HR7
  have HO8 := HO7
  have HX8 := HX7
  clear HB7 HK7 HR7 HO7 HX7 HF7
  have hk0 : x2.kind = k := congrArg MsgP.kind HX8.out
  have d0 : w7.cell? ⟨P, 0, none⟩ = some (.int .i64 k) := by
    have := HO8.out.blk.cell 0
    rw [hk0] at this; exact this
  clear hk0
  go_wp2_with fail
  refine (HCl.out _).mono ?_
  rintro e w9 ⟨rfl, hb9⟩
  have HX9 := HX8
  have HF9 := HF8
  clear d0
  have HB9 := Lib.hid (HB8.out.trans (hb9.mono HB8.out.size))
  have HK9 := Lib.hid (HK8.out.below hb9 HK8.out.lt)
  have HR9 := Lib.hid (HR8.out.below (hb9.mono HB8.out.size))
  have HO9 := Lib.hid (HO8.out.below hb9)
  clear hb9 HB8 HK8 HR8 HO8 HX8 HF8
  have HF10 : Hid (RM = fin4 n k ⟨k, f, d, ep, op, 0, false, entP0, [], [], 0, 0⟩ p2 (bs.drop p2)) := Lib.hid (HF9.out.trans (fldS_no Ql.out))
  have HB10 := HB9
  have HK10 := HK9
  have HR10 := HR9
  have HO10 := HO9
  have HX10 := HX9
  clear HB9 HK9 HR9 HO9 HX9 HF9
  have hk0 : x2.kind = k := congrArg MsgP.kind HX10.out
  have d0 : w9.cell? ⟨P, 0, none⟩ = some (.int .i64 k) := by
    have := HO10.out.blk.cell 0
    rw [hk0] at this; exact this
  clear hk0
  go_wp2_with fail
  refine (HCr.out _).mono ?_
  rintro e w11 ⟨rfl, hb11⟩
  have HX11 := HX10
  have HF11 := HF10
  clear d0
  have HB11 := Lib.hid (HB10.out.trans (hb11.mono HB10.out.size))
  have HK11 := Lib.hid (HK10.out.below hb11 HK10.out.lt)
  have HR11 := Lib.hid (HR10.out.below (hb11.mono HB10.out.size))
  have HO11 := Lib.hid (HO10.out.below hb11)
  clear hb11 HB10 HK10 HR10 HO10 HX10 HF10
  obtain ⟨⟨vr0, q, e⟩, hg⟩ : ∃ y, getR12 (bs.drop p2) = y := ⟨_, rfl⟩
  have hpn : p2 ≤ n := hp
  have HG := Lib.hid (refring_any n c p2 A bs HN.out hl hpn w11 (HR11.out.more HB11.out.size))
  unfold RingR at HG
  rw [hg] at HG
  simp only at HG
  rcases Decidable.em (e = 0) with he | he
  rotate_left
  · have HFE : Hid (RM = (msgP0, e)) := Lib.hid (HF11.out.trans (fldS_err Qr.out hg he))
    have hne : (e == 0) = false := by simpa using he
    have hne2 : (e != 0) = true := by simpa using he
    clear hg he
    go_wp2_with fail
    refine HG.out.mono ?_
    rintro e5 w5 ⟨Ar0, cr0, p5, ns5, each5, keep5, rfl, hnl5, ho5, hb5, hv5⟩
    have HB5 := Lib.hid (HB11.out.trans (hb5.mono HB11.out.size))
    have HK5 := Lib.hid (HK11.out.below hb5 HK11.out.lt)
    have HR5 := Lib.hid (HR11.out.below (hb5.mono HB11.out.size))
    have HO5 := Lib.hid (HO11.out.below hb5)
    have hPw : P < w11.heap.size := HO11.out.blk.lt
    have m14 : w5.cell? ⟨P, 14, none⟩ = some (.slice x2.rA x2.ns.length x2.rc) := HO5.out.blk.cell 14
    have z14 : w5.frozen? ⟨P, 14, none⟩ = false := HO5.out.blk.frozen 14
    have m15 : w5.cell? ⟨P, 15, none⟩ = some (.int .i64 x2.each) := HO5.out.blk.cell 15
    have z15 : w5.frozen? ⟨P, 15, none⟩ = false := HO5.out.blk.frozen 15
    have m16 : w5.cell? ⟨P, 16, none⟩ = some (.int .i64 x2.keep) := HO5.out.blk.cell 16
    have z16 : w5.frozen? ⟨P, 16, none⟩ = false := HO5.out.blk.frozen 16
    have HSG : Hid (w5.grownBy (((w5.setCell ⟨P, 14, none⟩ (.slice Ar0 ns5.length cr0)).setCell ⟨P, 15, none⟩ (.int .i64 each5)).setCell ⟨P, 16, none⟩ (.int .i64 keep5)) (some P)) := Lib.hid (grown_trans (grown_trans (grown_set _ P 14 (.slice Ar0 ns5.length cr0)) (grown_set _ P 15 (.int .i64 each5))) (grown_set _ P 16 (.int .i64 keep5)))
    have HK6 : Hid (Blk (((w5.setCell ⟨P, 14, none⟩ (.slice Ar0 ns5.length cr0)).setCell ⟨P, 15, none⟩ (.int .i64 each5)).setCell ⟨P, 16, none⟩ (.int .i64 keep5)) w.heap.size 34 #[.int .i64 0, .int .i64 0, .int .i64 0, .int .i64 0, .int .i64 0, .int .i64 0, .bool false, .string ⟨#[]⟩, .int .i64 0, .int .i64 0, .int .i64 0, .bool false, .slice none 0 0, .slice none 0 0, .slice none 0 0, .int .i64 0, .int .i64 0]) := Lib.hid (HK5.out.grown HSG.out (fun e => by injection e with e; omega))
    have HB6 : Hid (Below w.heap.size w (((w5.setCell ⟨P, 14, none⟩ (.slice Ar0 ns5.length cr0)).setCell ⟨P, 15, none⟩ (.int .i64 each5)).setCell ⟨P, 16, none⟩ (.int .i64 keep5))) := Lib.hid (HB5.out.grown HSG.out HB5.out.size fun g hg => by cases hg; omega)
    clear HG HX11 HF11 HK5 HR5 HO5 HSG ho5 hb5 hPw hv5 hnl5
    go_upto_region 12 with fail
    obtain ⟨w6, hw6⟩ : ∃ W, (((w5.setCell ⟨P, 14, none⟩ (.slice Ar0 ns5.length cr0)).setCell ⟨P, 15, none⟩ (.int .i64 each5)).setCell ⟨P, 16, none⟩ (.int .i64 keep5)) = W := ⟨_, rfl⟩
    rw [hw6] at HK6 HB6
    simp only [hw6]
    clear hw6 m14 z14 m15 z15 m16 z16
    go_wp2_with (refine wpList_store_box rfl 34 _ _ rfl w.heap.size 34 #[.int .i64 0, .int .i64 0, .int .i64 0, .int .i64 0, .int .i64 0, .int .i64 0, .bool false, .string ⟨#[]⟩, .int .i64 0, .int .i64 0, .int .i64 0, .bool false, .slice none 0 0, .slice none 0 0, .slice none 0 0, .int .i64 0, .int .i64 0] #[.int .i64 0, .int .i64 0, .int .i64 0, .int .i64 0, .int .i64 0, .int .i64 0, .bool false, .string ⟨#[]⟩, .int .i64 0, .int .i64 0, .int .i64 0, .bool false, .slice none 0 0, .slice none 0 0, .slice none 0 0, .int .i64 0, .int .i64 0] HK6.out rfl rfl rfl (by kernel_rfl) (by kernel_rfl) ?_)
    intro wz hkz hgz
    have HKz := Lib.hid hkz
    have HBz := Lib.hid (HB6.out.grown hgz HB6.out.size fun g hg => by cases hg; exact Nat.le_refl _)
    clear hkz hgz
    go_wp2
    exact bodyPost_ret (v := .tuple #[.agg #[.int .i64 0, .int .i64 0, .int .i64 0, .int .i64 0, .int .i64 0, .int .i64 0, .bool false, .string ⟨#[]⟩, .int .i64 0, .int .i64 0, .int .i64 0, .bool false, .slice none 0 0, .slice none 0 0, .slice none 0 0, .int .i64 0, .int .i64 0], .int .i64 e]) (results_cell_row2 (p := 2) (q := 3) (ty := 34) Tryd.results18 _ _ w.heap.size 34 #[.int .i64 0, .int .i64 0, .int .i64 0, .int .i64 0, .int .i64 0, .int .i64 0, .bool false, .string ⟨#[]⟩, .int .i64 0, .int .i64 0, .int .i64 0, .bool false, .slice none 0 0, .slice none 0 0, .slice none 0 0, .int .i64 0, .int .i64 0] (0, 0) _ rfl HKz.out Tryd.underlying34 rfl (by kernel_rfl)) rfl ⟨zMV, by rw [HFE.out]; rfl, by rw [HFE.out]; rfl, zMV_m _, HBz.out⟩
  subst he
  have hqn := (goodR.back _ _ _ hg).2.1
  rw [List.length_drop] at hqn
  have hqn2 : p2 + q ≤ n := by have := HN.out; omega
  clear hqn
  have HGG := Lib.hid hg
  obtain ⟨p12, hpp⟩ : ∃ y, p2 + q = y := ⟨_, rfl⟩
  rw [hpp] at hqn2
  have HF12 : Hid (RM = fin5 n ⟨k, f, d, ep, op, 0, false, entP0, [], vr0.2.2.2, vr0.1, vr0.2.1⟩ p12) := Lib.hid (by
    have h9 := HF11.out.trans (fldS_ok Qr.out hg)
    rw [hpp] at h9
    exact h9)
  clear hg
  go_wp2_with fail
  refine HG.out.mono ?_
  rintro e5 w5 ⟨Ar0, cr0, p5, ns5, each5, keep5, rfl, hnl5, ho5, hb5, hv5⟩
  have HB5 := Lib.hid (HB11.out.trans (hb5.mono HB11.out.size))
  have HK5 := Lib.hid (HK11.out.below hb5 HK11.out.lt)
  have HR5 := Lib.hid (HR11.out.below (hb5.mono HB11.out.size))
  have HO5 := Lib.hid (HO11.out.below hb5)
  have hPw : P < w11.heap.size := HO11.out.blk.lt
  obtain ⟨h51, h52, h53, h54⟩ : vr0.1 = each5 ∧ vr0.2.1 = keep5 ∧ vr0.2.2.2 = ns5 ∧ p5 = p2 + q := by first | exact hv5 rfl | exact hv5 trivial | exact hv5
  subst h51 h52 h53
  rw [hpp] at h54
  subst h54
  clear hv5
  have m14 : w5.cell? ⟨P, 14, none⟩ = some (.slice x2.rA x2.ns.length x2.rc) := HO5.out.blk.cell 14
  have z14 : w5.frozen? ⟨P, 14, none⟩ = false := HO5.out.blk.frozen 14
  have m15 : w5.cell? ⟨P, 15, none⟩ = some (.int .i64 x2.each) := HO5.out.blk.cell 15
  have z15 : w5.frozen? ⟨P, 15, none⟩ = false := HO5.out.blk.frozen 15
  have m16 : w5.cell? ⟨P, 16, none⟩ = some (.int .i64 x2.keep) := HO5.out.blk.cell 16
  have z16 : w5.frozen? ⟨P, 16, none⟩ = false := HO5.out.blk.frozen 16
  have HSG : Hid (w5.grownBy (((w5.setCell ⟨P, 14, none⟩ (.slice Ar0 vr0.2.2.2.length cr0)).setCell ⟨P, 15, none⟩ (.int .i64 vr0.1)).setCell ⟨P, 16, none⟩ (.int .i64 vr0.2.1)) (some P)) := Lib.hid (grown_trans (grown_trans (grown_set _ P 14 (.slice Ar0 vr0.2.2.2.length cr0)) (grown_set _ P 15 (.int .i64 vr0.1))) (grown_set _ P 16 (.int .i64 vr0.2.1)))
  have HK6 : Hid (Blk (((w5.setCell ⟨P, 14, none⟩ (.slice Ar0 vr0.2.2.2.length cr0)).setCell ⟨P, 15, none⟩ (.int .i64 vr0.1)).setCell ⟨P, 16, none⟩ (.int .i64 vr0.2.1)) w.heap.size 34 #[.int .i64 0, .int .i64 0, .int .i64 0, .int .i64 0, .int .i64 0, .int .i64 0, .bool false, .string ⟨#[]⟩, .int .i64 0, .int .i64 0, .int .i64 0, .bool false, .slice none 0 0, .slice none 0 0, .slice none 0 0, .int .i64 0, .int .i64 0]) := Lib.hid (HK5.out.grown HSG.out (fun e => by injection e with e; omega))
  have HB6 : Hid (Below w.heap.size w (((w5.setCell ⟨P, 14, none⟩ (.slice Ar0 vr0.2.2.2.length cr0)).setCell ⟨P, 15, none⟩ (.int .i64 vr0.1)).setCell ⟨P, 16, none⟩ (.int .i64 vr0.2.1))) := Lib.hid (HB5.out.grown HSG.out HB5.out.size fun g hg => by cases hg; omega)
  obtain ⟨x12, hx6⟩ : ∃ x : MV, x = { x2 with rA := Ar0, ns := vr0.2.2.2, rc := cr0, each := vr0.1, keep := vr0.2.1 } := ⟨_, rfl⟩
  have HO6 : Hid (MsgO (((w5.setCell ⟨P, 14, none⟩ (.slice Ar0 vr0.2.2.2.length cr0)).setCell ⟨P, 15, none⟩ (.int .i64 vr0.1)).setCell ⟨P, 16, none⟩ (.int .i64 vr0.2.1)) P x12) := Lib.hid (by
    subst hx6
    exact HO5.out.put HSG.out (by have := (((HO5.out.blk.set_ 14 (.slice Ar0 vr0.2.2.2.length cr0)).set_ 15 (.int .i64 vr0.1)).set_ 16 (.int .i64 vr0.2.1)); simpa only [List.setIfInBounds_toArray, List.set_cons_succ, List.set_cons_zero] using this) (Or.inl rfl) (Or.inl ⟨rfl, rfl, rfl⟩) (Or.inr ⟨ownBase ho5 hPw, hnl5⟩))
  have HX6 : Hid (mP x12 = ⟨k, f, d, ep, op, 0, false, entP0, [], vr0.2.2.2, vr0.1, vr0.2.1⟩) := Lib.hid (by
    have h8 : mP x12 = { mP x2 with ns := vr0.2.2.2, each := vr0.1, keep := vr0.2.1 } := by subst hx6; rfl
    rw [h8, HX11.out])
  have HR6 : Hid (Row (((w5.setCell ⟨P, 14, none⟩ (.slice Ar0 vr0.2.2.2.length cr0)).setCell ⟨P, 15, none⟩ (.int .i64 vr0.1)).setCell ⟨P, 16, none⟩ (.int .i64 vr0.2.1)) w.heap.size A (bs.map byteV)) := Lib.hid (HR5.out.grownBy HSG.out HB5.out.size fun g hg => by cases hg; omega)
  have hp12 := hqn2
  clear HG HX11 HF11 HK5 HB5 HR5 HO5 HSG HGG hx6 ho5 hb5 hPw hnl5
  have HK12 := HK6
  have HB12 := HB6
  have HO12 := HO6
  have HX12 := HX6
  have HR12 := HR6
  clear HK6 HB6 HO6 HX6 HR6
  go_upto_region 12 with fail
  obtain ⟨W12, hw6⟩ : ∃ W, (((w5.setCell ⟨P, 14, none⟩ (.slice Ar0 vr0.2.2.2.length cr0)).setCell ⟨P, 15, none⟩ (.int .i64 vr0.1)).setCell ⟨P, 16, none⟩ (.int .i64 vr0.2.1)) = W := ⟨_, rfl⟩
  rw [hw6] at HK12 HB12 HO12 HR12
  simp only [hw6]
  clear hw6 m14 z14 m15 z15 m16 z16
  have hp := hp12
  clear hpn
  rcases Nat.lt_or_ge p5 n with hpl | hpl
  · have HFE : Hid (RM = (msgP0, 11)) := Lib.hid (HF12.out.trans (if_pos (Or.inl hpl)))
    have hpi : (p5 : Int) < (n : Int) := by omega
    clear HX12 HF12 HR12
    go_wp2_with (refine wpList_store_box rfl 34 _ _ rfl w.heap.size 34 #[.int .i64 0, .int .i64 0, .int .i64 0, .int .i64 0, .int .i64 0, .int .i64 0, .bool false, .string ⟨#[]⟩, .int .i64 0, .int .i64 0, .int .i64 0, .bool false, .slice none 0 0, .slice none 0 0, .slice none 0 0, .int .i64 0, .int .i64 0] #[.int .i64 0, .int .i64 0, .int .i64 0, .int .i64 0, .int .i64 0, .int .i64 0, .bool false, .string ⟨#[]⟩, .int .i64 0, .int .i64 0, .int .i64 0, .bool false, .slice none 0 0, .slice none 0 0, .slice none 0 0, .int .i64 0, .int .i64 0] HK12.out rfl rfl rfl (by kernel_rfl) (by kernel_rfl) ?_)
    intro wz hkz hgz
    have HKz := Lib.hid hkz
    have HBz := Lib.hid (HB12.out.grown hgz HB12.out.size fun g hg => by cases hg; exact Nat.le_refl _)
    clear hkz hgz
    go_wp2
    exact bodyPost_ret (v := .tuple #[.agg #[.int .i64 0, .int .i64 0, .int .i64 0, .int .i64 0, .int .i64 0, .int .i64 0, .bool false, .string ⟨#[]⟩, .int .i64 0, .int .i64 0, .int .i64 0, .bool false, .slice none 0 0, .slice none 0 0, .slice none 0 0, .int .i64 0, .int .i64 0], .int .i64 11]) (results_cell_row2 (p := 2) (q := 3) (ty := 34) Tryd.results18 _ _ w.heap.size 34 #[.int .i64 0, .int .i64 0, .int .i64 0, .int .i64 0, .int .i64 0, .int .i64 0, .bool false, .string ⟨#[]⟩, .int .i64 0, .int .i64 0, .int .i64 0, .bool false, .slice none 0 0, .slice none 0 0, .slice none 0 0, .int .i64 0, .int .i64 0] (0, 0) _ rfl HKz.out Tryd.underlying34 rfl (by kernel_rfl)) rfl ⟨zMV, by rw [HFE.out]; rfl, by rw [HFE.out]; rfl, zMV_m _, HBz.out⟩
  have hpi : ¬ ((p5 : Int) < (n : Int)) := by omega
  rcases Bool.eq_false_or_eq_true (okM ⟨k, f, d, ep, op, 0, false, entP0, [], vr0.2.2.2, vr0.1, vr0.2.1⟩) with hok | hok
  · have HFE : Hid (RM = (⟨k, f, d, ep, op, 0, false, entP0, [], vr0.2.2.2, vr0.1, vr0.2.1⟩, 0)) := Lib.hid (HF12.out.trans (if_neg (by rw [hok]; simp; omega)))
    have HCK := Lib.hid (refcheck12 x12 W12 HO12.out.msgM)
    rw [show checkM (mP x12) = 0 from by rw [HX12.out]; unfold checkM; rw [hok]; rfl] at HCK
    clear HF12 HR12 hok
    have hxc := HO12.out.blk
    have l0 : W12.cell? ⟨P, 0, none⟩ = some (.int .i64 x12.kind) := hxc.cell 0
    have l1 : W12.cell? ⟨P, 1, none⟩ = some (.int .i64 x12.fr) := hxc.cell 1
    have l2 : W12.cell? ⟨P, 2, none⟩ = some (.int .i64 x12.dst) := hxc.cell 2
    have l3 : W12.cell? ⟨P, 3, none⟩ = some (.int .i64 x12.ep) := hxc.cell 3
    have l4 : W12.cell? ⟨P, 4, none⟩ = some (.int .i64 x12.op) := hxc.cell 4
    have l5 : W12.cell? ⟨P, 5, none⟩ = some (.int .i64 x12.n) := hxc.cell 5
    have l6 : W12.cell? ⟨P, 6, none⟩ = some (.bool x12.flag) := hxc.cell 6
    have l7 : W12.cell? ⟨P, 7, none⟩ = some (.string ⟨x12.e.1.k.toArray⟩) := hxc.cell 7
    have l8 : W12.cell? ⟨P, 8, none⟩ = some (.int .i64 x12.e.1.s) := hxc.cell 8
    have l9 : W12.cell? ⟨P, 9, none⟩ = some (.int .i64 x12.e.1.u) := hxc.cell 9
    have l10 : W12.cell? ⟨P, 10, none⟩ = some (.int .i64 x12.e.1.o) := hxc.cell 10
    have l11 : W12.cell? ⟨P, 11, none⟩ = some (.bool x12.e.1.has) := hxc.cell 11
    have l12 : W12.cell? ⟨P, 12, none⟩ = some (.slice x12.e.2.1 x12.e.1.v.length x12.e.2.2) := hxc.cell 12
    have l13 : W12.cell? ⟨P, 13, none⟩ = some (.slice x12.lA x12.l.length x12.lc) := hxc.cell 13
    have l14 : W12.cell? ⟨P, 14, none⟩ = some (.slice x12.rA x12.ns.length x12.rc) := hxc.cell 14
    have l15 : W12.cell? ⟨P, 15, none⟩ = some (.int .i64 x12.each) := hxc.cell 15
    have l16 : W12.cell? ⟨P, 16, none⟩ = some (.int .i64 x12.keep) := hxc.cell 16
    clear hxc
    go_wp2_with fail
    refine HCK.out.mono ?_
    rintro e w8 ⟨rfl, hb8⟩
    have HB8 := Lib.hid (HB12.out.trans (hb8.mono HB12.out.size))
    have HK8 := Lib.hid (HK12.out.below hb8 HK12.out.lt)
    have HO8 := Lib.hid (HO12.out.below hb8)
    clear hb8 HCK HB12 HK12 HO12 l0 l1 l2 l3 l4 l5 l6 l7 l8 l9 l10 l11 l12 l13 l14 l15 l16
    go_wp2_with (first | (refine wpList_load_row rfl 34 _ rfl _ rfl _ _ _ _ (show _ = _ from HO8.out.blk) Tryd.underlying34 rfl (by kernel_rfl) ?_) | (refine wpList_store_box rfl 34 _ _ rfl w.heap.size 34 #[.int .i64 0, .int .i64 0, .int .i64 0, .int .i64 0, .int .i64 0, .int .i64 0, .bool false, .string ⟨#[]⟩, .int .i64 0, .int .i64 0, .int .i64 0, .bool false, .slice none 0 0, .slice none 0 0, .slice none 0 0, .int .i64 0, .int .i64 0] #[.int .i64 x12.kind, .int .i64 x12.fr, .int .i64 x12.dst, .int .i64 x12.ep, .int .i64 x12.op, .int .i64 x12.n, .bool x12.flag, .string ⟨x12.e.1.k.toArray⟩, .int .i64 x12.e.1.s, .int .i64 x12.e.1.u, .int .i64 x12.e.1.o, .bool x12.e.1.has, .slice x12.e.2.1 x12.e.1.v.length x12.e.2.2, .slice x12.lA x12.l.length x12.lc, .slice x12.rA x12.ns.length x12.rc, .int .i64 x12.each, .int .i64 x12.keep] HK8.out rfl rfl rfl (by kernel_rfl) (by kernel_rfl) ?_))
    intro wz hkz hgz
    have HKz := Lib.hid hkz
    have HOz := Lib.hid (HO8.out.grown hgz hgP)
    have HBz := Lib.hid (HB8.out.grown hgz HB8.out.size fun g hg => by cases hg; exact Nat.le_refl _)
    clear hkz hgz
    go_wp2
    exact bodyPost_ret (v := .tuple #[.agg #[.int .i64 x12.kind, .int .i64 x12.fr, .int .i64 x12.dst, .int .i64 x12.ep, .int .i64 x12.op, .int .i64 x12.n, .bool x12.flag, .string ⟨x12.e.1.k.toArray⟩, .int .i64 x12.e.1.s, .int .i64 x12.e.1.u, .int .i64 x12.e.1.o, .bool x12.e.1.has, .slice x12.e.2.1 x12.e.1.v.length x12.e.2.2, .slice x12.lA x12.l.length x12.lc, .slice x12.rA x12.ns.length x12.rc, .int .i64 x12.each, .int .i64 x12.keep], .int .i64 0]) (results_cell_row2 (p := 2) (q := 3) (ty := 34) Tryd.results18 _ _ w.heap.size 34 #[.int .i64 x12.kind, .int .i64 x12.fr, .int .i64 x12.dst, .int .i64 x12.ep, .int .i64 x12.op, .int .i64 x12.n, .bool x12.flag, .string ⟨x12.e.1.k.toArray⟩, .int .i64 x12.e.1.s, .int .i64 x12.e.1.u, .int .i64 x12.e.1.o, .bool x12.e.1.has, .slice x12.e.2.1 x12.e.1.v.length x12.e.2.2, .slice x12.lA x12.l.length x12.lc, .slice x12.rA x12.ns.length x12.rc, .int .i64 x12.each, .int .i64 x12.keep] (0, 0) _ rfl HKz.out Tryd.underlying34 rfl (by kernel_rfl)) rfl ⟨x12, by rw [HFE.out], by rw [HFE.out]; exact HX12.out, HOz.out.msgM, HBz.out⟩
  · have HFE : Hid (RM = (msgP0, 11)) := Lib.hid (HF12.out.trans (if_pos (Or.inr hok)))
    have HCK := Lib.hid (refcheck12 x12 W12 HO12.out.msgM)
    rw [show checkM (mP x12) = 2 from by rw [HX12.out]; exact checkM_no hok] at HCK
    clear HX12 HF12 HR12 hok
    have hxc := HO12.out.blk
    have l0 : W12.cell? ⟨P, 0, none⟩ = some (.int .i64 x12.kind) := hxc.cell 0
    have l1 : W12.cell? ⟨P, 1, none⟩ = some (.int .i64 x12.fr) := hxc.cell 1
    have l2 : W12.cell? ⟨P, 2, none⟩ = some (.int .i64 x12.dst) := hxc.cell 2
    have l3 : W12.cell? ⟨P, 3, none⟩ = some (.int .i64 x12.ep) := hxc.cell 3
    have l4 : W12.cell? ⟨P, 4, none⟩ = some (.int .i64 x12.op) := hxc.cell 4
    have l5 : W12.cell? ⟨P, 5, none⟩ = some (.int .i64 x12.n) := hxc.cell 5
    have l6 : W12.cell? ⟨P, 6, none⟩ = some (.bool x12.flag) := hxc.cell 6
    have l7 : W12.cell? ⟨P, 7, none⟩ = some (.string ⟨x12.e.1.k.toArray⟩) := hxc.cell 7
    have l8 : W12.cell? ⟨P, 8, none⟩ = some (.int .i64 x12.e.1.s) := hxc.cell 8
    have l9 : W12.cell? ⟨P, 9, none⟩ = some (.int .i64 x12.e.1.u) := hxc.cell 9
    have l10 : W12.cell? ⟨P, 10, none⟩ = some (.int .i64 x12.e.1.o) := hxc.cell 10
    have l11 : W12.cell? ⟨P, 11, none⟩ = some (.bool x12.e.1.has) := hxc.cell 11
    have l12 : W12.cell? ⟨P, 12, none⟩ = some (.slice x12.e.2.1 x12.e.1.v.length x12.e.2.2) := hxc.cell 12
    have l13 : W12.cell? ⟨P, 13, none⟩ = some (.slice x12.lA x12.l.length x12.lc) := hxc.cell 13
    have l14 : W12.cell? ⟨P, 14, none⟩ = some (.slice x12.rA x12.ns.length x12.rc) := hxc.cell 14
    have l15 : W12.cell? ⟨P, 15, none⟩ = some (.int .i64 x12.each) := hxc.cell 15
    have l16 : W12.cell? ⟨P, 16, none⟩ = some (.int .i64 x12.keep) := hxc.cell 16
    clear hxc
    go_wp2_with fail
    refine HCK.out.mono ?_
    rintro e w8 ⟨rfl, hb8⟩
    have HB8 := Lib.hid (HB12.out.trans (hb8.mono HB12.out.size))
    have HK8 := Lib.hid (HK12.out.below hb8 HK12.out.lt)
    have HO8 := Lib.hid (HO12.out.below hb8)
    clear hb8 HCK HB12 HK12 HO12 l0 l1 l2 l3 l4 l5 l6 l7 l8 l9 l10 l11 l12 l13 l14 l15 l16
    go_wp2_with (refine wpList_store_box rfl 34 _ _ rfl w.heap.size 34 #[.int .i64 0, .int .i64 0, .int .i64 0, .int .i64 0, .int .i64 0, .int .i64 0, .bool false, .string ⟨#[]⟩, .int .i64 0, .int .i64 0, .int .i64 0, .bool false, .slice none 0 0, .slice none 0 0, .slice none 0 0, .int .i64 0, .int .i64 0] #[.int .i64 0, .int .i64 0, .int .i64 0, .int .i64 0, .int .i64 0, .int .i64 0, .bool false, .string ⟨#[]⟩, .int .i64 0, .int .i64 0, .int .i64 0, .bool false, .slice none 0 0, .slice none 0 0, .slice none 0 0, .int .i64 0, .int .i64 0] HK8.out rfl rfl rfl (by kernel_rfl) (by kernel_rfl) ?_)
    intro wz hkz hgz
    have HKz := Lib.hid hkz
    have HBz := Lib.hid (HB8.out.grown hgz HB8.out.size fun g hg => by cases hg; exact Nat.le_refl _)
    clear hkz hgz
    go_wp2
    exact bodyPost_ret (v := .tuple #[.agg #[.int .i64 0, .int .i64 0, .int .i64 0, .int .i64 0, .int .i64 0, .int .i64 0, .bool false, .string ⟨#[]⟩, .int .i64 0, .int .i64 0, .int .i64 0, .bool false, .slice none 0 0, .slice none 0 0, .slice none 0 0, .int .i64 0, .int .i64 0], .int .i64 11]) (results_cell_row2 (p := 2) (q := 3) (ty := 34) Tryd.results18 _ _ w.heap.size 34 #[.int .i64 0, .int .i64 0, .int .i64 0, .int .i64 0, .int .i64 0, .int .i64 0, .bool false, .string ⟨#[]⟩, .int .i64 0, .int .i64 0, .int .i64 0, .bool false, .slice none 0 0, .slice none 0 0, .slice none 0 0, .int .i64 0, .int .i64 0] (0, 0) _ rfl HKz.out Tryd.underlying34 rfl (by kernel_rfl)) rfl ⟨zMV, by rw [HFE.out]; rfl, by rw [HFE.out]; rfl, zMV_m _, HBz.out⟩
theorem refread12_nfe (n c : Nat) (A : Option Addr) (bs : List UInt8) (hn : n = bs.length) (hl : n ≤ 1000000) (hc : n ≤ c) (w : World) (h : Row w w.heap.size A (bs.map byteV)) {k f d ep op : Int} {p2 : Nat} (hp2 : p2 ≤ n)
    (HCH : Hid (∀ W, Row W w.heap.size A (bs.map byteV) → w.heap.size ≤ W.heap.size → Calls Tryd.prog 66 #[.slice A n c] W (HeadY k f d ep op p2 W)))
    (HF : Hid (readM bs = fin0 n k ⟨k, f, d, ep, op, 0, false, entP0, [], [], 0, 0⟩ p2 (bs.drop p2))) (qn : hasN k = true) (qf : hasF k = true) (qe : hasE k = true) (ql : hasL k = false) (qr : hasR k = false) :
    Calls Tryd.prog 18 #[.slice A n c] w (ReadMP (readM bs) w) := by
  have hb0 : Below w.heap.size w (w.alloc (.cells #[.int .i64 0, .int .i64 0, .int .i64 0, .int .i64 0, .int .i64 0, .int .i64 0, .bool false, .string ⟨#[]⟩, .int .i64 0, .int .i64 0, .int .i64 0, .bool false, .slice none 0 0, .slice none 0 0, .slice none 0 0, .int .i64 0, .int .i64 0] 34)) := (Below.refl _ _).alloc (Nat.le_refl _) _
  have HK0 := Lib.hid (Blk.new w 34 #[.int .i64 0, .int .i64 0, .int .i64 0, .int .i64 0, .int .i64 0, .int .i64 0, .bool false, .string ⟨#[]⟩, .int .i64 0, .int .i64 0, .int .i64 0, .bool false, .slice none 0 0, .slice none 0 0, .slice none 0 0, .int .i64 0, .int .i64 0])
  have hr0 := h.alloc (Nat.le_refl _) (.cells #[.int .i64 0, .int .i64 0, .int .i64 0, .int .i64 0, .int .i64 0, .int .i64 0, .bool false, .string ⟨#[]⟩, .int .i64 0, .int .i64 0, .int .i64 0, .bool false, .slice none 0 0, .slice none 0 0, .slice none 0 0, .int .i64 0, .int .i64 0] 34)
  obtain ⟨W, hW⟩ : ∃ W, w.alloc (.cells #[.int .i64 0, .int .i64 0, .int .i64 0, .int .i64 0, .int .i64 0, .int .i64 0, .bool false, .string ⟨#[]⟩, .int .i64 0, .int .i64 0, .int .i64 0, .bool false, .slice none 0 0, .slice none 0 0, .slice none 0 0, .int .i64 0, .int .i64 0] 34) = W := ⟨_, rfl⟩
  rw [hW] at HK0 hb0 hr0
  have HC1 := Lib.hid (HCH.out W hr0 hb0.size)
  have HR0 := Lib.hid hr0
  have HB0 := Lib.hid hb0
  have HN := Lib.hid hn
  obtain ⟨RM, hRM⟩ : ∃ r, readM bs = r := ⟨_, rfl⟩
  rw [hRM] at HF ⊢
  have HCn := Lib.hid fun W' => rhasN_any k W'
  rw [qn] at HCn
  have Qn := Lib.hid qn
  have HCf := Lib.hid fun W' => rhasF_any k W'
  rw [qf] at HCf
  have Qf := Lib.hid qf
  have HCe := Lib.hid fun W' => rhasE_any k W'
  rw [qe] at HCe
  have Qe := Lib.hid qe
  have HCl := Lib.hid fun W' => rhasL_any k W'
  rw [ql] at HCl
  have Ql := Lib.hid ql
  have HCr := Lib.hid fun W' => rhasR_any k W'
  rw [qr] at HCr
  have Qr := Lib.hid qr
  clear h hb0 hr0 hn hRM HCH qn qf qe ql qr
  go_enter Tryd.func18, Tryd.ntmps18
  go_wp2_with fail
  refine HC1.out.mono ?_
  rintro e w1 ⟨rfl, hb1⟩
  have HB1 := Lib.hid (HB0.out.trans (hb1.mono HB0.out.size))
  have HK1 := Lib.hid (HK0.out.below hb1 HK0.out.lt)
  have HR1 := Lib.hid (HR0.out.below (hb1.mono HB0.out.size))
  clear hb1 HB0 HK0 HR0 HC1 hW
  go_upto_region 2 with (refine wpList_boxM rfl rfl _ rfl 34 #[.int .i64 0, .int .i64 0, .int .i64 0, .int .i64 0, .int .i64 0, .int .i64 0, .bool false, .string ⟨#[]⟩, .int .i64 0, .int .i64 0, .int .i64 0, .bool false, .slice none 0 0, .slice none 0 0, .slice none 0 0, .int .i64 0, .int .i64 0] (by kernel_rfl) _ _ rfl #[.int .i64 k, .int .i64 f, .int .i64 d, .int .i64 ep, .int .i64 op, .int .i64 0, .bool false, .string ⟨#[]⟩, .int .i64 0, .int .i64 0, .int .i64 0, .bool false, .slice none 0 0, .slice none 0 0, .slice none 0 0, .int .i64 0, .int .i64 0] rfl rfl rfl (by kernel_rfl) (by kernel_rfl) ?_)
  have hal : Below w1.heap.size w1 (w1.alloc (.cells #[.int .i64 k, .int .i64 f, .int .i64 d, .int .i64 ep, .int .i64 op, .int .i64 0, .bool false, .string ⟨#[]⟩, .int .i64 0, .int .i64 0, .int .i64 0, .bool false, .slice none 0 0, .slice none 0 0, .slice none 0 0, .int .i64 0, .int .i64 0] 34)) := (Below.refl _ _).alloc (Nat.le_refl _) _
  have hbk := Blk.new w1 34 #[.int .i64 k, .int .i64 f, .int .i64 d, .int .i64 ep, .int .i64 op, .int .i64 0, .bool false, .string ⟨#[]⟩, .int .i64 0, .int .i64 0, .int .i64 0, .bool false, .slice none 0 0, .slice none 0 0, .slice none 0 0, .int .i64 0, .int .i64 0]
  obtain ⟨V, hV⟩ : ∃ V, w1.alloc (.cells #[.int .i64 k, .int .i64 f, .int .i64 d, .int .i64 ep, .int .i64 op, .int .i64 0, .bool false, .string ⟨#[]⟩, .int .i64 0, .int .i64 0, .int .i64 0, .bool false, .slice none 0 0, .slice none 0 0, .slice none 0 0, .int .i64 0, .int .i64 0] 34) = V := ⟨_, rfl⟩
  obtain ⟨P, hP⟩ : ∃ p, w1.heap.size = p := ⟨_, rfl⟩
  rw [hV] at hal hbk
  have hgP : w.heap.size < P := by rw [← hP]; exact HK1.out.lt
  have HB2 := Lib.hid (HB1.out.trans (hal.mono HB1.out.size))
  have HK2 := Lib.hid (HK1.out.below hal HK1.out.lt)
  have HR2 := Lib.hid (HR1.out.below (hal.mono HB1.out.size))
  rw [hP] at hbk
  simp only [hV, hP]
  obtain ⟨x2, hx2⟩ : ∃ x : MV, x = ⟨k, f, d, ep, op, 0, false, (⟨[], 0, 0, 0, false, []⟩, none, 0), none, [], 0, none, [], 0, 0, 0⟩ := ⟨_, rfl⟩
  have hO : MsgO V P x2 := by
    subst hx2
    exact ⟨hbk, World.ownsRow_nil _ _ _ _, World.ownsRow_nil _ _ _ _, entsO_nil _ _, World.ownsRow_nil _ _ _ _, by simp, by simp, by simp⟩
  have HO2 := Lib.hid hO
  have HX2 : Hid (mP x2 = ⟨k, f, d, ep, op, 0, false, entP0, [], [], 0, 0⟩) := Lib.hid (by subst hx2; rfl)
  have HF2 := HF
  have hp := hp2
  clear hal hbk hO hx2 HB1 HK1 HR1 HF hV hP
  have hk0 : x2.kind = k := congrArg MsgP.kind HX2.out
  have d0 : V.cell? ⟨P, 0, none⟩ = some (.int .i64 k) := by
    have := HO2.out.blk.cell 0
    rw [hk0] at this; exact this
  clear hk0
  go_wp2_with fail
  refine (HCn.out _).mono ?_
  rintro e w3 ⟨rfl, hb3⟩
  have HX3 := HX2
  have HF3 := HF2
  clear d0
  have HB3 := Lib.hid (HB2.out.trans (hb3.mono HB2.out.size))
  have HK3 := Lib.hid (HK2.out.below hb3 HK2.out.lt)
  have HR3 := Lib.hid (HR2.out.below (hb3.mono HB2.out.size))
  have HO3 := Lib.hid (HO2.out.below hb3)
  clear hb3 HB2 HK2 HR2 HO2 HX2 HF2
  obtain ⟨⟨vn0, q, e⟩, hg⟩ : ∃ y, getB 1099511627776 (bs.drop p2) = y := ⟨_, rfl⟩
  have hpn : p2 ≤ n := hp
  have HG := Lib.hid (refgetnum_any w.heap.size c n p2 1099511627775 A bs w3 HR3.out HN.out (by omega))
  rw [show getB (1099511627775 + 1) (bs.drop p2) = (vn0, q, e) from hg] at HG
  unfold At3 three at HG
  simp only at HG
  rcases Decidable.em (e = 0) with he | he
  rotate_left
  · have HFE : Hid (RM = (msgP0, e)) := Lib.hid (HF3.out.trans (fldS_err Qn.out hg he))
    have hne : (e == 0) = false := by simpa using he
    have hne2 : (e != 0) = true := by simpa using he
    clear hg he
    go_wp2_with fail
    refine HG.out.mono ?_
    rintro e5 w5 ⟨rfl, rfl⟩
    have HB5 := HB3
    have HK5 := HK3
    have HR5 := HR3
    have HO5 := HO3
    have m5 : w3.cell? ⟨P, 5, none⟩ = some (.int .i64 x2.n) := HO5.out.blk.cell 5
    have z5 : w3.frozen? ⟨P, 5, none⟩ = false := HO5.out.blk.frozen 5
    have HSG : Hid (w3.grownBy (w3.setCell ⟨P, 5, none⟩ (.int .i64 vn0)) (some P)) := Lib.hid (grown_set _ P 5 (.int .i64 vn0))
    have HK6 : Hid (Blk (w3.setCell ⟨P, 5, none⟩ (.int .i64 vn0)) w.heap.size 34 #[.int .i64 0, .int .i64 0, .int .i64 0, .int .i64 0, .int .i64 0, .int .i64 0, .bool false, .string ⟨#[]⟩, .int .i64 0, .int .i64 0, .int .i64 0, .bool false, .slice none 0 0, .slice none 0 0, .slice none 0 0, .int .i64 0, .int .i64 0]) := Lib.hid (HK5.out.grown HSG.out (fun e => by injection e with e; omega))
    have HB6 : Hid (Below w.heap.size w (w3.setCell ⟨P, 5, none⟩ (.int .i64 vn0))) := Lib.hid (HB5.out.grown HSG.out HB5.out.size fun g hg => by cases hg; omega)
    clear HG HX3 HF3 HK5 HR5 HO5 HSG 
    go_upto_region 4 with fail
    obtain ⟨w6, hw6⟩ : ∃ W, (w3.setCell ⟨P, 5, none⟩ (.int .i64 vn0)) = W := ⟨_, rfl⟩
    rw [hw6] at HK6 HB6
    simp only [hw6]
    clear hw6 m5 z5
    go_wp2_with (refine wpList_store_box rfl 34 _ _ rfl w.heap.size 34 #[.int .i64 0, .int .i64 0, .int .i64 0, .int .i64 0, .int .i64 0, .int .i64 0, .bool false, .string ⟨#[]⟩, .int .i64 0, .int .i64 0, .int .i64 0, .bool false, .slice none 0 0, .slice none 0 0, .slice none 0 0, .int .i64 0, .int .i64 0] #[.int .i64 0, .int .i64 0, .int .i64 0, .int .i64 0, .int .i64 0, .int .i64 0, .bool false, .string ⟨#[]⟩, .int .i64 0, .int .i64 0, .int .i64 0, .bool false, .slice none 0 0, .slice none 0 0, .slice none 0 0, .int .i64 0, .int .i64 0] HK6.out rfl rfl rfl (by kernel_rfl) (by kernel_rfl) ?_)
    intro wz hkz hgz
    have HKz := Lib.hid hkz
    have HBz := Lib.hid (HB6.out.grown hgz HB6.out.size fun g hg => by cases hg; exact Nat.le_refl _)
    clear hkz hgz
    go_wp2
    exact bodyPost_ret (v := .tuple #[.agg #[.int .i64 0, .int .i64 0, .int .i64 0, .int .i64 0, .int .i64 0, .int .i64 0, .bool false, .string ⟨#[]⟩, .int .i64 0, .int .i64 0, .int .i64 0, .bool false, .slice none 0 0, .slice none 0 0, .slice none 0 0, .int .i64 0, .int .i64 0], .int .i64 e]) (results_cell_row2 (p := 2) (q := 3) (ty := 34) Tryd.results18 _ _ w.heap.size 34 #[.int .i64 0, .int .i64 0, .int .i64 0, .int .i64 0, .int .i64 0, .int .i64 0, .bool false, .string ⟨#[]⟩, .int .i64 0, .int .i64 0, .int .i64 0, .bool false, .slice none 0 0, .slice none 0 0, .slice none 0 0, .int .i64 0, .int .i64 0] (0, 0) _ rfl HKz.out Tryd.underlying34 rfl (by kernel_rfl)) rfl ⟨zMV, by rw [HFE.out]; rfl, by rw [HFE.out]; rfl, zMV_m _, HBz.out⟩
  subst he
  have hqn := ((goodB 1099511627776 (by decide)).back _ _ _ hg).2.1
  rw [List.length_drop] at hqn
  have hqn2 : p2 + q ≤ n := by have := HN.out; omega
  clear hqn
  have HGG := Lib.hid hg
  obtain ⟨p4, hpp⟩ : ∃ y, p2 + q = y := ⟨_, rfl⟩
  rw [hpp] at hqn2 HG
  have HF4 : Hid (RM = fin1 n k ⟨k, f, d, ep, op, vn0, false, entP0, [], [], 0, 0⟩ p4 (bs.drop p4)) := Lib.hid (by
    have h9 := HF3.out.trans (fldS_ok Qn.out hg)
    rw [List.drop_drop, hpp] at h9
    exact h9)
  clear hg hpp
  go_wp2_with fail
  refine HG.out.mono ?_
  rintro e5 w5 ⟨rfl, rfl⟩
  have HB5 := HB3
  have HK5 := HK3
  have HR5 := HR3
  have HO5 := HO3
  have m5 : w3.cell? ⟨P, 5, none⟩ = some (.int .i64 x2.n) := HO5.out.blk.cell 5
  have z5 : w3.frozen? ⟨P, 5, none⟩ = false := HO5.out.blk.frozen 5
  have HSG : Hid (w3.grownBy (w3.setCell ⟨P, 5, none⟩ (.int .i64 vn0)) (some P)) := Lib.hid (grown_set _ P 5 (.int .i64 vn0))
  have HK6 : Hid (Blk (w3.setCell ⟨P, 5, none⟩ (.int .i64 vn0)) w.heap.size 34 #[.int .i64 0, .int .i64 0, .int .i64 0, .int .i64 0, .int .i64 0, .int .i64 0, .bool false, .string ⟨#[]⟩, .int .i64 0, .int .i64 0, .int .i64 0, .bool false, .slice none 0 0, .slice none 0 0, .slice none 0 0, .int .i64 0, .int .i64 0]) := Lib.hid (HK5.out.grown HSG.out (fun e => by injection e with e; omega))
  have HB6 : Hid (Below w.heap.size w (w3.setCell ⟨P, 5, none⟩ (.int .i64 vn0))) := Lib.hid (HB5.out.grown HSG.out HB5.out.size fun g hg => by cases hg; omega)
  obtain ⟨x4, hx6⟩ : ∃ x : MV, x = { x2 with n := vn0 } := ⟨_, rfl⟩
  have HO6 : Hid (MsgO (w3.setCell ⟨P, 5, none⟩ (.int .i64 vn0)) P x4) := Lib.hid (by
    subst hx6
    exact HO5.out.put HSG.out (by have := (HO5.out.blk.set_ 5 (.int .i64 vn0)); simpa only [List.setIfInBounds_toArray, List.set_cons_succ, List.set_cons_zero] using this) (Or.inl rfl) (Or.inl ⟨rfl, rfl, rfl⟩) (Or.inl ⟨rfl, rfl, rfl⟩))
  have HX6 : Hid (mP x4 = ⟨k, f, d, ep, op, vn0, false, entP0, [], [], 0, 0⟩) := Lib.hid (by
    have h8 : mP x4 = { mP x2 with n := vn0 } := by subst hx6; rfl
    rw [h8, HX3.out])
  have HR6 : Hid (Row (w3.setCell ⟨P, 5, none⟩ (.int .i64 vn0)) w.heap.size A (bs.map byteV)) := Lib.hid (HR5.out.grownBy HSG.out HB5.out.size fun g hg => by cases hg; omega)
  have hp4 := hqn2
  clear HG HX3 HF3 HK5 HB5 HR5 HO5 HSG HGG hx6 
  have HK4 := HK6
  have HB4 := HB6
  have HO4 := HO6
  have HX4 := HX6
  have HR4 := HR6
  clear HK6 HB6 HO6 HX6 HR6
  go_upto_region 4 with fail
  obtain ⟨W4, hw6⟩ : ∃ W, (w3.setCell ⟨P, 5, none⟩ (.int .i64 vn0)) = W := ⟨_, rfl⟩
  rw [hw6] at HK4 HB4 HO4 HR4
  simp only [hw6]
  clear hw6 m5 z5
  have hp := hp4
  clear hpn
  have hk0 : x4.kind = k := congrArg MsgP.kind HX4.out
  have d0 : W4.cell? ⟨P, 0, none⟩ = some (.int .i64 k) := by
    have := HO4.out.blk.cell 0
    rw [hk0] at this; exact this
  clear hk0
  go_wp2_with fail
  refine (HCf.out _).mono ?_
  rintro e w5 ⟨rfl, hb5⟩
  have HX5 := HX4
  have HF5 := HF4
  clear d0
  have HB5 := Lib.hid (HB4.out.trans (hb5.mono HB4.out.size))
  have HK5 := Lib.hid (HK4.out.below hb5 HK4.out.lt)
  have HR5 := Lib.hid (HR4.out.below (hb5.mono HB4.out.size))
  have HO5 := Lib.hid (HO4.out.below hb5)
  clear hb5 HB4 HK4 HR4 HO4 HX4 HF4
  obtain ⟨⟨vf0, q, e⟩, hg⟩ : ∃ y, getT (bs.drop p4) = y := ⟨_, rfl⟩
  have hpn : p4 ≤ n := hp
  have HG := Lib.hid (refgettruth_any w.heap.size c n p4 A bs w5 HR5.out HN.out (by omega))
  rw [hg] at HG
  unfold AtT at HG
  simp only at HG
  rcases Decidable.em (e = 0) with he | he
  rotate_left
  · have HFE : Hid (RM = (msgP0, e)) := Lib.hid (HF5.out.trans (fldS_err Qf.out hg he))
    have hne : (e == 0) = false := by simpa using he
    have hne2 : (e != 0) = true := by simpa using he
    clear hg he
    go_wp2_with fail
    refine HG.out.mono ?_
    rintro e5 w5 ⟨rfl, rfl⟩
    have HB5 := HB5
    have HK5 := HK5
    have HR5 := HR5
    have HO5 := HO5
    have m6 : w5.cell? ⟨P, 6, none⟩ = some (.bool x4.flag) := HO5.out.blk.cell 6
    have z6 : w5.frozen? ⟨P, 6, none⟩ = false := HO5.out.blk.frozen 6
    have HSG : Hid (w5.grownBy (w5.setCell ⟨P, 6, none⟩ (.bool vf0)) (some P)) := Lib.hid (grown_set _ P 6 (.bool vf0))
    have HK6 : Hid (Blk (w5.setCell ⟨P, 6, none⟩ (.bool vf0)) w.heap.size 34 #[.int .i64 0, .int .i64 0, .int .i64 0, .int .i64 0, .int .i64 0, .int .i64 0, .bool false, .string ⟨#[]⟩, .int .i64 0, .int .i64 0, .int .i64 0, .bool false, .slice none 0 0, .slice none 0 0, .slice none 0 0, .int .i64 0, .int .i64 0]) := Lib.hid (HK5.out.grown HSG.out (fun e => by injection e with e; omega))
    have HB6 : Hid (Below w.heap.size w (w5.setCell ⟨P, 6, none⟩ (.bool vf0))) := Lib.hid (HB5.out.grown HSG.out HB5.out.size fun g hg => by cases hg; omega)
    clear HG HX5 HF5 HK5 HR5 HO5 HSG 
    go_upto_region 6 with fail
    obtain ⟨w6, hw6⟩ : ∃ W, (w5.setCell ⟨P, 6, none⟩ (.bool vf0)) = W := ⟨_, rfl⟩
    rw [hw6] at HK6 HB6
    simp only [hw6]
    clear hw6 m6 z6
    go_wp2_with (refine wpList_store_box rfl 34 _ _ rfl w.heap.size 34 #[.int .i64 0, .int .i64 0, .int .i64 0, .int .i64 0, .int .i64 0, .int .i64 0, .bool false, .string ⟨#[]⟩, .int .i64 0, .int .i64 0, .int .i64 0, .bool false, .slice none 0 0, .slice none 0 0, .slice none 0 0, .int .i64 0, .int .i64 0] #[.int .i64 0, .int .i64 0, .int .i64 0, .int .i64 0, .int .i64 0, .int .i64 0, .bool false, .string ⟨#[]⟩, .int .i64 0, .int .i64 0, .int .i64 0, .bool false, .slice none 0 0, .slice none 0 0, .slice none 0 0, .int .i64 0, .int .i64 0] HK6.out rfl rfl rfl (by kernel_rfl) (by kernel_rfl) ?_)
    intro wz hkz hgz
    have HKz := Lib.hid hkz
    have HBz := Lib.hid (HB6.out.grown hgz HB6.out.size fun g hg => by cases hg; exact Nat.le_refl _)
    clear hkz hgz
    go_wp2
    exact bodyPost_ret (v := .tuple #[.agg #[.int .i64 0, .int .i64 0, .int .i64 0, .int .i64 0, .int .i64 0, .int .i64 0, .bool false, .string ⟨#[]⟩, .int .i64 0, .int .i64 0, .int .i64 0, .bool false, .slice none 0 0, .slice none 0 0, .slice none 0 0, .int .i64 0, .int .i64 0], .int .i64 e]) (results_cell_row2 (p := 2) (q := 3) (ty := 34) Tryd.results18 _ _ w.heap.size 34 #[.int .i64 0, .int .i64 0, .int .i64 0, .int .i64 0, .int .i64 0, .int .i64 0, .bool false, .string ⟨#[]⟩, .int .i64 0, .int .i64 0, .int .i64 0, .bool false, .slice none 0 0, .slice none 0 0, .slice none 0 0, .int .i64 0, .int .i64 0] (0, 0) _ rfl HKz.out Tryd.underlying34 rfl (by kernel_rfl)) rfl ⟨zMV, by rw [HFE.out]; rfl, by rw [HFE.out]; rfl, zMV_m _, HBz.out⟩
  subst he
  have hqn := (goodT.back _ _ _ hg).2.1
  rw [List.length_drop] at hqn
  have hqn2 : p4 + q ≤ n := by have := HN.out; omega
  clear hqn
  have HGG := Lib.hid hg
  obtain ⟨p6, hpp⟩ : ∃ y, p4 + q = y := ⟨_, rfl⟩
  rw [hpp] at hqn2 HG
  have HF6 : Hid (RM = fin2 n k ⟨k, f, d, ep, op, vn0, vf0, entP0, [], [], 0, 0⟩ p6 (bs.drop p6)) := Lib.hid (by
    have h9 := HF5.out.trans (fldS_ok Qf.out hg)
    rw [List.drop_drop, hpp] at h9
    exact h9)
  clear hg hpp
  go_wp2_with fail
  refine HG.out.mono ?_
  rintro e5 w5 ⟨rfl, rfl⟩
  have HB5 := HB5
  have HK5 := HK5
  have HR5 := HR5
  have HO5 := HO5
  have m6 : w5.cell? ⟨P, 6, none⟩ = some (.bool x4.flag) := HO5.out.blk.cell 6
  have z6 : w5.frozen? ⟨P, 6, none⟩ = false := HO5.out.blk.frozen 6
  have HSG : Hid (w5.grownBy (w5.setCell ⟨P, 6, none⟩ (.bool vf0)) (some P)) := Lib.hid (grown_set _ P 6 (.bool vf0))
  have HK6 : Hid (Blk (w5.setCell ⟨P, 6, none⟩ (.bool vf0)) w.heap.size 34 #[.int .i64 0, .int .i64 0, .int .i64 0, .int .i64 0, .int .i64 0, .int .i64 0, .bool false, .string ⟨#[]⟩, .int .i64 0, .int .i64 0, .int .i64 0, .bool false, .slice none 0 0, .slice none 0 0, .slice none 0 0, .int .i64 0, .int .i64 0]) := Lib.hid (HK5.out.grown HSG.out (fun e => by injection e with e; omega))
  have HB6 : Hid (Below w.heap.size w (w5.setCell ⟨P, 6, none⟩ (.bool vf0))) := Lib.hid (HB5.out.grown HSG.out HB5.out.size fun g hg => by cases hg; omega)
  obtain ⟨x6, hx6⟩ : ∃ x : MV, x = { x4 with flag := vf0 } := ⟨_, rfl⟩
  have HO6 : Hid (MsgO (w5.setCell ⟨P, 6, none⟩ (.bool vf0)) P x6) := Lib.hid (by
    subst hx6
    exact HO5.out.put HSG.out (by have := (HO5.out.blk.set_ 6 (.bool vf0)); simpa only [List.setIfInBounds_toArray, List.set_cons_succ, List.set_cons_zero] using this) (Or.inl rfl) (Or.inl ⟨rfl, rfl, rfl⟩) (Or.inl ⟨rfl, rfl, rfl⟩))
  have HX6 : Hid (mP x6 = ⟨k, f, d, ep, op, vn0, vf0, entP0, [], [], 0, 0⟩) := Lib.hid (by
    have h8 : mP x6 = { mP x4 with flag := vf0 } := by subst hx6; rfl
    rw [h8, HX5.out])
  have HR6 : Hid (Row (w5.setCell ⟨P, 6, none⟩ (.bool vf0)) w.heap.size A (bs.map byteV)) := Lib.hid (HR5.out.grownBy HSG.out HB5.out.size fun g hg => by cases hg; omega)
  have hp6 := hqn2
  clear HG HX5 HF5 HK5 HB5 HR5 HO5 HSG HGG hx6 
  have HK6 := HK6
  have HB6 := HB6
  have HO6 := HO6
  have HX6 := HX6
  have HR6 := HR6
  go_upto_region 6 with fail
  obtain ⟨W6, hw6⟩ : ∃ W, (w5.setCell ⟨P, 6, none⟩ (.bool vf0)) = W := ⟨_, rfl⟩
  rw [hw6] at HK6 HB6 HO6 HR6
  simp only [hw6]
  clear hw6 m6 z6
  have hp := hp6
  clear hpn
  have hk0 : x6.kind = k := congrArg MsgP.kind HX6.out
  have d0 : W6.cell? ⟨P, 0, none⟩ = some (.int .i64 k) := by
    have := HO6.out.blk.cell 0
    rw [hk0] at this; exact this
  clear hk0
  go_wp2_with fail
  refine (HCe.out _).mono ?_
  rintro e w7 ⟨rfl, hb7⟩
  have HX7 := HX6
  have HF7 := HF6
  clear d0
  have HB7 := Lib.hid (HB6.out.trans (hb7.mono HB6.out.size))
  have HK7 := Lib.hid (HK6.out.below hb7 HK6.out.lt)
  have HR7 := Lib.hid (HR6.out.below (hb7.mono HB6.out.size))
  have HO7 := Lib.hid (HO6.out.below hb7)
  clear hb7 HB6 HK6 HR6 HO6 HX6 HF6
  obtain ⟨⟨ve0, q, e⟩, hg⟩ : ∃ y, refE (bs.drop p6) = y := ⟨_, rfl⟩
  have hpn : p6 ≤ n := hp
  have HG := Lib.hid (refgetat_any n c p6 A bs HN.out hl hc hpn w7 (HR7.out.more HB7.out.size))
  rw [hg] at HG
  unfold RefGotAt at HG
  simp only at HG
  rcases Decidable.em (e = 0) with he | he
  rotate_left
  · have HFE : Hid (RM = (msgP0, e)) := Lib.hid (HF7.out.trans (fldS_err Qe.out hg he))
    have hne : (e == 0) = false := by simpa using he
    have hne2 : (e != 0) = true := by simpa using he
    clear hg he
    go_wp2_with fail
    refine HG.out.mono ?_
    rintro e5 w5 ⟨Ae0, ce0, rfl, ho5, hb5⟩
    have HB5 := Lib.hid (HB7.out.trans (hb5.mono HB7.out.size))
    have HK5 := Lib.hid (HK7.out.below hb5 HK7.out.lt)
    have HR5 := Lib.hid (HR7.out.below (hb5.mono HB7.out.size))
    have HO5 := Lib.hid (HO7.out.below hb5)
    have hPw : P < w7.heap.size := HO7.out.blk.lt
    have m7 : w5.cell? ⟨P, 7, none⟩ = some (.string ⟨x6.e.1.k.toArray⟩) := HO5.out.blk.cell 7
    have z7 : w5.frozen? ⟨P, 7, none⟩ = false := HO5.out.blk.frozen 7
    have m8 : w5.cell? ⟨P, 8, none⟩ = some (.int .i64 x6.e.1.s) := HO5.out.blk.cell 8
    have z8 : w5.frozen? ⟨P, 8, none⟩ = false := HO5.out.blk.frozen 8
    have m9 : w5.cell? ⟨P, 9, none⟩ = some (.int .i64 x6.e.1.u) := HO5.out.blk.cell 9
    have z9 : w5.frozen? ⟨P, 9, none⟩ = false := HO5.out.blk.frozen 9
    have m10 : w5.cell? ⟨P, 10, none⟩ = some (.int .i64 x6.e.1.o) := HO5.out.blk.cell 10
    have z10 : w5.frozen? ⟨P, 10, none⟩ = false := HO5.out.blk.frozen 10
    have m11 : w5.cell? ⟨P, 11, none⟩ = some (.bool x6.e.1.has) := HO5.out.blk.cell 11
    have z11 : w5.frozen? ⟨P, 11, none⟩ = false := HO5.out.blk.frozen 11
    have m12 : w5.cell? ⟨P, 12, none⟩ = some (.slice x6.e.2.1 x6.e.1.v.length x6.e.2.2) := HO5.out.blk.cell 12
    have z12 : w5.frozen? ⟨P, 12, none⟩ = false := HO5.out.blk.frozen 12
    have HSG : Hid (w5.grownBy ((((((w5.setCell ⟨P, 7, none⟩ (.string ⟨ve0.k.toArray⟩)).setCell ⟨P, 8, none⟩ (.int .i64 ve0.s)).setCell ⟨P, 9, none⟩ (.int .i64 ve0.u)).setCell ⟨P, 10, none⟩ (.int .i64 ve0.o)).setCell ⟨P, 11, none⟩ (.bool ve0.has)).setCell ⟨P, 12, none⟩ (.slice Ae0 ve0.v.length ce0)) (some P)) := Lib.hid (grown_trans (grown_trans (grown_trans (grown_trans (grown_trans (grown_set _ P 7 (.string ⟨ve0.k.toArray⟩)) (grown_set _ P 8 (.int .i64 ve0.s))) (grown_set _ P 9 (.int .i64 ve0.u))) (grown_set _ P 10 (.int .i64 ve0.o))) (grown_set _ P 11 (.bool ve0.has))) (grown_set _ P 12 (.slice Ae0 ve0.v.length ce0)))
    have HK6 : Hid (Blk ((((((w5.setCell ⟨P, 7, none⟩ (.string ⟨ve0.k.toArray⟩)).setCell ⟨P, 8, none⟩ (.int .i64 ve0.s)).setCell ⟨P, 9, none⟩ (.int .i64 ve0.u)).setCell ⟨P, 10, none⟩ (.int .i64 ve0.o)).setCell ⟨P, 11, none⟩ (.bool ve0.has)).setCell ⟨P, 12, none⟩ (.slice Ae0 ve0.v.length ce0)) w.heap.size 34 #[.int .i64 0, .int .i64 0, .int .i64 0, .int .i64 0, .int .i64 0, .int .i64 0, .bool false, .string ⟨#[]⟩, .int .i64 0, .int .i64 0, .int .i64 0, .bool false, .slice none 0 0, .slice none 0 0, .slice none 0 0, .int .i64 0, .int .i64 0]) := Lib.hid (HK5.out.grown HSG.out (fun e => by injection e with e; omega))
    have HB6 : Hid (Below w.heap.size w ((((((w5.setCell ⟨P, 7, none⟩ (.string ⟨ve0.k.toArray⟩)).setCell ⟨P, 8, none⟩ (.int .i64 ve0.s)).setCell ⟨P, 9, none⟩ (.int .i64 ve0.u)).setCell ⟨P, 10, none⟩ (.int .i64 ve0.o)).setCell ⟨P, 11, none⟩ (.bool ve0.has)).setCell ⟨P, 12, none⟩ (.slice Ae0 ve0.v.length ce0))) := Lib.hid (HB5.out.grown HSG.out HB5.out.size fun g hg => by cases hg; omega)
    clear HG HX7 HF7 HK5 HR5 HO5 HSG ho5 hb5 hPw
    go_upto_region 8 with fail
    obtain ⟨w6, hw6⟩ : ∃ W, ((((((w5.setCell ⟨P, 7, none⟩ (.string ⟨ve0.k.toArray⟩)).setCell ⟨P, 8, none⟩ (.int .i64 ve0.s)).setCell ⟨P, 9, none⟩ (.int .i64 ve0.u)).setCell ⟨P, 10, none⟩ (.int .i64 ve0.o)).setCell ⟨P, 11, none⟩ (.bool ve0.has)).setCell ⟨P, 12, none⟩ (.slice Ae0 ve0.v.length ce0)) = W := ⟨_, rfl⟩
    rw [hw6] at HK6 HB6
    simp only [hw6]
    clear hw6 m7 z7 m8 z8 m9 z9 m10 z10 m11 z11 m12 z12
    go_wp2_with (refine wpList_store_box rfl 34 _ _ rfl w.heap.size 34 #[.int .i64 0, .int .i64 0, .int .i64 0, .int .i64 0, .int .i64 0, .int .i64 0, .bool false, .string ⟨#[]⟩, .int .i64 0, .int .i64 0, .int .i64 0, .bool false, .slice none 0 0, .slice none 0 0, .slice none 0 0, .int .i64 0, .int .i64 0] #[.int .i64 0, .int .i64 0, .int .i64 0, .int .i64 0, .int .i64 0, .int .i64 0, .bool false, .string ⟨#[]⟩, .int .i64 0, .int .i64 0, .int .i64 0, .bool false, .slice none 0 0, .slice none 0 0, .slice none 0 0, .int .i64 0, .int .i64 0] HK6.out rfl rfl rfl (by kernel_rfl) (by kernel_rfl) ?_)
    intro wz hkz hgz
    have HKz := Lib.hid hkz
    have HBz := Lib.hid (HB6.out.grown hgz HB6.out.size fun g hg => by cases hg; exact Nat.le_refl _)
    clear hkz hgz
    go_wp2
    exact bodyPost_ret (v := .tuple #[.agg #[.int .i64 0, .int .i64 0, .int .i64 0, .int .i64 0, .int .i64 0, .int .i64 0, .bool false, .string ⟨#[]⟩, .int .i64 0, .int .i64 0, .int .i64 0, .bool false, .slice none 0 0, .slice none 0 0, .slice none 0 0, .int .i64 0, .int .i64 0], .int .i64 e]) (results_cell_row2 (p := 2) (q := 3) (ty := 34) Tryd.results18 _ _ w.heap.size 34 #[.int .i64 0, .int .i64 0, .int .i64 0, .int .i64 0, .int .i64 0, .int .i64 0, .bool false, .string ⟨#[]⟩, .int .i64 0, .int .i64 0, .int .i64 0, .bool false, .slice none 0 0, .slice none 0 0, .slice none 0 0, .int .i64 0, .int .i64 0] (0, 0) _ rfl HKz.out Tryd.underlying34 rfl (by kernel_rfl)) rfl ⟨zMV, by rw [HFE.out]; rfl, by rw [HFE.out]; rfl, zMV_m _, HBz.out⟩
  subst he
  have hqn := (goodE.back _ _ _ hg).2.1
  rw [List.length_drop] at hqn
  have hqn2 : p6 + q ≤ n := by have := HN.out; omega
  clear hqn
  have HGG := Lib.hid hg
  obtain ⟨p8, hpp⟩ : ∃ y, p6 + q = y := ⟨_, rfl⟩
  rw [hpp] at hqn2 HG
  have HF8 : Hid (RM = fin3 n k ⟨k, f, d, ep, op, vn0, vf0, ve0, [], [], 0, 0⟩ p8 (bs.drop p8)) := Lib.hid (by
    have h9 := HF7.out.trans (fldS_ok Qe.out hg)
    rw [List.drop_drop, hpp] at h9
    exact h9)
  clear hg hpp
  go_wp2_with fail
  refine HG.out.mono ?_
  rintro e5 w5 ⟨Ae0, ce0, rfl, ho5, hb5⟩
  have HB5 := Lib.hid (HB7.out.trans (hb5.mono HB7.out.size))
  have HK5 := Lib.hid (HK7.out.below hb5 HK7.out.lt)
  have HR5 := Lib.hid (HR7.out.below (hb5.mono HB7.out.size))
  have HO5 := Lib.hid (HO7.out.below hb5)
  have hPw : P < w7.heap.size := HO7.out.blk.lt
  have m7 : w5.cell? ⟨P, 7, none⟩ = some (.string ⟨x6.e.1.k.toArray⟩) := HO5.out.blk.cell 7
  have z7 : w5.frozen? ⟨P, 7, none⟩ = false := HO5.out.blk.frozen 7
  have m8 : w5.cell? ⟨P, 8, none⟩ = some (.int .i64 x6.e.1.s) := HO5.out.blk.cell 8
  have z8 : w5.frozen? ⟨P, 8, none⟩ = false := HO5.out.blk.frozen 8
  have m9 : w5.cell? ⟨P, 9, none⟩ = some (.int .i64 x6.e.1.u) := HO5.out.blk.cell 9
  have z9 : w5.frozen? ⟨P, 9, none⟩ = false := HO5.out.blk.frozen 9
  have m10 : w5.cell? ⟨P, 10, none⟩ = some (.int .i64 x6.e.1.o) := HO5.out.blk.cell 10
  have z10 : w5.frozen? ⟨P, 10, none⟩ = false := HO5.out.blk.frozen 10
  have m11 : w5.cell? ⟨P, 11, none⟩ = some (.bool x6.e.1.has) := HO5.out.blk.cell 11
  have z11 : w5.frozen? ⟨P, 11, none⟩ = false := HO5.out.blk.frozen 11
  have m12 : w5.cell? ⟨P, 12, none⟩ = some (.slice x6.e.2.1 x6.e.1.v.length x6.e.2.2) := HO5.out.blk.cell 12
  have z12 : w5.frozen? ⟨P, 12, none⟩ = false := HO5.out.blk.frozen 12
  have HSG : Hid (w5.grownBy ((((((w5.setCell ⟨P, 7, none⟩ (.string ⟨ve0.k.toArray⟩)).setCell ⟨P, 8, none⟩ (.int .i64 ve0.s)).setCell ⟨P, 9, none⟩ (.int .i64 ve0.u)).setCell ⟨P, 10, none⟩ (.int .i64 ve0.o)).setCell ⟨P, 11, none⟩ (.bool ve0.has)).setCell ⟨P, 12, none⟩ (.slice Ae0 ve0.v.length ce0)) (some P)) := Lib.hid (grown_trans (grown_trans (grown_trans (grown_trans (grown_trans (grown_set _ P 7 (.string ⟨ve0.k.toArray⟩)) (grown_set _ P 8 (.int .i64 ve0.s))) (grown_set _ P 9 (.int .i64 ve0.u))) (grown_set _ P 10 (.int .i64 ve0.o))) (grown_set _ P 11 (.bool ve0.has))) (grown_set _ P 12 (.slice Ae0 ve0.v.length ce0)))
  have HK6 : Hid (Blk ((((((w5.setCell ⟨P, 7, none⟩ (.string ⟨ve0.k.toArray⟩)).setCell ⟨P, 8, none⟩ (.int .i64 ve0.s)).setCell ⟨P, 9, none⟩ (.int .i64 ve0.u)).setCell ⟨P, 10, none⟩ (.int .i64 ve0.o)).setCell ⟨P, 11, none⟩ (.bool ve0.has)).setCell ⟨P, 12, none⟩ (.slice Ae0 ve0.v.length ce0)) w.heap.size 34 #[.int .i64 0, .int .i64 0, .int .i64 0, .int .i64 0, .int .i64 0, .int .i64 0, .bool false, .string ⟨#[]⟩, .int .i64 0, .int .i64 0, .int .i64 0, .bool false, .slice none 0 0, .slice none 0 0, .slice none 0 0, .int .i64 0, .int .i64 0]) := Lib.hid (HK5.out.grown HSG.out (fun e => by injection e with e; omega))
  have HB6 : Hid (Below w.heap.size w ((((((w5.setCell ⟨P, 7, none⟩ (.string ⟨ve0.k.toArray⟩)).setCell ⟨P, 8, none⟩ (.int .i64 ve0.s)).setCell ⟨P, 9, none⟩ (.int .i64 ve0.u)).setCell ⟨P, 10, none⟩ (.int .i64 ve0.o)).setCell ⟨P, 11, none⟩ (.bool ve0.has)).setCell ⟨P, 12, none⟩ (.slice Ae0 ve0.v.length ce0))) := Lib.hid (HB5.out.grown HSG.out HB5.out.size fun g hg => by cases hg; omega)
  have HLE := Lib.hid (refE_ok HGG.out)
  obtain ⟨x8, hx6⟩ : ∃ x : MV, x = { x6 with e := (ve0, Ae0, ce0) } := ⟨_, rfl⟩
  have HO6 : Hid (MsgO ((((((w5.setCell ⟨P, 7, none⟩ (.string ⟨ve0.k.toArray⟩)).setCell ⟨P, 8, none⟩ (.int .i64 ve0.s)).setCell ⟨P, 9, none⟩ (.int .i64 ve0.u)).setCell ⟨P, 10, none⟩ (.int .i64 ve0.o)).setCell ⟨P, 11, none⟩ (.bool ve0.has)).setCell ⟨P, 12, none⟩ (.slice Ae0 ve0.v.length ce0)) P x8) := Lib.hid (by
    subst hx6
    exact HO5.out.put HSG.out (by have := ((((((HO5.out.blk.set_ 7 (.string ⟨ve0.k.toArray⟩)).set_ 8 (.int .i64 ve0.s)).set_ 9 (.int .i64 ve0.u)).set_ 10 (.int .i64 ve0.o)).set_ 11 (.bool ve0.has)).set_ 12 (.slice Ae0 ve0.v.length ce0)); simpa only [List.setIfInBounds_toArray, List.set_cons_succ, List.set_cons_zero] using this) (Or.inr ⟨ownBase ho5 hPw, HLE.out⟩) (Or.inl ⟨rfl, rfl, rfl⟩) (Or.inl ⟨rfl, rfl, rfl⟩))
  have HX6 : Hid (mP x8 = ⟨k, f, d, ep, op, vn0, vf0, ve0, [], [], 0, 0⟩) := Lib.hid (by
    have h8 : mP x8 = { mP x6 with e := ve0 } := by subst hx6; rfl
    rw [h8, HX7.out])
  have HR6 : Hid (Row ((((((w5.setCell ⟨P, 7, none⟩ (.string ⟨ve0.k.toArray⟩)).setCell ⟨P, 8, none⟩ (.int .i64 ve0.s)).setCell ⟨P, 9, none⟩ (.int .i64 ve0.u)).setCell ⟨P, 10, none⟩ (.int .i64 ve0.o)).setCell ⟨P, 11, none⟩ (.bool ve0.has)).setCell ⟨P, 12, none⟩ (.slice Ae0 ve0.v.length ce0)) w.heap.size A (bs.map byteV)) := Lib.hid (HR5.out.grownBy HSG.out HB5.out.size fun g hg => by cases hg; omega)
  have hp8 := hqn2
  clear HG HX7 HF7 HK5 HB5 HR5 HO5 HSG HGG hx6 ho5 hb5 hPw
  have HK8 := HK6
  have HB8 := HB6
  have HO8 := HO6
  have HX8 := HX6
  have HR8 := HR6
  clear HK6 HB6 HO6 HX6 HR6
  go_upto_region 8 with fail
  obtain ⟨W8, hw6⟩ : ∃ W, ((((((w5.setCell ⟨P, 7, none⟩ (.string ⟨ve0.k.toArray⟩)).setCell ⟨P, 8, none⟩ (.int .i64 ve0.s)).setCell ⟨P, 9, none⟩ (.int .i64 ve0.u)).setCell ⟨P, 10, none⟩ (.int .i64 ve0.o)).setCell ⟨P, 11, none⟩ (.bool ve0.has)).setCell ⟨P, 12, none⟩ (.slice Ae0 ve0.v.length ce0)) = W := ⟨_, rfl⟩
  rw [hw6] at HK8 HB8 HO8 HR8
  simp only [hw6]
  clear hw6 m7 z7 m8 z8 m9 z9 m10 z10 m11 z11 m12 z12
  have hp := hp8
  clear hpn
  have hk0 : x8.kind = k := congrArg MsgP.kind HX8.out
  have d0 : W8.cell? ⟨P, 0, none⟩ = some (.int .i64 k) := by
    have := HO8.out.blk.cell 0
    rw [hk0] at this; exact this
  clear hk0
  go_wp2_with fail
  refine (HCl.out _).mono ?_
  rintro e w9 ⟨rfl, hb9⟩
  have HX9 := HX8
  have HF9 := HF8
  clear d0
  have HB9 := Lib.hid (HB8.out.trans (hb9.mono HB8.out.size))
  have HK9 := Lib.hid (HK8.out.below hb9 HK8.out.lt)
  have HR9 := Lib.hid (HR8.out.below (hb9.mono HB8.out.size))
  have HO9 := Lib.hid (HO8.out.below hb9)
  clear hb9 HB8 HK8 HR8 HO8 HX8 HF8
  have HF10 : Hid (RM = fin4 n k ⟨k, f, d, ep, op, vn0, vf0, ve0, [], [], 0, 0⟩ p8 (bs.drop p8)) := Lib.hid (HF9.out.trans (fldS_no Ql.out))
  have HB10 := HB9
  have HK10 := HK9
  have HR10 := HR9
  have HO10 := HO9
  have HX10 := HX9
  clear HB9 HK9 HR9 HO9 HX9 HF9
  have hk0 : x8.kind = k := congrArg MsgP.kind HX10.out
  have d0 : w9.cell? ⟨P, 0, none⟩ = some (.int .i64 k) := by
    have := HO10.out.blk.cell 0
    rw [hk0] at this; exact this
  clear hk0
  go_wp2_with fail
  refine (HCr.out _).mono ?_
  rintro e w11 ⟨rfl, hb11⟩
  have HX11 := HX10
  have HF11 := HF10
  clear d0
  have HB11 := Lib.hid (HB10.out.trans (hb11.mono HB10.out.size))
  have HK11 := Lib.hid (HK10.out.below hb11 HK10.out.lt)
  have HR11 := Lib.hid (HR10.out.below (hb11.mono HB10.out.size))
  have HO11 := Lib.hid (HO10.out.below hb11)
  clear hb11 HB10 HK10 HR10 HO10 HX10 HF10
  have HF12 : Hid (RM = fin5 n ⟨k, f, d, ep, op, vn0, vf0, ve0, [], [], 0, 0⟩ p8) := Lib.hid (HF11.out.trans (fldS_no Qr.out))
  have HB12 := HB11
  have HK12 := HK11
  have HR12 := HR11
  have HO12 := HO11
  have HX12 := HX11
  clear HB11 HK11 HR11 HO11 HX11 HF11
  rcases Nat.lt_or_ge p8 n with hpl | hpl
  · have HFE : Hid (RM = (msgP0, 11)) := Lib.hid (HF12.out.trans (if_pos (Or.inl hpl)))
    have hpi : (p8 : Int) < (n : Int) := by omega
    clear HX12 HF12 HR12
    go_wp2_with (refine wpList_store_box rfl 34 _ _ rfl w.heap.size 34 #[.int .i64 0, .int .i64 0, .int .i64 0, .int .i64 0, .int .i64 0, .int .i64 0, .bool false, .string ⟨#[]⟩, .int .i64 0, .int .i64 0, .int .i64 0, .bool false, .slice none 0 0, .slice none 0 0, .slice none 0 0, .int .i64 0, .int .i64 0] #[.int .i64 0, .int .i64 0, .int .i64 0, .int .i64 0, .int .i64 0, .int .i64 0, .bool false, .string ⟨#[]⟩, .int .i64 0, .int .i64 0, .int .i64 0, .bool false, .slice none 0 0, .slice none 0 0, .slice none 0 0, .int .i64 0, .int .i64 0] HK12.out rfl rfl rfl (by kernel_rfl) (by kernel_rfl) ?_)
    intro wz hkz hgz
    have HKz := Lib.hid hkz
    have HBz := Lib.hid (HB12.out.grown hgz HB12.out.size fun g hg => by cases hg; exact Nat.le_refl _)
    clear hkz hgz
    go_wp2
    exact bodyPost_ret (v := .tuple #[.agg #[.int .i64 0, .int .i64 0, .int .i64 0, .int .i64 0, .int .i64 0, .int .i64 0, .bool false, .string ⟨#[]⟩, .int .i64 0, .int .i64 0, .int .i64 0, .bool false, .slice none 0 0, .slice none 0 0, .slice none 0 0, .int .i64 0, .int .i64 0], .int .i64 11]) (results_cell_row2 (p := 2) (q := 3) (ty := 34) Tryd.results18 _ _ w.heap.size 34 #[.int .i64 0, .int .i64 0, .int .i64 0, .int .i64 0, .int .i64 0, .int .i64 0, .bool false, .string ⟨#[]⟩, .int .i64 0, .int .i64 0, .int .i64 0, .bool false, .slice none 0 0, .slice none 0 0, .slice none 0 0, .int .i64 0, .int .i64 0] (0, 0) _ rfl HKz.out Tryd.underlying34 rfl (by kernel_rfl)) rfl ⟨zMV, by rw [HFE.out]; rfl, by rw [HFE.out]; rfl, zMV_m _, HBz.out⟩
  have hpi : ¬ ((p8 : Int) < (n : Int)) := by omega
  rcases Bool.eq_false_or_eq_true (okM ⟨k, f, d, ep, op, vn0, vf0, ve0, [], [], 0, 0⟩) with hok | hok
  · have HFE : Hid (RM = (⟨k, f, d, ep, op, vn0, vf0, ve0, [], [], 0, 0⟩, 0)) := Lib.hid (HF12.out.trans (if_neg (by rw [hok]; simp; omega)))
    have HCK := Lib.hid (refcheck12 x8 w11 HO12.out.msgM)
    rw [show checkM (mP x8) = 0 from by rw [HX12.out]; unfold checkM; rw [hok]; rfl] at HCK
    clear HF12 HR12 hok
    have hxc := HO12.out.blk
    have l0 : w11.cell? ⟨P, 0, none⟩ = some (.int .i64 x8.kind) := hxc.cell 0
    have l1 : w11.cell? ⟨P, 1, none⟩ = some (.int .i64 x8.fr) := hxc.cell 1
    have l2 : w11.cell? ⟨P, 2, none⟩ = some (.int .i64 x8.dst) := hxc.cell 2
    have l3 : w11.cell? ⟨P, 3, none⟩ = some (.int .i64 x8.ep) := hxc.cell 3
    have l4 : w11.cell? ⟨P, 4, none⟩ = some (.int .i64 x8.op) := hxc.cell 4
    have l5 : w11.cell? ⟨P, 5, none⟩ = some (.int .i64 x8.n) := hxc.cell 5
    have l6 : w11.cell? ⟨P, 6, none⟩ = some (.bool x8.flag) := hxc.cell 6
    have l7 : w11.cell? ⟨P, 7, none⟩ = some (.string ⟨x8.e.1.k.toArray⟩) := hxc.cell 7
    have l8 : w11.cell? ⟨P, 8, none⟩ = some (.int .i64 x8.e.1.s) := hxc.cell 8
    have l9 : w11.cell? ⟨P, 9, none⟩ = some (.int .i64 x8.e.1.u) := hxc.cell 9
    have l10 : w11.cell? ⟨P, 10, none⟩ = some (.int .i64 x8.e.1.o) := hxc.cell 10
    have l11 : w11.cell? ⟨P, 11, none⟩ = some (.bool x8.e.1.has) := hxc.cell 11
    have l12 : w11.cell? ⟨P, 12, none⟩ = some (.slice x8.e.2.1 x8.e.1.v.length x8.e.2.2) := hxc.cell 12
    have l13 : w11.cell? ⟨P, 13, none⟩ = some (.slice x8.lA x8.l.length x8.lc) := hxc.cell 13
    have l14 : w11.cell? ⟨P, 14, none⟩ = some (.slice x8.rA x8.ns.length x8.rc) := hxc.cell 14
    have l15 : w11.cell? ⟨P, 15, none⟩ = some (.int .i64 x8.each) := hxc.cell 15
    have l16 : w11.cell? ⟨P, 16, none⟩ = some (.int .i64 x8.keep) := hxc.cell 16
    clear hxc
    go_wp2_with fail
    refine HCK.out.mono ?_
    rintro e w8 ⟨rfl, hb8⟩
    have HB8 := Lib.hid (HB12.out.trans (hb8.mono HB12.out.size))
    have HK8 := Lib.hid (HK12.out.below hb8 HK12.out.lt)
    have HO8 := Lib.hid (HO12.out.below hb8)
    clear hb8 HCK HB12 HK12 HO12 l0 l1 l2 l3 l4 l5 l6 l7 l8 l9 l10 l11 l12 l13 l14 l15 l16
    go_wp2_with (first | (refine wpList_load_row rfl 34 _ rfl _ rfl _ _ _ _ (show _ = _ from HO8.out.blk) Tryd.underlying34 rfl (by kernel_rfl) ?_) | (refine wpList_store_box rfl 34 _ _ rfl w.heap.size 34 #[.int .i64 0, .int .i64 0, .int .i64 0, .int .i64 0, .int .i64 0, .int .i64 0, .bool false, .string ⟨#[]⟩, .int .i64 0, .int .i64 0, .int .i64 0, .bool false, .slice none 0 0, .slice none 0 0, .slice none 0 0, .int .i64 0, .int .i64 0] #[.int .i64 x8.kind, .int .i64 x8.fr, .int .i64 x8.dst, .int .i64 x8.ep, .int .i64 x8.op, .int .i64 x8.n, .bool x8.flag, .string ⟨x8.e.1.k.toArray⟩, .int .i64 x8.e.1.s, .int .i64 x8.e.1.u, .int .i64 x8.e.1.o, .bool x8.e.1.has, .slice x8.e.2.1 x8.e.1.v.length x8.e.2.2, .slice x8.lA x8.l.length x8.lc, .slice x8.rA x8.ns.length x8.rc, .int .i64 x8.each, .int .i64 x8.keep] HK8.out rfl rfl rfl (by kernel_rfl) (by kernel_rfl) ?_))
    intro wz hkz hgz
    have HKz := Lib.hid hkz
    have HOz := Lib.hid (HO8.out.grown hgz hgP)
    have HBz := Lib.hid (HB8.out.grown hgz HB8.out.size fun g hg => by cases hg; exact Nat.le_refl _)
    clear hkz hgz
    go_wp2
    exact bodyPost_ret (v := .tuple #[.agg #[.int .i64 x8.kind, .int .i64 x8.fr, .int .i64 x8.dst, .int .i64 x8.ep, .int .i64 x8.op, .int .i64 x8.n, .bool x8.flag, .string ⟨x8.e.1.k.toArray⟩, .int .i64 x8.e.1.s, .int .i64 x8.e.1.u, .int .i64 x8.e.1.o, .bool x8.e.1.has, .slice x8.e.2.1 x8.e.1.v.length x8.e.2.2, .slice x8.lA x8.l.length x8.lc, .slice x8.rA x8.ns.length x8.rc, .int .i64 x8.each, .int .i64 x8.keep], .int .i64 0]) (results_cell_row2 (p := 2) (q := 3) (ty := 34) Tryd.results18 _ _ w.heap.size 34 #[.int .i64 x8.kind, .int .i64 x8.fr, .int .i64 x8.dst, .int .i64 x8.ep, .int .i64 x8.op, .int .i64 x8.n, .bool x8.flag, .string ⟨x8.e.1.k.toArray⟩, .int .i64 x8.e.1.s, .int .i64 x8.e.1.u, .int .i64 x8.e.1.o, .bool x8.e.1.has, .slice x8.e.2.1 x8.e.1.v.length x8.e.2.2, .slice x8.lA x8.l.length x8.lc, .slice x8.rA x8.ns.length x8.rc, .int .i64 x8.each, .int .i64 x8.keep] (0, 0) _ rfl HKz.out Tryd.underlying34 rfl (by kernel_rfl)) rfl ⟨x8, by rw [HFE.out], by rw [HFE.out]; exact HX12.out, HOz.out.msgM, HBz.out⟩
  · have HFE : Hid (RM = (msgP0, 11)) := Lib.hid (HF12.out.trans (if_pos (Or.inr hok)))
    have HCK := Lib.hid (refcheck12 x8 w11 HO12.out.msgM)
    rw [show checkM (mP x8) = 2 from by rw [HX12.out]; exact checkM_no hok] at HCK
    clear HX12 HF12 HR12 hok
    have hxc := HO12.out.blk
    have l0 : w11.cell? ⟨P, 0, none⟩ = some (.int .i64 x8.kind) := hxc.cell 0
    have l1 : w11.cell? ⟨P, 1, none⟩ = some (.int .i64 x8.fr) := hxc.cell 1
    have l2 : w11.cell? ⟨P, 2, none⟩ = some (.int .i64 x8.dst) := hxc.cell 2
    have l3 : w11.cell? ⟨P, 3, none⟩ = some (.int .i64 x8.ep) := hxc.cell 3
    have l4 : w11.cell? ⟨P, 4, none⟩ = some (.int .i64 x8.op) := hxc.cell 4
    have l5 : w11.cell? ⟨P, 5, none⟩ = some (.int .i64 x8.n) := hxc.cell 5
    have l6 : w11.cell? ⟨P, 6, none⟩ = some (.bool x8.flag) := hxc.cell 6
    have l7 : w11.cell? ⟨P, 7, none⟩ = some (.string ⟨x8.e.1.k.toArray⟩) := hxc.cell 7
    have l8 : w11.cell? ⟨P, 8, none⟩ = some (.int .i64 x8.e.1.s) := hxc.cell 8
    have l9 : w11.cell? ⟨P, 9, none⟩ = some (.int .i64 x8.e.1.u) := hxc.cell 9
    have l10 : w11.cell? ⟨P, 10, none⟩ = some (.int .i64 x8.e.1.o) := hxc.cell 10
    have l11 : w11.cell? ⟨P, 11, none⟩ = some (.bool x8.e.1.has) := hxc.cell 11
    have l12 : w11.cell? ⟨P, 12, none⟩ = some (.slice x8.e.2.1 x8.e.1.v.length x8.e.2.2) := hxc.cell 12
    have l13 : w11.cell? ⟨P, 13, none⟩ = some (.slice x8.lA x8.l.length x8.lc) := hxc.cell 13
    have l14 : w11.cell? ⟨P, 14, none⟩ = some (.slice x8.rA x8.ns.length x8.rc) := hxc.cell 14
    have l15 : w11.cell? ⟨P, 15, none⟩ = some (.int .i64 x8.each) := hxc.cell 15
    have l16 : w11.cell? ⟨P, 16, none⟩ = some (.int .i64 x8.keep) := hxc.cell 16
    clear hxc
    go_wp2_with fail
    refine HCK.out.mono ?_
    rintro e w8 ⟨rfl, hb8⟩
    have HB8 := Lib.hid (HB12.out.trans (hb8.mono HB12.out.size))
    have HK8 := Lib.hid (HK12.out.below hb8 HK12.out.lt)
    have HO8 := Lib.hid (HO12.out.below hb8)
    clear hb8 HCK HB12 HK12 HO12 l0 l1 l2 l3 l4 l5 l6 l7 l8 l9 l10 l11 l12 l13 l14 l15 l16
    go_wp2_with (refine wpList_store_box rfl 34 _ _ rfl w.heap.size 34 #[.int .i64 0, .int .i64 0, .int .i64 0, .int .i64 0, .int .i64 0, .int .i64 0, .bool false, .string ⟨#[]⟩, .int .i64 0, .int .i64 0, .int .i64 0, .bool false, .slice none 0 0, .slice none 0 0, .slice none 0 0, .int .i64 0, .int .i64 0] #[.int .i64 0, .int .i64 0, .int .i64 0, .int .i64 0, .int .i64 0, .int .i64 0, .bool false, .string ⟨#[]⟩, .int .i64 0, .int .i64 0, .int .i64 0, .bool false, .slice none 0 0, .slice none 0 0, .slice none 0 0, .int .i64 0, .int .i64 0] HK8.out rfl rfl rfl (by kernel_rfl) (by kernel_rfl) ?_)
    intro wz hkz hgz
    have HKz := Lib.hid hkz
    have HBz := Lib.hid (HB8.out.grown hgz HB8.out.size fun g hg => by cases hg; exact Nat.le_refl _)
    clear hkz hgz
    go_wp2
    exact bodyPost_ret (v := .tuple #[.agg #[.int .i64 0, .int .i64 0, .int .i64 0, .int .i64 0, .int .i64 0, .int .i64 0, .bool false, .string ⟨#[]⟩, .int .i64 0, .int .i64 0, .int .i64 0, .bool false, .slice none 0 0, .slice none 0 0, .slice none 0 0, .int .i64 0, .int .i64 0], .int .i64 11]) (results_cell_row2 (p := 2) (q := 3) (ty := 34) Tryd.results18 _ _ w.heap.size 34 #[.int .i64 0, .int .i64 0, .int .i64 0, .int .i64 0, .int .i64 0, .int .i64 0, .bool false, .string ⟨#[]⟩, .int .i64 0, .int .i64 0, .int .i64 0, .bool false, .slice none 0 0, .slice none 0 0, .slice none 0 0, .int .i64 0, .int .i64 0] (0, 0) _ rfl HKz.out Tryd.underlying34 rfl (by kernel_rfl)) rfl ⟨zMV, by rw [HFE.out]; rfl, by rw [HFE.out]; rfl, zMV_m _, HBz.out⟩
end Go.Proofs.YtfamklplhdnaiaaDoor
