/- MsDr: The reference's Back. -/
import Derived.Test.YtgmennblbeefhaaDoorMsD0
import Derived.Test.YtgmennblbeefhaaDoorMsC
import Derived.Test.YtgmennblbeefhaaDoorMsB
import Derived.Test.YtgmennblbeefhaaDoorMsR0
import Derived.Test.YtgmennblbeefhaaDoorMsRq
import Derived.BigFrame
namespace Go.Proofs.YtgmennblbeefhaaDoor
open Go.RowKit Mem Be Rg
set_option maxRecDepth 100000
set_option maxHeartbeats 16000000
set_option linter.unusedVariables false
set_option linter.unusedSimpArgs false
theorem refback12_yes (x : MV) (k : Int) (he : hasE k = true) (w : World) : Calls Tryd.prog 26 #[.agg #[.int .i64 x.kind, .int .i64 x.fr, .int .i64 x.dst, .int .i64 x.ep, .int .i64 x.op, .int .i64 x.n, .bool x.flag, .string ⟨x.e.1.k.toArray⟩, .int .i64 x.e.1.s, .int .i64 x.e.1.u, .int .i64 x.e.1.o, .bool x.e.1.has, .slice x.e.2.1 x.e.1.v.length x.e.2.2, .slice x.lA x.l.length x.lc, .slice x.rA x.ns.length x.rc, .int .i64 x.each, .int .i64 x.keep], .int .i64 k] w (BackP k x.fr x.dst x.ep x.op ⟨x.e.1.k.toArray⟩ w) := by
  have hk0 := (Blk.new w 34 #[.int .i64 x.kind, .int .i64 x.fr, .int .i64 x.dst, .int .i64 x.ep, .int .i64 x.op, .int .i64 x.n, .bool x.flag, .string ⟨x.e.1.k.toArray⟩, .int .i64 x.e.1.s, .int .i64 x.e.1.u, .int .i64 x.e.1.o, .bool x.e.1.has, .slice x.e.2.1 x.e.1.v.length x.e.2.2, .slice x.lA x.l.length x.lc, .slice x.rA x.ns.length x.rc, .int .i64 x.each, .int .i64 x.keep]).alloc (.cells #[.int .i64 0, .int .i64 0, .int .i64 0, .int .i64 0, .int .i64 0, .int .i64 0, .bool false, .string ⟨#[]⟩, .int .i64 0, .int .i64 0, .int .i64 0, .bool false, .slice none 0 0, .slice none 0 0, .slice none 0 0, .int .i64 0, .int .i64 0] 34)
  have hk1 := Blk.new (w.alloc (.cells #[.int .i64 x.kind, .int .i64 x.fr, .int .i64 x.dst, .int .i64 x.ep, .int .i64 x.op, .int .i64 x.n, .bool x.flag, .string ⟨x.e.1.k.toArray⟩, .int .i64 x.e.1.s, .int .i64 x.e.1.u, .int .i64 x.e.1.o, .bool x.e.1.has, .slice x.e.2.1 x.e.1.v.length x.e.2.2, .slice x.lA x.l.length x.lc, .slice x.rA x.ns.length x.rc, .int .i64 x.each, .int .i64 x.keep] 34)) 34 #[.int .i64 0, .int .i64 0, .int .i64 0, .int .i64 0, .int .i64 0, .int .i64 0, .bool false, .string ⟨#[]⟩, .int .i64 0, .int .i64 0, .int .i64 0, .bool false, .slice none 0 0, .slice none 0 0, .slice none 0 0, .int .i64 0, .int .i64 0]
  have hb1 : Below w.heap.size w ((w.alloc (.cells #[.int .i64 x.kind, .int .i64 x.fr, .int .i64 x.dst, .int .i64 x.ep, .int .i64 x.op, .int .i64 x.n, .bool x.flag, .string ⟨x.e.1.k.toArray⟩, .int .i64 x.e.1.s, .int .i64 x.e.1.u, .int .i64 x.e.1.o, .bool x.e.1.has, .slice x.e.2.1 x.e.1.v.length x.e.2.2, .slice x.lA x.l.length x.lc, .slice x.rA x.ns.length x.rc, .int .i64 x.each, .int .i64 x.keep] 34)).alloc (.cells #[.int .i64 0, .int .i64 0, .int .i64 0, .int .i64 0, .int .i64 0, .int .i64 0, .bool false, .string ⟨#[]⟩, .int .i64 0, .int .i64 0, .int .i64 0, .bool false, .slice none 0 0, .slice none 0 0, .slice none 0 0, .int .i64 0, .int .i64 0] 34)) := ((Below.refl _ _).alloc (Nat.le_refl _) _).alloc (by simp) _
  rw [World.size_alloc] at hk1
  obtain ⟨W1, hW1⟩ : ∃ W, (w.alloc (.cells #[.int .i64 x.kind, .int .i64 x.fr, .int .i64 x.dst, .int .i64 x.ep, .int .i64 x.op, .int .i64 x.n, .bool x.flag, .string ⟨x.e.1.k.toArray⟩, .int .i64 x.e.1.s, .int .i64 x.e.1.u, .int .i64 x.e.1.o, .bool x.e.1.has, .slice x.e.2.1 x.e.1.v.length x.e.2.2, .slice x.lA x.l.length x.lc, .slice x.rA x.ns.length x.rc, .int .i64 x.each, .int .i64 x.keep] 34)).alloc (.cells #[.int .i64 0, .int .i64 0, .int .i64 0, .int .i64 0, .int .i64 0, .int .i64 0, .bool false, .string ⟨#[]⟩, .int .i64 0, .int .i64 0, .int .i64 0, .bool false, .slice none 0 0, .slice none 0 0, .slice none 0 0, .int .i64 0, .int .i64 0] 34) = W := ⟨_, rfl⟩
  rw [hW1] at hk0 hk1 hb1
  have d1 : W1.cell? ⟨w.heap.size, 1, none⟩ = some (.int .i64 x.fr) := hk0.cell 1
  have d2 : W1.cell? ⟨w.heap.size, 2, none⟩ = some (.int .i64 x.dst) := hk0.cell 2
  have d3 : W1.cell? ⟨w.heap.size, 3, none⟩ = some (.int .i64 x.ep) := hk0.cell 3
  have d4 : W1.cell? ⟨w.heap.size, 4, none⟩ = some (.int .i64 x.op) := hk0.cell 4
  have HK0 := Lib.hid hk0
  have HK1 := Lib.hid hk1
  have HB1 := Lib.hid hb1
  have HCe := Lib.hid fun W' => rhasE_any k W'
  rw [he] at HCe
  have HE : Hid (backKey k ⟨x.e.1.k.toArray⟩ = ⟨x.e.1.k.toArray⟩) := Lib.hid (by unfold backKey; rw [he]; rfl)
  clear hk0 hk1 hb1 he
  go_enter Tryd.func26, Tryd.ntmps26
  go_upto_region 2 with (refine wpList_boxM rfl rfl _ rfl 34 #[.int .i64 0, .int .i64 0, .int .i64 0, .int .i64 0, .int .i64 0, .int .i64 0, .bool false, .string ⟨#[]⟩, .int .i64 0, .int .i64 0, .int .i64 0, .bool false, .slice none 0 0, .slice none 0 0, .slice none 0 0, .int .i64 0, .int .i64 0] (by kernel_rfl) _ _ rfl #[.int .i64 k, .int .i64 x.dst, .int .i64 x.fr, .int .i64 x.ep, .int .i64 x.op, .int .i64 0, .bool false, .string ⟨#[]⟩, .int .i64 0, .int .i64 0, .int .i64 0, .bool false, .slice none 0 0, .slice none 0 0, .slice none 0 0, .int .i64 0, .int .i64 0] rfl rfl rfl (by kernel_rfl) (by kernel_rfl) ?_)
  obtain ⟨W2, hW2⟩ : ∃ W, W1.alloc (.cells #[.int .i64 k, .int .i64 x.dst, .int .i64 x.fr, .int .i64 x.ep, .int .i64 x.op, .int .i64 0, .bool false, .string ⟨#[]⟩, .int .i64 0, .int .i64 0, .int .i64 0, .bool false, .slice none 0 0, .slice none 0 0, .slice none 0 0, .int .i64 0, .int .i64 0] 34) = W := ⟨_, rfl⟩
  obtain ⟨g2, hg2⟩ : ∃ g, W1.heap.size = g := ⟨_, rfl⟩
  have hb2 : Below W1.heap.size W1 W2 := by rw [← hW2]; exact (Below.refl _ _).alloc (Nat.le_refl _) _
  have HG2 : Hid (Blk W2 g2 34 #[.int .i64 k, .int .i64 x.dst, .int .i64 x.fr, .int .i64 x.ep, .int .i64 x.op, .int .i64 0, .bool false, .string ⟨#[]⟩, .int .i64 0, .int .i64 0, .int .i64 0, .bool false, .slice none 0 0, .slice none 0 0, .slice none 0 0, .int .i64 0, .int .i64 0]) := Lib.hid (by rw [← hW2, ← hg2]; exact Blk.new _ _ _)
  have hg : w.heap.size + 1 < g2 := by rw [← hg2]; exact HK1.out.lt
  have HB2 := Lib.hid (HB1.out.trans (hb2.mono HB1.out.size))
  have HA2 := Lib.hid (HK0.out.below hb2 HK0.out.lt)
  have HR2 := Lib.hid (HK1.out.below hb2 HK1.out.lt)
  simp only [hW2, hg2]
  clear hb2 hW2 hg2 HB1 HK0 HK1 hW1 d1 d2 d3 d4
  go_wp2_with fail
  refine (HCe.out _).mono ?_
  rintro e w3 ⟨rfl, hb3⟩
  have HB3 := Lib.hid (HB2.out.trans (hb3.mono HB2.out.size))
  have HA3 := Lib.hid (HA2.out.below hb3 HA2.out.lt)
  have HR3 := Lib.hid (HR2.out.below hb3 HR2.out.lt)
  have HG3 := Lib.hid (HG2.out.below hb3 HG2.out.lt)
  have d7 : w3.cell? ⟨w.heap.size, 7, none⟩ = some (.string ⟨x.e.1.k.toArray⟩) := HA3.out.cell 7
  clear hb3 HB2 HA2 HR2 HG2 HCe
  have m7 : w3.cell? ⟨g2, 7, none⟩ = some (.string ⟨#[]⟩) := HG3.out.cell 7
  have z7 : w3.frozen? ⟨g2, 7, none⟩ = false := HG3.out.frozen 7
  have m8 : w3.cell? ⟨g2, 8, none⟩ = some (.int .i64 0) := HG3.out.cell 8
  have z8 : w3.frozen? ⟨g2, 8, none⟩ = false := HG3.out.frozen 8
  have m9 : w3.cell? ⟨g2, 9, none⟩ = some (.int .i64 0) := HG3.out.cell 9
  have z9 : w3.frozen? ⟨g2, 9, none⟩ = false := HG3.out.frozen 9
  have m10 : w3.cell? ⟨g2, 10, none⟩ = some (.int .i64 0) := HG3.out.cell 10
  have z10 : w3.frozen? ⟨g2, 10, none⟩ = false := HG3.out.frozen 10
  have m11 : w3.cell? ⟨g2, 11, none⟩ = some (.bool false) := HG3.out.cell 11
  have z11 : w3.frozen? ⟨g2, 11, none⟩ = false := HG3.out.frozen 11
  have m12 : w3.cell? ⟨g2, 12, none⟩ = some (.slice none 0 0) := HG3.out.cell 12
  have z12 : w3.frozen? ⟨g2, 12, none⟩ = false := HG3.out.frozen 12
  have HSG : Hid (w3.grownBy ((((((w3.setCell ⟨g2, 7, none⟩ (.string ⟨x.e.1.k.toArray⟩)).setCell ⟨g2, 8, none⟩ (.int .i64 0)).setCell ⟨g2, 9, none⟩ (.int .i64 0)).setCell ⟨g2, 10, none⟩ (.int .i64 0)).setCell ⟨g2, 11, none⟩ (.bool false)).setCell ⟨g2, 12, none⟩ (.slice none 0 0)) (some g2)) := Lib.hid (grown_trans (grown_trans (grown_trans (grown_trans (grown_trans (grown_set _ g2 7 (.string ⟨x.e.1.k.toArray⟩)) (grown_set _ g2 8 (.int .i64 0))) (grown_set _ g2 9 (.int .i64 0))) (grown_set _ g2 10 (.int .i64 0))) (grown_set _ g2 11 (.bool false))) (grown_set _ g2 12 (.slice none 0 0)))
  have HG4 : Hid (Blk ((((((w3.setCell ⟨g2, 7, none⟩ (.string ⟨x.e.1.k.toArray⟩)).setCell ⟨g2, 8, none⟩ (.int .i64 0)).setCell ⟨g2, 9, none⟩ (.int .i64 0)).setCell ⟨g2, 10, none⟩ (.int .i64 0)).setCell ⟨g2, 11, none⟩ (.bool false)).setCell ⟨g2, 12, none⟩ (.slice none 0 0)) g2 34 #[.int .i64 k, .int .i64 x.dst, .int .i64 x.fr, .int .i64 x.ep, .int .i64 x.op, .int .i64 0, .bool false, .string ⟨x.e.1.k.toArray⟩, .int .i64 0, .int .i64 0, .int .i64 0, .bool false, .slice none 0 0, .slice none 0 0, .slice none 0 0, .int .i64 0, .int .i64 0]) := Lib.hid (by have := ((((((HG3.out.set_ 7 (.string ⟨x.e.1.k.toArray⟩)).set_ 8 (.int .i64 0)).set_ 9 (.int .i64 0)).set_ 10 (.int .i64 0)).set_ 11 (.bool false)).set_ 12 (.slice none 0 0)); simpa only [List.setIfInBounds_toArray, List.set_cons_succ, List.set_cons_zero] using this)
  have HR4 : Hid (Blk ((((((w3.setCell ⟨g2, 7, none⟩ (.string ⟨x.e.1.k.toArray⟩)).setCell ⟨g2, 8, none⟩ (.int .i64 0)).setCell ⟨g2, 9, none⟩ (.int .i64 0)).setCell ⟨g2, 10, none⟩ (.int .i64 0)).setCell ⟨g2, 11, none⟩ (.bool false)).setCell ⟨g2, 12, none⟩ (.slice none 0 0)) (w.heap.size + 1) 34 #[.int .i64 0, .int .i64 0, .int .i64 0, .int .i64 0, .int .i64 0, .int .i64 0, .bool false, .string ⟨#[]⟩, .int .i64 0, .int .i64 0, .int .i64 0, .bool false, .slice none 0 0, .slice none 0 0, .slice none 0 0, .int .i64 0, .int .i64 0]) := Lib.hid (HR3.out.grown HSG.out (fun e => by injection e with e; omega))
  have HB4 : Hid (Below w.heap.size w ((((((w3.setCell ⟨g2, 7, none⟩ (.string ⟨x.e.1.k.toArray⟩)).setCell ⟨g2, 8, none⟩ (.int .i64 0)).setCell ⟨g2, 9, none⟩ (.int .i64 0)).setCell ⟨g2, 10, none⟩ (.int .i64 0)).setCell ⟨g2, 11, none⟩ (.bool false)).setCell ⟨g2, 12, none⟩ (.slice none 0 0))) := Lib.hid (HB3.out.grown HSG.out HB3.out.size fun g hg => by cases hg; omega)
  clear HG3 HR3 HB3 HA3 HSG
  go_upto_region 4 with fail
  obtain ⟨w4, hw4⟩ : ∃ W, ((((((w3.setCell ⟨g2, 7, none⟩ (.string ⟨x.e.1.k.toArray⟩)).setCell ⟨g2, 8, none⟩ (.int .i64 0)).setCell ⟨g2, 9, none⟩ (.int .i64 0)).setCell ⟨g2, 10, none⟩ (.int .i64 0)).setCell ⟨g2, 11, none⟩ (.bool false)).setCell ⟨g2, 12, none⟩ (.slice none 0 0)) = W := ⟨_, rfl⟩
  rw [hw4] at HG4 HR4 HB4
  simp only [hw4]
  clear hw4
  go_wp2_with (first | (refine wpList_load_row rfl 34 _ rfl _ rfl _ _ _ _ (show _ = _ from HG4.out) Tryd.underlying34 rfl (by kernel_rfl) ?_) | (refine wpList_store_box rfl 34 _ _ rfl (w.heap.size + 1) 34 #[.int .i64 0, .int .i64 0, .int .i64 0, .int .i64 0, .int .i64 0, .int .i64 0, .bool false, .string ⟨#[]⟩, .int .i64 0, .int .i64 0, .int .i64 0, .bool false, .slice none 0 0, .slice none 0 0, .slice none 0 0, .int .i64 0, .int .i64 0] #[.int .i64 k, .int .i64 x.dst, .int .i64 x.fr, .int .i64 x.ep, .int .i64 x.op, .int .i64 0, .bool false, .string ⟨x.e.1.k.toArray⟩, .int .i64 0, .int .i64 0, .int .i64 0, .bool false, .slice none 0 0, .slice none 0 0, .slice none 0 0, .int .i64 0, .int .i64 0] HR4.out rfl rfl rfl (by kernel_rfl) (by kernel_rfl) ?_))
  intro wz hkz hgz
  have HKz := Lib.hid hkz
  have HBz := Lib.hid (HB4.out.grown hgz HB4.out.size fun g hg => by cases hg; omega)
  clear hkz hgz
  go_wp2
  exact bodyPost_ret (v := .agg #[.int .i64 k, .int .i64 x.dst, .int .i64 x.fr, .int .i64 x.ep, .int .i64 x.op, .int .i64 0, .bool false, .string ⟨x.e.1.k.toArray⟩, .int .i64 0, .int .i64 0, .int .i64 0, .bool false, .slice none 0 0, .slice none 0 0, .slice none 0 0, .int .i64 0, .int .i64 0]) (results_cell_row (p := 4) (ty := 34) Tryd.results26 _ _ (w.heap.size + 1) 34 #[.int .i64 k, .int .i64 x.dst, .int .i64 x.fr, .int .i64 x.ep, .int .i64 x.op, .int .i64 0, .bool false, .string ⟨x.e.1.k.toArray⟩, .int .i64 0, .int .i64 0, .int .i64 0, .bool false, .slice none 0 0, .slice none 0 0, .slice none 0 0, .int .i64 0, .int .i64 0] (0, 0) _ rfl HKz.out Tryd.underlying34 rfl (by kernel_rfl)) rfl ⟨by rw [HE.out], HBz.out⟩
theorem refback12_no (x : MV) (k : Int) (he : hasE k = false) (w : World) : Calls Tryd.prog 26 #[.agg #[.int .i64 x.kind, .int .i64 x.fr, .int .i64 x.dst, .int .i64 x.ep, .int .i64 x.op, .int .i64 x.n, .bool x.flag, .string ⟨x.e.1.k.toArray⟩, .int .i64 x.e.1.s, .int .i64 x.e.1.u, .int .i64 x.e.1.o, .bool x.e.1.has, .slice x.e.2.1 x.e.1.v.length x.e.2.2, .slice x.lA x.l.length x.lc, .slice x.rA x.ns.length x.rc, .int .i64 x.each, .int .i64 x.keep], .int .i64 k] w (BackP k x.fr x.dst x.ep x.op ⟨x.e.1.k.toArray⟩ w) := by
  have hk0 := (Blk.new w 34 #[.int .i64 x.kind, .int .i64 x.fr, .int .i64 x.dst, .int .i64 x.ep, .int .i64 x.op, .int .i64 x.n, .bool x.flag, .string ⟨x.e.1.k.toArray⟩, .int .i64 x.e.1.s, .int .i64 x.e.1.u, .int .i64 x.e.1.o, .bool x.e.1.has, .slice x.e.2.1 x.e.1.v.length x.e.2.2, .slice x.lA x.l.length x.lc, .slice x.rA x.ns.length x.rc, .int .i64 x.each, .int .i64 x.keep]).alloc (.cells #[.int .i64 0, .int .i64 0, .int .i64 0, .int .i64 0, .int .i64 0, .int .i64 0, .bool false, .string ⟨#[]⟩, .int .i64 0, .int .i64 0, .int .i64 0, .bool false, .slice none 0 0, .slice none 0 0, .slice none 0 0, .int .i64 0, .int .i64 0] 34)
  have hk1 := Blk.new (w.alloc (.cells #[.int .i64 x.kind, .int .i64 x.fr, .int .i64 x.dst, .int .i64 x.ep, .int .i64 x.op, .int .i64 x.n, .bool x.flag, .string ⟨x.e.1.k.toArray⟩, .int .i64 x.e.1.s, .int .i64 x.e.1.u, .int .i64 x.e.1.o, .bool x.e.1.has, .slice x.e.2.1 x.e.1.v.length x.e.2.2, .slice x.lA x.l.length x.lc, .slice x.rA x.ns.length x.rc, .int .i64 x.each, .int .i64 x.keep] 34)) 34 #[.int .i64 0, .int .i64 0, .int .i64 0, .int .i64 0, .int .i64 0, .int .i64 0, .bool false, .string ⟨#[]⟩, .int .i64 0, .int .i64 0, .int .i64 0, .bool false, .slice none 0 0, .slice none 0 0, .slice none 0 0, .int .i64 0, .int .i64 0]
  have hb1 : Below w.heap.size w ((w.alloc (.cells #[.int .i64 x.kind, .int .i64 x.fr, .int .i64 x.dst, .int .i64 x.ep, .int .i64 x.op, .int .i64 x.n, .bool x.flag, .string ⟨x.e.1.k.toArray⟩, .int .i64 x.e.1.s, .int .i64 x.e.1.u, .int .i64 x.e.1.o, .bool x.e.1.has, .slice x.e.2.1 x.e.1.v.length x.e.2.2, .slice x.lA x.l.length x.lc, .slice x.rA x.ns.length x.rc, .int .i64 x.each, .int .i64 x.keep] 34)).alloc (.cells #[.int .i64 0, .int .i64 0, .int .i64 0, .int .i64 0, .int .i64 0, .int .i64 0, .bool false, .string ⟨#[]⟩, .int .i64 0, .int .i64 0, .int .i64 0, .bool false, .slice none 0 0, .slice none 0 0, .slice none 0 0, .int .i64 0, .int .i64 0] 34)) := ((Below.refl _ _).alloc (Nat.le_refl _) _).alloc (by simp) _
  rw [World.size_alloc] at hk1
  obtain ⟨W1, hW1⟩ : ∃ W, (w.alloc (.cells #[.int .i64 x.kind, .int .i64 x.fr, .int .i64 x.dst, .int .i64 x.ep, .int .i64 x.op, .int .i64 x.n, .bool x.flag, .string ⟨x.e.1.k.toArray⟩, .int .i64 x.e.1.s, .int .i64 x.e.1.u, .int .i64 x.e.1.o, .bool x.e.1.has, .slice x.e.2.1 x.e.1.v.length x.e.2.2, .slice x.lA x.l.length x.lc, .slice x.rA x.ns.length x.rc, .int .i64 x.each, .int .i64 x.keep] 34)).alloc (.cells #[.int .i64 0, .int .i64 0, .int .i64 0, .int .i64 0, .int .i64 0, .int .i64 0, .bool false, .string ⟨#[]⟩, .int .i64 0, .int .i64 0, .int .i64 0, .bool false, .slice none 0 0, .slice none 0 0, .slice none 0 0, .int .i64 0, .int .i64 0] 34) = W := ⟨_, rfl⟩
  rw [hW1] at hk0 hk1 hb1
  have d1 : W1.cell? ⟨w.heap.size, 1, none⟩ = some (.int .i64 x.fr) := hk0.cell 1
  have d2 : W1.cell? ⟨w.heap.size, 2, none⟩ = some (.int .i64 x.dst) := hk0.cell 2
  have d3 : W1.cell? ⟨w.heap.size, 3, none⟩ = some (.int .i64 x.ep) := hk0.cell 3
  have d4 : W1.cell? ⟨w.heap.size, 4, none⟩ = some (.int .i64 x.op) := hk0.cell 4
  have HK0 := Lib.hid hk0
  have HK1 := Lib.hid hk1
  have HB1 := Lib.hid hb1
  have HCe := Lib.hid fun W' => rhasE_any k W'
  rw [he] at HCe
  have HE : Hid (backKey k ⟨x.e.1.k.toArray⟩ = ⟨#[]⟩) := Lib.hid (by unfold backKey; rw [he]; rfl)
  clear hk0 hk1 hb1 he
  go_enter Tryd.func26, Tryd.ntmps26
  go_upto_region 2 with (refine wpList_boxM rfl rfl _ rfl 34 #[.int .i64 0, .int .i64 0, .int .i64 0, .int .i64 0, .int .i64 0, .int .i64 0, .bool false, .string ⟨#[]⟩, .int .i64 0, .int .i64 0, .int .i64 0, .bool false, .slice none 0 0, .slice none 0 0, .slice none 0 0, .int .i64 0, .int .i64 0] (by kernel_rfl) _ _ rfl #[.int .i64 k, .int .i64 x.dst, .int .i64 x.fr, .int .i64 x.ep, .int .i64 x.op, .int .i64 0, .bool false, .string ⟨#[]⟩, .int .i64 0, .int .i64 0, .int .i64 0, .bool false, .slice none 0 0, .slice none 0 0, .slice none 0 0, .int .i64 0, .int .i64 0] rfl rfl rfl (by kernel_rfl) (by kernel_rfl) ?_)
  obtain ⟨W2, hW2⟩ : ∃ W, W1.alloc (.cells #[.int .i64 k, .int .i64 x.dst, .int .i64 x.fr, .int .i64 x.ep, .int .i64 x.op, .int .i64 0, .bool false, .string ⟨#[]⟩, .int .i64 0, .int .i64 0, .int .i64 0, .bool false, .slice none 0 0, .slice none 0 0, .slice none 0 0, .int .i64 0, .int .i64 0] 34) = W := ⟨_, rfl⟩
  obtain ⟨g2, hg2⟩ : ∃ g, W1.heap.size = g := ⟨_, rfl⟩
  have hb2 : Below W1.heap.size W1 W2 := by rw [← hW2]; exact (Below.refl _ _).alloc (Nat.le_refl _) _
  have HG2 : Hid (Blk W2 g2 34 #[.int .i64 k, .int .i64 x.dst, .int .i64 x.fr, .int .i64 x.ep, .int .i64 x.op, .int .i64 0, .bool false, .string ⟨#[]⟩, .int .i64 0, .int .i64 0, .int .i64 0, .bool false, .slice none 0 0, .slice none 0 0, .slice none 0 0, .int .i64 0, .int .i64 0]) := Lib.hid (by rw [← hW2, ← hg2]; exact Blk.new _ _ _)
  have hg : w.heap.size + 1 < g2 := by rw [← hg2]; exact HK1.out.lt
  have HB2 := Lib.hid (HB1.out.trans (hb2.mono HB1.out.size))
  have HA2 := Lib.hid (HK0.out.below hb2 HK0.out.lt)
  have HR2 := Lib.hid (HK1.out.below hb2 HK1.out.lt)
  simp only [hW2, hg2]
  clear hb2 hW2 hg2 HB1 HK0 HK1 hW1 d1 d2 d3 d4
  go_wp2_with fail
  refine (HCe.out _).mono ?_
  rintro e w3 ⟨rfl, hb3⟩
  have HB3 := Lib.hid (HB2.out.trans (hb3.mono HB2.out.size))
  have HA3 := Lib.hid (HA2.out.below hb3 HA2.out.lt)
  have HR3 := Lib.hid (HR2.out.below hb3 HR2.out.lt)
  have HG3 := Lib.hid (HG2.out.below hb3 HG2.out.lt)
  have d7 : w3.cell? ⟨w.heap.size, 7, none⟩ = some (.string ⟨x.e.1.k.toArray⟩) := HA3.out.cell 7
  clear hb3 HB2 HA2 HR2 HG2 HCe
  have HG4 := HG3
  have HR4 := HR3
  have HB4 := HB3
  clear HG3 HR3 HB3 HA3
  go_wp2_with (first | (refine wpList_load_row rfl 34 _ rfl _ rfl _ _ _ _ (show _ = _ from HG4.out) Tryd.underlying34 rfl (by kernel_rfl) ?_) | (refine wpList_store_box rfl 34 _ _ rfl (w.heap.size + 1) 34 #[.int .i64 0, .int .i64 0, .int .i64 0, .int .i64 0, .int .i64 0, .int .i64 0, .bool false, .string ⟨#[]⟩, .int .i64 0, .int .i64 0, .int .i64 0, .bool false, .slice none 0 0, .slice none 0 0, .slice none 0 0, .int .i64 0, .int .i64 0] #[.int .i64 k, .int .i64 x.dst, .int .i64 x.fr, .int .i64 x.ep, .int .i64 x.op, .int .i64 0, .bool false, .string ⟨#[]⟩, .int .i64 0, .int .i64 0, .int .i64 0, .bool false, .slice none 0 0, .slice none 0 0, .slice none 0 0, .int .i64 0, .int .i64 0] HR4.out rfl rfl rfl (by kernel_rfl) (by kernel_rfl) ?_))
  intro wz hkz hgz
  have HKz := Lib.hid hkz
  have HBz := Lib.hid (HB4.out.grown hgz HB4.out.size fun g hg => by cases hg; omega)
  clear hkz hgz
  go_wp2
  exact bodyPost_ret (v := .agg #[.int .i64 k, .int .i64 x.dst, .int .i64 x.fr, .int .i64 x.ep, .int .i64 x.op, .int .i64 0, .bool false, .string ⟨#[]⟩, .int .i64 0, .int .i64 0, .int .i64 0, .bool false, .slice none 0 0, .slice none 0 0, .slice none 0 0, .int .i64 0, .int .i64 0]) (results_cell_row (p := 4) (ty := 34) Tryd.results26 _ _ (w.heap.size + 1) 34 #[.int .i64 k, .int .i64 x.dst, .int .i64 x.fr, .int .i64 x.ep, .int .i64 x.op, .int .i64 0, .bool false, .string ⟨#[]⟩, .int .i64 0, .int .i64 0, .int .i64 0, .bool false, .slice none 0 0, .slice none 0 0, .slice none 0 0, .int .i64 0, .int .i64 0] (0, 0) _ rfl HKz.out Tryd.underlying34 rfl (by kernel_rfl)) rfl ⟨by rw [HE.out], HBz.out⟩
theorem refback12 (x : MV) (k : Int) (w : World) : Calls Tryd.prog 26 #[.agg #[.int .i64 x.kind, .int .i64 x.fr, .int .i64 x.dst, .int .i64 x.ep, .int .i64 x.op, .int .i64 x.n, .bool x.flag, .string ⟨x.e.1.k.toArray⟩, .int .i64 x.e.1.s, .int .i64 x.e.1.u, .int .i64 x.e.1.o, .bool x.e.1.has, .slice x.e.2.1 x.e.1.v.length x.e.2.2, .slice x.lA x.l.length x.lc, .slice x.rA x.ns.length x.rc, .int .i64 x.each, .int .i64 x.keep], .int .i64 k] w (BackP k x.fr x.dst x.ep x.op ⟨x.e.1.k.toArray⟩ w) := by
  rcases Bool.eq_false_or_eq_true (hasE k) with he | he
  · exact refback12_yes x k he w
  · exact refback12_no x k he w
end Go.Proofs.YtgmennblbeefhaaDoor
