/- MsT: The law of Back twice: walked. -/
import Derived.Test.YtfamklplhdnaiaaDoorMsL
import Derived.Test.YtfamklplhdnaiaaDoorMsD
import Derived.Test.YtfamklplhdnaiaaDoorBoxM
import Derived.Test.YtfamklplhdnaiaaDoorMsN
import Derived.BigFrame
import Derived.Deep.MidRow
namespace Go.Proofs.YtfamklplhdnaiaaDoor
open Go.RowKit Mem Be Rg
set_option maxRecDepth 100000
set_option maxHeartbeats 8000000
set_option linter.unusedVariables false
theorem twice_any (x : MV) (a b : Int) (w : World) (ht : KT w) (h : MsgM w x) : Calls Tryd.prog 7 #[.agg #[.int .i64 x.kind, .int .i64 x.fr, .int .i64 x.dst, .int .i64 x.ep, .int .i64 x.op, .int .i64 x.n, .bool x.flag, .string ⟨x.e.1.k.toArray⟩, .int .i64 x.e.1.s, .int .i64 x.e.1.u, .int .i64 x.e.1.o, .bool x.e.1.has, .slice x.e.2.1 x.e.1.v.length x.e.2.2, .slice x.lA x.l.length x.lc, .slice x.rA x.ns.length x.rc, .int .i64 x.each, .int .i64 x.keep], .int .i64 a, .int .i64 b] w (IsT12 w) := by
  have hb : Below w.heap.size w (w.alloc (.cells #[.int .i64 x.kind, .int .i64 x.fr, .int .i64 x.dst, .int .i64 x.ep, .int .i64 x.op, .int .i64 x.n, .bool x.flag, .string ⟨x.e.1.k.toArray⟩, .int .i64 x.e.1.s, .int .i64 x.e.1.u, .int .i64 x.e.1.o, .bool x.e.1.has, .slice x.e.2.1 x.e.1.v.length x.e.2.2, .slice x.lA x.l.length x.lc, .slice x.rA x.ns.length x.rc, .int .i64 x.each, .int .i64 x.keep] 34)) := (Below.refl _ _).alloc (Nat.le_refl _) _
  have HL := Lib.hid (long12 x _ (h.below hb))
  have HM0 := Lib.hid (Blk.new w 34 #[.int .i64 x.kind, .int .i64 x.fr, .int .i64 x.dst, .int .i64 x.ep, .int .i64 x.op, .int .i64 x.n, .bool x.flag, .string ⟨x.e.1.k.toArray⟩, .int .i64 x.e.1.s, .int .i64 x.e.1.u, .int .i64 x.e.1.o, .bool x.e.1.has, .slice x.e.2.1 x.e.1.v.length x.e.2.2, .slice x.lA x.l.length x.lc, .slice x.rA x.ns.length x.rc, .int .i64 x.each, .int .i64 x.keep])
  have HB0 := Lib.hid hb
  have HT0 := Lib.hid (ht.below hb)
  obtain ⟨K1, hK1⟩ : ∃ K, backKey a ⟨x.e.1.k.toArray⟩ = K := ⟨_, rfl⟩
  obtain ⟨K2, hK2⟩ : ∃ K, backKey b K1 = K := ⟨_, rfl⟩
  have HC1 := Lib.hid fun W (hW : KT W) => back_any a x.kind x.fr x.dst x.ep x.op x.n x.flag ⟨x.e.1.k.toArray⟩ x.e.1.s x.e.1.u x.e.1.o x.e.1.has x.e.2.1 x.e.1.v.length x.e.2.2 x.lA x.l.length x.lc x.rA x.ns.length x.rc x.each x.keep W hW
  have HC2 := Lib.hid fun W (hW : KT W) => back_any b a x.dst x.fr x.ep x.op 0 false K1 0 0 0 false none 0 0 none 0 0 none 0 0 0 0 W hW
  unfold BackP at HC1 HC2
  rw [hK1] at HC1
  rw [hK2] at HC2
  have HH1 := Lib.hid fun W => rhasE_any a W
  have HH2 := Lib.hid fun W => rhasE_any b W
  obtain ⟨ka, hka⟩ : ∃ k, hasE a = k := ⟨_, rfl⟩
  obtain ⟨kb, hkb⟩ : ∃ k, hasE b = k := ⟨_, rfl⟩
  have HKF : Hid ((ka = true → kb = true → K2 = ⟨x.e.1.k.toArray⟩) ∧ (ka = false → K2 = ⟨#[]⟩) ∧ (kb = false → K2 = ⟨#[]⟩)) := Lib.hid (by
    subst hK1 hK2
    unfold backKey
    rw [hka, hkb]
    refine ⟨fun h1 h2 => ?_, fun h1 => ?_, fun h1 => ?_⟩
    · rw [h1, h2]; rfl
    · rw [h1]; cases kb <;> rfl
    · rw [h1]; rfl)
  rw [hka] at HH1
  rw [hkb] at HH2
  clear hb ht h hK1 hK2 hka hkb
  go_enter Tryd.func7, Tryd.ntmps7
  go_wp2_with (refine wpList_load_row rfl 34 _ rfl _ rfl _ _ _ _ (show _ = _ from HM0.out) Tryd.underlying34 rfl (by kernel_rfl) ?_)
  refine HL.out.mono ?_
  rintro e w1 ⟨q, rfl, hb1⟩
  have HB1 := Lib.hid (HB0.out.trans (hb1.mono HB0.out.size))
  have HM1 := Lib.hid (HM0.out.below hb1 HM0.out.lt)
  have HT1 := Lib.hid (HT0.out.below hb1)
  clear hb1 HB0 HM0 HT0 HL
  cases q
  case true =>
    have HTN := HT1
    have HBN := HB1
    go_wp2_with fail
    refine (known12 _ HTN.out).mono ?_
    rintro e wz ⟨rfl, hbz⟩
    have HBZ := Lib.hid (HBN.out.trans (hbz.mono HBN.out.size))
    clear hbz
    go_wp2
    go_ret
    exact ⟨rfl, HBZ.out⟩
  case false =>
  go_wp2_with (refine wpList_load_row rfl 34 _ rfl _ rfl _ _ _ _ (show _ = _ from HM1.out) Tryd.underlying34 rfl (by kernel_rfl) ?_)
  refine (HC1.out w1 HT1.out).mono ?_
  rintro e w2 ⟨rfl, hb2⟩
  have HB2 := Lib.hid (HB1.out.trans (hb2.mono HB1.out.size))
  have HM2 := Lib.hid (HM1.out.below hb2 HM1.out.lt)
  have HT2 := Lib.hid (HT1.out.below hb2)
  clear hb2 HB1 HM1 HT1 HC1
  obtain ⟨W3, hW3⟩ : ∃ W, w2.alloc (.cells #[.int .i64 a, .int .i64 x.dst, .int .i64 x.fr, .int .i64 x.ep, .int .i64 x.op, .int .i64 0, .bool false, .string K1, .int .i64 0, .int .i64 0, .int .i64 0, .bool false, .slice none 0 0, .slice none 0 0, .slice none 0 0, .int .i64 0, .int .i64 0] 34) = W := ⟨_, rfl⟩
  obtain ⟨g1, hg1⟩ : ∃ g, w2.heap.size = g := ⟨_, rfl⟩
  have HX3 : Hid (Blk W3 g1 34 #[.int .i64 a, .int .i64 x.dst, .int .i64 x.fr, .int .i64 x.ep, .int .i64 x.op, .int .i64 0, .bool false, .string K1, .int .i64 0, .int .i64 0, .int .i64 0, .bool false, .slice none 0 0, .slice none 0 0, .slice none 0 0, .int .i64 0, .int .i64 0]) := Lib.hid (by rw [← hW3, ← hg1]; exact Blk.new _ _ _)
  have hb3 : Below w2.heap.size w2 W3 := by rw [← hW3]; exact (Below.refl _ _).alloc (Nat.le_refl _) _
  have HB3 := Lib.hid (HB2.out.trans (hb3.mono HB2.out.size))
  have HM3 := Lib.hid (HM2.out.below hb3 HM2.out.lt)
  have HT3 := Lib.hid (HT2.out.below hb3)
  clear hb3 HB2 HM2 HT2
  go_upto_region 4 with (refine wpList_boxM rfl rfl _ rfl 34 #[.int .i64 0, .int .i64 0, .int .i64 0, .int .i64 0, .int .i64 0, .int .i64 0, .bool false, .string ⟨#[]⟩, .int .i64 0, .int .i64 0, .int .i64 0, .bool false, .slice none 0 0, .slice none 0 0, .slice none 0 0, .int .i64 0, .int .i64 0] (by kernel_rfl) _ _ rfl #[.int .i64 a, .int .i64 x.dst, .int .i64 x.fr, .int .i64 x.ep, .int .i64 x.op, .int .i64 0, .bool false, .string K1, .int .i64 0, .int .i64 0, .int .i64 0, .bool false, .slice none 0 0, .slice none 0 0, .slice none 0 0, .int .i64 0, .int .i64 0] rfl rfl rfl (by kernel_rfl) (by kernel_rfl) ?_)
  simp only [hW3, hg1]
  clear hW3 hg1
  go_wp2_with (refine wpList_load_row rfl 34 _ rfl _ rfl _ _ _ _ (show _ = _ from HX3.out) Tryd.underlying34 rfl (by kernel_rfl) ?_)
  refine (HC2.out W3 HT3.out).mono ?_
  rintro e w4 ⟨rfl, hb4⟩
  have HB4 := Lib.hid (HB3.out.trans (hb4.mono HB3.out.size))
  have HM4 := Lib.hid (HM3.out.below hb4 HM3.out.lt)
  have HT4 := Lib.hid (HT3.out.below hb4)
  have HX4 := Lib.hid (HX3.out.below hb4 HX3.out.lt)
  clear hb4 HB3 HM3 HT3 HX3 HC2
  obtain ⟨W5, hW5⟩ : ∃ W, w4.alloc (.cells #[.int .i64 b, .int .i64 x.fr, .int .i64 x.dst, .int .i64 x.ep, .int .i64 x.op, .int .i64 0, .bool false, .string K2, .int .i64 0, .int .i64 0, .int .i64 0, .bool false, .slice none 0 0, .slice none 0 0, .slice none 0 0, .int .i64 0, .int .i64 0] 34) = W := ⟨_, rfl⟩
  obtain ⟨g2, hg2⟩ : ∃ g, w4.heap.size = g := ⟨_, rfl⟩
  have HY5 : Hid (Blk W5 g2 34 #[.int .i64 b, .int .i64 x.fr, .int .i64 x.dst, .int .i64 x.ep, .int .i64 x.op, .int .i64 0, .bool false, .string K2, .int .i64 0, .int .i64 0, .int .i64 0, .bool false, .slice none 0 0, .slice none 0 0, .slice none 0 0, .int .i64 0, .int .i64 0]) := Lib.hid (by rw [← hW5, ← hg2]; exact Blk.new _ _ _)
  have hb5 : Below w4.heap.size w4 W5 := by rw [← hW5]; exact (Below.refl _ _).alloc (Nat.le_refl _) _
  have HB5 := Lib.hid (HB4.out.trans (hb5.mono HB4.out.size))
  have HM5 := Lib.hid (HM4.out.below hb5 HM4.out.lt)
  have HT5 := Lib.hid (HT4.out.below hb5)
  have HX5 := Lib.hid (HX4.out.below hb5 HX4.out.lt)
  clear hb5 HB4 HM4 HT4 HX4
  go_upto_region 5 with (refine wpList_boxM rfl rfl _ rfl 34 #[.int .i64 0, .int .i64 0, .int .i64 0, .int .i64 0, .int .i64 0, .int .i64 0, .bool false, .string ⟨#[]⟩, .int .i64 0, .int .i64 0, .int .i64 0, .bool false, .slice none 0 0, .slice none 0 0, .slice none 0 0, .int .i64 0, .int .i64 0] (by kernel_rfl) _ _ rfl #[.int .i64 b, .int .i64 x.fr, .int .i64 x.dst, .int .i64 x.ep, .int .i64 x.op, .int .i64 0, .bool false, .string K2, .int .i64 0, .int .i64 0, .int .i64 0, .bool false, .slice none 0 0, .slice none 0 0, .slice none 0 0, .int .i64 0, .int .i64 0] rfl rfl rfl (by kernel_rfl) (by kernel_rfl) ?_)
  simp only [hW5, hg2]
  clear hW5 hg2
  have y1 : W5.cell? ⟨g2, 1, none⟩ = some (.int .i64 x.fr) := HY5.out.cell 1
  have y2 : W5.cell? ⟨g2, 2, none⟩ = some (.int .i64 x.dst) := HY5.out.cell 2
  have y3 : W5.cell? ⟨g2, 3, none⟩ = some (.int .i64 x.ep) := HY5.out.cell 3
  have y4 : W5.cell? ⟨g2, 4, none⟩ = some (.int .i64 x.op) := HY5.out.cell 4
  have y0 : W5.cell? ⟨g2, 0, none⟩ = some (.int .i64 b) := HY5.out.cell 0
  have m1 : W5.cell? ⟨w.heap.size, 1, none⟩ = some (.int .i64 x.fr) := HM5.out.cell 1
  have m2 : W5.cell? ⟨w.heap.size, 2, none⟩ = some (.int .i64 x.dst) := HM5.out.cell 2
  have m3 : W5.cell? ⟨w.heap.size, 3, none⟩ = some (.int .i64 x.ep) := HM5.out.cell 3
  have m4 : W5.cell? ⟨w.heap.size, 4, none⟩ = some (.int .i64 x.op) := HM5.out.cell 4
  have m7 : W5.cell? ⟨w.heap.size, 7, none⟩ = some (.string ⟨x.e.1.k.toArray⟩) := HM5.out.cell 7
  have x0 : W5.cell? ⟨g1, 0, none⟩ = some (.int .i64 a) := HX5.out.cell 0
  go_wp2_with fail
  refine (HH1.out _).mono ?_
  rintro e w6 ⟨rfl, hb6⟩
  have HB6 := Lib.hid (HB5.out.trans (hb6.mono HB5.out.size))
  have HM6 := Lib.hid (HM5.out.below hb6 HM5.out.lt)
  have HT6 := Lib.hid (HT5.out.below hb6)
  have HY6 := Lib.hid (HY5.out.below hb6 HY5.out.lt)
  clear y0 y1 y2 y3 y4 m1 m2 m3 m4 m7 x0 hb6 HB5 HM5 HT5 HX5 HY5 HH1
  cases ka
  case false =>
    obtain rfl : K2 = ⟨#[]⟩ := HKF.out.2.1 (by simp)
    have HTN := HT6
    have HBN := HB6
    have HYN := HY6
    have HMN := HM6
    have f5 : w6.cell? ⟨g2, 5, none⟩ = some (.int .i64 0) := HYN.out.cell 5
    have f6 : w6.cell? ⟨g2, 6, none⟩ = some (.bool false) := HYN.out.cell 6
    have f7 : w6.cell? ⟨g2, 7, none⟩ = some (.string ⟨#[]⟩) := HYN.out.cell 7
    have f13 : w6.cell? ⟨g2, 13, none⟩ = some (.slice none 0 0) := HYN.out.cell 13
    have m7 : w6.cell? ⟨w.heap.size, 7, none⟩ = some (.string ⟨x.e.1.k.toArray⟩) := HMN.out.cell 7
    go_wp2_with fail
    refine (known12 _ HTN.out).mono ?_
    rintro e wz ⟨rfl, hbz⟩
    have HBZ := Lib.hid (HBN.out.trans (hbz.mono HBN.out.size))
    clear hbz
    go_wp2
    go_ret
    exact ⟨rfl, HBZ.out⟩
  case true =>
  go_wp2_with fail
  refine (HH2.out _).mono ?_
  rintro e w7 ⟨rfl, hb7⟩
  have HB7 := Lib.hid (HB6.out.trans (hb7.mono HB6.out.size))
  have HM7 := Lib.hid (HM6.out.below hb7 HM6.out.lt)
  have HT7 := Lib.hid (HT6.out.below hb7)
  have HY7 := Lib.hid (HY6.out.below hb7 HY6.out.lt)
  clear hb7 HB6 HM6 HT6 HY6 HH2
  cases kb
  case false =>
    obtain rfl : K2 = ⟨#[]⟩ := HKF.out.2.2 (by simp)
    have HTN := HT7
    have HBN := HB7
    have HYN := HY7
    have HMN := HM7
    have f5 : w7.cell? ⟨g2, 5, none⟩ = some (.int .i64 0) := HYN.out.cell 5
    have f6 : w7.cell? ⟨g2, 6, none⟩ = some (.bool false) := HYN.out.cell 6
    have f7 : w7.cell? ⟨g2, 7, none⟩ = some (.string ⟨#[]⟩) := HYN.out.cell 7
    have f13 : w7.cell? ⟨g2, 13, none⟩ = some (.slice none 0 0) := HYN.out.cell 13
    have m7 : w7.cell? ⟨w.heap.size, 7, none⟩ = some (.string ⟨x.e.1.k.toArray⟩) := HMN.out.cell 7
    go_wp2_with fail
    refine (known12 _ HTN.out).mono ?_
    rintro e wz ⟨rfl, hbz⟩
    have HBZ := Lib.hid (HBN.out.trans (hbz.mono HBN.out.size))
    clear hbz
    go_wp2
    go_ret
    exact ⟨rfl, HBZ.out⟩
  case true =>
    obtain rfl : K2 = ⟨x.e.1.k.toArray⟩ := HKF.out.1 (by simp) (by simp)
    have HTN := HT7
    have HBN := HB7
    have HYN := HY7
    have HMN := HM7
    have f5 : w7.cell? ⟨g2, 5, none⟩ = some (.int .i64 0) := HYN.out.cell 5
    have f6 : w7.cell? ⟨g2, 6, none⟩ = some (.bool false) := HYN.out.cell 6
    have f7 : w7.cell? ⟨g2, 7, none⟩ = some (.string ⟨x.e.1.k.toArray⟩) := HYN.out.cell 7
    have f13 : w7.cell? ⟨g2, 13, none⟩ = some (.slice none 0 0) := HYN.out.cell 13
    have m7 : w7.cell? ⟨w.heap.size, 7, none⟩ = some (.string ⟨x.e.1.k.toArray⟩) := HMN.out.cell 7
    go_wp2_with fail
    refine (known12 _ HTN.out).mono ?_
    rintro e wz ⟨rfl, hbz⟩
    have HBZ := Lib.hid (HBN.out.trans (hbz.mono HBN.out.size))
    clear hbz
    go_wp2
    go_ret
    exact ⟨rfl, HBZ.out⟩
end Go.Proofs.YtfamklplhdnaiaaDoor
