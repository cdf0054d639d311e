/- MsBk: The law that a message is read as it was: walked. -/
import Derived.Test.YtfamklplhdnaiaaDoorMsRd
import Derived.Test.YtfamklplhdnaiaaDoorMsSm
import Derived.Test.YtfamklplhdnaiaaDoorMsL
import Derived.Test.YtfamklplhdnaiaaDoorMsN
import Derived.Test.YtfamklplhdnaiaaDoorMsW
import Derived.Test.YtfamklplhdnaiaaDoorBoxM
import Derived.BigFrame
import Derived.Deep.MidRow
namespace Go.Proofs.YtfamklplhdnaiaaDoor
open Go.RowKit Mem Be Rg
set_option maxRecDepth 100000
set_option maxHeartbeats 16000000
set_option linter.unusedVariables false
theorem flatE_le (l : List EntP) (h : ∀ x ∈ l, okE x) : (l.flatMap putE).length ≤ 60300 * l.length := by
  induction l with
  | nil => simp
  | cons a r ih =>
    rw [List.flatMap_cons, List.length_append, List.length_cons]
    have h1 := putE_le a (h a (by simp))
    have h2 := ih fun x hx => h x (by simp [hx])
    omega
theorem putM_le {m : MsgP} (h : okM m = true) : (putM m).length ≤ 61000000 := by
  obtain ⟨h1, h2, h3, h4, h5, h6⟩ := okM_parts h
  have a1 := numB_le m.kind
  have a2 := numB_le m.fr
  have a3 := numB_le m.dst
  have a4 := numB_le m.ep
  have a5 := numB_le m.op
  have b1 : (if hasN m.kind = true then numB m.n else []).length ≤ 9 := by
    split
    · exact numB_le _
    · simp
  have b2 : (if hasF m.kind = true then truthB m.flag else []).length ≤ 1 := by
    split
    · exact Nat.le_refl _
    · simp
  have b3 : (if hasE m.kind = true then putE m.e else []).length ≤ 60300 := by
    split
    · rename_i hc
      unfold fldB rE at h4
      rw [if_pos hc] at h4
      exact putE_le _ (of_decide_eq_true h4)
    · simp
  have b4 : (if hasL m.kind = true then listB m.l else []).length ≤ 60300009 := by
    split
    · rename_i hc
      unfold fldB rL at h5
      rw [if_pos hc, Bool.and_eq_true, decide_eq_true_eq, allE_iff] at h5
      have h7 := flatE_le m.l h5.2
      have h8 := numB_le (m.l.length : Int)
      unfold listB
      rw [List.length_append]
      omega
    · simp
  have b5 : (if hasR m.kind = true then ringB m.ns m.each m.keep else []).length ≤ 1000 := by
    split
    · rename_i hc
      unfold fldB rR at h6
      rw [if_pos hc, decide_eq_true_eq] at h6
      obtain ⟨o1, o2, o3, o4, o5, o6, o7, o8⟩ := h6
      have h7 := flatB_le m.ns
      have h8 := numB_le (m.ns.length : Int)
      have h9 := numB_le m.each
      have h10 := numB_le m.keep
      unfold ringB
      simp only [List.length_append]
      omega
    · simp
  unfold putM
  simp only [List.length_append]
  omega
theorem putM_pos (m : MsgP) : 0 < (putM m).length := by
  unfold putM
  rw [List.length_append]
  have := numB_pos m.kind
  omega
theorem take_rowB {w : World} {B : Nat} {A : Option Addr} {bs : List UInt8} (h : Row w B A (bs.map byteV)) (k : Nat) : Row w B A ((bs.take k).map byteV) := by
  rw [List.map_take]; exact take_row h k
theorem back12_no (x : MV) (A : Option Addr) (c : Nat) (bs : List UInt8) (cut mv : Int) (hc0 : 0 ≤ cut) (hc1 : cut ≤ 65535) (h0 : okM (mP x) = false) (w : World) (ht : KT w) (h : MsgM w x) (hr : Row w w.heap.size A (bs.map byteV)) (hcap : bs.length ≤ c) (hl : bs.length ≤ maxLen) (hm0 : 0 ≤ mv) (hm1 : mv ≤ 255) :
    Calls Tryd.prog 5 #[.agg #[.int .i64 x.kind, .int .i64 x.fr, .int .i64 x.dst, .int .i64 x.ep, .int .i64 x.op, .int .i64 x.n, .bool x.flag, .string ⟨x.e.1.k.toArray⟩, .int .i64 x.e.1.s, .int .i64 x.e.1.u, .int .i64 x.e.1.o, .bool x.e.1.has, .slice x.e.2.1 x.e.1.v.length x.e.2.2, .slice x.lA x.l.length x.lc, .slice x.rA x.ns.length x.rc, .int .i64 x.each, .int .i64 x.keep], .slice A bs.length c, .int .u16 cut, .int .u8 mv] w (IsT12 w) := by
  have hb : Below w.heap.size w (w.alloc (.cells #[.int .i64 x.kind, .int .i64 x.fr, .int .i64 x.dst, .int .i64 x.ep, .int .i64 x.op, .int .i64 x.n, .bool x.flag, .string ⟨x.e.1.k.toArray⟩, .int .i64 x.e.1.s, .int .i64 x.e.1.u, .int .i64 x.e.1.o, .bool x.e.1.has, .slice x.e.2.1 x.e.1.v.length x.e.2.2, .slice x.lA x.l.length x.lc, .slice x.rA x.ns.length x.rc, .int .i64 x.each, .int .i64 x.keep] 34)) := (Below.refl _ _).alloc (Nat.le_refl _) _
  have HL := Lib.hid (long12 x _ (h.below hb))
  have HK0 := Lib.hid (Blk.new w 34 #[.int .i64 x.kind, .int .i64 x.fr, .int .i64 x.dst, .int .i64 x.ep, .int .i64 x.op, .int .i64 x.n, .bool x.flag, .string ⟨x.e.1.k.toArray⟩, .int .i64 x.e.1.s, .int .i64 x.e.1.u, .int .i64 x.e.1.o, .bool x.e.1.has, .slice x.e.2.1 x.e.1.v.length x.e.2.2, .slice x.lA x.l.length x.lc, .slice x.rA x.ns.length x.rc, .int .i64 x.each, .int .i64 x.keep])
  have HB0 := Lib.hid hb
  have HT0 := Lib.hid (ht.below hb)
  have HM0 := Lib.hid (h.below hb)
  have HR0 := Lib.hid (hr.below hb)
  have hni : (bs.length : Int) ≤ 9223372036854775807 := by unfold maxLen at hl; omega
  have hni0 : (0 : Int) ≤ (bs.length : Int) := by omega
  have HOK := Lib.hid h0
  clear hb ht h hr hl h0
  go_enter Tryd.func5, Tryd.ntmps5
  go_wp2_with (refine wpList_load_row rfl 34 _ rfl _ rfl _ _ _ _ (show _ = _ from HK0.out) Tryd.underlying34 rfl (by kernel_rfl) ?_)
  refine HL.out.mono ?_
  rintro e w1 ⟨q, rfl, hb1⟩
  have HK1 := Lib.hid (HK0.out.below hb1 HK0.out.lt)
  have HB1 := Lib.hid (HB0.out.trans (hb1.mono HB0.out.size))
  have HT1 := Lib.hid (HT0.out.below hb1)
  have HM1 := Lib.hid (HM0.out.below hb1)
  have HR1 := Lib.hid (HR0.out.below (hb1.mono HB0.out.size))
  clear hb1 HK0 HB0 HT0 HM0 HR0 HL
  cases q
  case true =>
    go_wp2_with fail
    refine (known12 _ HT1.out).mono ?_
    rintro e wz ⟨rfl, hbz⟩
    have HBZ := Lib.hid (HB1.out.trans (hbz.mono HB1.out.size))
    clear hbz
    go_wp2
    go_ret
    exact ⟨rfl, HBZ.out⟩
  case false =>
  by_cases hlong : (1500 : Int) < (bs.length : Int)
  ·
    go_wp2_with fail
    refine (known12 _ HT1.out).mono ?_
    rintro e wz ⟨rfl, hbz⟩
    have HBZ := Lib.hid (HB1.out.trans (hbz.mono HB1.out.size))
    clear hbz
    go_wp2
    go_ret
    exact ⟨rfl, HBZ.out⟩
  have HLB : Hid (bs.length ≤ 1000000000) := Lib.hid (by omega)
  have hle : (bs.length : Int) ≤ 1500 := by omega
  clear hlong
  have HBY := Lib.hid (bytes_any12 x w1 HT1.out HM1.out)
  unfold BytE bytesM at HBY
  rw [HOK.out, if_neg (by simp)] at HBY
  go_wp2_with (refine wpList_load_row rfl 34 _ rfl _ rfl _ _ _ _ (show _ = _ from HK1.out) Tryd.underlying34 rfl (by kernel_rfl) ?_)
  refine HBY.out.mono ?_
  rintro e w2 ⟨A2, c2, rfl, ho2, hb2⟩
  have HB2 := Lib.hid (HB1.out.trans (hb2.mono HB1.out.size))
  have HT2 := Lib.hid (HT1.out.below hb2)
  have HR2 := Lib.hid (HR1.out.below (hb2.mono HB1.out.size))
  clear hb2 ho2 HK1 HB1 HT1 HM1 HR1 HBY
  go_wp2_with fail
  refine (readm_any w.heap.size bs.length c A bs rfl HLB.out w2 HT2.out HR2.out HB2.out.size).mono ?_
  rintro e w3 ⟨x4, rfl, hx4, hm4, hb⟩
  have HM3 := Lib.hid hm4
  have HB3 := Lib.hid (HB2.out.trans (hb.mono HB2.out.size))
  have HT3 := Lib.hid (HT2.out.below hb)
  have HR3 := Lib.hid (HR2.out.below (hb.mono HB2.out.size))
  obtain ⟨r, hr⟩ : ∃ r, readM bs = r := ⟨_, rfl⟩
  obtain ⟨m4, e4⟩ := r
  rw [hr] at hx4
  simp only at hx4
  have hbk := readM_back hr
  rw [hr]
  simp only
  clear hb hr hm4 HB2 HT2 HR2
  go_upto_region 15 with (refine wpList_boxM rfl rfl _ rfl 34 #[.int .i64 0, .int .i64 0, .int .i64 0, .int .i64 0, .int .i64 0, .int .i64 0, .bool false, .string ⟨#[]⟩, .int .i64 0, .int .i64 0, .int .i64 0, .bool false, .slice none 0 0, .slice none 0 0, .slice none 0 0, .int .i64 0, .int .i64 0] (by kernel_rfl) _ _ rfl #[.int .i64 x4.kind, .int .i64 x4.fr, .int .i64 x4.dst, .int .i64 x4.ep, .int .i64 x4.op, .int .i64 x4.n, .bool x4.flag, .string ⟨x4.e.1.k.toArray⟩, .int .i64 x4.e.1.s, .int .i64 x4.e.1.u, .int .i64 x4.e.1.o, .bool x4.e.1.has, .slice x4.e.2.1 x4.e.1.v.length x4.e.2.2, .slice x4.lA x4.l.length x4.lc, .slice x4.rA x4.ns.length x4.rc, .int .i64 x4.each, .int .i64 x4.keep] rfl rfl rfl (by kernel_rfl) (by kernel_rfl) ?_)
  obtain ⟨W4, hW4⟩ : ∃ W, w3.alloc (.cells #[.int .i64 x4.kind, .int .i64 x4.fr, .int .i64 x4.dst, .int .i64 x4.ep, .int .i64 x4.op, .int .i64 x4.n, .bool x4.flag, .string ⟨x4.e.1.k.toArray⟩, .int .i64 x4.e.1.s, .int .i64 x4.e.1.u, .int .i64 x4.e.1.o, .bool x4.e.1.has, .slice x4.e.2.1 x4.e.1.v.length x4.e.2.2, .slice x4.lA x4.l.length x4.lc, .slice x4.rA x4.ns.length x4.rc, .int .i64 x4.each, .int .i64 x4.keep] 34) = W := ⟨_, rfl⟩
  obtain ⟨g4, hg4⟩ : ∃ g, w3.heap.size = g := ⟨_, rfl⟩
  have HX4 : Hid (Blk W4 g4 34 #[.int .i64 x4.kind, .int .i64 x4.fr, .int .i64 x4.dst, .int .i64 x4.ep, .int .i64 x4.op, .int .i64 x4.n, .bool x4.flag, .string ⟨x4.e.1.k.toArray⟩, .int .i64 x4.e.1.s, .int .i64 x4.e.1.u, .int .i64 x4.e.1.o, .bool x4.e.1.has, .slice x4.e.2.1 x4.e.1.v.length x4.e.2.2, .slice x4.lA x4.l.length x4.lc, .slice x4.rA x4.ns.length x4.rc, .int .i64 x4.each, .int .i64 x4.keep]) := Lib.hid (by rw [← hW4, ← hg4]; exact Blk.new _ _ _)
  have hb4 : Below w3.heap.size w3 W4 := by rw [← hW4]; exact (Below.refl _ _).alloc (Nat.le_refl _) _
  have HB4 := Lib.hid (HB3.out.trans (hb4.mono HB3.out.size))
  have HT4 := Lib.hid (HT3.out.below hb4)
  have HR4 := Lib.hid (HR3.out.below (hb4.mono HB3.out.size))
  have HM4 := Lib.hid (HM3.out.below hb4)
  simp only [hW4, hg4]
  clear hb4 hW4 hg4 HB3 HT3 HR3 HM3
  rcases hbk with ⟨hne, h0⟩ | ⟨rfl, hok, hput⟩
  · have k0 : W4.cell? ⟨g4, 0, none⟩ = some (.int .i64 0) := by
      have := HX4.out.cell 0
      have hk : x4.kind = 0 := by
        have := congrArg MsgP.kind (hx4.trans h0)
        exact this
      rw [hk] at this
      exact this
    have n1 : (e4 == 0) = false := by simpa using hne
    have n2 : (e4 != 0) = true := by simpa using hne
    clear hne h0 hx4
    go_wp2_with fail
    refine (known12 _ HT4.out).mono ?_
    rintro e wz ⟨rfl, hbz⟩
    have HBZ := Lib.hid (HB4.out.trans (hbz.mono HB4.out.size))
    clear hbz
    go_wp2
    go_ret
    exact ⟨rfl, HBZ.out⟩
  · subst hx4
    have HBY := Lib.hid (bytes_any12 x4 W4 HT4.out HM4.out)
    unfold BytE bytesM at HBY
    rw [if_pos hok, hput] at HBY
    clear hok hput
    go_wp2_with (refine wpList_load_row rfl 34 _ rfl _ rfl _ _ _ _ (show _ = _ from HX4.out) Tryd.underlying34 rfl (by kernel_rfl) ?_)
    refine HBY.out.mono ?_
    rintro e w9 ⟨A9, c9, rfl, ho9, hb9⟩
    have HB9 := Lib.hid (HB4.out.trans (hb9.mono HB4.out.size))
    have HT9 := Lib.hid (HT4.out.below hb9)
    have HR9 := Lib.hid (HR4.out.below (hb9.mono HB4.out.size))
    have HO9 := Lib.hid (Row.of_own ho9)
    clear hb9 ho9 HBY HX4 HB4 HT4 HR4 HM4
    go_wp2_with fail
    refine (same_val _ _ _ _ _ _ _ _ bs bs true (by simp) w9 HO9.out HR9.out rfl rfl).mono ?_
    rintro e w10 ⟨rfl, rfl⟩
    clear HR9 HO9
    go_wp2_with fail
    refine (known12 _ HT9.out).mono ?_
    rintro e wz ⟨rfl, hbz⟩
    have HBZ := Lib.hid (HB9.out.trans (hbz.mono HB9.out.size))
    clear hbz
    go_wp2
    go_ret
    exact ⟨rfl, HBZ.out⟩
theorem back12_yes (x : MV) (A : Option Addr) (c : Nat) (bs : List UInt8) (cut mv : Int) (hc0 : 0 ≤ cut) (hc1 : cut ≤ 65535) (h0 : okM (mP x) = true) (w : World) (ht : KT w) (h : MsgM w x) (hr : Row w w.heap.size A (bs.map byteV)) (hcap : bs.length ≤ c) (hl : bs.length ≤ maxLen) (hm0 : 0 ≤ mv) (hm1 : mv ≤ 255) :
    Calls Tryd.prog 5 #[.agg #[.int .i64 x.kind, .int .i64 x.fr, .int .i64 x.dst, .int .i64 x.ep, .int .i64 x.op, .int .i64 x.n, .bool x.flag, .string ⟨x.e.1.k.toArray⟩, .int .i64 x.e.1.s, .int .i64 x.e.1.u, .int .i64 x.e.1.o, .bool x.e.1.has, .slice x.e.2.1 x.e.1.v.length x.e.2.2, .slice x.lA x.l.length x.lc, .slice x.rA x.ns.length x.rc, .int .i64 x.each, .int .i64 x.keep], .slice A bs.length c, .int .u16 cut, .int .u8 mv] w (IsT12 w) := by
  have hb : Below w.heap.size w (w.alloc (.cells #[.int .i64 x.kind, .int .i64 x.fr, .int .i64 x.dst, .int .i64 x.ep, .int .i64 x.op, .int .i64 x.n, .bool x.flag, .string ⟨x.e.1.k.toArray⟩, .int .i64 x.e.1.s, .int .i64 x.e.1.u, .int .i64 x.e.1.o, .bool x.e.1.has, .slice x.e.2.1 x.e.1.v.length x.e.2.2, .slice x.lA x.l.length x.lc, .slice x.rA x.ns.length x.rc, .int .i64 x.each, .int .i64 x.keep] 34)) := (Below.refl _ _).alloc (Nat.le_refl _) _
  have HL := Lib.hid (long12 x _ (h.below hb))
  have HK0 := Lib.hid (Blk.new w 34 #[.int .i64 x.kind, .int .i64 x.fr, .int .i64 x.dst, .int .i64 x.ep, .int .i64 x.op, .int .i64 x.n, .bool x.flag, .string ⟨x.e.1.k.toArray⟩, .int .i64 x.e.1.s, .int .i64 x.e.1.u, .int .i64 x.e.1.o, .bool x.e.1.has, .slice x.e.2.1 x.e.1.v.length x.e.2.2, .slice x.lA x.l.length x.lc, .slice x.rA x.ns.length x.rc, .int .i64 x.each, .int .i64 x.keep])
  have HB0 := Lib.hid hb
  have HT0 := Lib.hid (ht.below hb)
  have HM0 := Lib.hid (h.below hb)
  have HR0 := Lib.hid (hr.below hb)
  have hni : (bs.length : Int) ≤ 9223372036854775807 := by unfold maxLen at hl; omega
  have hni0 : (0 : Int) ≤ (bs.length : Int) := by omega
  have HOK := Lib.hid h0
  clear hb ht h hr hl h0
  go_enter Tryd.func5, Tryd.ntmps5
  go_wp2_with (refine wpList_load_row rfl 34 _ rfl _ rfl _ _ _ _ (show _ = _ from HK0.out) Tryd.underlying34 rfl (by kernel_rfl) ?_)
  refine HL.out.mono ?_
  rintro e w1 ⟨q, rfl, hb1⟩
  have HK1 := Lib.hid (HK0.out.below hb1 HK0.out.lt)
  have HB1 := Lib.hid (HB0.out.trans (hb1.mono HB0.out.size))
  have HT1 := Lib.hid (HT0.out.below hb1)
  have HM1 := Lib.hid (HM0.out.below hb1)
  have HR1 := Lib.hid (HR0.out.below (hb1.mono HB0.out.size))
  clear hb1 HK0 HB0 HT0 HM0 HR0 HL
  cases q
  case true =>
    go_wp2_with fail
    refine (known12 _ HT1.out).mono ?_
    rintro e wz ⟨rfl, hbz⟩
    have HBZ := Lib.hid (HB1.out.trans (hbz.mono HB1.out.size))
    clear hbz
    go_wp2
    go_ret
    exact ⟨rfl, HBZ.out⟩
  case false =>
  by_cases hlong : (1500 : Int) < (bs.length : Int)
  ·
    go_wp2_with fail
    refine (known12 _ HT1.out).mono ?_
    rintro e wz ⟨rfl, hbz⟩
    have HBZ := Lib.hid (HB1.out.trans (hbz.mono HB1.out.size))
    clear hbz
    go_wp2
    go_ret
    exact ⟨rfl, HBZ.out⟩
  have HLB : Hid (bs.length ≤ 1000000000) := Lib.hid (by omega)
  have hle : (bs.length : Int) ≤ 1500 := by omega
  clear hlong
  have HBY := Lib.hid (bytes_any12 x w1 HT1.out HM1.out)
  unfold BytE bytesM at HBY
  rw [if_pos HOK.out] at HBY
  have HPL := Lib.hid (putM_le HOK.out)
  have HPP := Lib.hid (putM_pos (mP x))
  have HRP := Lib.hid (readM_put (mP x) HOK.out)
  have HRM := Lib.hid fun b => readM_more (mP x) HOK.out b
  have HRC := Lib.hid fun k => readM_cut (mP x) HOK.out k
  obtain ⟨ss, hss⟩ : ∃ s, putM (mP x) = s := ⟨_, rfl⟩
  rw [hss] at HBY HPL HPP HRP HRM HRC
  clear hss
  go_wp2_with (refine wpList_load_row rfl 34 _ rfl _ rfl _ _ _ _ (show _ = _ from HK1.out) Tryd.underlying34 rfl (by kernel_rfl) ?_)
  refine HBY.out.mono ?_
  rintro e w2 ⟨A2, c2, rfl, ho2, hb2⟩
  have HK2 := Lib.hid (HK1.out.below hb2 HK1.out.lt)
  have HB2 := Lib.hid (HB1.out.trans (hb2.mono HB1.out.size))
  have HT2 := Lib.hid (HT1.out.below hb2)
  have HR2 := Lib.hid (HR1.out.below (hb2.mono HB1.out.size))
  have HM2 := Lib.hid (HM1.out.below hb2)
  have HO2 := Lib.hid ho2
  have hcap2 := (own_cap ho2).1
  have hps : 0 < ss.length := HPP.out
  have hpl : ss.length ≤ 61000000 := HPL.out
  have hps1 : (0 : Int) < (ss.length : Int) := by omega
  have hps2 : ((ss.length : Int) == 0) = false := by rw [beq_eq_false_iff_ne]; omega
  have hpl2 : (ss.length : Int) ≤ 61000000 := by omega
  clear hb2 ho2 HK1 HB1 HT1 HM1 HR1 HBY
  go_wp2_with fail
  refine (readm_any w2.heap.size ss.length c2 A2 ss rfl (by omega) w2 HT2.out (Row.of_own HO2.out) (Nat.le_refl _)).mono ?_
  rw [HRP.out]
  rintro e w3 ⟨x3, rfl, hx3, hm3, hb3⟩
  simp only at hx3
  have HK3 := Lib.hid (HK2.out.below hb3 HK2.out.lt)
  have HB3 := Lib.hid (HB2.out.trans (hb3.mono HB2.out.size))
  have HT3 := Lib.hid (HT2.out.below hb3)
  have HR3 := Lib.hid (HR2.out.below (hb3.mono HB2.out.size))
  have HM3 := Lib.hid (HM2.out.below hb3)
  have HO3 := Lib.hid (own_later HO2.out hb3)
  have HQ3 := Lib.hid hm3
  clear hb3 hm3 HK2 HB2 HT2 HR2 HM2 HO2 HRP
  go_upto_region 8 with (refine wpList_boxM rfl rfl _ rfl 34 #[.int .i64 0, .int .i64 0, .int .i64 0, .int .i64 0, .int .i64 0, .int .i64 0, .bool false, .string ⟨#[]⟩, .int .i64 0, .int .i64 0, .int .i64 0, .bool false, .slice none 0 0, .slice none 0 0, .slice none 0 0, .int .i64 0, .int .i64 0] (by kernel_rfl) _ _ rfl #[.int .i64 x3.kind, .int .i64 x3.fr, .int .i64 x3.dst, .int .i64 x3.ep, .int .i64 x3.op, .int .i64 x3.n, .bool x3.flag, .string ⟨x3.e.1.k.toArray⟩, .int .i64 x3.e.1.s, .int .i64 x3.e.1.u, .int .i64 x3.e.1.o, .bool x3.e.1.has, .slice x3.e.2.1 x3.e.1.v.length x3.e.2.2, .slice x3.lA x3.l.length x3.lc, .slice x3.rA x3.ns.length x3.rc, .int .i64 x3.each, .int .i64 x3.keep] rfl rfl rfl (by kernel_rfl) (by kernel_rfl) ?_)
  obtain ⟨W4, hW4⟩ : ∃ W, w3.alloc (.cells #[.int .i64 x3.kind, .int .i64 x3.fr, .int .i64 x3.dst, .int .i64 x3.ep, .int .i64 x3.op, .int .i64 x3.n, .bool x3.flag, .string ⟨x3.e.1.k.toArray⟩, .int .i64 x3.e.1.s, .int .i64 x3.e.1.u, .int .i64 x3.e.1.o, .bool x3.e.1.has, .slice x3.e.2.1 x3.e.1.v.length x3.e.2.2, .slice x3.lA x3.l.length x3.lc, .slice x3.rA x3.ns.length x3.rc, .int .i64 x3.each, .int .i64 x3.keep] 34) = W := ⟨_, rfl⟩
  obtain ⟨g3, hg3⟩ : ∃ g, w3.heap.size = g := ⟨_, rfl⟩
  have HX4 : Hid (Blk W4 g3 34 #[.int .i64 x3.kind, .int .i64 x3.fr, .int .i64 x3.dst, .int .i64 x3.ep, .int .i64 x3.op, .int .i64 x3.n, .bool x3.flag, .string ⟨x3.e.1.k.toArray⟩, .int .i64 x3.e.1.s, .int .i64 x3.e.1.u, .int .i64 x3.e.1.o, .bool x3.e.1.has, .slice x3.e.2.1 x3.e.1.v.length x3.e.2.2, .slice x3.lA x3.l.length x3.lc, .slice x3.rA x3.ns.length x3.rc, .int .i64 x3.each, .int .i64 x3.keep]) := Lib.hid (by rw [← hW4, ← hg3]; exact Blk.new _ _ _)
  have hb4 : Below w3.heap.size w3 W4 := by rw [← hW4]; exact (Below.refl _ _).alloc (Nat.le_refl _) _
  have HK4 := Lib.hid (HK3.out.below hb4 HK3.out.lt)
  have HB4 := Lib.hid (HB3.out.trans (hb4.mono HB3.out.size))
  have HT4 := Lib.hid (HT3.out.below hb4)
  have HR4 := Lib.hid (HR3.out.below (hb4.mono HB3.out.size))
  have HM4 := Lib.hid (HM3.out.below hb4)
  have HO4 := Lib.hid (own_later HO3.out hb4)
  have HQ4 := Lib.hid (HQ3.out.below hb4)
  simp only [hW4, hg3]
  clear hb4 hW4 hg3 HK3 HB3 HT3 HR3 HM3 HO3 HQ3
  obtain ⟨k, hk⟩ : ∃ k : Nat, cut.tmod (ss.length : Int) = (k : Int) := ⟨(cut.tmod (ss.length : Int)).toNat, by
    have := Int.tmod_nonneg (ss.length : Int) hc0
    omega⟩
  have hkl : k < ss.length := by
    have := Int.tmod_lt_of_pos cut hps1
    omega
  have hkl2 : (k : Int) < (ss.length : Int) := by omega
  have hki0 : (0 : Int) ≤ (k : Int) := by omega
  have hwr : IntKind.i64.wrap cut = cut := by rw [IntKind.wrap_i64]; omega
  have hcut := fun W => run_cut_h (P := Tryd.prog) (w := W) 24 5 _ _ Tryd.underlying24 info_b A2 ss.length c2 k (by omega)
  go_wp2_with fail
  refine (readm_any W4.heap.size k c2 A2 (ss.take k) (by rw [List.length_take]; omega) (by omega) W4 HT4.out (take_rowB (Row.of_own HO4.out) k) (Nat.le_refl _)).mono ?_
  rw [HRC.out k hkl]
  rintro e w5 ⟨x5, rfl, hx5, hm5, hb5⟩
  have HK5 := Lib.hid (HK4.out.below hb5 HK4.out.lt)
  have HB5 := Lib.hid (HB4.out.trans (hb5.mono HB4.out.size))
  have HT5 := Lib.hid (HT4.out.below hb5)
  have HR5 := Lib.hid (HR4.out.below (hb5.mono HB4.out.size))
  have HM5 := Lib.hid (HM4.out.below hb5)
  have HO5 := Lib.hid (own_later HO4.out hb5)
  have HQ5 := Lib.hid (HQ4.out.below hb5)
  have HX5 := Lib.hid (HX4.out.below hb5 HX4.out.lt)
  clear hb5 hm5 hx5 hcut hwr hk hkl hkl2 hki0 HK4 HB4 HT4 HR4 HM4 HO4 HQ4 HX4 HRC
  go_upto_region 9 with (refine wpList_boxM rfl rfl _ rfl 34 #[.int .i64 0, .int .i64 0, .int .i64 0, .int .i64 0, .int .i64 0, .int .i64 0, .bool false, .string ⟨#[]⟩, .int .i64 0, .int .i64 0, .int .i64 0, .bool false, .slice none 0 0, .slice none 0 0, .slice none 0 0, .int .i64 0, .int .i64 0] (by kernel_rfl) _ _ rfl #[.int .i64 x5.kind, .int .i64 x5.fr, .int .i64 x5.dst, .int .i64 x5.ep, .int .i64 x5.op, .int .i64 x5.n, .bool x5.flag, .string ⟨x5.e.1.k.toArray⟩, .int .i64 x5.e.1.s, .int .i64 x5.e.1.u, .int .i64 x5.e.1.o, .bool x5.e.1.has, .slice x5.e.2.1 x5.e.1.v.length x5.e.2.2, .slice x5.lA x5.l.length x5.lc, .slice x5.rA x5.ns.length x5.rc, .int .i64 x5.each, .int .i64 x5.keep] rfl rfl rfl (by kernel_rfl) (by kernel_rfl) ?_)
  obtain ⟨W6, hW6⟩ : ∃ W, w5.alloc (.cells #[.int .i64 x5.kind, .int .i64 x5.fr, .int .i64 x5.dst, .int .i64 x5.ep, .int .i64 x5.op, .int .i64 x5.n, .bool x5.flag, .string ⟨x5.e.1.k.toArray⟩, .int .i64 x5.e.1.s, .int .i64 x5.e.1.u, .int .i64 x5.e.1.o, .bool x5.e.1.has, .slice x5.e.2.1 x5.e.1.v.length x5.e.2.2, .slice x5.lA x5.l.length x5.lc, .slice x5.rA x5.ns.length x5.rc, .int .i64 x5.each, .int .i64 x5.keep] 34) = W := ⟨_, rfl⟩
  obtain ⟨g5, hg5⟩ : ∃ g, w5.heap.size = g := ⟨_, rfl⟩
  have hb6 : Below w5.heap.size w5 W6 := by rw [← hW6]; exact (Below.refl _ _).alloc (Nat.le_refl _) _
  have HK6 := Lib.hid (HK5.out.below hb6 HK5.out.lt)
  have HB6 := Lib.hid (HB5.out.trans (hb6.mono HB5.out.size))
  have HT6 := Lib.hid (HT5.out.below hb6)
  have HR6 := Lib.hid (HR5.out.below (hb6.mono HB5.out.size))
  have HM6 := Lib.hid (HM5.out.below hb6)
  have HO6 := Lib.hid (own_later HO5.out hb6)
  have HQ6 := Lib.hid (HQ5.out.below hb6)
  have HX6 := Lib.hid (HX5.out.below hb6 HX5.out.lt)
  simp only [hW6, hg5]
  clear hb6 hW6 hg5 HK5 HB5 HT5 HR5 HM5 HO5 HQ5 HX5
  go_wp2_with fail
  refine (copyb_any W6.heap.size c2 ss.length A2 ss rfl W6 (Row.of_own HO6.out) (Nat.le_refl _) (by omega)).mono ?_
  rintro e w7 ⟨A7, c7, rfl, ho7, hb7⟩
  have HO7 := Lib.hid ho7
  have HSZ7 := Lib.hid hb7.size
  have HB67 := Lib.hid hb7
  clear hb7 ho7
  obtain ⟨i0, hi0, hz0, hz1, hz2⟩ := info_parts info_b
  have hal : ∀ o, Below w7.heap.size w7 (w7.alloc o) := fun o => (Below.refl _ _).alloc (Nat.le_refl _) o
  have HOA : Hid (∀ o, (w7.alloc o).ownsRow W6.heap.size 5 1 (.slice A7 ss.length c7) ss.length (ss.map byteV)) := Lib.hid fun o => own_later HO7.out (hal o)
  have HAL := Lib.hid hal
  have hmv : Hid (mv = ((UInt8.ofNat mv.toNat).toNat : Int)) := Lib.hid (by rw [UInt8.toNat_ofNat']; omega)
  have HRO : Hid (Row (w7.alloc (.cells #[.int .u8 mv] 5)) (w7.heap.size + 1) (some ⟨w7.heap.size, 0, none⟩) ([UInt8.ofNat mv.toNat].map byteV)) := Lib.hid (by
    have e : [UInt8.ofNat mv.toNat].map byteV = [.int .u8 mv] := by
      simp only [List.map_cons, List.map_nil]
      unfold byteV
      rw [← hmv.out]
    rw [e]
    exact row_cells (xs := [.int .u8 mv]) rfl)
  clear hal
  go_wp2_with (at_builtin; refine wpList_app _ rfl _ _ 24 rfl W6.heap.size 5 i0 (.int .u8 0) 1 Tryd.underlying24 hi0 hz0 hz1 hz2 rfl _ ss.length (ss.map byteV) rfl (HOA.out _) (w7.heap.size + 1) (some ⟨w7.heap.size, 0, none⟩) 1 1 ([UInt8.ofNat mv.toNat].map byteV) rfl rfl HRO.out (byte_one _) (by unfold maxLen; omega) (by omega) (by have := HSZ7.out; simp; omega) ?_)
  intro v' w8 hown hgr hat
  obtain ⟨A8, c8, rfl, _, _⟩ := ownShape hown
  have hrow8 : Row w8 w8.heap.size A8 ((ss ++ [UInt8.ofNat mv.toNat]).map byteV) := by rw [List.map_append]; exact ownRow hown
  have hb8 : Below W6.heap.size w7 w8 := ((HAL.out _).mono HSZ7.out).grown hgr (by have := HSZ7.out; simp; omega) fun g hg => ((HOA.out (.cells #[.int .u8 mv] 5)).lt g hg).1
  have hb68 : Below W6.heap.size W6 w8 := HB67.out.trans hb8
  have HK8 := Lib.hid (HK6.out.below hb68 HK6.out.lt)
  have HB8 := Lib.hid (HB6.out.trans (hb68.mono HB6.out.size))
  have HT8 := Lib.hid (HT6.out.below hb68)
  have HR8 := Lib.hid (HR6.out.below (hb68.mono HB6.out.size))
  have HM8 := Lib.hid (HM6.out.below hb68)
  have HQ8 := Lib.hid (HQ6.out.below hb68)
  have HX8 := Lib.hid (HX6.out.below hb68 HX6.out.lt)
  have HN8 := Lib.hid hrow8
  clear hown hgr hat hrow8 hb8 hb68 HO7 HSZ7 HB67 HOA HAL hmv HRO HK6 HB6 HT6 HR6 HM6 HO6 HQ6 HX6
  go_wp2_with fail
  refine (readm_any w8.heap.size (ss.length + 1) c8 A8 (ss ++ [UInt8.ofNat mv.toNat]) (by simp) (by omega) w8 HT8.out HN8.out (Nat.le_refl _)).mono ?_
  rw [HRM.out]
  rintro e w9 ⟨x9, rfl, hx9, hm9, hb9⟩
  have HK9 := Lib.hid (HK8.out.below hb9 HK8.out.lt)
  have HB9 := Lib.hid (HB8.out.trans (hb9.mono HB8.out.size))
  have HT9 := Lib.hid (HT8.out.below hb9)
  have HR9 := Lib.hid (HR8.out.below (hb9.mono HB8.out.size))
  have HM9 := Lib.hid (HM8.out.below hb9)
  have HQ9 := Lib.hid (HQ8.out.below hb9)
  have HX9 := Lib.hid (HX8.out.below hb9 HX8.out.lt)
  clear hb9 hm9 hx9 HN8 HK8 HB8 HT8 HR8 HM8 HQ8 HX8 HRM
  go_upto_region 12 with (refine wpList_boxM rfl rfl _ rfl 34 #[.int .i64 0, .int .i64 0, .int .i64 0, .int .i64 0, .int .i64 0, .int .i64 0, .bool false, .string ⟨#[]⟩, .int .i64 0, .int .i64 0, .int .i64 0, .bool false, .slice none 0 0, .slice none 0 0, .slice none 0 0, .int .i64 0, .int .i64 0] (by kernel_rfl) _ _ rfl #[.int .i64 x9.kind, .int .i64 x9.fr, .int .i64 x9.dst, .int .i64 x9.ep, .int .i64 x9.op, .int .i64 x9.n, .bool x9.flag, .string ⟨x9.e.1.k.toArray⟩, .int .i64 x9.e.1.s, .int .i64 x9.e.1.u, .int .i64 x9.e.1.o, .bool x9.e.1.has, .slice x9.e.2.1 x9.e.1.v.length x9.e.2.2, .slice x9.lA x9.l.length x9.lc, .slice x9.rA x9.ns.length x9.rc, .int .i64 x9.each, .int .i64 x9.keep] rfl rfl rfl (by kernel_rfl) (by kernel_rfl) ?_)
  obtain ⟨W10, hW10⟩ : ∃ W, w9.alloc (.cells #[.int .i64 x9.kind, .int .i64 x9.fr, .int .i64 x9.dst, .int .i64 x9.ep, .int .i64 x9.op, .int .i64 x9.n, .bool x9.flag, .string ⟨x9.e.1.k.toArray⟩, .int .i64 x9.e.1.s, .int .i64 x9.e.1.u, .int .i64 x9.e.1.o, .bool x9.e.1.has, .slice x9.e.2.1 x9.e.1.v.length x9.e.2.2, .slice x9.lA x9.l.length x9.lc, .slice x9.rA x9.ns.length x9.rc, .int .i64 x9.each, .int .i64 x9.keep] 34) = W := ⟨_, rfl⟩
  obtain ⟨g9, hg9⟩ : ∃ g, w9.heap.size = g := ⟨_, rfl⟩
  have hb10 : Below w9.heap.size w9 W10 := by rw [← hW10]; exact (Below.refl _ _).alloc (Nat.le_refl _) _
  have HK10 := Lib.hid (HK9.out.below hb10 HK9.out.lt)
  have HB10 := Lib.hid (HB9.out.trans (hb10.mono HB9.out.size))
  have HT10 := Lib.hid (HT9.out.below hb10)
  have HR10 := Lib.hid (HR9.out.below (hb10.mono HB9.out.size))
  have HM10 := Lib.hid (HM9.out.below hb10)
  have HQ10 := Lib.hid (HQ9.out.below hb10)
  have HX10 := Lib.hid (HX9.out.below hb10 HX9.out.lt)
  simp only [hW10, hg9]
  have hsm : sameM (mP x3) (mP x) = true := by rw [hx3]; exact sameM_refl _
  have HSM := Lib.hid (refsame12 x3 x W10 HQ10.out HM10.out)
  rw [hsm] at HSM
  clear hb10 hW10 hg9 hsm hx3 HK9 HB9 HT9 HR9 HM9 HQ9 HX9
  go_wp2_with (first | (refine load_rowG rfl 34 _ rfl _ rfl _ _ _ _ (show _ = _ from HX10.out) Tryd.underlying34 rfl (by kernel_rfl) ?_) | (refine load_rowG rfl 34 _ rfl _ rfl _ _ _ _ (show _ = _ from HK10.out) Tryd.underlying34 rfl (by kernel_rfl) ?_))
  refine HSM.out.mono ?_
  rintro e w11 ⟨rfl, hb11⟩
  have HB11 := Lib.hid (HB10.out.trans (hb11.mono HB10.out.size))
  have HT11 := Lib.hid (HT10.out.below hb11)
  have HR11 := Lib.hid (HR10.out.below (hb11.mono HB10.out.size))
  clear hb11 HSM HK10 HB10 HT10 HR10 HM10 HQ10 HX10 hps1 hps2 hpl2
  go_wp2_with fail
  refine (readm_any w.heap.size bs.length c A bs rfl HLB.out w11 HT11.out HR11.out HB11.out.size).mono ?_
  rintro e w12 ⟨x4, rfl, hx4, hm4, hb⟩
  have HM12 := Lib.hid hm4
  have HB12 := Lib.hid (HB11.out.trans (hb.mono HB11.out.size))
  have HT12 := Lib.hid (HT11.out.below hb)
  have HR12 := Lib.hid (HR11.out.below (hb.mono HB11.out.size))
  obtain ⟨r, hr⟩ : ∃ r, readM bs = r := ⟨_, rfl⟩
  obtain ⟨m4, e4⟩ := r
  rw [hr] at hx4
  simp only at hx4
  have hbk := readM_back hr
  rw [hr]
  simp only
  clear hb hr hm4 HB11 HT11 HR11
  go_upto_region 15 with (refine wpList_boxM rfl rfl _ rfl 34 #[.int .i64 0, .int .i64 0, .int .i64 0, .int .i64 0, .int .i64 0, .int .i64 0, .bool false, .string ⟨#[]⟩, .int .i64 0, .int .i64 0, .int .i64 0, .bool false, .slice none 0 0, .slice none 0 0, .slice none 0 0, .int .i64 0, .int .i64 0] (by kernel_rfl) _ _ rfl #[.int .i64 x4.kind, .int .i64 x4.fr, .int .i64 x4.dst, .int .i64 x4.ep, .int .i64 x4.op, .int .i64 x4.n, .bool x4.flag, .string ⟨x4.e.1.k.toArray⟩, .int .i64 x4.e.1.s, .int .i64 x4.e.1.u, .int .i64 x4.e.1.o, .bool x4.e.1.has, .slice x4.e.2.1 x4.e.1.v.length x4.e.2.2, .slice x4.lA x4.l.length x4.lc, .slice x4.rA x4.ns.length x4.rc, .int .i64 x4.each, .int .i64 x4.keep] rfl rfl rfl (by kernel_rfl) (by kernel_rfl) ?_)
  obtain ⟨W4, hW4⟩ : ∃ W, w12.alloc (.cells #[.int .i64 x4.kind, .int .i64 x4.fr, .int .i64 x4.dst, .int .i64 x4.ep, .int .i64 x4.op, .int .i64 x4.n, .bool x4.flag, .string ⟨x4.e.1.k.toArray⟩, .int .i64 x4.e.1.s, .int .i64 x4.e.1.u, .int .i64 x4.e.1.o, .bool x4.e.1.has, .slice x4.e.2.1 x4.e.1.v.length x4.e.2.2, .slice x4.lA x4.l.length x4.lc, .slice x4.rA x4.ns.length x4.rc, .int .i64 x4.each, .int .i64 x4.keep] 34) = W := ⟨_, rfl⟩
  obtain ⟨g4, hg4⟩ : ∃ g, w12.heap.size = g := ⟨_, rfl⟩
  have HX13 : Hid (Blk W4 g4 34 #[.int .i64 x4.kind, .int .i64 x4.fr, .int .i64 x4.dst, .int .i64 x4.ep, .int .i64 x4.op, .int .i64 x4.n, .bool x4.flag, .string ⟨x4.e.1.k.toArray⟩, .int .i64 x4.e.1.s, .int .i64 x4.e.1.u, .int .i64 x4.e.1.o, .bool x4.e.1.has, .slice x4.e.2.1 x4.e.1.v.length x4.e.2.2, .slice x4.lA x4.l.length x4.lc, .slice x4.rA x4.ns.length x4.rc, .int .i64 x4.each, .int .i64 x4.keep]) := Lib.hid (by rw [← hW4, ← hg4]; exact Blk.new _ _ _)
  have hb4 : Below w12.heap.size w12 W4 := by rw [← hW4]; exact (Below.refl _ _).alloc (Nat.le_refl _) _
  have HB13 := Lib.hid (HB12.out.trans (hb4.mono HB12.out.size))
  have HT13 := Lib.hid (HT12.out.below hb4)
  have HR13 := Lib.hid (HR12.out.below (hb4.mono HB12.out.size))
  have HM13 := Lib.hid (HM12.out.below hb4)
  simp only [hW4, hg4]
  clear hb4 hW4 hg4 HB12 HT12 HR12 HM12
  rcases hbk with ⟨hne, h0⟩ | ⟨rfl, hok, hput⟩
  · have k0 : W4.cell? ⟨g4, 0, none⟩ = some (.int .i64 0) := by
      have := HX13.out.cell 0
      have hk : x4.kind = 0 := by
        have := congrArg MsgP.kind (hx4.trans h0)
        exact this
      rw [hk] at this
      exact this
    have n1 : (e4 == 0) = false := by simpa using hne
    have n2 : (e4 != 0) = true := by simpa using hne
    clear hne h0 hx4
    go_wp2_with fail
    refine (known12 _ HT13.out).mono ?_
    rintro e wz ⟨rfl, hbz⟩
    have HBZ := Lib.hid (HB13.out.trans (hbz.mono HB13.out.size))
    clear hbz
    go_wp2
    go_ret
    exact ⟨rfl, HBZ.out⟩
  · subst hx4
    have HBY := Lib.hid (bytes_any12 x4 W4 HT13.out HM13.out)
    unfold BytE bytesM at HBY
    rw [if_pos hok, hput] at HBY
    clear hok hput
    go_wp2_with (refine wpList_load_row rfl 34 _ rfl _ rfl _ _ _ _ (show _ = _ from HX13.out) Tryd.underlying34 rfl (by kernel_rfl) ?_)
    refine HBY.out.mono ?_
    rintro e w9 ⟨A9, c9, rfl, ho9, hb9⟩
    have HB9 := Lib.hid (HB13.out.trans (hb9.mono HB13.out.size))
    have HT9 := Lib.hid (HT13.out.below hb9)
    have HR9 := Lib.hid (HR13.out.below (hb9.mono HB13.out.size))
    have HO9 := Lib.hid (Row.of_own ho9)
    clear hb9 ho9 HBY HX13 HB13 HT13 HR13 HM13
    go_wp2_with fail
    refine (same_val _ _ _ _ _ _ _ _ bs bs true (by simp) w9 HO9.out HR9.out rfl rfl).mono ?_
    rintro e w10 ⟨rfl, rfl⟩
    clear HR9 HO9
    go_wp2_with fail
    refine (known12 _ HT9.out).mono ?_
    rintro e wz ⟨rfl, hbz⟩
    have HBZ := Lib.hid (HB9.out.trans (hbz.mono HB9.out.size))
    clear hbz
    go_wp2
    go_ret
    exact ⟨rfl, HBZ.out⟩
theorem back12_any (x : MV) (A : Option Addr) (c : Nat) (bs : List UInt8) (cut mv : Int) (hc0 : 0 ≤ cut) (hc1 : cut ≤ 65535) (w : World) (ht : KT w) (h : MsgM w x) (hr : Row w w.heap.size A (bs.map byteV)) (hcap : bs.length ≤ c) (hl : bs.length ≤ maxLen) (hm0 : 0 ≤ mv) (hm1 : mv ≤ 255) :
    Calls Tryd.prog 5 #[.agg #[.int .i64 x.kind, .int .i64 x.fr, .int .i64 x.dst, .int .i64 x.ep, .int .i64 x.op, .int .i64 x.n, .bool x.flag, .string ⟨x.e.1.k.toArray⟩, .int .i64 x.e.1.s, .int .i64 x.e.1.u, .int .i64 x.e.1.o, .bool x.e.1.has, .slice x.e.2.1 x.e.1.v.length x.e.2.2, .slice x.lA x.l.length x.lc, .slice x.rA x.ns.length x.rc, .int .i64 x.each, .int .i64 x.keep], .slice A bs.length c, .int .u16 cut, .int .u8 mv] w (IsT12 w) := by
  cases h0 : okM (mP x)
  · exact back12_no x A c bs cut mv hc0 hc1 h0 w ht h hr hcap hl hm0 hm1
  · exact back12_yes x A c bs cut mv hc0 hc1 h0 w ht h hr hcap hl hm0 hm1
end Go.Proofs.YtfamklplhdnaiaaDoor
