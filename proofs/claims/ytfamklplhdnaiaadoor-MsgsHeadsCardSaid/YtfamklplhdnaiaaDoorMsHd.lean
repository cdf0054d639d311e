/- MsHd: Two messages that may be have the same bytes just if they are the same: walked. -/
import Derived.Test.YtfamklplhdnaiaaDoorMsSm
import Derived.Test.YtfamklplhdnaiaaDoorMsL
import Derived.Test.YtfamklplhdnaiaaDoorMsN
import Derived.Test.YtfamklplhdnaiaaDoorMsW
import Derived.Test.YtfamklplhdnaiaaDoorRelyL
import Derived.BigFrame
import Derived.Deep.MidRow
namespace Go.Proofs.YtfamklplhdnaiaaDoor
open Go.RowKit Mem Be Rg
set_option maxRecDepth 100000
set_option maxHeartbeats 8000000
set_option linter.unusedVariables false
set_option linter.unusedSimpArgs false
theorem noval12 {a : EntP} (h : okE a ∨ a = entP0) (hh : a.has = false) : a.v = [] := by
  rcases h with h | h
  · have := (rightE_yes h).2.2.2.1
    rcases this with h1 | h1
    · rw [hh] at h1; cases h1
    · exact List.length_eq_zero_iff.1 h1
  · rw [h]; rfl
theorem sEB_eq {a b : EntP} (ha : okE a ∨ a = entP0) (hb : okE b ∨ b = entP0) (h : sEB a b = true) : a = b := by
  obtain ⟨h1, h2, h3, h4, h5, h6⟩ := sEB_iff.1 h
  have h7 : a.v = b.v := by
    cases hh : a.has
    · rw [noval12 ha hh, noval12 hb (by rw [← h5]; exact hh)]
    · exact h6 hh
  obtain ⟨k, s, u, o, has, v⟩ := a
  obtain ⟨k', s', u', o', has', v'⟩ := b
  simp only at h1 h2 h3 h4 h5 h7
  subst h1 h2 h3 h4 h5 h7
  rfl
theorem okM_ents {m : MsgP} (h : okM m = true) : (okE m.e ∨ m.e = entP0) ∧ ∀ x ∈ m.l, okE x := by
  obtain ⟨h1, h2, h3, h4, h5, h6⟩ := okM_parts h
  refine ⟨?_, ?_⟩
  · unfold fldB rE bE at h4
    split at h4
    · exact Or.inl (of_decide_eq_true h4)
    · exact Or.inr ((noE_iff _).1 (of_decide_eq_true h4))
  · unfold fldB rL bL at h5
    split at h5
    · rw [Bool.and_eq_true, allE_iff] at h5; exact h5.2
    · have : m.l = [] := List.length_eq_zero_iff.1 (by simpa using h5)
      rw [this]; intro x hx; cases hx
theorem sameM_eq {a b : MsgP} (ha : okM a = true) (hb : okM b = true) (h : sameM a b = true) : a = b := by
  obtain ⟨ea, la⟩ := okM_ents ha
  obtain ⟨eb, lb⟩ := okM_ents hb
  unfold sameM at h
  simp only [Bool.and_eq_true, beq_iff_eq, decide_eq_true_eq] at h
  obtain ⟨⟨h1, h2, h3, h4, h5, h6, h7⟩, h8, h9, h10, h11, h12⟩ := h
  have he := sEB_eq ea eb h8
  have hl : a.l = b.l := by
    refine List.ext_getElem (sAllB_len h9) fun i p q => ?_
    exact sEB_eq (Or.inl (la _ (List.getElem_mem p))) (Or.inl (lb _ (List.getElem_mem q))) (sAllB_at i p q h9)
  obtain ⟨x1, x2, x3, x4, x5, x6, x7, x8, x9, x10, x11, x12⟩ := a
  obtain ⟨y1, y2, y3, y4, y5, y6, y7, y8, y9, y10, y11, y12⟩ := b
  simp only at h1 h2 h3 h4 h5 h6 h7 he hl h10 h11 h12
  subst h1 h2 h3 h4 h5 h6 h7 he hl h10 h11 h12
  rfl
def hd12 (A1 : Option Addr) (c1 : Nat) (A2 : Option Addr) (c2 : Nat) (X Y : List UInt8) (q : Bool) (x y : MV) : Nat → Value → World → Prop
  | 0, v, _ => v = .slice A1 X.length c1
  | 1, v, _ => v = .string ⟨X.toArray⟩
  | 2, v, _ => v = .slice A2 Y.length c2
  | 3, v, _ => v = .string ⟨Y.toArray⟩
  | 4, v, _ => v = .bool q
  | 5, v, _ => v = .agg #[.int .i64 x.kind, .int .i64 x.fr, .int .i64 x.dst, .int .i64 x.ep, .int .i64 x.op, .int .i64 x.n, .bool x.flag, .string ⟨x.e.1.k.toArray⟩, .int .i64 x.e.1.s, .int .i64 x.e.1.u, .int .i64 x.e.1.o, .bool x.e.1.has, .slice x.e.2.1 x.e.1.v.length x.e.2.2, .slice x.lA x.l.length x.lc, .slice x.rA x.ns.length x.rc, .int .i64 x.each, .int .i64 x.keep]
  | 6, v, _ => v = .agg #[.int .i64 y.kind, .int .i64 y.fr, .int .i64 y.dst, .int .i64 y.ep, .int .i64 y.op, .int .i64 y.n, .bool y.flag, .string ⟨y.e.1.k.toArray⟩, .int .i64 y.e.1.s, .int .i64 y.e.1.u, .int .i64 y.e.1.o, .bool y.e.1.has, .slice y.e.2.1 y.e.1.v.length y.e.2.2, .slice y.lA y.l.length y.lc, .slice y.rA y.ns.length y.rc, .int .i64 y.each, .int .i64 y.keep]
  | 7, v, _ => v = .bool q
  | 8, v, _ => v = .bool true
  | 9, v, _ => v = .bool true
  | 10, v, _ => v = .bool true
  | 11, v, _ => v = .bool true
  | _, v, _ => v = .bool true
theorem hd12_later (A1 : Option Addr) (c1 : Nat) (A2 : Option Addr) (c2 : Nat) (X Y : List UInt8) (q : Bool) (x y : MV) : ∀ i v w1 w2, hd12 A1 c1 A2 c2 X Y q x y i v w1 → Below w1.heap.size w1 w2 → hd12 A1 c1 A2 c2 X Y q x y i v w2 := by
  intro i v w1 w2 h hb
  unfold hd12 at h ⊢
  split at h <;> first | exact h | (obtain ⟨p, e, hk⟩ := h; exact ⟨p, e, hk.below hb hk.lt⟩) | (obtain ⟨a, b, e, hk⟩ := h; exact ⟨a, b, e, own_later hk hb⟩)

theorem heads12_any (x y : MV) (w : World) (ht : KT w) (h : MsgM w x) (h' : MsgM w y) : Calls Tryd.prog 9 #[.agg #[.int .i64 x.kind, .int .i64 x.fr, .int .i64 x.dst, .int .i64 x.ep, .int .i64 x.op, .int .i64 x.n, .bool x.flag, .string ⟨x.e.1.k.toArray⟩, .int .i64 x.e.1.s, .int .i64 x.e.1.u, .int .i64 x.e.1.o, .bool x.e.1.has, .slice x.e.2.1 x.e.1.v.length x.e.2.2, .slice x.lA x.l.length x.lc, .slice x.rA x.ns.length x.rc, .int .i64 x.each, .int .i64 x.keep], .agg #[.int .i64 y.kind, .int .i64 y.fr, .int .i64 y.dst, .int .i64 y.ep, .int .i64 y.op, .int .i64 y.n, .bool y.flag, .string ⟨y.e.1.k.toArray⟩, .int .i64 y.e.1.s, .int .i64 y.e.1.u, .int .i64 y.e.1.o, .bool y.e.1.has, .slice y.e.2.1 y.e.1.v.length y.e.2.2, .slice y.lA y.l.length y.lc, .slice y.rA y.ns.length y.rc, .int .i64 y.each, .int .i64 y.keep]] w (IsT12 w) := by
  have hb : Below w.heap.size w ((w.alloc (.cells #[.int .i64 x.kind, .int .i64 x.fr, .int .i64 x.dst, .int .i64 x.ep, .int .i64 x.op, .int .i64 x.n, .bool x.flag, .string ⟨x.e.1.k.toArray⟩, .int .i64 x.e.1.s, .int .i64 x.e.1.u, .int .i64 x.e.1.o, .bool x.e.1.has, .slice x.e.2.1 x.e.1.v.length x.e.2.2, .slice x.lA x.l.length x.lc, .slice x.rA x.ns.length x.rc, .int .i64 x.each, .int .i64 x.keep] 34)).alloc (.cells #[.int .i64 y.kind, .int .i64 y.fr, .int .i64 y.dst, .int .i64 y.ep, .int .i64 y.op, .int .i64 y.n, .bool y.flag, .string ⟨y.e.1.k.toArray⟩, .int .i64 y.e.1.s, .int .i64 y.e.1.u, .int .i64 y.e.1.o, .bool y.e.1.has, .slice y.e.2.1 y.e.1.v.length y.e.2.2, .slice y.lA y.l.length y.lc, .slice y.rA y.ns.length y.rc, .int .i64 y.each, .int .i64 y.keep] 34)) := ((Below.refl _ _).alloc (Nat.le_refl _) _).alloc (by simp) _
  have HX0 := Lib.hid ((Blk.new w 34 #[.int .i64 x.kind, .int .i64 x.fr, .int .i64 x.dst, .int .i64 x.ep, .int .i64 x.op, .int .i64 x.n, .bool x.flag, .string ⟨x.e.1.k.toArray⟩, .int .i64 x.e.1.s, .int .i64 x.e.1.u, .int .i64 x.e.1.o, .bool x.e.1.has, .slice x.e.2.1 x.e.1.v.length x.e.2.2, .slice x.lA x.l.length x.lc, .slice x.rA x.ns.length x.rc, .int .i64 x.each, .int .i64 x.keep]).alloc (.cells #[.int .i64 y.kind, .int .i64 y.fr, .int .i64 y.dst, .int .i64 y.ep, .int .i64 y.op, .int .i64 y.n, .bool y.flag, .string ⟨y.e.1.k.toArray⟩, .int .i64 y.e.1.s, .int .i64 y.e.1.u, .int .i64 y.e.1.o, .bool y.e.1.has, .slice y.e.2.1 y.e.1.v.length y.e.2.2, .slice y.lA y.l.length y.lc, .slice y.rA y.ns.length y.rc, .int .i64 y.each, .int .i64 y.keep] 34))
  have HY0 : Hid (Blk ((w.alloc (.cells #[.int .i64 x.kind, .int .i64 x.fr, .int .i64 x.dst, .int .i64 x.ep, .int .i64 x.op, .int .i64 x.n, .bool x.flag, .string ⟨x.e.1.k.toArray⟩, .int .i64 x.e.1.s, .int .i64 x.e.1.u, .int .i64 x.e.1.o, .bool x.e.1.has, .slice x.e.2.1 x.e.1.v.length x.e.2.2, .slice x.lA x.l.length x.lc, .slice x.rA x.ns.length x.rc, .int .i64 x.each, .int .i64 x.keep] 34)).alloc (.cells #[.int .i64 y.kind, .int .i64 y.fr, .int .i64 y.dst, .int .i64 y.ep, .int .i64 y.op, .int .i64 y.n, .bool y.flag, .string ⟨y.e.1.k.toArray⟩, .int .i64 y.e.1.s, .int .i64 y.e.1.u, .int .i64 y.e.1.o, .bool y.e.1.has, .slice y.e.2.1 y.e.1.v.length y.e.2.2, .slice y.lA y.l.length y.lc, .slice y.rA y.ns.length y.rc, .int .i64 y.each, .int .i64 y.keep] 34)) (w.heap.size + 1) 34 #[.int .i64 y.kind, .int .i64 y.fr, .int .i64 y.dst, .int .i64 y.ep, .int .i64 y.op, .int .i64 y.n, .bool y.flag, .string ⟨y.e.1.k.toArray⟩, .int .i64 y.e.1.s, .int .i64 y.e.1.u, .int .i64 y.e.1.o, .bool y.e.1.has, .slice y.e.2.1 y.e.1.v.length y.e.2.2, .slice y.lA y.l.length y.lc, .slice y.rA y.ns.length y.rc, .int .i64 y.each, .int .i64 y.keep]) := Lib.hid (blk_at (by simp) (Blk.new _ _ _))
  have HMX0 := Lib.hid (h.below hb)
  have HMY0 := Lib.hid (h'.below hb)
  have HT0 := Lib.hid (ht.below hb)
  have HB0 := Lib.hid hb
  have HL1 := Lib.hid fun W (hm : MsgM W x) => long12 x W hm
  have HL2 := Lib.hid fun W (hm : MsgM W y) => long12 y W hm
  clear h h' hb ht
  go_enter Tryd.func9, Tryd.ntmps9
  go_wp2_with (refine wpList_load_row rfl 34 _ rfl _ rfl _ _ _ _ (show _ = _ from HX0.out) Tryd.underlying34 rfl (by kernel_rfl) ?_)
  refine (HL1.out _ HMX0.out).mono ?_
  rintro e w1 ⟨q, rfl, hb1⟩
  have HX1 := Lib.hid (HX0.out.below hb1 HX0.out.lt)
  have HY1 := Lib.hid (HY0.out.below hb1 HY0.out.lt)
  have HB1 := Lib.hid (HB0.out.trans (hb1.mono HB0.out.size))
  have HT1 := Lib.hid (HT0.out.below hb1)
  have HMX1 := Lib.hid (HMX0.out.below hb1)
  have HMY1 := Lib.hid (HMY0.out.below hb1)
  clear hb1 HX0 HY0 HB0 HT0 HMX0 HMY0
  cases q
  case true =>
    go_wp2_with fail
    refine (known12 _ HT1.out).mono ?_
    rintro e wz ⟨rfl, hbz⟩
    have HBZ := Lib.hid (HB1.out.trans (hbz.mono HB1.out.size))
    clear hbz
    go_wp2
    go_ret
    exact ⟨rfl, HBZ.out⟩
  case false =>
  go_wp2_with (refine load_rowG rfl 34 _ rfl _ rfl _ _ _ _ (show _ = _ from HY1.out) Tryd.underlying34 rfl (by kernel_rfl) ?_)
  refine (HL2.out _ HMY1.out).mono ?_
  rintro e w2 ⟨q, rfl, hb2⟩
  have HX2 := Lib.hid (HX1.out.below hb2 HX1.out.lt)
  have HY2 := Lib.hid (HY1.out.below hb2 HY1.out.lt)
  have HB2 := Lib.hid (HB1.out.trans (hb2.mono HB1.out.size))
  have HT2 := Lib.hid (HT1.out.below hb2)
  have HMX2 := Lib.hid (HMX1.out.below hb2)
  have HMY2 := Lib.hid (HMY1.out.below hb2)
  clear hb2 HX1 HY1 HB1 HT1 HMX1 HMY1
  clear HL1 HL2
  cases q
  case true =>
    go_wp2_with fail
    refine (known12 _ HT2.out).mono ?_
    rintro e wz ⟨rfl, hbz⟩
    have HBZ := Lib.hid (HB2.out.trans (hbz.mono HB2.out.size))
    clear hbz
    go_wp2
    go_ret
    exact ⟨rfl, HBZ.out⟩
  case false =>
  have HB1y := Lib.hid (bytes_any12 x w2 HT2.out HMX2.out)
  unfold BytE at HB1y
  obtain ⟨⟨X, e1⟩, hX⟩ : ∃ r, bytesM (mP x) = r := ⟨_, rfl⟩
  rw [hX] at HB1y
  have HXE := Lib.hid hX
  go_wp2_with (refine wpList_load_row rfl 34 _ rfl _ rfl _ _ _ _ (show _ = _ from HX2.out) Tryd.underlying34 rfl (by kernel_rfl) ?_)
  refine HB1y.out.mono ?_
  rintro e w3 ⟨A1, c1, rfl, ho3, hb3⟩
  have HX3 := Lib.hid (HX2.out.below hb3 HX2.out.lt)
  have HY3 := Lib.hid (HY2.out.below hb3 HY2.out.lt)
  have HB3 := Lib.hid (HB2.out.trans (hb3.mono HB2.out.size))
  have HT3 := Lib.hid (HT2.out.below hb3)
  have HMX3 := Lib.hid (HMX2.out.below hb3)
  have HMY3 := Lib.hid (HMY2.out.below hb3)
  clear hb3 HX2 HY2 HB2 HT2 HMX2 HMY2
  have HO13 := Lib.hid ho3
  have HB2y := Lib.hid (bytes_any12 y w3 HT3.out HMY3.out)
  unfold BytE at HB2y
  obtain ⟨⟨Y, e2⟩, hY⟩ : ∃ r, bytesM (mP y) = r := ⟨_, rfl⟩
  rw [hY] at HB2y
  have HYE := Lib.hid hY
  clear ho3 hX hY HB1y
  go_wp2_with (refine wpList_load_row rfl 34 _ rfl _ rfl _ _ _ _ (show _ = _ from HY3.out) Tryd.underlying34 rfl (by kernel_rfl) ?_)
  refine HB2y.out.mono ?_
  rintro e w4 ⟨A2, c2, rfl, ho4, hb4⟩
  have HX4 := Lib.hid (HX3.out.below hb4 HX3.out.lt)
  have HY4 := Lib.hid (HY3.out.below hb4 HY3.out.lt)
  have HB4 := Lib.hid (HB3.out.trans (hb4.mono HB3.out.size))
  have HT4 := Lib.hid (HT3.out.below hb4)
  have HMX4 := Lib.hid (HMX3.out.below hb4)
  have HMY4 := Lib.hid (HMY3.out.below hb4)
  have HO14 := Lib.hid (own_later HO13.out hb4)
  clear hb4 HX3 HY3 HB3 HT3 HMX3 HMY3 HO13
  have HO24 := Lib.hid ho4
  clear ho4 HB2y
  have HEE : Hid ((e1 = 2 ∨ e1 = 0 ∧ okM (mP x) = true ∧ X = putM (mP x)) ∧ (e2 = 2 ∨ e2 = 0 ∧ okM (mP y) = true ∧ Y = putM (mP y))) := Lib.hid (by
    have h1 := HXE.out
    have h2 := HYE.out
    unfold bytesM at h1 h2
    refine ⟨?_, ?_⟩
    · split at h1
      · rename_i ho; exact Or.inr ⟨((Prod.mk.inj h1).2).symm, ho, ((Prod.mk.inj h1).1).symm⟩
      · exact Or.inl ((Prod.mk.inj h1).2).symm
    · split at h2
      · rename_i ho; exact Or.inr ⟨((Prod.mk.inj h2).2).symm, ho, ((Prod.mk.inj h2).1).symm⟩
      · exact Or.inl ((Prod.mk.inj h2).2).symm)
  clear HXE HYE
  rcases HEE.out.1 with he1 | ⟨he1, ok1, hX⟩
  · subst he1
    clear HEE
    go_wp2_with fail
    refine (known12 _ HT4.out).mono ?_
    rintro e wz ⟨rfl, hbz⟩
    have HBZ := Lib.hid (HB4.out.trans (hbz.mono HB4.out.size))
    clear hbz
    go_wp2
    go_ret
    exact ⟨rfl, HBZ.out⟩
  subst he1
  rcases HEE.out.2 with he2 | ⟨he2, ok2, hY⟩
  · subst he2
    clear HEE
    go_wp2_with fail
    refine (known12 _ HT4.out).mono ?_
    rintro e wz ⟨rfl, hbz⟩
    have HBZ := Lib.hid (HB4.out.trans (hbz.mono HB4.out.size))
    clear hbz
    go_wp2
    go_ret
    exact ⟨rfl, HBZ.out⟩
  subst he2
  have HV1 : Hid (∀ W, Below w4.heap.size w4 W → (convert 24 9 (.slice A1 X.length c1)).run Tryd.prog W = .ok (.string ⟨X.toArray⟩) W) := Lib.hid fun W hb => conv_row (P := Tryd.prog) c1 24 9 5 Tryd.underlying24 Tryd.underlying5 Tryd.underlying9 ((Row.of_own HO14.out).below hb)
  have HV2 : Hid (∀ W, Below w4.heap.size w4 W → (convert 24 9 (.slice A2 Y.length c2)).run Tryd.prog W = .ok (.string ⟨Y.toArray⟩) W) := Lib.hid fun W hb => conv_row (P := Tryd.prog) c2 24 9 5 Tryd.underlying24 Tryd.underlying5 Tryd.underlying9 ((Row.of_own HO24.out).below hb)
  have HLX : Hid (∀ W, Below w4.heap.size w4 W → Blk W w.heap.size 34 #[.int .i64 x.kind, .int .i64 x.fr, .int .i64 x.dst, .int .i64 x.ep, .int .i64 x.op, .int .i64 x.n, .bool x.flag, .string ⟨x.e.1.k.toArray⟩, .int .i64 x.e.1.s, .int .i64 x.e.1.u, .int .i64 x.e.1.o, .bool x.e.1.has, .slice x.e.2.1 x.e.1.v.length x.e.2.2, .slice x.lA x.l.length x.lc, .slice x.rA x.ns.length x.rc, .int .i64 x.each, .int .i64 x.keep]) := Lib.hid fun W hb => HX4.out.below hb HX4.out.lt
  have HLY : Hid (∀ W, Below w4.heap.size w4 W → Blk W (w.heap.size + 1) 34 #[.int .i64 y.kind, .int .i64 y.fr, .int .i64 y.dst, .int .i64 y.ep, .int .i64 y.op, .int .i64 y.n, .bool y.flag, .string ⟨y.e.1.k.toArray⟩, .int .i64 y.e.1.s, .int .i64 y.e.1.u, .int .i64 y.e.1.o, .bool y.e.1.has, .slice y.e.2.1 y.e.1.v.length y.e.2.2, .slice y.lA y.l.length y.lc, .slice y.rA y.ns.length y.rc, .int .i64 y.each, .int .i64 y.keep]) := Lib.hid fun W hb => HY4.out.below hb HY4.out.lt
  have HKN : Hid (∀ W, Below w4.heap.size w4 W → Calls Tryd.prog 11 #[] W (IsT12 W)) := Lib.hid fun W hb => known12 W (HT4.out.below hb)
  obtain ⟨q, hq⟩ : ∃ q, sameM (mP x) (mP y) = q := ⟨_, rfl⟩
  have HSM : Hid (∀ W, Below w4.heap.size w4 W → Calls Tryd.prog 19 #[.agg #[.int .i64 x.kind, .int .i64 x.fr, .int .i64 x.dst, .int .i64 x.ep, .int .i64 x.op, .int .i64 x.n, .bool x.flag, .string ⟨x.e.1.k.toArray⟩, .int .i64 x.e.1.s, .int .i64 x.e.1.u, .int .i64 x.e.1.o, .bool x.e.1.has, .slice x.e.2.1 x.e.1.v.length x.e.2.2, .slice x.lA x.l.length x.lc, .slice x.rA x.ns.length x.rc, .int .i64 x.each, .int .i64 x.keep], .agg #[.int .i64 y.kind, .int .i64 y.fr, .int .i64 y.dst, .int .i64 y.ep, .int .i64 y.op, .int .i64 y.n, .bool y.flag, .string ⟨y.e.1.k.toArray⟩, .int .i64 y.e.1.s, .int .i64 y.e.1.u, .int .i64 y.e.1.o, .bool y.e.1.has, .slice y.e.2.1 y.e.1.v.length y.e.2.2, .slice y.lA y.l.length y.lc, .slice y.rA y.ns.length y.rc, .int .i64 y.each, .int .i64 y.keep]] W (IsB q W)) := Lib.hid fun W hb => by
    have := refsame12 x y W (HMX4.out.below hb) (HMY4.out.below hb)
    rw [hq] at this; exact this
  have HB := HB4
  cases q
  · have hne : X ≠ Y := fun hxy => by
      have : mP x = mP y := putM_inj ok1 ok2 (by rw [← hX, ← hY]; exact hxy)
      rw [this, sameM_refl] at hq; cases hq
    have hne2 : (X == Y) = false := by simpa using hne
    clear hX hY ok1 ok2 hq HEE HO14 HO24 HX4 HY4 HB4 HT4 HMX4 HMY4
    go_wp2
    refine Rely.wp_region_by [[], [(0, 33)], [], [(2, 35)], [(1, 34), (3, 36)], [], [], [(5, 38), (6, 39)], [(4, 37), (7, 40)], [(8, 41)], [(9, 42)], [(9, 42), (10, 43)], [(11, 44)]] [(0, 33), (1, 34), (2, 35), (3, 36), (4, 37), (5, 38), (6, 39), (7, 40), (8, 41), (9, 42), (10, 43), (11, 44), (12, 4)] [] (hd12 A1 c1 A2 c2 X Y false x y) (by kernel_rfl) (by kernel_rfl) (by kernel_rfl) (by kernel_rfl) (by kernel_rfl) (by kernel_rfl) (hd12_later A1 c1 A2 c2 X Y false x y) ?_ ?_
    · skip
      refine Rely.stepsZ_cons (by
        intro vs w' hb hp
        simp only [Rely.Pre, hd12] at hp
        unfold Rely.gives
        simp only [Rely.sel, List.foldl_cons, List.foldl_nil]
        go_simp
        exact ⟨Below.refl _ _, rfl⟩) ?_
      refine Rely.stepsZ_cons (by
        intro vs w' hb hp
        simp only [Rely.Pre, hd12] at hp
        obtain ⟨h33, _⟩ := hp
        have hfact := HV1.out w' hb
        unfold Rely.gives
        simp only [Rely.sel, List.foldl_cons, List.foldl_nil]
        go_simp
        exact ⟨Below.refl _ _, rfl⟩) ?_
      refine Rely.stepsZ_cons (by
        intro vs w' hb hp
        simp only [Rely.Pre, hd12] at hp
        unfold Rely.gives
        simp only [Rely.sel, List.foldl_cons, List.foldl_nil]
        go_simp
        exact ⟨Below.refl _ _, rfl⟩) ?_
      refine Rely.stepsZ_cons (by
        intro vs w' hb hp
        simp only [Rely.Pre, hd12] at hp
        obtain ⟨h35, _⟩ := hp
        have hfact := HV2.out w' hb
        unfold Rely.gives
        simp only [Rely.sel, List.foldl_cons, List.foldl_nil]
        go_simp
        exact ⟨Below.refl _ _, rfl⟩) ?_
      refine Rely.stepsZ_cons (by
        intro vs w' hb hp
        simp only [Rely.Pre, hd12] at hp
        obtain ⟨h34, h36, _⟩ := hp
        unfold Rely.gives
        simp only [Rely.sel, List.foldl_cons, List.foldl_nil]
        go_simp
        exact ⟨Below.refl _ _, rfl⟩) ?_
      refine Rely.stepsZ_cons (by
        intro vs w' hb hp
        simp only [Rely.Pre, hd12] at hp
        simp only [Rely.sel, List.foldl_cons, List.foldl_nil]
        exact gives_loadrow 34 _ rfl (w.heap.size) rfl (HLX.out w' hb) Tryd.underlying34 rfl (by kernel_rfl) ⟨Below.refl _ _, rfl⟩) ?_
      refine Rely.stepsZ_cons (by
        intro vs w' hb hp
        simp only [Rely.Pre, hd12] at hp
        simp only [Rely.sel, List.foldl_cons, List.foldl_nil]
        exact gives_loadrow 34 _ rfl (w.heap.size + 1) rfl (HLY.out w' hb) Tryd.underlying34 rfl (by kernel_rfl) ⟨Below.refl _ _, rfl⟩) ?_
      refine Rely.stepsZ_cons (by
        intro vs w' hb hp
        simp only [Rely.Pre, hd12] at hp
        obtain ⟨h38, h39, _⟩ := hp
        unfold Rely.gives
        simp only [Rely.sel, List.foldl_cons, List.foldl_nil]
        go_simp
        simp only [Rely.GivesR]
        refine (HSM.out w' hb).mono ?_
        rintro e w3 ⟨rfl, hb3⟩
        exact ⟨_, rfl, hb3, rfl⟩) ?_
      refine Rely.stepsZ_cons (by
        intro vs w' hb hp
        simp only [Rely.Pre, hd12] at hp
        obtain ⟨h37, h40, _⟩ := hp
        unfold Rely.gives
        simp only [Rely.sel, List.foldl_cons, List.foldl_nil]
        go_simp
        exact ⟨Below.refl _ _, rfl⟩) ?_
      refine Rely.stepsZ_cons (by
        intro vs w' hb hp
        simp only [Rely.Pre, hd12] at hp
        obtain ⟨h41, _⟩ := hp
        unfold Rely.gives
        simp only [Rely.sel, List.foldl_cons, List.foldl_nil]
        go_simp
        exact ⟨Below.refl _ _, rfl⟩) ?_
      refine Rely.stepsZ_cons (by
        intro vs w' hb hp
        simp only [Rely.Pre, hd12] at hp
        obtain ⟨h42, _⟩ := hp
        unfold Rely.gives
        simp only [Rely.sel, List.foldl_cons, List.foldl_nil]
        go_simp
        simp only [Rely.GivesR]
        refine (HKN.out w' hb).mono ?_
        rintro e w3 ⟨rfl, hb3⟩
        exact ⟨_, rfl, hb3, rfl⟩) ?_
      refine Rely.stepsZ_cons (by
        intro vs w' hb hp
        simp only [Rely.Pre, hd12] at hp
        obtain ⟨h42, h43, _⟩ := hp
        unfold Rely.gives
        simp only [Rely.sel, List.foldl_cons, List.foldl_nil]
        go_simp
        exact ⟨Below.refl _ _, rfl⟩) ?_
      refine Rely.stepsZ_cons (by
        intro vs w' hb hp
        simp only [Rely.Pre, hd12] at hp
        obtain ⟨h44, _⟩ := hp
        unfold Rely.gives
        simp only [Rely.sel, List.foldl_cons, List.foldl_nil]
        go_simp
        exact ⟨Below.refl _ _, rfl⟩) ?_
      exact Rely.stepsZ_nil
    intro vs w1 hb1 hp _
    simp only [Rely.Pre, hd12] at hp
    obtain ⟨h0, h1, h2, h3, h4, h5, h6, h7, h8, h9, h10, h11, h12, _⟩ := hp
    simp only [Rely.sel, List.foldl_cons, List.foldl_nil, h0, h1, h2, h3, h4, h5, h6, h7, h8, h9, h10, h11, h12]
    clear h0 h1 h2 h3 h4 h5 h6 h7 h8 h9 h10 h11 h12
    simp only [Act.put, List.setIfInBounds_toArray, List.set_cons_succ, List.set_cons_zero]
    go_wp2
    go_ret
    exact ⟨rfl, HB.out.trans (hb1.mono HB.out.size)⟩
  · have hxy : X = Y := by rw [hX, hY, sameM_eq ok1 ok2 hq]
    subst hxy
    clear hX hY ok1 ok2 hq HEE HO14 HO24 HX4 HY4 HB4 HT4 HMX4 HMY4
    go_wp2
    refine Rely.wp_region_by [[], [(0, 33)], [], [(2, 35)], [(1, 34), (3, 36)], [], [], [(5, 38), (6, 39)], [(4, 37), (7, 40)], [(8, 41)], [(9, 42)], [(9, 42), (10, 43)], [(11, 44)]] [(0, 33), (1, 34), (2, 35), (3, 36), (4, 37), (5, 38), (6, 39), (7, 40), (8, 41), (9, 42), (10, 43), (11, 44), (12, 4)] [] (hd12 A1 c1 A2 c2 X X true x y) (by kernel_rfl) (by kernel_rfl) (by kernel_rfl) (by kernel_rfl) (by kernel_rfl) (by kernel_rfl) (hd12_later A1 c1 A2 c2 X X true x y) ?_ ?_
    · skip
      refine Rely.stepsZ_cons (by
        intro vs w' hb hp
        simp only [Rely.Pre, hd12] at hp
        unfold Rely.gives
        simp only [Rely.sel, List.foldl_cons, List.foldl_nil]
        go_simp
        exact ⟨Below.refl _ _, rfl⟩) ?_
      refine Rely.stepsZ_cons (by
        intro vs w' hb hp
        simp only [Rely.Pre, hd12] at hp
        obtain ⟨h33, _⟩ := hp
        have hfact := HV1.out w' hb
        unfold Rely.gives
        simp only [Rely.sel, List.foldl_cons, List.foldl_nil]
        go_simp
        exact ⟨Below.refl _ _, rfl⟩) ?_
      refine Rely.stepsZ_cons (by
        intro vs w' hb hp
        simp only [Rely.Pre, hd12] at hp
        unfold Rely.gives
        simp only [Rely.sel, List.foldl_cons, List.foldl_nil]
        go_simp
        exact ⟨Below.refl _ _, rfl⟩) ?_
      refine Rely.stepsZ_cons (by
        intro vs w' hb hp
        simp only [Rely.Pre, hd12] at hp
        obtain ⟨h35, _⟩ := hp
        have hfact := HV2.out w' hb
        unfold Rely.gives
        simp only [Rely.sel, List.foldl_cons, List.foldl_nil]
        go_simp
        exact ⟨Below.refl _ _, rfl⟩) ?_
      refine Rely.stepsZ_cons (by
        intro vs w' hb hp
        simp only [Rely.Pre, hd12] at hp
        obtain ⟨h34, h36, _⟩ := hp
        unfold Rely.gives
        simp only [Rely.sel, List.foldl_cons, List.foldl_nil]
        go_simp
        exact ⟨Below.refl _ _, rfl⟩) ?_
      refine Rely.stepsZ_cons (by
        intro vs w' hb hp
        simp only [Rely.Pre, hd12] at hp
        simp only [Rely.sel, List.foldl_cons, List.foldl_nil]
        exact gives_loadrow 34 _ rfl (w.heap.size) rfl (HLX.out w' hb) Tryd.underlying34 rfl (by kernel_rfl) ⟨Below.refl _ _, rfl⟩) ?_
      refine Rely.stepsZ_cons (by
        intro vs w' hb hp
        simp only [Rely.Pre, hd12] at hp
        simp only [Rely.sel, List.foldl_cons, List.foldl_nil]
        exact gives_loadrow 34 _ rfl (w.heap.size + 1) rfl (HLY.out w' hb) Tryd.underlying34 rfl (by kernel_rfl) ⟨Below.refl _ _, rfl⟩) ?_
      refine Rely.stepsZ_cons (by
        intro vs w' hb hp
        simp only [Rely.Pre, hd12] at hp
        obtain ⟨h38, h39, _⟩ := hp
        unfold Rely.gives
        simp only [Rely.sel, List.foldl_cons, List.foldl_nil]
        go_simp
        simp only [Rely.GivesR]
        refine (HSM.out w' hb).mono ?_
        rintro e w3 ⟨rfl, hb3⟩
        exact ⟨_, rfl, hb3, rfl⟩) ?_
      refine Rely.stepsZ_cons (by
        intro vs w' hb hp
        simp only [Rely.Pre, hd12] at hp
        obtain ⟨h37, h40, _⟩ := hp
        unfold Rely.gives
        simp only [Rely.sel, List.foldl_cons, List.foldl_nil]
        go_simp
        exact ⟨Below.refl _ _, rfl⟩) ?_
      refine Rely.stepsZ_cons (by
        intro vs w' hb hp
        simp only [Rely.Pre, hd12] at hp
        obtain ⟨h41, _⟩ := hp
        unfold Rely.gives
        simp only [Rely.sel, List.foldl_cons, List.foldl_nil]
        go_simp
        exact ⟨Below.refl _ _, rfl⟩) ?_
      refine Rely.stepsZ_cons (by
        intro vs w' hb hp
        simp only [Rely.Pre, hd12] at hp
        obtain ⟨h42, _⟩ := hp
        unfold Rely.gives
        simp only [Rely.sel, List.foldl_cons, List.foldl_nil]
        go_simp
        simp only [Rely.GivesR]
        refine (HKN.out w' hb).mono ?_
        rintro e w3 ⟨rfl, hb3⟩
        exact ⟨_, rfl, hb3, rfl⟩) ?_
      refine Rely.stepsZ_cons (by
        intro vs w' hb hp
        simp only [Rely.Pre, hd12] at hp
        obtain ⟨h42, h43, _⟩ := hp
        unfold Rely.gives
        simp only [Rely.sel, List.foldl_cons, List.foldl_nil]
        go_simp
        exact ⟨Below.refl _ _, rfl⟩) ?_
      refine Rely.stepsZ_cons (by
        intro vs w' hb hp
        simp only [Rely.Pre, hd12] at hp
        obtain ⟨h44, _⟩ := hp
        unfold Rely.gives
        simp only [Rely.sel, List.foldl_cons, List.foldl_nil]
        go_simp
        exact ⟨Below.refl _ _, rfl⟩) ?_
      exact Rely.stepsZ_nil
    intro vs w1 hb1 hp _
    simp only [Rely.Pre, hd12] at hp
    obtain ⟨h0, h1, h2, h3, h4, h5, h6, h7, h8, h9, h10, h11, h12, _⟩ := hp
    simp only [Rely.sel, List.foldl_cons, List.foldl_nil, h0, h1, h2, h3, h4, h5, h6, h7, h8, h9, h10, h11, h12]
    clear h0 h1 h2 h3 h4 h5 h6 h7 h8 h9 h10 h11 h12
    simp only [Act.put, List.setIfInBounds_toArray, List.set_cons_succ, List.set_cons_zero]
    go_wp2
    go_ret
    exact ⟨rfl, HB.out.trans (hb1.mono HB.out.size)⟩
end Go.Proofs.YtfamklplhdnaiaaDoor
