/- The reference's step of a log. Written by tools/gen_refstep7.py. -/
import Derived.Test.YtkagfjjocmjeoaaRefLog7B
import Derived.Test.YtkagfjjocmjeoaaRefLog7D
import Derived.Test.YtkagfjjocmjeoaaRefLog7E
namespace Go.Proofs.Ytkagfjjocmjeoaa
open Go.RowKit Mem Be Word Frm
set_option maxRecDepth 100000
set_option maxHeartbeats 8000000
set_option linter.unusedVariables false
theorem ref_w3 (w : World) (x0 x1 x2 x3 x4 y0 y1 y2 y3 : Value) :
    Below w.heap.size w (((w.alloc (.cells #[x0, x1, x2, x3, x4] 32)).alloc (.cells #[y0, y1, y2, y3] 38)).alloc (.cells #[.slice none 0 0, .slice none 0 0, .int .i64 0, .slice none 0 0, .int .i64 0] 32)) ∧
    Blk (((w.alloc (.cells #[x0, x1, x2, x3, x4] 32)).alloc (.cells #[y0, y1, y2, y3] 38)).alloc (.cells #[.slice none 0 0, .slice none 0 0, .int .i64 0, .slice none 0 0, .int .i64 0] 32)) w.heap.size 32 #[x0, x1, x2, x3, x4] ∧
    Blk (((w.alloc (.cells #[x0, x1, x2, x3, x4] 32)).alloc (.cells #[y0, y1, y2, y3] 38)).alloc (.cells #[.slice none 0 0, .slice none 0 0, .int .i64 0, .slice none 0 0, .int .i64 0] 32)) (w.heap.size + 1) 38 #[y0, y1, y2, y3] ∧
    Blk (((w.alloc (.cells #[x0, x1, x2, x3, x4] 32)).alloc (.cells #[y0, y1, y2, y3] 38)).alloc (.cells #[.slice none 0 0, .slice none 0 0, .int .i64 0, .slice none 0 0, .int .i64 0] 32)) (w.heap.size + 1 + 1) 32 #[.slice none 0 0, .slice none 0 0, .int .i64 0, .slice none 0 0, .int .i64 0] := by
  refine ⟨(((Below.refl _ _).alloc (Nat.le_refl _) _).alloc (by simp) _).alloc (by simp; omega) _, ((Blk.new w _ _).alloc _).alloc _, ?_, ?_⟩
  · have := Blk.new (w.alloc (.cells #[x0, x1, x2, x3, x4] 32)) 38 #[y0, y1, y2, y3]
    rw [show (w.alloc (.cells #[x0, x1, x2, x3, x4] 32)).heap.size = w.heap.size + 1 by simp] at this
    exact this.alloc _
  · have := Blk.new ((w.alloc (.cells #[x0, x1, x2, x3, x4] 32)).alloc (.cells #[y0, y1, y2, y3] 38)) 32 #[.slice none 0 0, .slice none 0 0, .int .i64 0, .slice none 0 0, .int .i64 0]
    rw [show ((w.alloc (.cells #[x0, x1, x2, x3, x4] 32)).alloc (.cells #[y0, y1, y2, y3] 38)).heap.size = w.heap.size + 1 + 1 by simp] at this
    exact this
theorem refstep_1 (F : Nat → Prop) (AL AT R : Option Addr) (cL cT c m q nq mm : Nat) (L T X Z : List UInt8) (vs : List RecV) (rs' : List Rc) (c0 : Nat) (k : UInt8) (A0 : Option Addr) (n0 : Nat) (kp ev : Int) (w : World) (hF : ∀ k, F k → k < w.heap.size) (h : RefL w F AL cL AT cT R c L T vs)
    (hc : ∀ W F1, Below w.heap.size w W → (∀ k, F1 k → k < W.heap.size) → (∀ k, F1 k → F k ∨ w.heap.size ≤ k) → RefL W F1 AL cL AT cT R c L T vs → Calls Try.prog 35 #[.agg #[.slice AL L.length cL, .slice AT T.length cT, .int .i64 (q : Int), .slice R vs.length c, .int .i64 (m : Int)], .int .u8 (k.toNat : Int), .slice A0 n0 c0] W (RefP F1 (fun v => .tuple #[v, .int .i64 ev]) X Z nq mm rs' W)) :
    Calls Try.prog 14 #[.agg #[.slice AL L.length cL, .slice AT T.length cT, .int .i64 (q : Int), .slice R vs.length c, .int .i64 (m : Int)], .agg #[.int .i64 1, .int .u8 (k.toNat : Int), .slice A0 n0 c0, .int .i64 kp]] w (RefP F (fun v => .tuple #[v, .int .i64 ev]) X Z nq mm rs' w) := by
  obtain ⟨hb1, hk0, hkd, hk1⟩ := ref_w3 w (.slice AL L.length cL) (.slice AT T.length cT) (.int .i64 (q : Int)) (.slice R vs.length c) (.int .i64 (m : Int)) (.int .i64 1) (.int .u8 (k.toNat : Int)) (.slice A0 n0 c0) (.int .i64 kp)
  obtain ⟨W1, hW1⟩ : ∃ W, ((w.alloc (.cells #[.slice AL L.length cL, .slice AT T.length cT, .int .i64 (q : Int), .slice R vs.length c, .int .i64 (m : Int)] 32)).alloc (.cells #[.int .i64 1, .int .u8 (k.toNat : Int), .slice A0 n0 c0, .int .i64 kp] 38)).alloc (.cells #[.slice none 0 0, .slice none 0 0, .int .i64 0, .slice none 0 0, .int .i64 0] 32) = W := ⟨_, rfl⟩
  rw [hW1] at hb1 hk0 hkd hk1
  have hl1 := h.wide hb1 (b := w.heap.size + 1 + 1) (by omega)
  have hF1 : ∀ k, AndB F (w.heap.size + 1 + 1) k → k < W1.heap.size := fun k hk => by
    rcases hk with h1 | h1
    · exact Nat.lt_of_lt_of_le (hF k h1) hb1.size
    · rw [h1]; exact hk1.lt
  have HC := Lib.hid (hc W1 (AndB F (w.heap.size + 1 + 1)) hb1 hF1 (fun k hk => by
    rcases hk with h1 | h1
    · exact Or.inl h1
    · exact Or.inr (by omega)) hl1)
  have HB1 := Lib.hid hb1
  have HK1 := Lib.hid hk1
  have HK0 := Lib.hid hk0
  have HL1 := Lib.hid hl1
  have HW1 := Lib.hid hW1
  clear hF h hc hb1 hk0 hkd hk1 hW1 hl1 hF1
  go_enter Try.func14, Try.ntmps14
  go_wp2_with fail
  rw [HW1.out]
  refine HC.out.mono ?_
  rintro e w2 ⟨A1, c1, A2, c2, R2, c5, us, hus, rfl, hl2, hb2⟩
  have HUS := Lib.hid hus
  have HBT : Hid (Below w.heap.size w w2) := Lib.hid (HB1.out.trans (hb2.mono HB1.out.size))
  have HK3 := Lib.hid (HK1.out.below hb2 HK1.out.lt)
  have HL3 := Lib.hid hl2
  clear hb2 hus hl2 HC HK0 HL1
  have HF := Lib.hid (refopen_fin (b := w.heap.size + 1 + 1) (u0 := .slice A1 X.length c1) (u1 := .slice A2 Z.length c2) (u2 := .int .i64 (nq : Int)) (u3 := .slice R2 us.length c5) (u4 := .int .i64 (mm : Int)) HK3.out)
  have HLF := Lib.hid (HL3.out.step (ref_touch (F := F) (b := w.heap.size + 1 + 1) (u0 := .slice A1 X.length c1) (u1 := .slice A2 Z.length c2) (u2 := .int .i64 (nq : Int)) (u3 := .slice R2 us.length c5) (u4 := .int .i64 (mm : Int))) (F' := F) (fun k hk => Or.inl (Or.inl hk)))
  obtain ⟨Z0, hZ0⟩ : ∃ z, w.heap.size + 1 + 1 = z := ⟨_, rfl⟩
  have r0 := HK3.out.cell 0
  have r1 := HK3.out.cell 1
  have r2 := HK3.out.cell 2
  have r3 := HK3.out.cell 3
  have r4 := HK3.out.cell 4
  have z0 := HK3.out.frozen 0
  have z1 := HK3.out.frozen 1
  have z2 := HK3.out.frozen 2
  have z3 := HK3.out.frozen 3
  have z4 := HK3.out.frozen 4
  clear hZ0
  go_wp2
  obtain ⟨W5, hW5⟩ : ∃ W, ((((((w2).setCell ⟨w.heap.size + 1 + 1, 0, none⟩ (.slice A1 X.length c1)).setCell ⟨w.heap.size + 1 + 1, 1, none⟩ (.slice A2 Z.length c2)).setCell ⟨w.heap.size + 1 + 1, 2, none⟩ (.int .i64 (nq : Int))).setCell ⟨w.heap.size + 1 + 1, 3, none⟩ (.slice R2 us.length c5)).setCell ⟨w.heap.size + 1 + 1, 4, none⟩ (.int .i64 (mm : Int))) = W := ⟨_, rfl⟩
  rw [hW5] at HF HLF
  rw [hW5]
  have g0 := HF.out.1.cell 0
  have g1 := HF.out.1.cell 1
  have g2 := HF.out.1.cell 2
  have g3 := HF.out.1.cell 3
  have g4 := HF.out.1.cell 4
  refine bodyPost_ret (v := .tuple #[.agg #[.slice A1 X.length c1, .slice A2 Z.length c2, .int .i64 (nq : Int), .slice R2 us.length c5, .int .i64 (mm : Int)], .int .i64 ev]) (by simp [results, Try.results14, go_sem, g0, g1, g2, g3, g4]) rfl ?_
  exact ⟨A1, c1, A2, c2, R2, c5, us, HUS.out, rfl, HLF.out, HF.out.2.2 _ HBT.out (by omega)⟩
theorem refstep_2 (F : Nat → Prop) (AL AT R : Option Addr) (cL cT c m q nq mm : Nat) (L T X Z : List UInt8) (vs : List RecV) (rs' : List Rc) (c0 : Nat) (k : UInt8) (A0 : Option Addr) (n0 : Nat) (kp : Int) (w : World) (hF : ∀ k, F k → k < w.heap.size) (h : RefL w F AL cL AT cT R c L T vs)
    (hc : ∀ W F1, Below w.heap.size w W → (∀ k, F1 k → k < W.heap.size) → (∀ k, F1 k → F k ∨ w.heap.size ≤ k) → RefL W F1 AL cL AT cT R c L T vs → Calls Try.prog 36 #[.agg #[.slice AL L.length cL, .slice AT T.length cT, .int .i64 (q : Int), .slice R vs.length c, .int .i64 (m : Int)]] W (RefP F1 id X Z nq mm rs' W)) :
    Calls Try.prog 14 #[.agg #[.slice AL L.length cL, .slice AT T.length cT, .int .i64 (q : Int), .slice R vs.length c, .int .i64 (m : Int)], .agg #[.int .i64 2, .int .u8 (k.toNat : Int), .slice A0 n0 c0, .int .i64 kp]] w (RefP F (fun v => .tuple #[v, .int .i64 0]) X Z nq mm rs' w) := by
  obtain ⟨hb1, hk0, hkd, hk1⟩ := ref_w3 w (.slice AL L.length cL) (.slice AT T.length cT) (.int .i64 (q : Int)) (.slice R vs.length c) (.int .i64 (m : Int)) (.int .i64 2) (.int .u8 (k.toNat : Int)) (.slice A0 n0 c0) (.int .i64 kp)
  obtain ⟨W1, hW1⟩ : ∃ W, ((w.alloc (.cells #[.slice AL L.length cL, .slice AT T.length cT, .int .i64 (q : Int), .slice R vs.length c, .int .i64 (m : Int)] 32)).alloc (.cells #[.int .i64 2, .int .u8 (k.toNat : Int), .slice A0 n0 c0, .int .i64 kp] 38)).alloc (.cells #[.slice none 0 0, .slice none 0 0, .int .i64 0, .slice none 0 0, .int .i64 0] 32) = W := ⟨_, rfl⟩
  rw [hW1] at hb1 hk0 hkd hk1
  have hl1 := h.wide hb1 (b := w.heap.size + 1 + 1) (by omega)
  have hF1 : ∀ k, AndB F (w.heap.size + 1 + 1) k → k < W1.heap.size := fun k hk => by
    rcases hk with h1 | h1
    · exact Nat.lt_of_lt_of_le (hF k h1) hb1.size
    · rw [h1]; exact hk1.lt
  have HC := Lib.hid (hc W1 (AndB F (w.heap.size + 1 + 1)) hb1 hF1 (fun k hk => by
    rcases hk with h1 | h1
    · exact Or.inl h1
    · exact Or.inr (by omega)) hl1)
  have HB1 := Lib.hid hb1
  have HK1 := Lib.hid hk1
  have HK0 := Lib.hid hk0
  have HL1 := Lib.hid hl1
  have HW1 := Lib.hid hW1
  clear hF h hc hb1 hk0 hkd hk1 hW1 hl1 hF1
  go_enter Try.func14, Try.ntmps14
  go_wp2_with fail
  rw [HW1.out]
  refine HC.out.mono ?_
  rintro e w2 ⟨A1, c1, A2, c2, R2, c5, us, hus, rfl, hl2, hb2⟩
  have HUS := Lib.hid hus
  simp only [id]
  have HBT : Hid (Below w.heap.size w w2) := Lib.hid (HB1.out.trans (hb2.mono HB1.out.size))
  have HK3 := Lib.hid (HK1.out.below hb2 HK1.out.lt)
  have HL3 := Lib.hid hl2
  clear hb2 hus hl2 HC HK0 HL1
  have HF := Lib.hid (refopen_fin (b := w.heap.size + 1 + 1) (u0 := .slice A1 X.length c1) (u1 := .slice A2 Z.length c2) (u2 := .int .i64 (nq : Int)) (u3 := .slice R2 us.length c5) (u4 := .int .i64 (mm : Int)) HK3.out)
  have HLF := Lib.hid (HL3.out.step (ref_touch (F := F) (b := w.heap.size + 1 + 1) (u0 := .slice A1 X.length c1) (u1 := .slice A2 Z.length c2) (u2 := .int .i64 (nq : Int)) (u3 := .slice R2 us.length c5) (u4 := .int .i64 (mm : Int))) (F' := F) (fun k hk => Or.inl (Or.inl hk)))
  obtain ⟨Z0, hZ0⟩ : ∃ z, w.heap.size + 1 + 1 = z := ⟨_, rfl⟩
  have r0 := HK3.out.cell 0
  have r1 := HK3.out.cell 1
  have r2 := HK3.out.cell 2
  have r3 := HK3.out.cell 3
  have r4 := HK3.out.cell 4
  have z0 := HK3.out.frozen 0
  have z1 := HK3.out.frozen 1
  have z2 := HK3.out.frozen 2
  have z3 := HK3.out.frozen 3
  have z4 := HK3.out.frozen 4
  clear hZ0
  go_wp2
  obtain ⟨W5, hW5⟩ : ∃ W, ((((((w2).setCell ⟨w.heap.size + 1 + 1, 0, none⟩ (.slice A1 X.length c1)).setCell ⟨w.heap.size + 1 + 1, 1, none⟩ (.slice A2 Z.length c2)).setCell ⟨w.heap.size + 1 + 1, 2, none⟩ (.int .i64 (nq : Int))).setCell ⟨w.heap.size + 1 + 1, 3, none⟩ (.slice R2 us.length c5)).setCell ⟨w.heap.size + 1 + 1, 4, none⟩ (.int .i64 (mm : Int))) = W := ⟨_, rfl⟩
  rw [hW5] at HF HLF
  rw [hW5]
  have g0 := HF.out.1.cell 0
  have g1 := HF.out.1.cell 1
  have g2 := HF.out.1.cell 2
  have g3 := HF.out.1.cell 3
  have g4 := HF.out.1.cell 4
  refine bodyPost_ret (v := .tuple #[.agg #[.slice A1 X.length c1, .slice A2 Z.length c2, .int .i64 (nq : Int), .slice R2 us.length c5, .int .i64 (mm : Int)], .int .i64 0]) (by simp [results, Try.results14, go_sem, g0, g1, g2, g3, g4]) rfl ?_
  exact ⟨A1, c1, A2, c2, R2, c5, us, HUS.out, rfl, HLF.out, HF.out.2.2 _ HBT.out (by omega)⟩
theorem refstep_30 (F : Nat → Prop) (AL AT R : Option Addr) (cL cT c m q nq mm : Nat) (L T X Z : List UInt8) (vs : List RecV) (rs' : List Rc) (c0 : Nat) (k : UInt8) (A0 : Option Addr) (kp ev : Int) (w : World) (hF : ∀ k, F k → k < w.heap.size) (h : RefL w F AL cL AT cT R c L T vs)
    (hc : ∀ W F1, Below w.heap.size w W → (∀ k, F1 k → k < W.heap.size) → (∀ k, F1 k → F k ∨ w.heap.size ≤ k) → RefL W F1 AL cL AT cT R c L T vs → Calls Try.prog 37 #[.agg #[.slice AL L.length cL, .slice AT T.length cT, .int .i64 (q : Int), .slice R vs.length c, .int .i64 (m : Int)], .slice none 0 0] W (RefP F1 (fun v => .tuple #[v, .int .i64 ev]) X Z nq mm rs' W)) :
    Calls Try.prog 14 #[.agg #[.slice AL L.length cL, .slice AT T.length cT, .int .i64 (q : Int), .slice R vs.length c, .int .i64 (m : Int)], .agg #[.int .i64 3, .int .u8 (k.toNat : Int), .slice A0 0 c0, .int .i64 kp]] w (RefP F (fun v => .tuple #[v, .int .i64 ev]) X Z nq mm rs' w) := by
  obtain ⟨hb1, hk0, hkd, hk1⟩ := ref_w3 w (.slice AL L.length cL) (.slice AT T.length cT) (.int .i64 (q : Int)) (.slice R vs.length c) (.int .i64 (m : Int)) (.int .i64 3) (.int .u8 (k.toNat : Int)) (.slice A0 0 c0) (.int .i64 kp)
  obtain ⟨W1, hW1⟩ : ∃ W, ((w.alloc (.cells #[.slice AL L.length cL, .slice AT T.length cT, .int .i64 (q : Int), .slice R vs.length c, .int .i64 (m : Int)] 32)).alloc (.cells #[.int .i64 3, .int .u8 (k.toNat : Int), .slice A0 0 c0, .int .i64 kp] 38)).alloc (.cells #[.slice none 0 0, .slice none 0 0, .int .i64 0, .slice none 0 0, .int .i64 0] 32) = W := ⟨_, rfl⟩
  rw [hW1] at hb1 hk0 hkd hk1
  have hl1 := h.wide hb1 (b := w.heap.size + 1 + 1) (by omega)
  have hF1 : ∀ k, AndB F (w.heap.size + 1 + 1) k → k < W1.heap.size := fun k hk => by
    rcases hk with h1 | h1
    · exact Nat.lt_of_lt_of_le (hF k h1) hb1.size
    · rw [h1]; exact hk1.lt
  have HC := Lib.hid (hc W1 (AndB F (w.heap.size + 1 + 1)) hb1 hF1 (fun k hk => by
    rcases hk with h1 | h1
    · exact Or.inl h1
    · exact Or.inr (by omega)) hl1)
  have HB1 := Lib.hid hb1
  have HK1 := Lib.hid hk1
  have HK0 := Lib.hid hk0
  have HL1 := Lib.hid hl1
  have HW1 := Lib.hid hW1
  clear hF h hc hb1 hk0 hkd hk1 hW1 hl1 hF1
  go_enter Try.func14, Try.ntmps14
  go_wp2_with fail
  rw [HW1.out]
  refine HC.out.mono ?_
  rintro e w2 ⟨A1, c1, A2, c2, R2, c5, us, hus, rfl, hl2, hb2⟩
  have HUS := Lib.hid hus
  have HBT : Hid (Below w.heap.size w w2) := Lib.hid (HB1.out.trans (hb2.mono HB1.out.size))
  have HK3 := Lib.hid (HK1.out.below hb2 HK1.out.lt)
  have HL3 := Lib.hid hl2
  clear hb2 hus hl2 HC HK0 HL1
  have HF := Lib.hid (refopen_fin (b := w.heap.size + 1 + 1) (u0 := .slice A1 X.length c1) (u1 := .slice A2 Z.length c2) (u2 := .int .i64 (nq : Int)) (u3 := .slice R2 us.length c5) (u4 := .int .i64 (mm : Int)) HK3.out)
  have HLF := Lib.hid (HL3.out.step (ref_touch (F := F) (b := w.heap.size + 1 + 1) (u0 := .slice A1 X.length c1) (u1 := .slice A2 Z.length c2) (u2 := .int .i64 (nq : Int)) (u3 := .slice R2 us.length c5) (u4 := .int .i64 (mm : Int))) (F' := F) (fun k hk => Or.inl (Or.inl hk)))
  obtain ⟨Z0, hZ0⟩ : ∃ z, w.heap.size + 1 + 1 = z := ⟨_, rfl⟩
  have r0 := HK3.out.cell 0
  have r1 := HK3.out.cell 1
  have r2 := HK3.out.cell 2
  have r3 := HK3.out.cell 3
  have r4 := HK3.out.cell 4
  have z0 := HK3.out.frozen 0
  have z1 := HK3.out.frozen 1
  have z2 := HK3.out.frozen 2
  have z3 := HK3.out.frozen 3
  have z4 := HK3.out.frozen 4
  clear hZ0
  go_wp2
  obtain ⟨W5, hW5⟩ : ∃ W, ((((((w2).setCell ⟨w.heap.size + 1 + 1, 0, none⟩ (.slice A1 X.length c1)).setCell ⟨w.heap.size + 1 + 1, 1, none⟩ (.slice A2 Z.length c2)).setCell ⟨w.heap.size + 1 + 1, 2, none⟩ (.int .i64 (nq : Int))).setCell ⟨w.heap.size + 1 + 1, 3, none⟩ (.slice R2 us.length c5)).setCell ⟨w.heap.size + 1 + 1, 4, none⟩ (.int .i64 (mm : Int))) = W := ⟨_, rfl⟩
  rw [hW5] at HF HLF
  rw [hW5]
  have g0 := HF.out.1.cell 0
  have g1 := HF.out.1.cell 1
  have g2 := HF.out.1.cell 2
  have g3 := HF.out.1.cell 3
  have g4 := HF.out.1.cell 4
  refine bodyPost_ret (v := .tuple #[.agg #[.slice A1 X.length c1, .slice A2 Z.length c2, .int .i64 (nq : Int), .slice R2 us.length c5, .int .i64 (mm : Int)], .int .i64 ev]) (by simp [results, Try.results14, go_sem, g0, g1, g2, g3, g4]) rfl ?_
  exact ⟨A1, c1, A2, c2, R2, c5, us, HUS.out, rfl, HLF.out, HF.out.2.2 _ HBT.out (by omega)⟩
theorem refstep_3 (F : Nat → Prop) (AL AT R : Option Addr) (cL cT c m q nq mm : Nat) (L T X Z : List UInt8) (vs : List RecV) (rs' : List Rc) (c0 : Nat) (k : UInt8) (b0 o0 n0 nb cB : Nat) (B : Option Addr) (kp ev : Int) (hn0 : 0 < n0) (hn1 : n0 ≤ 5864062014805) (w : World) (hcell : ∀ W, Below w.heap.size w W → W.cell? ⟨b0, o0, none⟩ = some (.slice B nb cB)) (hF : ∀ k, F k → k < w.heap.size) (h : RefL w F AL cL AT cT R c L T vs)
    (hc : ∀ W F1, Below w.heap.size w W → (∀ k, F1 k → k < W.heap.size) → (∀ k, F1 k → F k ∨ w.heap.size ≤ k) → RefL W F1 AL cL AT cT R c L T vs → Calls Try.prog 37 #[.agg #[.slice AL L.length cL, .slice AT T.length cT, .int .i64 (q : Int), .slice R vs.length c, .int .i64 (m : Int)], .slice B nb cB] W (RefP F1 (fun v => .tuple #[v, .int .i64 ev]) X Z nq mm rs' W)) :
    Calls Try.prog 14 #[.agg #[.slice AL L.length cL, .slice AT T.length cT, .int .i64 (q : Int), .slice R vs.length c, .int .i64 (m : Int)], .agg #[.int .i64 3, .int .u8 (k.toNat : Int), .slice (some ⟨b0, o0, none⟩) n0 c0, .int .i64 kp]] w (RefP F (fun v => .tuple #[v, .int .i64 ev]) X Z nq mm rs' w) := by
  obtain ⟨hb1, hk0, hkd, hk1⟩ := ref_w3 w (.slice AL L.length cL) (.slice AT T.length cT) (.int .i64 (q : Int)) (.slice R vs.length c) (.int .i64 (m : Int)) (.int .i64 3) (.int .u8 (k.toNat : Int)) (.slice (some ⟨b0, o0, none⟩) n0 c0) (.int .i64 kp)
  obtain ⟨W1, hW1⟩ : ∃ W, ((w.alloc (.cells #[.slice AL L.length cL, .slice AT T.length cT, .int .i64 (q : Int), .slice R vs.length c, .int .i64 (m : Int)] 32)).alloc (.cells #[.int .i64 3, .int .u8 (k.toNat : Int), .slice (some ⟨b0, o0, none⟩) n0 c0, .int .i64 kp] 38)).alloc (.cells #[.slice none 0 0, .slice none 0 0, .int .i64 0, .slice none 0 0, .int .i64 0] 32) = W := ⟨_, rfl⟩
  rw [hW1] at hb1 hk0 hkd hk1
  have hl1 := h.wide hb1 (b := w.heap.size + 1 + 1) (by omega)
  have hF1 : ∀ k, AndB F (w.heap.size + 1 + 1) k → k < W1.heap.size := fun k hk => by
    rcases hk with h1 | h1
    · exact Nat.lt_of_lt_of_le (hF k h1) hb1.size
    · rw [h1]; exact hk1.lt
  have HC := Lib.hid (hc W1 (AndB F (w.heap.size + 1 + 1)) hb1 hF1 (fun k hk => by
    rcases hk with h1 | h1
    · exact Or.inl h1
    · exact Or.inr (by omega)) hl1)
  have hc1 := hcell W1 hb1
  rw [← hW1] at hc1
  have hn0i : (0 : Int) < (n0 : Int) := by omega
  have hn1i : (n0 : Int) ≤ 5864062014805 := by omega
  have HB1 := Lib.hid hb1
  have HK1 := Lib.hid hk1
  have HK0 := Lib.hid hk0
  have HL1 := Lib.hid hl1
  have HW1 := Lib.hid hW1
  clear hF h hc hb1 hk0 hkd hk1 hW1 hl1 hF1 hcell hn0 hn1
  go_enter Try.func14, Try.ntmps14
  go_wp2_with fail
  rw [HW1.out]
  refine HC.out.mono ?_
  rintro e w2 ⟨A1, c1, A2, c2, R2, c5, us, hus, rfl, hl2, hb2⟩
  have HUS := Lib.hid hus
  have HBT : Hid (Below w.heap.size w w2) := Lib.hid (HB1.out.trans (hb2.mono HB1.out.size))
  have HK3 := Lib.hid (HK1.out.below hb2 HK1.out.lt)
  have HL3 := Lib.hid hl2
  clear hb2 hus hl2 HC HK0 HL1
  have HF := Lib.hid (refopen_fin (b := w.heap.size + 1 + 1) (u0 := .slice A1 X.length c1) (u1 := .slice A2 Z.length c2) (u2 := .int .i64 (nq : Int)) (u3 := .slice R2 us.length c5) (u4 := .int .i64 (mm : Int)) HK3.out)
  have HLF := Lib.hid (HL3.out.step (ref_touch (F := F) (b := w.heap.size + 1 + 1) (u0 := .slice A1 X.length c1) (u1 := .slice A2 Z.length c2) (u2 := .int .i64 (nq : Int)) (u3 := .slice R2 us.length c5) (u4 := .int .i64 (mm : Int))) (F' := F) (fun k hk => Or.inl (Or.inl hk)))
  obtain ⟨Z0, hZ0⟩ : ∃ z, w.heap.size + 1 + 1 = z := ⟨_, rfl⟩
  have r0 := HK3.out.cell 0
  have r1 := HK3.out.cell 1
  have r2 := HK3.out.cell 2
  have r3 := HK3.out.cell 3
  have r4 := HK3.out.cell 4
  have z0 := HK3.out.frozen 0
  have z1 := HK3.out.frozen 1
  have z2 := HK3.out.frozen 2
  have z3 := HK3.out.frozen 3
  have z4 := HK3.out.frozen 4
  clear hZ0
  go_wp2
  obtain ⟨W5, hW5⟩ : ∃ W, ((((((w2).setCell ⟨w.heap.size + 1 + 1, 0, none⟩ (.slice A1 X.length c1)).setCell ⟨w.heap.size + 1 + 1, 1, none⟩ (.slice A2 Z.length c2)).setCell ⟨w.heap.size + 1 + 1, 2, none⟩ (.int .i64 (nq : Int))).setCell ⟨w.heap.size + 1 + 1, 3, none⟩ (.slice R2 us.length c5)).setCell ⟨w.heap.size + 1 + 1, 4, none⟩ (.int .i64 (mm : Int))) = W := ⟨_, rfl⟩
  rw [hW5] at HF HLF
  rw [hW5]
  have g0 := HF.out.1.cell 0
  have g1 := HF.out.1.cell 1
  have g2 := HF.out.1.cell 2
  have g3 := HF.out.1.cell 3
  have g4 := HF.out.1.cell 4
  refine bodyPost_ret (v := .tuple #[.agg #[.slice A1 X.length c1, .slice A2 Z.length c2, .int .i64 (nq : Int), .slice R2 us.length c5, .int .i64 (mm : Int)], .int .i64 ev]) (by simp [results, Try.results14, go_sem, g0, g1, g2, g3, g4]) rfl ?_
  exact ⟨A1, c1, A2, c2, R2, c5, us, HUS.out, rfl, HLF.out, HF.out.2.2 _ HBT.out (by omega)⟩
theorem refstep_neg (F : Nat → Prop) (AL AT R : Option Addr) (cL cT c m q nq mm : Nat) (L T X Z : List UInt8) (vs : List RecV) (rs' : List Rc) (c0 : Nat) (k : UInt8) (A0 : Option Addr) (n0 : Nat) (kd kp : Int) (hkd1 : kd ≠ 1) (hkd2 : kd ≠ 2) (hkd3 : kd ≠ 3) (w : World) (hF : ∀ k, F k → k < w.heap.size) (h : RefL w F AL cL AT cT R c L T vs)
    (hc : ∀ W F1, Below w.heap.size w W → (∀ k, F1 k → k < W.heap.size) → (∀ k, F1 k → F k ∨ w.heap.size ≤ k) → RefL W F1 AL cL AT cT R c L T vs → Calls Try.prog 38 #[.agg #[.slice AL L.length cL, .slice AT T.length cT, .int .i64 (q : Int), .slice R vs.length c, .int .i64 (m : Int)], .int .i64 kp] W (fun e w' => e = .returned (.tuple #[.agg #[.slice none 0 0, .slice none 0 0, .int .i64 0, .slice none 0 0, .int .i64 0], .int .i64 2]) ∧ Below W.heap.size W w')) :
    Calls Try.prog 14 #[.agg #[.slice AL L.length cL, .slice AT T.length cT, .int .i64 (q : Int), .slice R vs.length c, .int .i64 (m : Int)], .agg #[.int .i64 kd, .int .u8 (k.toNat : Int), .slice A0 n0 c0, .int .i64 kp]] w (RefP F (fun v => .tuple #[v, .int .i64 2]) L T q m (vs.map rcOf) w) := by
  obtain ⟨hb1, hk0, hkd, hk1⟩ := ref_w3 w (.slice AL L.length cL) (.slice AT T.length cT) (.int .i64 (q : Int)) (.slice R vs.length c) (.int .i64 (m : Int)) (.int .i64 kd) (.int .u8 (k.toNat : Int)) (.slice A0 n0 c0) (.int .i64 kp)
  obtain ⟨W1, hW1⟩ : ∃ W, ((w.alloc (.cells #[.slice AL L.length cL, .slice AT T.length cT, .int .i64 (q : Int), .slice R vs.length c, .int .i64 (m : Int)] 32)).alloc (.cells #[.int .i64 kd, .int .u8 (k.toNat : Int), .slice A0 n0 c0, .int .i64 kp] 38)).alloc (.cells #[.slice none 0 0, .slice none 0 0, .int .i64 0, .slice none 0 0, .int .i64 0] 32) = W := ⟨_, rfl⟩
  rw [hW1] at hb1 hk0 hkd hk1
  have hl1 := h.wide hb1 (b := w.heap.size + 1 + 1) (by omega)
  have hF1 : ∀ k, AndB F (w.heap.size + 1 + 1) k → k < W1.heap.size := fun k hk => by
    rcases hk with h1 | h1
    · exact Nat.lt_of_lt_of_le (hF k h1) hb1.size
    · rw [h1]; exact hk1.lt
  have HC := Lib.hid (hc W1 (AndB F (w.heap.size + 1 + 1)) hb1 hF1 (fun k hk => by
    rcases hk with h1 | h1
    · exact Or.inl h1
    · exact Or.inr (by omega)) hl1)
  have HB1 := Lib.hid hb1
  have HK1 := Lib.hid hk1
  have HK0 := Lib.hid hk0
  have HL1 := Lib.hid hl1
  have HW1 := Lib.hid hW1
  clear hF h hc hb1 hk0 hkd hk1 hW1 hl1 hF1
  go_enter Try.func14, Try.ntmps14
  go_wp2_with fail
  rw [HW1.out]
  refine HC.out.mono ?_
  rintro e w2 ⟨rfl, hb2⟩
  have hal : Below w2.heap.size w2 (w2.alloc (.cells #[.slice none 0 0, .slice none 0 0, .int .i64 0, .slice none 0 0, .int .i64 0] 32)) := (Below.refl _ _).alloc (Nat.le_refl _) _
  have HBT : Hid (Below w.heap.size w (w2.alloc (.cells #[.slice none 0 0, .slice none 0 0, .int .i64 0, .slice none 0 0, .int .i64 0] 32))) := Lib.hid (HB1.out.trans ((hb2.trans (hal.mono hb2.size)).mono HB1.out.size))
  have HK3 := Lib.hid ((HK1.out.below hb2 HK1.out.lt).alloc (.cells #[.slice none 0 0, .slice none 0 0, .int .i64 0, .slice none 0 0, .int .i64 0] 32))
  have HKA := Lib.hid ((HK0.out.below hb2 HK0.out.lt).alloc (.cells #[.slice none 0 0, .slice none 0 0, .int .i64 0, .slice none 0 0, .int .i64 0] 32))
  have HL3 := Lib.hid ((HL1.out.below hb2).below hal)
  have q0 := HKA.out.cell 0
  have q1 := HKA.out.cell 1
  have q2 := HKA.out.cell 2
  have q3 := HKA.out.cell 3
  have q4 := HKA.out.cell 4
  clear hb2 hal
  have HF := Lib.hid (refopen_fin (b := w.heap.size + 1 + 1) (u0 := .slice AL L.length cL) (u1 := .slice AT T.length cT) (u2 := .int .i64 (q : Int)) (u3 := .slice R vs.length c) (u4 := .int .i64 (m : Int)) HK3.out)
  have HLF := Lib.hid (HL3.out.step (ref_touch (F := F) (b := w.heap.size + 1 + 1) (u0 := .slice AL L.length cL) (u1 := .slice AT T.length cT) (u2 := .int .i64 (q : Int)) (u3 := .slice R vs.length c) (u4 := .int .i64 (m : Int))) (F' := F) (fun k hk => Or.inl (Or.inl hk)))
  obtain ⟨Z0, hZ0⟩ : ∃ z, w.heap.size + 1 + 1 = z := ⟨_, rfl⟩
  have r0 := HK3.out.cell 0
  have r1 := HK3.out.cell 1
  have r2 := HK3.out.cell 2
  have r3 := HK3.out.cell 3
  have r4 := HK3.out.cell 4
  have z0 := HK3.out.frozen 0
  have z1 := HK3.out.frozen 1
  have z2 := HK3.out.frozen 2
  have z3 := HK3.out.frozen 3
  have z4 := HK3.out.frozen 4
  clear hZ0
  go_wp2
  obtain ⟨W5, hW5⟩ : ∃ W, ((((((w2.alloc (.cells #[.slice none 0 0, .slice none 0 0, .int .i64 0, .slice none 0 0, .int .i64 0] 32)).setCell ⟨w.heap.size + 1 + 1, 0, none⟩ (.slice AL L.length cL)).setCell ⟨w.heap.size + 1 + 1, 1, none⟩ (.slice AT T.length cT)).setCell ⟨w.heap.size + 1 + 1, 2, none⟩ (.int .i64 (q : Int))).setCell ⟨w.heap.size + 1 + 1, 3, none⟩ (.slice R vs.length c)).setCell ⟨w.heap.size + 1 + 1, 4, none⟩ (.int .i64 (m : Int))) = W := ⟨_, rfl⟩
  rw [hW5] at HF HLF
  rw [hW5]
  have g0 := HF.out.1.cell 0
  have g1 := HF.out.1.cell 1
  have g2 := HF.out.1.cell 2
  have g3 := HF.out.1.cell 3
  have g4 := HF.out.1.cell 4
  refine bodyPost_ret (v := .tuple #[.agg #[.slice AL L.length cL, .slice AT T.length cT, .int .i64 (q : Int), .slice R vs.length c, .int .i64 (m : Int)], .int .i64 2]) (by simp [results, Try.results14, go_sem, g0, g1, g2, g3, g4]) rfl ?_
  exact ⟨AL, cL, AT, cT, R, c, vs, rfl, rfl, HLF.out, HF.out.2.2 _ HBT.out (by omega)⟩
theorem refstep_4 (F : Nat → Prop) (AL AT R : Option Addr) (cL cT c m q nq mm : Nat) (L T X Z : List UInt8) (vs : List RecV) (rs' : List Rc) (c0 : Nat) (k : UInt8) (A0 : Option Addr) (n0 : Nat) (kd kp : Int) (hkd1 : kd ≠ 1) (hkd2 : kd ≠ 2) (hkd3 : kd ≠ 3) (w : World) (hF : ∀ k, F k → k < w.heap.size) (h : RefL w F AL cL AT cT R c L T vs)
    (hc : ∀ W F1, Below w.heap.size w W → (∀ k, F1 k → k < W.heap.size) → (∀ k, F1 k → F k ∨ w.heap.size ≤ k) → RefL W F1 AL cL AT cT R c L T vs → Calls Try.prog 38 #[.agg #[.slice AL L.length cL, .slice AT T.length cT, .int .i64 (q : Int), .slice R vs.length c, .int .i64 (m : Int)], .int .i64 kp] W (RefP F1 (fun v => .tuple #[v, .int .i64 0]) X Z nq mm rs' W)) :
    Calls Try.prog 14 #[.agg #[.slice AL L.length cL, .slice AT T.length cT, .int .i64 (q : Int), .slice R vs.length c, .int .i64 (m : Int)], .agg #[.int .i64 kd, .int .u8 (k.toNat : Int), .slice A0 n0 c0, .int .i64 kp]] w (RefP F (fun v => .tuple #[v, .int .i64 0]) X Z nq mm rs' w) := by
  obtain ⟨hb1, hk0, hkd, hk1⟩ := ref_w3 w (.slice AL L.length cL) (.slice AT T.length cT) (.int .i64 (q : Int)) (.slice R vs.length c) (.int .i64 (m : Int)) (.int .i64 kd) (.int .u8 (k.toNat : Int)) (.slice A0 n0 c0) (.int .i64 kp)
  obtain ⟨W1, hW1⟩ : ∃ W, ((w.alloc (.cells #[.slice AL L.length cL, .slice AT T.length cT, .int .i64 (q : Int), .slice R vs.length c, .int .i64 (m : Int)] 32)).alloc (.cells #[.int .i64 kd, .int .u8 (k.toNat : Int), .slice A0 n0 c0, .int .i64 kp] 38)).alloc (.cells #[.slice none 0 0, .slice none 0 0, .int .i64 0, .slice none 0 0, .int .i64 0] 32) = W := ⟨_, rfl⟩
  rw [hW1] at hb1 hk0 hkd hk1
  have hl1 := h.wide hb1 (b := w.heap.size + 1 + 1) (by omega)
  have hF1 : ∀ k, AndB F (w.heap.size + 1 + 1) k → k < W1.heap.size := fun k hk => by
    rcases hk with h1 | h1
    · exact Nat.lt_of_lt_of_le (hF k h1) hb1.size
    · rw [h1]; exact hk1.lt
  have HC := Lib.hid (hc W1 (AndB F (w.heap.size + 1 + 1)) hb1 hF1 (fun k hk => by
    rcases hk with h1 | h1
    · exact Or.inl h1
    · exact Or.inr (by omega)) hl1)
  have HB1 := Lib.hid hb1
  have HK1 := Lib.hid hk1
  have HK0 := Lib.hid hk0
  have HL1 := Lib.hid hl1
  have HW1 := Lib.hid hW1
  clear hF h hc hb1 hk0 hkd hk1 hW1 hl1 hF1
  go_enter Try.func14, Try.ntmps14
  go_wp2_with fail
  rw [HW1.out]
  refine HC.out.mono ?_
  rintro e w2 ⟨A1, c1, A2, c2, R2, c5, us, hus, rfl, hl2, hb2⟩
  have HUS := Lib.hid hus
  have hal : Below w2.heap.size w2 (w2.alloc (.cells #[.slice A1 X.length c1, .slice A2 Z.length c2, .int .i64 (nq : Int), .slice R2 us.length c5, .int .i64 (mm : Int)] 32)) := (Below.refl _ _).alloc (Nat.le_refl _) _
  have HBT : Hid (Below w.heap.size w (w2.alloc (.cells #[.slice A1 X.length c1, .slice A2 Z.length c2, .int .i64 (nq : Int), .slice R2 us.length c5, .int .i64 (mm : Int)] 32))) := Lib.hid (HB1.out.trans ((hb2.trans (hal.mono hb2.size)).mono HB1.out.size))
  have HK3 := Lib.hid ((HK1.out.below hb2 HK1.out.lt).alloc (.cells #[.slice A1 X.length c1, .slice A2 Z.length c2, .int .i64 (nq : Int), .slice R2 us.length c5, .int .i64 (mm : Int)] 32))
  have HL3 := Lib.hid (hl2.below hal)
  clear hb2 hal hus hl2 HC HK0 HL1
  have HF := Lib.hid (refopen_fin (b := w.heap.size + 1 + 1) (u0 := .slice A1 X.length c1) (u1 := .slice A2 Z.length c2) (u2 := .int .i64 (nq : Int)) (u3 := .slice R2 us.length c5) (u4 := .int .i64 (mm : Int)) HK3.out)
  have HLF := Lib.hid (HL3.out.step (ref_touch (F := F) (b := w.heap.size + 1 + 1) (u0 := .slice A1 X.length c1) (u1 := .slice A2 Z.length c2) (u2 := .int .i64 (nq : Int)) (u3 := .slice R2 us.length c5) (u4 := .int .i64 (mm : Int))) (F' := F) (fun k hk => Or.inl (Or.inl hk)))
  obtain ⟨Z0, hZ0⟩ : ∃ z, w.heap.size + 1 + 1 = z := ⟨_, rfl⟩
  have r0 := HK3.out.cell 0
  have r1 := HK3.out.cell 1
  have r2 := HK3.out.cell 2
  have r3 := HK3.out.cell 3
  have r4 := HK3.out.cell 4
  have z0 := HK3.out.frozen 0
  have z1 := HK3.out.frozen 1
  have z2 := HK3.out.frozen 2
  have z3 := HK3.out.frozen 3
  have z4 := HK3.out.frozen 4
  clear hZ0
  go_wp2
  obtain ⟨W5, hW5⟩ : ∃ W, ((((((w2.alloc (.cells #[.slice A1 X.length c1, .slice A2 Z.length c2, .int .i64 (nq : Int), .slice R2 us.length c5, .int .i64 (mm : Int)] 32)).setCell ⟨w.heap.size + 1 + 1, 0, none⟩ (.slice A1 X.length c1)).setCell ⟨w.heap.size + 1 + 1, 1, none⟩ (.slice A2 Z.length c2)).setCell ⟨w.heap.size + 1 + 1, 2, none⟩ (.int .i64 (nq : Int))).setCell ⟨w.heap.size + 1 + 1, 3, none⟩ (.slice R2 us.length c5)).setCell ⟨w.heap.size + 1 + 1, 4, none⟩ (.int .i64 (mm : Int))) = W := ⟨_, rfl⟩
  rw [hW5] at HF HLF
  rw [hW5]
  have g0 := HF.out.1.cell 0
  have g1 := HF.out.1.cell 1
  have g2 := HF.out.1.cell 2
  have g3 := HF.out.1.cell 3
  have g4 := HF.out.1.cell 4
  refine bodyPost_ret (v := .tuple #[.agg #[.slice A1 X.length c1, .slice A2 Z.length c2, .int .i64 (nq : Int), .slice R2 us.length c5, .int .i64 (mm : Int)], .int .i64 0]) (by simp [results, Try.results14, go_sem, g0, g1, g2, g3, g4]) rfl ?_
  exact ⟨A1, c1, A2, c2, R2, c5, us, HUS.out, rfl, HLF.out, HF.out.2.2 _ HBT.out (by omega)⟩
end Go.Proofs.Ytkagfjjocmjeoaa
