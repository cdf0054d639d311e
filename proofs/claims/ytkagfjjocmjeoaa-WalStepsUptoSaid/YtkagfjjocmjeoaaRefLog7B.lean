/- The reference's log: Sync, Crash. Written by tools/gen_reflog7.py. -/
import Derived.Test.YtkagfjjocmjeoaaRefLog7
namespace Go.Proofs.Ytkagfjjocmjeoaa
open Go.RowKit Mem Be Word Frm
set_option maxRecDepth 100000
set_option maxHeartbeats 8000000
set_option linter.unusedVariables false
theorem refsync_any (F : Nat → Prop) (AL AT R : Option Addr) (cL cT c m q : Nat) (L T : List UInt8) (vs : List RecV) (hmx : L.length + T.length ≤ 4194304) (hvm : vs.length ≤ 1000000) (hq : q ≤ 4611686018427387904) (w : World) (hF : ∀ k, F k → k < w.heap.size) (h : RefL w F AL cL AT cT R c L T vs) :
    Calls Try.prog 36 #[.agg #[.slice AL L.length cL, .slice AT T.length cT, .int .i64 (q : Int), .slice R vs.length c, .int .i64 (m : Int)]] w (RefP F id (L ++ T) [] (upN T q) vs.length (vs.map rcOf) w) := by
  obtain ⟨hb1, hk0, hk1⟩ := ref_w1 w (.slice AL L.length cL) (.slice AT T.length cT) (.int .i64 (q : Int)) (.slice R vs.length c) (.int .i64 (m : Int))
  obtain ⟨W1, hW1⟩ : ∃ W, (w.alloc (.cells #[.slice AL L.length cL, .slice AT T.length cT, .int .i64 (q : Int), .slice R vs.length c, .int .i64 (m : Int)] 32)).alloc (.cells #[.slice none 0 0, .slice none 0 0, .int .i64 0, .slice none 0 0, .int .i64 0] 32) = W := ⟨_, rfl⟩
  rw [hW1] at hb1 hk0 hk1
  have hl1 := h.wide hb1 (b := w.heap.size + 1) (by omega)
  have hF1 : ∀ k, AndB F (w.heap.size + 1) k → k < W1.heap.size := fun k hk => by
    rcases hk with h1 | h1
    · exact Nat.lt_of_lt_of_le (hF k h1) hb1.size
    · rw [h1]; exact hk1.lt
  have hst := step6_any (AndB F (w.heap.size + 1)) L T [] q 2 0 AL AT none L.length T.length 0 cL cT 0 rfl rfl rfl hl1.hl hl1.ht (by omega) hmx hq W1 hF1 hl1.rl hl1.rt (Or.inl rfl)
  rw [show doS L T q 2 [] 0 = (L ++ T, [], upN T q, 0) from rfl] at hst
  obtain ⟨X, hX⟩ : ∃ X, L ++ T = X := ⟨_, rfl⟩
  obtain ⟨nq, hnq⟩ : ∃ n, upN T q = n := ⟨_, rfl⟩
  rw [hX, hnq] at hst ⊢
  have HST := Lib.hid hst
  have HB1 := Lib.hid hb1
  have HK0 := Lib.hid hk0
  have HK1 := Lib.hid hk1
  have HL1 := Lib.hid hl1
  have HF1 := Lib.hid hF1
  have HW1 := Lib.hid hW1
  have f0 := hk0.cell 0
  have f1 := hk0.cell 1
  have f2 := hk0.cell 2
  have f3 := hk0.cell 3
  have f4 := hk0.cell 4
  have hvi : (vs.length : Int) ≤ 1000000 := by omega
  clear hmx hvm hq hF h hb1 hk0 hk1 hW1 hl1 hF1 hst hX hnq
  go_enter Try.func36, Try.ntmps36
  go_wp2_with fail
  rw [HW1.out]
  refine HST.out.mono ?_
  rintro e w2 ⟨A1, c1, A2, c2, rfl, h1, h2, hr1, hr2, hb2⟩
  simp only at h1 h2 hr1 hr2 ⊢
  have HB2 : Hid (Below w.heap.size w w2) := Lib.hid (HB1.out.trans (hb2.mono HB1.out.size))
  have hal : Below w2.heap.size w2 (w2.alloc (.cells #[.slice A1 X.length c1, .slice A2 0 c2, .int .i64 (nq : Int)] 29)) := (Below.refl _ _).alloc (Nat.le_refl _) _
  have HBT : Hid (Below w.heap.size w (w2.alloc (.cells #[.slice A1 X.length c1, .slice A2 0 c2, .int .i64 (nq : Int)] 29))) := Lib.hid (HB2.out.trans (hal.mono HB2.out.size))
  have HK3 := Lib.hid ((HK1.out.below hb2 HK1.out.lt).alloc (.cells #[.slice A1 X.length c1, .slice A2 0 c2, .int .i64 (nq : Int)] 29))
  have HKA := Lib.hid ((HK0.out.below hb2 HK0.out.lt).alloc (.cells #[.slice A1 X.length c1, .slice A2 0 c2, .int .i64 (nq : Int)] 29))
  have HL3 : Hid (RefL (w2.alloc (.cells #[.slice A1 X.length c1, .slice A2 0 c2, .int .i64 (nq : Int)] 29)) (AndB F (w.heap.size + 1)) A1 c1 A2 c2 R c X [] vs) :=
    Lib.hid (RefL.below (⟨h1, h2, HL1.out.hc, hr1, hr2, (HL1.out.below hb2).rr, (HL1.out.below hb2).rb⟩ : RefL w2 (AndB F (w.heap.size + 1)) A1 c1 A2 c2 R c X [] vs) hal)
  have b3 := HKA.out.cell 3
  clear f0 f1 f2 f3 f4 h1 h2 hr1 hr2 hb2 hal
  have HF := Lib.hid (refopen_fin (b := w.heap.size + 1) (u0 := .slice A1 X.length c1) (u1 := .slice A2 0 c2) (u2 := .int .i64 (nq : Int)) (u3 := .slice R vs.length c) (u4 := .int .i64 (vs.length : Int)) HK3.out)
  have HLF := Lib.hid (HL3.out.step (ref_touch (F := F) (b := w.heap.size + 1) (u0 := .slice A1 X.length c1) (u1 := .slice A2 0 c2) (u2 := .int .i64 (nq : Int)) (u3 := .slice R vs.length c) (u4 := .int .i64 (vs.length : Int))) (F' := F) (fun k hk => Or.inl (Or.inl hk)))
  obtain ⟨Z0, hZ0⟩ : ∃ z, w.heap.size + 1 = z := ⟨_, rfl⟩
  have r0 := HK3.out.cell 0
  have r1 := HK3.out.cell 1
  have r2 := HK3.out.cell 2
  have r3 := HK3.out.cell 3
  have r4 := HK3.out.cell 4
  have z0 := HK3.out.frozen 0
  have z1 := HK3.out.frozen 1
  have z2 := HK3.out.frozen 2
  have z3 := HK3.out.frozen 3
  have z4 := HK3.out.frozen 4
  clear hZ0
  go_wp2
  obtain ⟨W5, hW5⟩ : ∃ W, ((((((w2.alloc (.cells #[.slice A1 X.length c1, .slice A2 0 c2, .int .i64 (nq : Int)] 29)).setCell ⟨w.heap.size + 1, 0, none⟩ (.slice A1 X.length c1)).setCell ⟨w.heap.size + 1, 1, none⟩ (.slice A2 0 c2)).setCell ⟨w.heap.size + 1, 2, none⟩ (.int .i64 (nq : Int))).setCell ⟨w.heap.size + 1, 3, none⟩ (.slice R vs.length c)).setCell ⟨w.heap.size + 1, 4, none⟩ (.int .i64 (vs.length : Int))) = W := ⟨_, rfl⟩
  rw [hW5] at HF HLF
  rw [hW5]
  have g0 := HF.out.1.cell 0
  have g1 := HF.out.1.cell 1
  have g2 := HF.out.1.cell 2
  have g3 := HF.out.1.cell 3
  have g4 := HF.out.1.cell 4
  refine bodyPost_ret (v := .agg #[.slice A1 X.length c1, .slice A2 0 c2, .int .i64 (nq : Int), .slice R vs.length c, .int .i64 (vs.length : Int)]) (by simp [results, Try.results36, go_sem, g0, g1, g2, g3, g4]) rfl ?_
  exact ⟨A1, c1, A2, c2, R, c, vs, rfl, rfl, HLF.out, HF.out.2.2 _ HBT.out (by omega)⟩
theorem refcrash_neg (F : Nat → Prop) (AL AT R : Option Addr) (cL cT c m q : Nat) (L T : List UInt8) (vs : List RecV) (hmx : L.length + T.length ≤ 4194304) (hvm : vs.length ≤ 1000000) (hq : q ≤ 4611686018427387904) (kp : Int) (hkp : kp < 0) (w : World) (hF : ∀ k, F k → k < w.heap.size) (h : RefL w F AL cL AT cT R c L T vs) :
    Calls Try.prog 38 #[.agg #[.slice AL L.length cL, .slice AT T.length cT, .int .i64 (q : Int), .slice R vs.length c, .int .i64 (m : Int)], .int .i64 kp] w (fun e w' => e = .returned (.tuple #[.agg #[.slice none 0 0, .slice none 0 0, .int .i64 0, .slice none 0 0, .int .i64 0], .int .i64 2]) ∧ Below w.heap.size w w') := by
  obtain ⟨hb1, hk0, hk1⟩ := ref_w1 w (.slice AL L.length cL) (.slice AT T.length cT) (.int .i64 (q : Int)) (.slice R vs.length c) (.int .i64 (m : Int))
  obtain ⟨W1, hW1⟩ : ∃ W, (w.alloc (.cells #[.slice AL L.length cL, .slice AT T.length cT, .int .i64 (q : Int), .slice R vs.length c, .int .i64 (m : Int)] 32)).alloc (.cells #[.slice none 0 0, .slice none 0 0, .int .i64 0, .slice none 0 0, .int .i64 0] 32) = W := ⟨_, rfl⟩
  rw [hW1] at hb1 hk0 hk1
  have hl1 := h.wide hb1 (b := w.heap.size + 1) (by omega)
  have hF1 : ∀ k, AndB F (w.heap.size + 1) k → k < W1.heap.size := fun k hk => by
    rcases hk with h1 | h1
    · exact Nat.lt_of_lt_of_le (hF k h1) hb1.size
    · rw [h1]; exact hk1.lt
  have hst := step6_any (AndB F (w.heap.size + 1)) L T [] q 4 kp AL AT none L.length T.length 0 cL cT 0 rfl rfl rfl hl1.hl hl1.ht (by omega) hmx hq W1 hF1 hl1.rl hl1.rt (Or.inl rfl)
  rw [show doS L T q 4 [] kp = (L, T, q, 2) by unfold doS; rw [if_neg (by decide), if_neg (by decide), if_neg (by decide), if_pos hkp]] at hst
  have HST := Lib.hid hst
  have HB1 := Lib.hid hb1
  have HK0 := Lib.hid hk0
  have HK1 := Lib.hid hk1
  have HL1 := Lib.hid hl1
  have HF1 := Lib.hid hF1
  have HW1 := Lib.hid hW1
  have f0 := hk0.cell 0
  have f1 := hk0.cell 1
  have f2 := hk0.cell 2
  have f3 := hk0.cell 3
  have f4 := hk0.cell 4
  have hvi : (vs.length : Int) ≤ 1000000 := by omega
  clear hmx hvm hq hF h hb1 hk0 hk1 hW1 hl1 hF1 hst
  go_enter Try.func38, Try.ntmps38
  go_wp2_with fail
  rw [HW1.out]
  refine HST.out.mono ?_
  rintro e w2 ⟨A1, c1, A2, c2, rfl, h1, h2, hr1, hr2, hb2⟩
  simp only at h1 h2 hr1 hr2 ⊢
  have HB2 : Hid (Below w.heap.size w w2) := Lib.hid (HB1.out.trans (hb2.mono HB1.out.size))
  have hal : Below w2.heap.size w2 (w2.alloc (.cells #[.slice A1 L.length c1, .slice A2 T.length c2, .int .i64 (q : Int)] 29)) := (Below.refl _ _).alloc (Nat.le_refl _) _
  have HBT : Hid (Below w.heap.size w (w2.alloc (.cells #[.slice A1 L.length c1, .slice A2 T.length c2, .int .i64 (q : Int)] 29))) := Lib.hid (HB2.out.trans (hal.mono HB2.out.size))
  have HK3 := Lib.hid ((HK1.out.below hb2 HK1.out.lt).alloc (.cells #[.slice A1 L.length c1, .slice A2 T.length c2, .int .i64 (q : Int)] 29))
  have HKA := Lib.hid ((HK0.out.below hb2 HK0.out.lt).alloc (.cells #[.slice A1 L.length c1, .slice A2 T.length c2, .int .i64 (q : Int)] 29))
  have HL3 : Hid (RefL (w2.alloc (.cells #[.slice A1 L.length c1, .slice A2 T.length c2, .int .i64 (q : Int)] 29)) (AndB F (w.heap.size + 1)) A1 c1 A2 c2 R c L T vs) :=
    Lib.hid (RefL.below (⟨h1, h2, HL1.out.hc, hr1, hr2, (HL1.out.below hb2).rr, (HL1.out.below hb2).rb⟩ : RefL w2 (AndB F (w.heap.size + 1)) A1 c1 A2 c2 R c L T vs) hal)
  clear f0 f1 f2 f3 f4 h1 h2 hr1 hr2 hb2 hal
  have HF := Lib.hid (refopen_fin (b := w.heap.size + 1) (u0 := .slice none 0 0) (u1 := .slice none 0 0) (u2 := .int .i64 0) (u3 := .slice none 0 0) (u4 := .int .i64 0) HK3.out)
  have HLF := Lib.hid (HL3.out.step (ref_touch (F := F) (b := w.heap.size + 1) (u0 := .slice none 0 0) (u1 := .slice none 0 0) (u2 := .int .i64 0) (u3 := .slice none 0 0) (u4 := .int .i64 0)) (F' := F) (fun k hk => Or.inl (Or.inl hk)))
  obtain ⟨Z0, hZ0⟩ : ∃ z, w.heap.size + 1 = z := ⟨_, rfl⟩
  have r0 := HK3.out.cell 0
  have r1 := HK3.out.cell 1
  have r2 := HK3.out.cell 2
  have r3 := HK3.out.cell 3
  have r4 := HK3.out.cell 4
  have z0 := HK3.out.frozen 0
  have z1 := HK3.out.frozen 1
  have z2 := HK3.out.frozen 2
  have z3 := HK3.out.frozen 3
  have z4 := HK3.out.frozen 4
  clear hZ0
  go_wp2
  obtain ⟨W5, hW5⟩ : ∃ W, ((((((w2.alloc (.cells #[.slice A1 L.length c1, .slice A2 T.length c2, .int .i64 (q : Int)] 29)).setCell ⟨w.heap.size + 1, 0, none⟩ (.slice none 0 0)).setCell ⟨w.heap.size + 1, 1, none⟩ (.slice none 0 0)).setCell ⟨w.heap.size + 1, 2, none⟩ (.int .i64 0)).setCell ⟨w.heap.size + 1, 3, none⟩ (.slice none 0 0)).setCell ⟨w.heap.size + 1, 4, none⟩ (.int .i64 0)) = W := ⟨_, rfl⟩
  rw [hW5] at HF HLF
  rw [hW5]
  have g0 := HF.out.1.cell 0
  have g1 := HF.out.1.cell 1
  have g2 := HF.out.1.cell 2
  have g3 := HF.out.1.cell 3
  have g4 := HF.out.1.cell 4
  refine bodyPost_ret (v := .tuple #[.agg #[.slice none 0 0, .slice none 0 0, .int .i64 0, .slice none 0 0, .int .i64 0], .int .i64 2]) (by simp [results, Try.results38, go_sem, g0, g1, g2, g3, g4]) rfl ?_
  exact ⟨rfl, HF.out.2.2 _ HBT.out (by omega)⟩
theorem refcrash_any (F : Nat → Prop) (AL AT R : Option Addr) (cL cT c m q : Nat) (L T : List UInt8) (vs : List RecV) (hmx : L.length + T.length ≤ 4194304) (hvm : vs.length ≤ 1000000) (hq : q ≤ 4611686018427387904) (kp : Nat) (hkp : kp ≤ 9223372036854775807) (w : World) (hF : ∀ k, F k → k < w.heap.size) (h : RefL w F AL cL AT cT R c L T vs) (X : List UInt8) (hX : L ++ T.take kp = X) :
    Calls Try.prog 38 #[.agg #[.slice AL L.length cL, .slice AT T.length cT, .int .i64 (q : Int), .slice R vs.length c, .int .i64 (m : Int)], .int .i64 (kp : Int)] w (RefP F (fun v => .tuple #[v, .int .i64 0]) (X.take (scanS X).2.1) [] q (scanS X).1.length (scanS X).1 w) := by
  obtain ⟨s, hs⟩ : ∃ s, (scanS X).2.1 = s := ⟨_, rfl⟩
  obtain ⟨rs, hrs⟩ : ∃ rs, (scanS X).1 = rs := ⟨_, rfl⟩
  rw [hs, hrs]
  have hat := scan_at X
  rw [hs] at hat
  have HSS := Lib.hid (And.intro hs hrs)
  have HSL : Hid ((X.take s).length = s) := Lib.hid (by rw [List.length_take]; omega)
  clear hs hrs hat
  have hXl : X.length ≤ 4194304 := by rw [← hX, List.length_append, List.length_take]; omega
  obtain ⟨hb1, hk0, hk1⟩ := ref_w1 w (.slice AL L.length cL) (.slice AT T.length cT) (.int .i64 (q : Int)) (.slice R vs.length c) (.int .i64 (m : Int))
  obtain ⟨W1, hW1⟩ : ∃ W, (w.alloc (.cells #[.slice AL L.length cL, .slice AT T.length cT, .int .i64 (q : Int), .slice R vs.length c, .int .i64 (m : Int)] 32)).alloc (.cells #[.slice none 0 0, .slice none 0 0, .int .i64 0, .slice none 0 0, .int .i64 0] 32) = W := ⟨_, rfl⟩
  rw [hW1] at hb1 hk0 hk1
  have hl1 := h.wide hb1 (b := w.heap.size + 1) (by omega)
  have hF1 : ∀ k, AndB F (w.heap.size + 1) k → k < W1.heap.size := fun k hk => by
    rcases hk with h1 | h1
    · exact Nat.lt_of_lt_of_le (hF k h1) hb1.size
    · rw [h1]; exact hk1.lt
  have hst := step6_any (AndB F (w.heap.size + 1)) L T [] q 4 (kp : Int) AL AT none L.length T.length 0 cL cT 0 rfl rfl rfl hl1.hl hl1.ht (by omega) hmx hq W1 hF1 hl1.rl hl1.rt (Or.inl rfl)
  rw [show doS L T q 4 [] (kp : Int) = (L ++ T.take kp, [], q, 0) by unfold doS; rw [if_neg (by decide), if_neg (by decide), if_neg (by decide), if_neg (by omega)]; simp] at hst
  rw [hX] at hst
  have HST := Lib.hid hst
  have HB1 := Lib.hid hb1
  have HK0 := Lib.hid hk0
  have HK1 := Lib.hid hk1
  have HL1 := Lib.hid hl1
  have HF1 := Lib.hid hF1
  have HW1 := Lib.hid hW1
  have f0 := hk0.cell 0
  have f1 := hk0.cell 1
  have f2 := hk0.cell 2
  have f3 := hk0.cell 3
  have f4 := hk0.cell 4
  have hvi : (vs.length : Int) ≤ 1000000 := by omega
  clear hmx hvm hq hF h hb1 hk0 hk1 hW1 hl1 hF1 hst hX hkp
  go_enter Try.func38, Try.ntmps38
  go_wp2_with fail
  rw [HW1.out]
  refine HST.out.mono ?_
  rintro e w2 ⟨A1, c1, A2, c2, rfl, h1, h2, hr1, hr2, hb2⟩
  simp only at h1 h2 hr1 hr2 ⊢
  have HB2 : Hid (Below w.heap.size w w2) := Lib.hid (HB1.out.trans (hb2.mono HB1.out.size))
  have hal : Below w2.heap.size w2 (w2.alloc (.cells #[.slice A1 X.length c1, .slice A2 0 c2, .int .i64 (q : Int)] 29)) := (Below.refl _ _).alloc (Nat.le_refl _) _
  have HBT : Hid (Below w.heap.size w (w2.alloc (.cells #[.slice A1 X.length c1, .slice A2 0 c2, .int .i64 (q : Int)] 29))) := Lib.hid (HB2.out.trans (hal.mono HB2.out.size))
  have HK3 := Lib.hid ((HK1.out.below hb2 HK1.out.lt).alloc (.cells #[.slice A1 X.length c1, .slice A2 0 c2, .int .i64 (q : Int)] 29))
  have HKA := Lib.hid ((HK0.out.below hb2 HK0.out.lt).alloc (.cells #[.slice A1 X.length c1, .slice A2 0 c2, .int .i64 (q : Int)] 29))
  have HN2 := Lib.hid (Blk.new w2 29 #[.slice A1 X.length c1, .slice A2 0 c2, .int .i64 (q : Int)])
  have HR2 := Lib.hid (hr1.below hal)
  have HC1 := Lib.hid h1
  obtain ⟨W3, hW3⟩ : ∃ W, w2.alloc (.cells #[.slice A1 X.length c1, .slice A2 0 c2, .int .i64 (q : Int)] 29) = W := ⟨_, rfl⟩
  obtain ⟨b6, hb6⟩ : ∃ b, w2.heap.size = b := ⟨_, rfl⟩
  rw [hW3] at HBT HK3 HKA HN2 HR2
  rw [hb6] at HN2
  have hs2 := HB2.out.size
  have HS1 : Hid (W1.heap.size ≤ b6) := Lib.hid (by have := hb2.size; omega)
  have HSB : Hid (w.heap.size + 1 < b6) := Lib.hid (by have := HK1.out.lt; have := hb2.size; omega)
  have HRO := Lib.hid (refopen_any X.length c1 A1 X rfl HC1.out hXl W3 HR2.out.row)
  have HW3 := Lib.hid hW3
  have HB6 := Lib.hid hb6
  clear f0 f1 f2 f3 f4 h1 h2 hr1 hr2 hb2 hal hW3 hb6 hs2 HB2
  go_wp2_with fail
  rw [HW3.out]
  rw [HB6.out]
  refine HRO.out.mono ?_
  rintro e w4 ⟨AL4, cL4, us, R4, c4, hus, rfl, hoL, hoR, hrR, hb4⟩
  rw [HSS.out.1] at hoL ⊢
  have hF3 : ∀ k, AndB F (w.heap.size + 1) k → k < W3.heap.size := fun k hk => by
    have h1 := HK3.out.lt
    rcases hk with h2 | h2
    · have := HF1.out k (Or.inl h2); have := HN2.out.lt; have := HSB.out; have := HS1.out; omega
    · rw [h2]; exact h1
  have hcl := (own_cap hoL).1
  have hcr : us.length ≤ c4 := by
    obtain ⟨A', c', he, h2, _⟩ := ownShape hoR
    injection he with _ _ he
    omega
  have HUS := Lib.hid (show us.map rcOf = rs by rw [hus]; exact HSS.out.2)
  have HUL : Hid (rs.length = us.length) := Lib.hid (by rw [← HUS.out, List.length_map])
  have hl4 : RefL w4 (AndB F (w.heap.size + 1)) AL4 cL4 none 0 R4 c4 (X.take s) [] us := ⟨by rw [HSL.out]; exact hcl, Nat.le_refl _, hcr, rowN_own hF3 hoL, Or.inl rfl, rowN_own hF3 hoR, fun v hv => rowN_own hF3 (hrR v hv)⟩
  have c6 : ∀ o, (w4.alloc o).cell? ⟨b6, 2, none⟩ = some (.int .i64 (q : Int)) := fun o => cell_al o ((HN2.out.below hb4 HN2.out.lt).cell 2)
  have hal : Below w4.heap.size w4 (w4.alloc (.cells #[.slice AL4 s cL4, .slice none 0 0, .int .i64 (q : Int), .slice R4 us.length c4, .int .i64 (us.length : Int)] 32)) := (Below.refl _ _).alloc (Nat.le_refl _) _
  have HL3 := Lib.hid (hl4.below hal)
  have HB4 := Lib.hid (HBT.out.trans ((hb4.trans (hal.mono hb4.size)).mono HBT.out.size))
  have HK4 := Lib.hid ((HK3.out.below hb4 HK3.out.lt).alloc (.cells #[.slice AL4 s cL4, .slice none 0 0, .int .i64 (q : Int), .slice R4 us.length c4, .int .i64 (us.length : Int)] 32))
  clear hcl hcr hus hoL hoR hrR hb4 hal hl4 HRO HK3 HF1 hF3
  have HK3 := HK4
  have HF := Lib.hid (refopen_fin (b := w.heap.size + 1) (u0 := .slice AL4 s cL4) (u1 := .slice none 0 0) (u2 := .int .i64 (q : Int)) (u3 := .slice R4 us.length c4) (u4 := .int .i64 (us.length : Int)) HK3.out)
  have HLF := Lib.hid (HL3.out.step (ref_touch (F := F) (b := w.heap.size + 1) (u0 := .slice AL4 s cL4) (u1 := .slice none 0 0) (u2 := .int .i64 (q : Int)) (u3 := .slice R4 us.length c4) (u4 := .int .i64 (us.length : Int))) (F' := F) (fun k hk => Or.inl (Or.inl hk)))
  obtain ⟨Z0, hZ0⟩ : ∃ z, w.heap.size + 1 = z := ⟨_, rfl⟩
  have r0 := HK3.out.cell 0
  have r1 := HK3.out.cell 1
  have r2 := HK3.out.cell 2
  have r3 := HK3.out.cell 3
  have r4 := HK3.out.cell 4
  have z0 := HK3.out.frozen 0
  have z1 := HK3.out.frozen 1
  have z2 := HK3.out.frozen 2
  have z3 := HK3.out.frozen 3
  have z4 := HK3.out.frozen 4
  clear hZ0
  go_wp2
  obtain ⟨W5, hW5⟩ : ∃ W, ((((((w4.alloc (.cells #[.slice AL4 s cL4, .slice none 0 0, .int .i64 (q : Int), .slice R4 us.length c4, .int .i64 (us.length : Int)] 32)).setCell ⟨w.heap.size + 1, 0, none⟩ (.slice AL4 s cL4)).setCell ⟨w.heap.size + 1, 1, none⟩ (.slice none 0 0)).setCell ⟨w.heap.size + 1, 2, none⟩ (.int .i64 (q : Int))).setCell ⟨w.heap.size + 1, 3, none⟩ (.slice R4 us.length c4)).setCell ⟨w.heap.size + 1, 4, none⟩ (.int .i64 (us.length : Int))) = W := ⟨_, rfl⟩
  rw [hW5] at HF HLF
  rw [hW5]
  have g0 := HF.out.1.cell 0
  have g1 := HF.out.1.cell 1
  have g2 := HF.out.1.cell 2
  have g3 := HF.out.1.cell 3
  have g4 := HF.out.1.cell 4
  refine bodyPost_ret (v := .tuple #[.agg #[.slice AL4 s cL4, .slice none 0 0, .int .i64 (q : Int), .slice R4 us.length c4, .int .i64 (us.length : Int)], .int .i64 0]) (by simp [results, Try.results38, go_sem, g0, g1, g2, g3, g4]) rfl ?_
  exact ⟨AL4, cL4, none, 0, R4, c4, us, HUS.out, by rw [HSL.out, HUL.out]; rfl, HLF.out, HF.out.2.2 _ HB4.out (by omega)⟩
end Go.Proofs.Ytkagfjjocmjeoaa
