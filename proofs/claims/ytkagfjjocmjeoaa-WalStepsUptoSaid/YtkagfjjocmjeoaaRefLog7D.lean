/- The reference's log: Snapshot. Written by tools/gen_reflog7s.py. -/
import Derived.Test.YtkagfjjocmjeoaaRefLog7
namespace Go.Proofs.Ytkagfjjocmjeoaa
open Go.RowKit Mem Be Word Frm
set_option maxRecDepth 100000
set_option maxHeartbeats 8000000
set_option linter.unusedVariables false
theorem refsnap_any (F : Nat → Prop) (AL AT R : Option Addr) (cL cT c m q : Nat) (L T : List UInt8) (vs : List RecV) (hmx : L.length + T.length ≤ 4194304) (hvm : vs.length ≤ 1000000) (hq : q ≤ 4611686018427387904) (B : Option Addr) (bs : List UInt8) (cB : Nat) (hbs : bs.length ≤ 65536) (w : World) (hF : ∀ k, F k → k < w.heap.size) (h : RefL w F AL cL AT cT R c L T vs) (hB : RowN F w B (bs.map byteV)) :
    Calls Try.prog 37 #[.agg #[.slice AL L.length cL, .slice AT T.length cT, .int .i64 (q : Int), .slice R vs.length c, .int .i64 (m : Int)], .slice B bs.length cB] w (RefP F (fun v => .tuple #[v, .int .i64 0]) (frB (0, bs)) [] q 1 [(0, bs)] w) := by
  obtain ⟨Y, hY⟩ : ∃ Y, frB (0, bs) = Y := ⟨_, rfl⟩
  have hYl : Y.length ≤ 65546 := by rw [← hY, fr_len]; simp only; omega
  obtain ⟨hb1, hk0, hk1⟩ := ref_w1 w (.slice AL L.length cL) (.slice AT T.length cT) (.int .i64 (q : Int)) (.slice R vs.length c) (.int .i64 (m : Int))
  obtain ⟨W1, hW1⟩ : ∃ W, (w.alloc (.cells #[.slice AL L.length cL, .slice AT T.length cT, .int .i64 (q : Int), .slice R vs.length c, .int .i64 (m : Int)] 32)).alloc (.cells #[.slice none 0 0, .slice none 0 0, .int .i64 0, .slice none 0 0, .int .i64 0] 32) = W := ⟨_, rfl⟩
  rw [hW1] at hb1 hk0 hk1
  have hl1 := h.wide hb1 (b := w.heap.size + 1) (by omega)
  have hF1 : ∀ k, AndB F (w.heap.size + 1) k → k < W1.heap.size := fun k hk => by
    rcases hk with h1 | h1
    · exact Nat.lt_of_lt_of_le (hF k h1) hb1.size
    · rw [h1]; exact hk1.lt
  have hB1 : RowN (AndB F (w.heap.size + 1)) W1 B (bs.map byteV) := hB.step (Touch.ofBelow hb1) fun k hk => by
    rcases hk with h1 | h1
    · exact Or.inl h1
    · exact Or.inr (by omega)
  have hone := refone_any 0 W1.heap.size cB bs.length B bs rfl W1 hB1.row (Nat.le_refl _)
  rw [show oneS (0, bs) = (frB (0, bs), 0) from if_neg (by simp only; omega), hY, show (((0 : UInt8).toNat : Nat) : Int) = 0 from rfl] at hone
  rw [hY]
  have HONE := Lib.hid hone
  have HST : Hid (∀ W A c', Below W1.heap.size W1 W → RowN (AndB F (w.heap.size + 1)) W A (Y.map byteV) → Calls Try.prog 58 #[.agg #[.slice AL L.length cL, .slice AT T.length cT, .int .i64 (q : Int)], .agg #[.int .i64 3, .slice A Y.length c', .int .i64 0]] W (StepP (AndB F (w.heap.size + 1)) (Y, [], q, 0) W)) := Lib.hid fun W A c' hb hr => by
    have hst := step6_any (AndB F (w.heap.size + 1)) L T Y q 3 0 AL AT A L.length T.length Y.length cL cT c' rfl rfl rfl hl1.hl hl1.ht (by omega) hmx hq W (fun k hk => Nat.lt_of_lt_of_le (hF1 k hk) hb.size) (hl1.below hb).rl (hl1.below hb).rt hr
    rw [show doS L T q 3 Y 0 = (Y, [], q, 0) by unfold doS; rw [if_neg (by decide), if_neg (by decide), if_pos rfl, if_neg (by omega)]] at hst
    exact hst
  have HBB := Lib.hid hB1
  have hyi : (Y.length : Int) ≤ 65546 := by omega
  have HB1 := Lib.hid hb1
  have HK0 := Lib.hid hk0
  have HK1 := Lib.hid hk1
  have HL1 := Lib.hid hl1
  have HF1 := Lib.hid hF1
  have HW1 := Lib.hid hW1
  have f0 := hk0.cell 0
  have f1 := hk0.cell 1
  have f2 := hk0.cell 2
  have f3 := hk0.cell 3
  have f4 := hk0.cell 4
  have hvi : (vs.length : Int) ≤ 1000000 := by omega
  clear hmx hvm hq hF h hb1 hk0 hk1 hW1 hl1 hF1 hY hYl hone hB1 hB hbs
  go_enter Try.func37, Try.ntmps37
  go_wp2_with fail
  rw [HW1.out]
  refine HONE.out.mono ?_
  rintro e w2 ⟨Ay, cy, rfl, hoy, hb2⟩
  simp only at hoy ⊢
  have HK2 := Lib.hid (HK0.out.below hb2 HK0.out.lt)
  have HY2 := Lib.hid (rowN_own HF1.out hoy)
  have HBY := Lib.hid hb2
  clear f0 f1 f2 f3 f4 hoy hb2
  have f0 := HK2.out.cell 0
  have f1 := HK2.out.cell 1
  have f2 := HK2.out.cell 2
  go_wp2_with fail
  refine (HST.out w2 Ay cy HBY.out HY2.out).mono ?_
  rintro e w3 ⟨A1, c1, A2, c2, rfl, h1, h2, hr1, hr2, hb3⟩
  simp only at h1 h2 hr1 hr2 ⊢
  have hb13 : Below W1.heap.size W1 w3 := HBY.out.trans (hb3.mono HBY.out.size)
  have hal : Below w3.heap.size w3 (w3.alloc (.cells #[.slice A1 Y.length c1, .slice A2 0 c2, .int .i64 (q : Int)] 29)) := (Below.refl _ _).alloc (Nat.le_refl _) _
  have hal2 : Below w3.heap.size w3 ((w3.alloc (.cells #[.slice A1 Y.length c1, .slice A2 0 c2, .int .i64 (q : Int)] 29)).alloc (.cells #[.int .u8 0, .slice B bs.length cB] 64)) := hal.alloc (by simp) _
  have HBT : Hid (Below w.heap.size w ((w3.alloc (.cells #[.slice A1 Y.length c1, .slice A2 0 c2, .int .i64 (q : Int)] 29)).alloc (.cells #[.int .u8 0, .slice B bs.length cB] 64))) := Lib.hid (HB1.out.trans ((hb13.trans (hal2.mono hb13.size)).mono HB1.out.size))
  have HK3 := Lib.hid (((HK1.out.below hb13 HK1.out.lt).alloc (.cells #[.slice A1 Y.length c1, .slice A2 0 c2, .int .i64 (q : Int)] 29)).alloc (.cells #[.int .u8 0, .slice B bs.length cB] 64))
  have hnew := Blk.new (w3.alloc (.cells #[.slice A1 Y.length c1, .slice A2 0 c2, .int .i64 (q : Int)] 29)) 64 #[.int .u8 0, .slice B bs.length cB]
  rw [show (w3.alloc (.cells #[.slice A1 Y.length c1, .slice A2 0 c2, .int .i64 (q : Int)] 29)).heap.size = w3.heap.size + 1 by simp] at hnew
  have hrr : RowN (AndB F (w.heap.size + 1)) ((w3.alloc (.cells #[.slice A1 Y.length c1, .slice A2 0 c2, .int .i64 (q : Int)] 29)).alloc (.cells #[.int .u8 0, .slice B bs.length cB] 64)) (some ⟨w3.heap.size + 1, 0, none⟩) (recsC [(0, B, bs, cB)]) := rowN_blk hnew (fun hf => by have := HF1.out _ hf; have := hb13.size; omega) rfl
  have HL3 : Hid (RefL ((w3.alloc (.cells #[.slice A1 Y.length c1, .slice A2 0 c2, .int .i64 (q : Int)] 29)).alloc (.cells #[.int .u8 0, .slice B bs.length cB] 64)) (AndB F (w.heap.size + 1)) A1 c1 A2 c2 (some ⟨w3.heap.size + 1, 0, none⟩) 1 Y [] [(0, B, bs, cB)]) :=
    Lib.hid ⟨h1, h2, Nat.le_refl _, hr1.below hal2, hr2.below hal2, hrr, fun v hv => by
      obtain rfl : v = (0, B, bs, cB) := by simpa using hv
      exact (HBB.out.below hb13).below hal2⟩
  clear f0 f1 f2 h1 h2 hr1 hr2 hb3 hb13 hal hal2 hnew hrr HY2 HBY HK2 HST HONE
  have HF := Lib.hid (refopen_fin (b := w.heap.size + 1) (u0 := .slice A1 Y.length c1) (u1 := .slice A2 0 c2) (u2 := .int .i64 (q : Int)) (u3 := .slice (some ⟨w3.heap.size + 1, 0, none⟩) 1 1) (u4 := .int .i64 1) HK3.out)
  have HLF := Lib.hid (HL3.out.step (ref_touch (F := F) (b := w.heap.size + 1) (u0 := .slice A1 Y.length c1) (u1 := .slice A2 0 c2) (u2 := .int .i64 (q : Int)) (u3 := .slice (some ⟨w3.heap.size + 1, 0, none⟩) 1 1) (u4 := .int .i64 1)) (F' := F) (fun k hk => Or.inl (Or.inl hk)))
  obtain ⟨Z0, hZ0⟩ : ∃ z, w.heap.size + 1 = z := ⟨_, rfl⟩
  have r0 := HK3.out.cell 0
  have r1 := HK3.out.cell 1
  have r2 := HK3.out.cell 2
  have r3 := HK3.out.cell 3
  have r4 := HK3.out.cell 4
  have z0 := HK3.out.frozen 0
  have z1 := HK3.out.frozen 1
  have z2 := HK3.out.frozen 2
  have z3 := HK3.out.frozen 3
  have z4 := HK3.out.frozen 4
  clear hZ0
  go_wp2
  obtain ⟨W5, hW5⟩ : ∃ W, (((((((w3.alloc (.cells #[.slice A1 Y.length c1, .slice A2 0 c2, .int .i64 (q : Int)] 29)).alloc (.cells #[.int .u8 0, .slice B bs.length cB] 64)).setCell ⟨w.heap.size + 1, 0, none⟩ (.slice A1 Y.length c1)).setCell ⟨w.heap.size + 1, 1, none⟩ (.slice A2 0 c2)).setCell ⟨w.heap.size + 1, 2, none⟩ (.int .i64 (q : Int))).setCell ⟨w.heap.size + 1, 3, none⟩ (.slice (some ⟨w3.heap.size + 1, 0, none⟩) 1 1)).setCell ⟨w.heap.size + 1, 4, none⟩ (.int .i64 1)) = W := ⟨_, rfl⟩
  rw [hW5] at HF HLF
  rw [hW5]
  have g0 := HF.out.1.cell 0
  have g1 := HF.out.1.cell 1
  have g2 := HF.out.1.cell 2
  have g3 := HF.out.1.cell 3
  have g4 := HF.out.1.cell 4
  refine bodyPost_ret (v := .tuple #[.agg #[.slice A1 Y.length c1, .slice A2 0 c2, .int .i64 (q : Int), .slice (some ⟨w3.heap.size + 1, 0, none⟩) 1 1, .int .i64 1], .int .i64 0]) (by simp [results, Try.results37, go_sem, g0, g1, g2, g3, g4]) rfl ?_
  exact ⟨A1, c1, A2, c2, some ⟨w3.heap.size + 1, 0, none⟩, 1, [(0, B, bs, cB)], rfl, rfl, HLF.out, HF.out.2.2 _ HBT.out (by omega)⟩
end Go.Proofs.Ytkagfjjocmjeoaa
