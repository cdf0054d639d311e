/- MsR: Package msgs: Read's head: readKind, readID, readSeq; what is known while the five numbers are read and the message made, in whatever order. -/
import Derived.Test.YtgmennblbeefhaaDoorMsD0
import Derived.Test.YtgmennblbeefhaaDoorMsJ
namespace Go.Proofs.YtgmennblbeefhaaDoor
open Go.RowKit Mem Be Rg
set_option maxRecDepth 100000
set_option maxHeartbeats 4000000
set_option linter.unusedVariables false
theorem readid_call (g : Nat) (bs : List UInt8) (e0 : Int) (w : World) (h : Rd w g bs e0) : Calls Tryd.prog 53 #[.pointer (some ⟨g, 0, none⟩)] w (Reads g (.int .i64 (stepB 1048576 bs e0).1) (stepB 1048576 bs e0).2.1 (stepB 1048576 bs e0).2.2 w) := by
  have HC := Lib.hid (below_call g bs 1048576 e0 w h)
  generalize stepB 1048576 bs e0 = s at HC ⊢
  obtain ⟨v, b1, e1⟩ := s
  dsimp only at HC ⊢
  clear h
  go_enter Tryd.func53, Tryd.ntmps53
  go_wp2_with fail
  refine HC.out.mono ?_
  rintro e w1 ⟨rfl, hr, hg⟩
  go_wp2
  go_ret
  exact ⟨rfl, hr, hg⟩
theorem readseq_call (g : Nat) (bs : List UInt8) (e0 : Int) (w : World) (h : Rd w g bs e0) : Calls Tryd.prog 54 #[.pointer (some ⟨g, 0, none⟩)] w (Reads g (.int .i64 (stepB 1099511627776 bs e0).1) (stepB 1099511627776 bs e0).2.1 (stepB 1099511627776 bs e0).2.2 w) := by
  have HC := Lib.hid (below_call g bs 1099511627776 e0 w h)
  generalize stepB 1099511627776 bs e0 = s at HC ⊢
  obtain ⟨v, b1, e1⟩ := s
  dsimp only at HC ⊢
  clear h
  go_enter Tryd.func54, Tryd.ntmps54
  go_wp2_with fail
  refine HC.out.mono ?_
  rintro e w1 ⟨rfl, hr, hg⟩
  go_wp2
  go_ret
  exact ⟨rfl, hr, hg⟩
theorem readkind_call (g : Nat) (bs : List UInt8) (e0 : Int) (w : World) (h : Rd w g bs e0) : Calls Tryd.prog 52 #[.pointer (some ⟨g, 0, none⟩)] w (Reads g (.int .i64 (stepK12 bs e0).1) (stepK12 bs e0).2.1 (stepK12 bs e0).2.2 w) := by
  have HC := Lib.hid (below_call g bs 18 e0 w h)
  unfold stepK12
  generalize stepB 18 bs e0 = s at HC ⊢
  obtain ⟨v, b1, e1⟩ := s
  dsimp only at HC ⊢
  clear h
  cases hx : exK v
  · have HX := Lib.hid hx
    clear hx
    rw [if_neg (by simp)]
    have HF : Hid (∀ W, Rd W g b1 e1 → Calls Tryd.prog 64 #[.pointer (some ⟨g, 0, none⟩)] W (fun E w' => E = .returned (.tuple #[]) ∧ Rd w' g b1 (if e1 = 0 then 11 else e1) ∧ W.grownBy w' (some g))) := Lib.hid fun W h => fail_call g b1 e1 W h
    generalize (if e1 = 0 then 11 else e1) = e2 at HF ⊢
    go_enter Tryd.func52, Tryd.ntmps52
    go_wp2_with fail
    refine HC.out.mono ?_
    rintro e w1 ⟨rfl, hr, hg⟩
    have HR := Lib.hid hr
    have HG := Lib.hid hg
    clear hr hg
    go_wp2_with (go_at_call 42; refine (exists_val _ _ HX _).mono ?_; rintro e w' ⟨rfl, rfl⟩)
    refine (HF.out _ HR.out).mono ?_
    rintro e w2 ⟨rfl, hr2, hg2⟩
    go_wp2
    go_ret
    exact ⟨rfl, hr2, grown_trans HG.out hg2⟩
  · have HX := Lib.hid hx
    clear hx
    rw [if_pos rfl]
    go_enter Tryd.func52, Tryd.ntmps52
    go_wp2_with fail
    refine HC.out.mono ?_
    rintro e w1 ⟨rfl, hr, hg⟩
    have HR := Lib.hid hr
    have HG := Lib.hid hg
    clear hr hg
    go_wp2_with (go_at_call 42; refine (exists_val _ _ HX _).mono ?_; rintro e w' ⟨rfl, rfl⟩)
    go_ret
    exact ⟨rfl, HR.out, HG.out⟩
theorem gr17 (w : World) (p : Nat) (v0 v1 v2 v3 v4 v5 v6 v7 v8 v9 v10 v11 v12 v13 v14 v15 v16 : Value) : w.grownBy (((((((((((((((((w.setCell ⟨p, 0, none⟩ (v0)).setCell ⟨p, 1, none⟩ (v1)).setCell ⟨p, 2, none⟩ (v2)).setCell ⟨p, 3, none⟩ (v3)).setCell ⟨p, 4, none⟩ (v4)).setCell ⟨p, 5, none⟩ (v5)).setCell ⟨p, 6, none⟩ (v6)).setCell ⟨p, 7, none⟩ (v7)).setCell ⟨p, 8, none⟩ (v8)).setCell ⟨p, 9, none⟩ (v9)).setCell ⟨p, 10, none⟩ (v10)).setCell ⟨p, 11, none⟩ (v11)).setCell ⟨p, 12, none⟩ (v12)).setCell ⟨p, 13, none⟩ (v13)).setCell ⟨p, 14, none⟩ (v14)).setCell ⟨p, 15, none⟩ (v15)).setCell ⟨p, 16, none⟩ (v16)) (some p) :=
  grown_trans (grown_trans (grown_trans (grown_trans (grown_trans (grown_trans (grown_trans (grown_trans (grown_trans (grown_trans (grown_trans (grown_trans (grown_trans (grown_trans (grown_trans (grown_trans (grown_set w p 0 v0) (grown_set _ p 1 v1)) (grown_set _ p 2 v2)) (grown_set _ p 3 v3)) (grown_set _ p 4 v4)) (grown_set _ p 5 v5)) (grown_set _ p 6 v6)) (grown_set _ p 7 v7)) (grown_set _ p 8 v8)) (grown_set _ p 9 v9)) (grown_set _ p 10 v10)) (grown_set _ p 11 v11)) (grown_set _ p 12 v12)) (grown_set _ p 13 v13)) (grown_set _ p 14 v14)) (grown_set _ p 15 v15)) (grown_set _ p 16 v16)
def SpR (g : Nat) (va : Nat → Int) : Nat → Value → Prop
  | 0, v => v = .pointer (some ⟨g, 0, none⟩)
  | 2, v => v = .pointer (some ⟨g, 0, none⟩)
  | 4, v => v = .pointer (some ⟨g, 0, none⟩)
  | 6, v => v = .pointer (some ⟨g, 0, none⟩)
  | 8, v => v = .pointer (some ⟨g, 0, none⟩)
  | 1, v => v = .int .i64 (va 0)
  | 3, v => v = .int .i64 (va 1)
  | 5, v => v = .int .i64 (va 2)
  | 7, v => v = .int .i64 (va 3)
  | 9, v => v = .int .i64 (va 4)
  | 10, v => v = .agg #[.int .i64 (va 0), .int .i64 (va 1), .int .i64 (va 2), .int .i64 (va 3), .int .i64 (va 4), .int .i64 0, .bool false, .string ⟨#[]⟩, .int .i64 0, .int .i64 0, .int .i64 0, .bool false, .slice none 0 0, .slice none 0 0, .slice none 0 0, .int .i64 0, .int .i64 0]
  | _, _ => True
/-- How many numbers are read. -/
def CntR (S : Nat → Bool) (n : Nat) : Prop := n ≤ 5 ∧ S 1 = decide (0 < n) ∧ S 3 = decide (1 < n) ∧ S 5 = decide (2 < n) ∧ S 7 = decide (3 < n) ∧ S 9 = decide (4 < n)
structure JR (W0 : World) (g q : Nat) (ss : Nat → List UInt8 × Int) (va : Nat → Int) (S : Nat → Bool) (vs : Nat → Value) (w : World) : Prop where
  lg : g < W0.heap.size
  lq : q < W0.heap.size
  nq : g < q
  bel : Below g W0 w
  ptr : Blk w q 80 #[.pointer (some ⟨g, 0, none⟩)]
  cnt : ∃ n, CntR S n ∧ Rd w g (ss n).1 (ss n).2
  sp : ∀ i, S i = true → SpR g va i (vs i)
  v11 : S 11 = true → ∃ p, vs 11 = .pointer (some ⟨p, 0, none⟩) ∧ W0.heap.size ≤ p ∧ (S 12 = false → Blk w p 34 #[.int .i64 0, .int .i64 0, .int .i64 0, .int .i64 0, .int .i64 0, .int .i64 0, .bool false, .string ⟨#[]⟩, .int .i64 0, .int .i64 0, .int .i64 0, .bool false, .slice none 0 0, .slice none 0 0, .slice none 0 0, .int .i64 0, .int .i64 0]) ∧ (S 12 = true → Blk w p 34 #[.int .i64 (va 0), .int .i64 (va 1), .int .i64 (va 2), .int .i64 (va 3), .int .i64 (va 4), .int .i64 0, .bool false, .string ⟨#[]⟩, .int .i64 0, .int .i64 0, .int .i64 0, .bool false, .slice none 0 0, .slice none 0 0, .slice none 0 0, .int .i64 0, .int .i64 0])
  c12 : S 12 = true → S 11 = true
section
open RelyJ
variable {W0 w w' : World} {g q : Nat} {ss : Nat → List UInt8 × Int} {va : Nat → Int} {S : Nat → Bool} {vs : Nat → Value}
theorem sp_up (h : ∀ i, S i = true → SpR g va i (vs i)) (i : Nat) (v : Value) (hv : SpR g va i v) : ∀ k, up S i true k = true → SpR g va k (up vs i v k) := fun k hk => by
  by_cases e : k = i
  · subst e; rw [up_same]; exact hv
  · rw [up_ne _ _ e] at hk ⊢; exact h k hk
theorem JR.load (h : JR W0 g q ss va S vs w) (i : Nat) (v : Value) (hi : i ≠ 1 ∧ i ≠ 3 ∧ i ≠ 5 ∧ i ≠ 7 ∧ i ≠ 9 ∧ i ≠ 11 ∧ i ≠ 12) (hv : SpR g va i v) : JR W0 g q ss va (up S i true) (up vs i v) w := by
  obtain ⟨i1, i3, i5, i7, i9, i11, i12⟩ := hi
  obtain ⟨n, hn, hr⟩ := h.cnt
  refine ⟨h.lg, h.lq, h.nq, h.bel, h.ptr, ⟨n, ?_, hr⟩, sp_up h.sp i v hv, ?_, ?_⟩
  · unfold CntR at hn ⊢
    rw [up_ne _ _ (Ne.symm i1), up_ne _ _ (Ne.symm i3), up_ne _ _ (Ne.symm i5), up_ne _ _ (Ne.symm i7), up_ne _ _ (Ne.symm i9)]
    exact hn
  · rw [up_ne _ _ (Ne.symm i11), up_ne _ _ (Ne.symm i11), up_ne _ _ (Ne.symm i12)]
    exact h.v11
  · rw [up_ne _ _ (Ne.symm i11), up_ne _ _ (Ne.symm i12)]
    exact h.c12
theorem JR.call (h : JR W0 g q ss va S vs w) (i n : Nat) (v : Value) (hi : i ≠ 11 ∧ i ≠ 12) (hv : SpR g va i v) (hc : CntR (up S i true) n) (hr : Rd w' g (ss n).1 (ss n).2) (hg : w.grownBy w' (some g)) : JR W0 g q ss va (up S i true) (up vs i v) w' := by
  obtain ⟨i11, i12⟩ := hi
  obtain ⟨_, _, hr0⟩ := h.cnt
  have hlt := rd_lt hr0
  refine ⟨h.lg, h.lq, h.nq, below_grown h.bel hg (Nat.le_of_lt hlt) (Nat.le_refl _), h.ptr.grown hg (fun e => by injection e with e; have := h.nq; omega), ⟨n, hc, hr⟩, sp_up h.sp i v hv, ?_, ?_⟩
  · rw [up_ne _ _ (Ne.symm i11), up_ne _ _ (Ne.symm i11), up_ne _ _ (Ne.symm i12)]
    intro h11
    obtain ⟨p, h1, h2, h3, h4⟩ := h.v11 h11
    have hne : some p ≠ some g := fun e => by injection e with e; have := h.lg; omega
    exact ⟨p, h1, h2, fun k => (h3 k).grown hg (fun e => hne (by first | exact e | exact e.symm)), fun k => (h4 k).grown hg (fun e => hne (by first | exact e | exact e.symm))⟩
  · rw [up_ne _ _ (Ne.symm i11), up_ne _ _ (Ne.symm i12)]
    exact h.c12
theorem cnt_at {S : Nat → Bool} {n : Nat} (h : CntR S n) : (S 1 = false → n = 0) ∧ (S 1 = true → S 3 = false → n = 1) ∧ (S 3 = true → S 5 = false → n = 2) ∧ (S 5 = true → S 7 = false → n = 3) ∧ (S 7 = true → S 9 = false → n = 4) ∧ (S 9 = true → n = 5) := by
  obtain ⟨h0, h1, h2, h3, h4, h5⟩ := h
  rw [h1, h2, h3, h4, h5]
  simp only [decide_eq_true_eq, decide_eq_false_iff_not]
  omega
theorem JR.at0 (h : JR W0 g q ss va S vs w) (h0 : S 1 = false) (h1 : True) : Rd w g (ss 0).1 (ss 0).2 ∧ CntR (up S 1 true) 1 := by
  obtain ⟨n, hn, hr⟩ := h.cnt
  have hh := cnt_at hn
  have e : n = 0 := hh.1 h0
  subst e
  refine ⟨hr, ?_⟩
  unfold CntR at hn ⊢
  obtain ⟨g0, g1, g2, g3, g4, g5⟩ := hn
  refine ⟨by omega, ?_, ?_, ?_, ?_, ?_⟩
  · exact up_same _ _ _
  · rw [up_ne _ _ (by omega)]; exact g2.trans (by decide)
  · rw [up_ne _ _ (by omega)]; exact g3.trans (by decide)
  · rw [up_ne _ _ (by omega)]; exact g4.trans (by decide)
  · rw [up_ne _ _ (by omega)]; exact g5.trans (by decide)
theorem JR.at1 (h : JR W0 g q ss va S vs w) (h0 : S 3 = false) (h1 : S 1 = true) : Rd w g (ss 1).1 (ss 1).2 ∧ CntR (up S 3 true) 2 := by
  obtain ⟨n, hn, hr⟩ := h.cnt
  have hh := cnt_at hn
  have e : n = 1 := hh.2.1 h1 h0
  subst e
  refine ⟨hr, ?_⟩
  unfold CntR at hn ⊢
  obtain ⟨g0, g1, g2, g3, g4, g5⟩ := hn
  refine ⟨by omega, ?_, ?_, ?_, ?_, ?_⟩
  · rw [up_ne _ _ (by omega)]; exact g1.trans (by decide)
  · exact up_same _ _ _
  · rw [up_ne _ _ (by omega)]; exact g3.trans (by decide)
  · rw [up_ne _ _ (by omega)]; exact g4.trans (by decide)
  · rw [up_ne _ _ (by omega)]; exact g5.trans (by decide)
theorem JR.at2 (h : JR W0 g q ss va S vs w) (h0 : S 5 = false) (h1 : S 3 = true) : Rd w g (ss 2).1 (ss 2).2 ∧ CntR (up S 5 true) 3 := by
  obtain ⟨n, hn, hr⟩ := h.cnt
  have hh := cnt_at hn
  have e : n = 2 := hh.2.2.1 h1 h0
  subst e
  refine ⟨hr, ?_⟩
  unfold CntR at hn ⊢
  obtain ⟨g0, g1, g2, g3, g4, g5⟩ := hn
  refine ⟨by omega, ?_, ?_, ?_, ?_, ?_⟩
  · rw [up_ne _ _ (by omega)]; exact g1.trans (by decide)
  · rw [up_ne _ _ (by omega)]; exact g2.trans (by decide)
  · exact up_same _ _ _
  · rw [up_ne _ _ (by omega)]; exact g4.trans (by decide)
  · rw [up_ne _ _ (by omega)]; exact g5.trans (by decide)
theorem JR.at3 (h : JR W0 g q ss va S vs w) (h0 : S 7 = false) (h1 : S 5 = true) : Rd w g (ss 3).1 (ss 3).2 ∧ CntR (up S 7 true) 4 := by
  obtain ⟨n, hn, hr⟩ := h.cnt
  have hh := cnt_at hn
  have e : n = 3 := hh.2.2.2.1 h1 h0
  subst e
  refine ⟨hr, ?_⟩
  unfold CntR at hn ⊢
  obtain ⟨g0, g1, g2, g3, g4, g5⟩ := hn
  refine ⟨by omega, ?_, ?_, ?_, ?_, ?_⟩
  · rw [up_ne _ _ (by omega)]; exact g1.trans (by decide)
  · rw [up_ne _ _ (by omega)]; exact g2.trans (by decide)
  · rw [up_ne _ _ (by omega)]; exact g3.trans (by decide)
  · exact up_same _ _ _
  · rw [up_ne _ _ (by omega)]; exact g5.trans (by decide)
theorem JR.at4 (h : JR W0 g q ss va S vs w) (h0 : S 9 = false) (h1 : S 7 = true) : Rd w g (ss 4).1 (ss 4).2 ∧ CntR (up S 9 true) 5 := by
  obtain ⟨n, hn, hr⟩ := h.cnt
  have hh := cnt_at hn
  have e : n = 4 := hh.2.2.2.2.1 h1 h0
  subst e
  refine ⟨hr, ?_⟩
  unfold CntR at hn ⊢
  obtain ⟨g0, g1, g2, g3, g4, g5⟩ := hn
  refine ⟨by omega, ?_, ?_, ?_, ?_, ?_⟩
  · rw [up_ne _ _ (by omega)]; exact g1.trans (by decide)
  · rw [up_ne _ _ (by omega)]; exact g2.trans (by decide)
  · rw [up_ne _ _ (by omega)]; exact g3.trans (by decide)
  · rw [up_ne _ _ (by omega)]; exact g4.trans (by decide)
  · exact up_same _ _ _
theorem JR.alloc (h : JR W0 g q ss va S vs w) (h12 : S 12 = false) : JR W0 g q ss va (up S 11 true) (up vs 11 (.pointer (some ⟨w.heap.size, 0, none⟩))) (w.alloc (.cells #[.int .i64 0, .int .i64 0, .int .i64 0, .int .i64 0, .int .i64 0, .int .i64 0, .bool false, .string ⟨#[]⟩, .int .i64 0, .int .i64 0, .int .i64 0, .bool false, .slice none 0 0, .slice none 0 0, .slice none 0 0, .int .i64 0, .int .i64 0] 34)) := by
  obtain ⟨n, hn, hr⟩ := h.cnt
  have hsz : W0.heap.size ≤ w.heap.size := h.bel.size
  refine ⟨h.lg, h.lq, h.nq, h.bel.alloc (by have := h.lg; omega) _, h.ptr.alloc _, ⟨n, ?_, rd_alloc hr _⟩, sp_up h.sp 11 _ trivial, ?_, ?_⟩
  · unfold CntR at hn ⊢
    rw [up_ne _ _ (by omega), up_ne _ _ (by omega), up_ne _ _ (by omega), up_ne _ _ (by omega), up_ne _ _ (by omega)]
    exact hn
  · intro _
    rw [up_same, up_ne _ _ (by omega)]
    exact ⟨_, rfl, hsz, fun _ => Blk.new _ _ _, fun e => (by rw [h12] at e; cases e)⟩
  · intro _; exact up_same _ _ _
theorem JR.store {p : Nat} (h : JR W0 g q ss va S vs w) (h11 : S 11 = true) (hp : vs 11 = .pointer (some ⟨p, 0, none⟩)) (h0 : W0.heap.size ≤ p) (hz : Blk w p 34 #[.int .i64 0, .int .i64 0, .int .i64 0, .int .i64 0, .int .i64 0, .int .i64 0, .bool false, .string ⟨#[]⟩, .int .i64 0, .int .i64 0, .int .i64 0, .bool false, .slice none 0 0, .slice none 0 0, .slice none 0 0, .int .i64 0, .int .i64 0]) :
    JR W0 g q ss va (up S 12 true) (up vs 12 undef) (((((((((((((((((w.setCell ⟨p, 0, none⟩ (.int .i64 (va 0))).setCell ⟨p, 1, none⟩ (.int .i64 (va 1))).setCell ⟨p, 2, none⟩ (.int .i64 (va 2))).setCell ⟨p, 3, none⟩ (.int .i64 (va 3))).setCell ⟨p, 4, none⟩ (.int .i64 (va 4))).setCell ⟨p, 5, none⟩ (.int .i64 0)).setCell ⟨p, 6, none⟩ (.bool false)).setCell ⟨p, 7, none⟩ (.string ⟨#[]⟩)).setCell ⟨p, 8, none⟩ (.int .i64 0)).setCell ⟨p, 9, none⟩ (.int .i64 0)).setCell ⟨p, 10, none⟩ (.int .i64 0)).setCell ⟨p, 11, none⟩ (.bool false)).setCell ⟨p, 12, none⟩ (.slice none 0 0)).setCell ⟨p, 13, none⟩ (.slice none 0 0)).setCell ⟨p, 14, none⟩ (.slice none 0 0)).setCell ⟨p, 15, none⟩ (.int .i64 0)).setCell ⟨p, 16, none⟩ (.int .i64 0)) := by
  obtain ⟨n, hn, hr⟩ := h.cnt
  have hg := gr17 w p (.int .i64 (va 0)) (.int .i64 (va 1)) (.int .i64 (va 2)) (.int .i64 (va 3)) (.int .i64 (va 4)) (.int .i64 0) (.bool false) (.string ⟨#[]⟩) (.int .i64 0) (.int .i64 0) (.int .i64 0) (.bool false) (.slice none 0 0) (.slice none 0 0) (.slice none 0 0) (.int .i64 0) (.int .i64 0)
  have hk := set17 hz (.int .i64 (va 0)) (.int .i64 (va 1)) (.int .i64 (va 2)) (.int .i64 (va 3)) (.int .i64 (va 4)) (.int .i64 0) (.bool false) (.string ⟨#[]⟩) (.int .i64 0) (.int .i64 0) (.int .i64 0) (.bool false) (.slice none 0 0) (.slice none 0 0) (.slice none 0 0) (.int .i64 0) (.int .i64 0)
  have hlg := h.lg
  have hlq := h.lq
  have hlt := rd_lt hr
  refine ⟨hlg, hlq, h.nq, below_grown h.bel hg (Nat.le_of_lt hlt) (by omega), h.ptr.grown hg (fun e => by injection e with e; omega), ⟨n, ?_, rd_other hr hg (by omega)⟩, sp_up h.sp 12 _ trivial, ?_, ?_⟩
  · unfold CntR at hn ⊢
    rw [up_ne _ _ (by omega), up_ne _ _ (by omega), up_ne _ _ (by omega), up_ne _ _ (by omega), up_ne _ _ (by omega)]
    exact hn
  · intro _
    rw [up_ne _ _ (by omega), up_same]
    exact ⟨p, hp, h0, fun e => (by cases e), fun _ => hk⟩
  · intro _; rw [up_ne _ _ (by omega)]; exact h11
end
end Go.Proofs.YtgmennblbeefhaaDoor
