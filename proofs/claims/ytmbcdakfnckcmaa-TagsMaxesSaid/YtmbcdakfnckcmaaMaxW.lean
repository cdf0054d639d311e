/- The greatest of a row of tags, by the program and by the document: one contract each. -/
import Derived.Test.YtmbcdakfnckcmaaMaxT
import Derived.Test.YtmbcdakfnckcmaaKnownT
namespace Go.Proofs.Ytmbcdakfnckcmaa
open Go.RowKit Mem Be
set_option maxRecDepth 100000
set_option maxHeartbeats 1000000
set_option linter.unusedVariables false
theorem below3 {B g : Nat} {w W : World} (h : Below B w W) (hg : B ≤ g) (x y z : Value) : Below B w (((W.setCell ⟨g, 0, none⟩ x).setCell ⟨g, 1, none⟩ y).setCell ⟨g, 2, none⟩ z) :=
  below_set (below_set (below_set h hg 0 x) hg 1 y) hg 2 z
theorem blk3 {W : World} {g : Nat} {t : TypeId} {a b c : Value} (h : Blk W g t #[a, b, c]) (x y z : Value) : Blk (((W.setCell ⟨g, 0, none⟩ x).setCell ⟨g, 1, none⟩ y).setCell ⟨g, 2, none⟩ z) g t #[x, y, z] := by
  have := ((h.set_ 0 x).set_ 1 y).set_ 2 z
  simpa using this
theorem far3 {W : World} {g g' : Nat} {t : TypeId} {cs : Array Value} (h : Blk W g' t cs) (hg : g' ≠ g) (x y z : Value) : Blk (((W.setCell ⟨g, 0, none⟩ x).setCell ⟨g, 1, none⟩ y).setCell ⟨g, 2, none⟩ z) g' t cs :=
  ((h.far (p := ⟨g, 0, none⟩) hg x).far (p := ⟨g, 1, none⟩) hg y).far (p := ⟨g, 2, none⟩) hg z
theorem maxfunc_any (ts : List Tg) (M : Tg) (hM : MaxIs ts M) (A : Option Addr) (n c : Nat) (hn : n = ts.length) (hn2 : n ≤ 1000000) (w : World) (h : Row w w.heap.size A (tgsC ts)) :
    Calls Try.prog 12 #[.slice A n c, .func (.func 7) #[] #[]] w fun e w' => e = .returned (tgV M) ∧ Below w.heap.size w w' := by
  have hpos : 0 < n := by
    rcases ts with _ | ⟨p, ts⟩
    · exact absurd hM.1 (by simp)
    · simp at hn; omega
  have hts : 0 < ts.length := by omega
  obtain ⟨b, o, rfl, hb, hc⟩ := rowT_open h hts
  have HC := Lib.hid hc
  have HN := Lib.hid hn
  have HM := Lib.hid hM
  obtain ⟨c0, c1, c2⟩ := hc 0 hts
  rw [Nat.zero_mul, Nat.add_zero] at c0 c1 c2
  obtain ⟨⟨p0, p1, p2⟩, hp⟩ : ∃ p, ts[0]'hts = p := ⟨_, rfl⟩
  rw [hp] at c0 c1 c2
  simp only at c0 c1 c2
  have HP := Lib.hid hp
  clear h hc hn hM hp
  go_enter Try.func12, Try.ntmps12
  go_wp2
  go_loopw [6] (fun i wr => ∃ (k : Nat) (m : Tg), 1 ≤ k ∧ k ≤ n ∧ i = .int .i64 k ∧ Hid (MaxIs (ts.take k) m) ∧ Hid (Below w.heap.size w wr) ∧ Hid (Blk wr (w.heap.size + 1) 25 #[.int .i64 m.1, .int .i64 m.2.1, .int .i64 m.2.2]) ∧ Hid (Blk wr w.heap.size 25 #[.int .i64 0, .int .i64 0, .int .i64 0])) (fun i _ => n - (intOf i).toNat)
  case atStart => exact ⟨1, (p0, p1, p2), by omega, by omega, rfl, Lib.hid (max_take_first (by rw [List.getElem?_eq_getElem hts, HP.out])), Lib.hid (((Below.refl _ _).alloc (Nat.le_refl _) _).alloc (by simp) _), Lib.hid (blk_at (by simp) (Blk.new _ _ _)), Lib.hid ((Blk.new _ _ _).alloc _)⟩
  case round =>
    obtain ⟨k, ⟨m0, m1, m2⟩, hk1, hk, rfl, HX, HB, HK, HZ⟩ := hrel
    by_cases hlt : k < n
    · have hkt : k < ts.length := by rw [← HN.out]; exact hlt
      obtain ⟨d0, d1, d2⟩ := HC.out k hkt
      obtain ⟨⟨x0, x1, x2⟩, hx⟩ : ∃ p, ts[k]'hkt = p := ⟨_, rfl⟩
      rw [hx] at d0 d1 d2
      simp only at d0 d1 d2
      have HXX := Lib.hid hx
      rw [← HB.out.cell (p := ⟨b, o + k * 3, none⟩) hb] at d0
      rw [← HB.out.cell (p := ⟨b, o + k * 3 + 1, none⟩) hb] at d1
      rw [← HB.out.cell (p := ⟨b, o + k * 3 + 2, none⟩) hb] at d2
      obtain ⟨cc, hcc⟩ : ∃ q, cmpT x0 x1 x2 m0 m1 m2 = q := ⟨_, rfl⟩
      have HCC := Lib.hid hcc
      have l0 := later_cell d0
      have l1 := later_cell d1
      have l2 := later_cell d2
      obtain ⟨e0, e1, e2⟩ := later_tag HK.out
      clear hx d0 d1 d2 hcc c0 c1 c2
      by_cases hpos : 0 < cc
      · have HST : Hid (MaxIs (ts.take (k + 1)) (x0, x1, x2)) := Lib.hid (by
          have := max_step_new hkt HX.out (by rw [HXX.out]; show 0 < cmpT x0 x1 x2 m0 m1 m2; rw [HCC.out]; exact hpos)
          rw [HXX.out] at this; exact this)
        go_wp2_with fail
        refine wp_region_later (by kernel_rfl) (by kernel_rfl) ?_
        repeat (go_big_quiet_step (first
          | (go_at_call 7; exact later_of (compare_val _ _ _ _ _ _ _ HCC _))))
        refine wpQuiet_nil ?_
        intro w' hw'
        obtain ⟨p, rfl⟩ := hw'
        have HKP := Lib.hid (later_blk HK.out p)
        have f0 := HKP.out.frozen 0
        have f1 := HKP.out.frozen 1
        have f2 := HKP.out.frozen 2
        go_wp2
        go_roundw
        case rel => exact ⟨k + 1, (x0, x1, x2), by omega, by omega, by go_num, HST, Lib.hid (below3 (HB.out.trans (p.bel.mono HB.out.size)) (by omega) _ _ _), Lib.hid (blk3 HKP.out _ _ _), Lib.hid (far3 (later_blk HZ.out p) (by omega) _ _ _)⟩
        case measure => simp [intOf]; omega
      · have HST : Hid (MaxIs (ts.take (k + 1)) (m0, m1, m2)) := Lib.hid (max_step_keep hkt HX.out (by rw [HXX.out]; show cmpT x0 x1 x2 m0 m1 m2 ≤ 0; rw [HCC.out]; omega))
        have hle : cc ≤ 0 := by omega
        clear hpos
        go_wp2_with fail
        refine wp_region_later (by kernel_rfl) (by kernel_rfl) ?_
        repeat (go_big_quiet_step (first
          | (go_at_call 7; exact later_of (compare_val _ _ _ _ _ _ _ HCC _))))
        refine wpQuiet_nil ?_
        intro w' hw'
        obtain ⟨p, rfl⟩ := hw'
        go_wp2
        go_roundw
        case rel => exact ⟨k + 1, (m0, m1, m2), by omega, by omega, by go_num, HST, Lib.hid (HB.out.trans (p.bel.mono HB.out.size)), Lib.hid (later_blk HK.out p), Lib.hid (later_blk HZ.out p)⟩
        case measure => simp [intOf]; omega
    · obtain rfl : k = n := by omega
      have hm : M = (m0, m1, m2) := max_one HM.out (by have := HX.out; rw [List.take_of_length_le (by rw [← HN.out]; exact Nat.le_refl _)] at this; exact this)
      have g0 : wr.cell? ⟨w.heap.size + 1, 0, none⟩ = some (.int .i64 m0) := HK.out.cell 0
      have g1 : wr.cell? ⟨w.heap.size + 1, 1, none⟩ = some (.int .i64 m1) := HK.out.cell 1
      have g2 : wr.cell? ⟨w.heap.size + 1, 2, none⟩ = some (.int .i64 m2) := HK.out.cell 2
      have g3 : wr.cell? ⟨w.heap.size, 0, none⟩ = some (.int .i64 0) := HZ.out.cell 0
      have g4 : wr.cell? ⟨w.heap.size, 1, none⟩ = some (.int .i64 0) := HZ.out.cell 1
      have g5 : wr.cell? ⟨w.heap.size, 2, none⟩ = some (.int .i64 0) := HZ.out.cell 2
      have f0 := HZ.out.frozen 0
      have f1 := HZ.out.frozen 1
      have f2 := HZ.out.frozen 2
      have HMM := Lib.hid hm
      clear hm c0 c1 c2
      go_wp2
      refine bodyPost_ret (v := tgV (m0, m1, m2)) (by simp [results, Try.results12, go_sem, g3, g4, g5, tgV]) rfl ⟨by rw [HMM.out], below3 HB.out (Nat.le_refl _) _ _ _⟩
theorem max_any (ts : List Tg) (M : Tg) (hM : MaxIs ts M) (A : Option Addr) (n c : Nat) (hn : n = ts.length) (hn2 : n ≤ 1000000) (w : World) (h : Row w w.heap.size A (tgsC ts)) :
    Calls Try.prog 6 #[.slice A n c] w fun e w' => e = .returned (tgV M) ∧ Below w.heap.size w w' := by
  have hpos : 0 < n := by
    rcases ts with _ | ⟨p, ts⟩
    · exact absurd hM.1 (by simp)
    · simp at hn; omega
  have hz : ((n : Int) == 0) = false := by simp; omega
  have HC := Lib.hid (maxfunc_any ts M hM A n c hn hn2 (w.alloc (.cells #[.int .i64 0, .int .i64 0, .int .i64 0] 25)) ((h.alloc (Nat.le_refl _) _).more (by simp)))
  obtain ⟨m0, m1, m2⟩ := M
  clear h hn hM
  go_enter Try.func6, Try.ntmps6
  go_wp2_with fail
  refine HC.out.mono ?_
  rintro e w1 ⟨rfl, hb⟩
  have HB := Lib.hid (below_after1 hb)
  have hk := (Blk.new w 25 #[.int .i64 0, .int .i64 0, .int .i64 0]).below hb (by simp)
  have HK := Lib.hid hk
  have g3 : w1.cell? ⟨w.heap.size, 0, none⟩ = some (.int .i64 0) := hk.cell 0
  have g4 : w1.cell? ⟨w.heap.size, 1, none⟩ = some (.int .i64 0) := hk.cell 1
  have g5 : w1.cell? ⟨w.heap.size, 2, none⟩ = some (.int .i64 0) := hk.cell 2
  have f0 := hk.frozen 0
  have f1 := hk.frozen 1
  have f2 := hk.frozen 2
  clear hk hb
  unfold tgV
  go_wp2
  refine bodyPost_ret (v := tgV (m0, m1, m2)) (by simp [results, Try.results6, go_sem, g3, g4, g5, tgV]) rfl ⟨rfl, below3 HB.out (Nat.le_refl _) _ _ _⟩
theorem max_none (A : Option Addr) (c : Nat) (w : World) :
    Calls Try.prog 6 #[.slice A 0 c] w fun e w' => e = .returned (tgV (0, 0, 0)) ∧ Below w.heap.size w w' := by
  go_enter Try.func6, Try.ntmps6
  go_wp2
  refine bodyPost_ret (v := tgV (0, 0, 0)) (by simp [results, Try.results6, go_sem, tgV]) rfl ⟨rfl, (Below.refl _ _).alloc (Nat.le_refl _) _⟩
end Go.Proofs.Ytmbcdakfnckcmaa
