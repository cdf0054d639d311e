/- The greatest of a row of tags, by the document. -/
import Derived.Test.YtmbcdakfnckcmaaMaxW
import Derived.Deep.LoopGhost
namespace Go.Proofs.Ytmbcdakfnckcmaa
open Go.RowKit Mem Be
set_option maxRecDepth 100000
set_option maxHeartbeats 2000000
set_option linter.unusedVariables false
/-- All of the first j are no greater than x. -/
def AllLe (ts : List Tg) (x : Tg) (j : Nat) : Prop := ∀ y ∈ ts.take j, 0 ≤ cT x y
theorem allLe_step {ts : List Tg} {x : Tg} {j : Nat} (hj : j < ts.length) : AllLe ts x (j + 1) ↔ (AllLe ts x j ∧ 0 ≤ cT x ts[j]) := by
  unfold AllLe
  rw [List.take_succ_eq_append_getElem hj]
  simp only [List.mem_append, List.mem_singleton]
  constructor
  · exact fun h => ⟨fun y hy => h y (Or.inl hy), h _ (Or.inr rfl)⟩
  · rintro ⟨h1, h2⟩ y (hy | rfl)
    · exact h1 y hy
    · exact h2
theorem refmax_any (ts : List Tg) (M : Tg) (hM : MaxIs ts M) (A : Option Addr) (n c : Nat) (hn : n = ts.length) (hn2 : n ≤ 1000000) (w : World) (h : Row w w.heap.size A (tgsC ts)) :
    Calls Try.prog 8 #[.slice A n c] w fun e w' => e = .returned (tgV M) ∧ Below w.heap.size w w' := by
  have hpos : 0 < n := by
    rcases ts with _ | ⟨p, ts⟩
    · exact absurd hM.1 (by simp)
    · simp at hn; omega
  have hts : 0 < ts.length := by omega
  obtain ⟨b, o, rfl, hb, hc⟩ := rowT_open h hts
  have HC := Lib.hid hc
  have HN := Lib.hid hn
  have HM := Lib.hid hM
  clear h hc hn hM
  go_enter Try.func8, Try.ntmps8
  go_wp2
  go_loopg [3] n (fun gk i wr => ∃ k : Nat, k + gk = n ∧ i = .int .i64 k ∧ Hid (M ∉ ts.take k) ∧ Hid (Below w.heap.size w wr) ∧ Hid (Blk wr w.heap.size 25 #[.int .i64 0, .int .i64 0, .int .i64 0]))
  case atStart => exact ⟨0, by omega, rfl, Lib.hid (by simp), Lib.hid ((Below.refl _ _).alloc (Nat.le_refl _) _), Lib.hid (Blk.new _ _ _)⟩
  case round =>
    obtain ⟨k, hk, rfl, HX, HB, HZ⟩ := hrel
    by_cases hlt : k < n
    · obtain ⟨G, rfl⟩ : ∃ G, gk = G + 1 := ⟨gk - 1, by omega⟩
      have hkt : k < ts.length := by rw [← HN.out]; exact hlt
      obtain ⟨⟨x0, x1, x2⟩, hx⟩ : ∃ p, ts[k]'hkt = p := ⟨_, rfl⟩
      have HXX := Lib.hid hx
      clear hx
      go_wp2
      go_loopg [4, 5] n (fun g2 v i w2 => ∃ (j : Nat) (bb : Bool), j + g2 = n ∧ i = .int .i64 j ∧ v = .bool bb ∧ Hid (bb = true ↔ AllLe ts (x0, x1, x2) j) ∧ Hid (Below w.heap.size w w2) ∧ Hid (Blk w2 w.heap.size 25 #[.int .i64 0, .int .i64 0, .int .i64 0]))
      case atStart => exact ⟨0, true, by omega, rfl, rfl, Lib.hid ⟨fun _ y hy => absurd hy (by simp), fun _ => rfl⟩, HB, HZ⟩
      case round =>
        obtain ⟨j, bb, hj, rfl, rfl, HL, HB2, HZ2⟩ := hrel
        by_cases hjl : j < n
        · have hjt : j < ts.length := by rw [← HN.out]; exact hjl
          obtain ⟨d0, d1, d2⟩ := HC.out k hkt
          obtain ⟨e0, e1, e2⟩ := HC.out j hjt
          obtain ⟨⟨y0, y1, y2⟩, hy⟩ : ∃ p, ts[j]'hjt = p := ⟨_, rfl⟩
          rw [HXX.out] at d0 d1 d2
          rw [hy] at e0 e1 e2
          simp only at d0 d1 d2 e0 e1 e2
          obtain ⟨cc, hcc⟩ : ∃ q, cmpT x0 x1 x2 y0 y1 y2 = q := ⟨_, rfl⟩
          have hstep : AllLe ts (x0, x1, x2) (j + 1) ↔ (AllLe ts (x0, x1, x2) j ∧ 0 ≤ cc) := by
            rw [allLe_step hjt, hy, ← hcc]; exact Iff.rfl
          have HCC := Lib.hid hcc
          have HSS := Lib.hid hstep
          rw [← HB2.out.cell (p := ⟨b, o + k * 3, none⟩) hb] at d0
          rw [← HB2.out.cell (p := ⟨b, o + k * 3 + 1, none⟩) hb] at d1
          rw [← HB2.out.cell (p := ⟨b, o + k * 3 + 2, none⟩) hb] at d2
          rw [← HB2.out.cell (p := ⟨b, o + j * 3, none⟩) hb] at e0
          rw [← HB2.out.cell (p := ⟨b, o + j * 3 + 1, none⟩) hb] at e1
          rw [← HB2.out.cell (p := ⟨b, o + j * 3 + 2, none⟩) hb] at e2
          have l0 := later_cell d0
          have l1 := later_cell d1
          have l2 := later_cell d2
          have m0 := later_cell e0
          have m1 := later_cell e1
          have m2 := later_cell e2
          clear hy d0 d1 d2 e0 e1 e2 hcc hstep
          cases bb
          · have hnext : Hid (false = true ↔ AllLe ts (x0, x1, x2) (j + 1)) := Lib.hid ⟨fun h => absurd h (by decide), fun h => HL.out.2 (HSS.out.1 h).1⟩
            go_wp2_with fail
            refine wp_region_later (by kernel_rfl) (by kernel_rfl) ?_
            repeat (go_big_quiet_step (fail))
            refine wpQuiet_nil ?_
            intro w' hw'
            obtain ⟨p, rfl⟩ := hw'
            go_wp2
            go_roundg (gk - 1)
            case measure => omega
            case rel => exact ⟨j + 1, false, by omega, by go_num, rfl, hnext, Lib.hid (HB2.out.trans (p.bel.mono HB2.out.size)), Lib.hid (later_blk HZ2.out p)⟩
          · have hnext : Hid (decide (0 ≤ cc) = true ↔ AllLe ts (x0, x1, x2) (j + 1)) := Lib.hid (by rw [HSS.out, decide_eq_true_iff]; exact ⟨fun h => ⟨HL.out.1 rfl, h⟩, fun h => h.2⟩)
            go_wp2_with fail
            refine wp_region_later (by kernel_rfl) (by kernel_rfl) ?_
            repeat (go_big_quiet_step (first
              | (go_at_call 15; exact later_of (refcompare_val _ _ _ _ _ _ _ HCC _))))
            refine wpQuiet_nil ?_
            intro w' hw'
            obtain ⟨p, rfl⟩ := hw'
            go_wp2
            go_roundg (gk - 1)
            case measure => omega
            case rel => exact ⟨j + 1, decide (0 ≤ cc), by omega, by go_num, rfl, hnext, Lib.hid (HB2.out.trans (p.bel.mono HB2.out.size)), Lib.hid (later_blk HZ2.out p)⟩
        · obtain rfl : j = n := by omega
          have hall : Hid (bb = true ↔ MaxIs ts (x0, x1, x2)) := Lib.hid (by
            rw [HL.out]
            unfold AllLe MaxIs
            rw [List.take_of_length_le (by rw [← HN.out]; exact Nat.le_refl _)]
            exact ⟨fun h => ⟨by rw [← HXX.out]; exact List.getElem_mem hkt, h⟩, fun h => h.2⟩)
          cases bb
          · have hnot : Hid (M ∉ ts.take (k + 1)) := Lib.hid (by
              rw [List.take_succ_eq_append_getElem hkt, HXX.out]
              intro hm
              rcases List.mem_append.1 hm with hm | hm
              · exact HX.out hm
              · have e : M = (x0, x1, x2) := by simpa using hm
                have := hall.out.2 (by rw [← e]; exact HM.out)
                cases this)
            go_wp2
            go_roundg G
            case measure => omega
            case rel => exact ⟨k + 1, by omega, by go_num, hnot, HB2, HZ2⟩
          · have hm : M = (x0, x1, x2) := max_one HM.out (hall.out.1 rfl)
            have HMM := Lib.hid hm
            obtain ⟨d0, d1, d2⟩ := HC.out k hkt
            rw [HXX.out] at d0 d1 d2
            simp only at d0 d1 d2
            rw [← HB2.out.cell (p := ⟨b, o + k * 3, none⟩) hb] at d0
            rw [← HB2.out.cell (p := ⟨b, o + k * 3 + 1, none⟩) hb] at d1
            rw [← HB2.out.cell (p := ⟨b, o + k * 3 + 2, none⟩) hb] at d2
            have g3 : wr.cell? ⟨w.heap.size, 0, none⟩ = some (.int .i64 0) := HZ2.out.cell 0
            have g4 : wr.cell? ⟨w.heap.size, 1, none⟩ = some (.int .i64 0) := HZ2.out.cell 1
            have g5 : wr.cell? ⟨w.heap.size, 2, none⟩ = some (.int .i64 0) := HZ2.out.cell 2
            have f0 := HZ2.out.frozen 0
            have f1 := HZ2.out.frozen 1
            have f2 := HZ2.out.frozen 2
            clear hm
            go_wp2
            refine bodyPost_ret (v := tgV (x0, x1, x2)) (by simp [results, Try.results8, go_sem, g3, g4, g5, tgV]) rfl ⟨by rw [HMM.out], below3 HB2.out (Nat.le_refl _) _ _ _⟩
    · exfalso
      have hk2 : n ≤ k := by omega
      have := HX.out
      rw [List.take_of_length_le (by rw [← HN.out]; exact hk2)] at this
      exact this HM.out.1
theorem refmax_none (A : Option Addr) (c : Nat) (w : World) :
    Calls Try.prog 8 #[.slice A 0 c] w fun e w' => e = .returned (tgV (0, 0, 0)) ∧ Below w.heap.size w w' := by
  go_enter Try.func8, Try.ntmps8
  go_wp2
  go_loop [3] (fun i => i = .int .i64 0) (fun _ => 0)
  case atStart => rfl
  case round =>
    subst hrel
    go_wp2
    refine bodyPost_ret (v := tgV (0, 0, 0)) (by simp [results, Try.results8, go_sem, tgV]) rfl ⟨rfl, (Below.refl _ _).alloc (Nat.le_refl _) _⟩
end Go.Proofs.Ytmbcdakfnckcmaa
