/- Points of which no two that stand side by side are the same are left as they are (Go's slices.Compact). -/
import Derived.Test.YtafajikjojpaaaaRgB
namespace Go.Proofs.Ytafajikjojpaaaa
open Go.RowKit Mem Rg
set_option maxRecDepth 100000
set_option maxHeartbeats 4000000
set_option linter.unusedVariables false
theorem compact_any (l : List Pt) (hs : SL l) (B n c : Nat) (A : Option Addr) (hn : n = l.length) (hl : n ≤ 1000000) (w : World) (h : Row w B A (ptsC l)) :
    Calls Try.prog 79 #[.slice A n c] w (Quiet (.slice A n c) w) := by
  have HR := Lib.hid h
  have HN := Lib.hid hn
  have HS := Lib.hid hs
  have hnl : (n : Int) ≤ 1000000 := by omega
  clear h hn hs
  by_cases h2 : (n : Int) < 2
  · go_enter Try.func79, Try.ntmps79
    go_wp2
    go_ret
    exact ⟨rfl, 0, rfl⟩
  · go_enter Try.func79, Try.ntmps79
    go_wp2
    go_loopw [3] (fun i wr => ∃ k : Nat, k + 1 ≤ n ∧ i = .int .i64 ((k : Int) + 1) ∧ Hid (∃ q, wr = w.drewN q)) (fun i _ => n - (intOf i).toNat)
    case atStart => exact ⟨0, by omega, rfl, Lib.hid ⟨0, rfl⟩⟩
    case round =>
      obtain ⟨k, hk, rfl, HQ⟩ := hrel
      by_cases hlt : (k : Int) + 1 < (n : Int)
      · obtain ⟨b, o, rfl, _, hc⟩ := pts_open (quiet_row HR.out HQ.out) (by rw [← HN.out]; omega)
        obtain ⟨a0, a1⟩ := hc k (by rw [← HN.out]; omega)
        obtain ⟨b0, b1⟩ := hc (k + 1) (by rw [← HN.out]; omega)
        have hst : ltP (l[k]'(by rw [← HN.out]; omega)) (l[k + 1]'(by rw [← HN.out]; omega)) := List.pairwise_iff_getElem.1 HS.out k (k + 1) (by rw [← HN.out]; omega) (by rw [← HN.out]; omega) (by omega)
        obtain ⟨⟨x0, x1⟩, hx⟩ : ∃ x, l[k]'(by rw [← HN.out]; omega) = x := ⟨_, rfl⟩
        obtain ⟨⟨y0, y1⟩, hy⟩ : ∃ y, l[k + 1]'(by rw [← HN.out]; omega) = y := ⟨_, rfl⟩
        rw [hx] at a0 a1 hst
        rw [hy] at b0 b1 hst
        unfold ltP at hst
        simp only at a0 a1 b0 b1 hst
        have hki : (0 : Int) ≤ (k : Int) := by omega
        have hki0 : (0 : Int) ≤ (k : Int) + 1 := by omega
        have hki4 : (k : Int) < (n : Int) := by omega
        have hs0 : IntKind.i64.wrap ((k : Int) + 1) = (k : Int) + 1 := IntWalk.i64_in _ (by omega)
        have hs1 : IntKind.i64.wrap ((k : Int) + 1 - 1) = (k : Int) := by rw [show (k : Int) + 1 - 1 = (k : Int) by omega]; exact IntWalk.i64_in _ (by omega)
        have hs2 : ((k : Int) + 1).toNat = k + 1 := by omega
        clear hc hx hy
        rcases hst with hst | ⟨hst, hst2⟩
        · have e0 : ((y0 : Int) == (x0 : Int)) = false := by simp; omega
          go_wp2
          go_quiet (fail)
          go_wp2
          go_roundw
          case rel => exact ⟨k + 1, by omega, by go_num, Lib.hid (by obtain ⟨q, rfl⟩ := HQ.out; exact ⟨_, World.drewN_drewN _ _ _⟩)⟩
          case measure => simp [intOf]; omega
        · have e0 : ((y0 : Int) == (x0 : Int)) = true := by simp; omega
          have e1 : (y1 == x1) = false := by simp; omega
          go_wp2
          go_quiet (fail)
          go_wp2
          go_roundw
          case rel => exact ⟨k + 1, by omega, by go_num, Lib.hid (by obtain ⟨q, rfl⟩ := HQ.out; exact ⟨_, World.drewN_drewN _ _ _⟩)⟩
          case measure => simp [intOf]; omega
      · go_wp2
        go_ret
        exact ⟨rfl, HQ.out⟩
end Go.Proofs.Ytafajikjojpaaaa
