/- Package disk: count, slices.Grow of a row of the call's own. -/
import Derived.Test.YtmmhiolmeijemaaDskC
import Derived.Deep.LoopGhost
import Derived.Lib.AppendZerosOnto
namespace Go.Proofs.Ytmmhiolmeijemaa
open Go.RowKit Mem
set_option maxRecDepth 10000
set_option maxHeartbeats 2000000
set_option linter.unusedVariables false
/-- What is counted: all, or that they are too many. -/
def cntZ (t m : Nat) : Int := if t ≤ m then (t : Int) else 0
def cntE (t m : Nat) : Int := if t ≤ m then 0 else 3
theorem count_any (n m B c : Nat) (A : Option Addr) (rs : List RowV) (hn : n = rs.length) (hnl : n ≤ maxLen) (hx : ∀ r ∈ rs, r.2.1.length ≤ maxLen) (hm : m ≤ 4194304) (w : World) (h : Row w B A (rs.map rowV)) :
    Calls Try.prog 30 #[.slice A n c, .int .i64 (m : Int)] w fun e w' => e = .returned (.tuple #[.int .i64 (cntZ (catB rs).length m), .int .i64 (cntE (catB rs).length m)]) ∧ w = w' := by
  have HR := Lib.hid h
  have HX := Lib.hid hx
  have HN := Lib.hid hn
  have hmi : (m : Int) ≤ 4194304 := by omega
  have hni : (n : Int) ≤ 9223372036854775807 := by unfold maxLen at hnl; omega
  clear h hx hn hnl hm
  go_enter Try.func30, Try.ntmps30
  go_wp2_with fail
  go_step3
  go_wp2_with fail
  go_step3
  go_wp2_with fail
  go_loopg [6, 7, 12] n (fun gk z e i wr => ∃ k : Nat, k + gk = n ∧ i = .int .i64 k ∧ z = .int .i64 ((catB (rs.take k)).length : Nat) ∧ e = .int .i64 0 ∧ Hid ((catB (rs.take k)).length ≤ m) ∧ w = wr)
  case atStart => exact ⟨0, by omega, rfl, rfl, rfl, Lib.hid (by simp [catB]), rfl⟩
  case round =>
    obtain ⟨k, hk, rfl, rfl, rfl, HLE, rfl⟩ := hrel
    by_cases hlt : k < n
    · have hk1 : k < rs.length := by rw [← HN.out]; exact hlt
      obtain ⟨b, o, rfl, _, hc⟩ := HR.out.open_ (by simp; omega)
      have hcell : w.cell? ⟨b, o + k, none⟩ = some (rowV rs[k]) := (hc k (by simpa using hk1)).trans (congrArg some (List.getElem_map (f := rowV) (h := by simpa using hk1)))
      have hxk := HX.out rs[k] (List.getElem_mem hk1)
      obtain ⟨⟨A1, y1, c1⟩, hy1⟩ : ∃ y, rs[k] = y := ⟨_, rfl⟩
      rw [hy1] at hcell hxk
      unfold rowV at hcell
      simp only at hcell hxk
      have hs := catB_snoc rs k hk1
      rw [hy1] at hs
      have hle := catB_le rs (k + 1)
      rw [hs, List.length_append] at hle
      simp only at hle
      obtain ⟨z, hz⟩ : ∃ z, (catB (rs.take k)).length = z := ⟨_, rfl⟩
      have HS : Hid ((catB (rs.take (k + 1))).length = z + y1.length) := Lib.hid (by rw [hs, List.length_append, hz])
      have hzm := HLE.out
      rw [hz] at hle hzm ⊢
      have hzi : (z : Int) ≤ (m : Int) := by omega
      have hz0 : (0 : Int) ≤ (z : Int) := by omega
      have hyl : (y1.length : Int) ≤ 9223372036854775807 := by unfold maxLen at hxk; omega
      have hki : (0 : Int) ≤ (k : Int) := by omega
      have hki2 : (k : Int) < (n : Int) := by omega
      by_cases hf : y1.length + z ≤ m
      · have hfi : (y1.length : Int) ≤ (m : Int) - (z : Int) := by omega
        have HF := Lib.hid hf
        have HG : Hid (k + 1 + (gk - 1) = n ∧ gk - 1 < gk) := Lib.hid (by omega)
        clear hc hy1 hs hz hle hf hxk
        go_wp2
        go_roundg (gk - 1)
        case measure => exact HG.out.2
        case rel => exact ⟨k + 1, HG.out.1, by go_num, by rw [HS.out]; go_num, rfl, Lib.hid (by rw [HS.out]; have := HF.out; omega), rfl⟩
      · have hfi : (m : Int) - (z : Int) < (y1.length : Int) := by omega
        have HT : Hid (cntZ (catB rs).length m = 0 ∧ cntE (catB rs).length m = 3) := Lib.hid ⟨if_neg (by omega), if_neg (by omega)⟩
        clear hc hy1 hs hz hle hf hxk
        go_wp2
        try rw [Exit.noGoto_ret]
        go_ret2
        rw [HT.out.1, HT.out.2]
        exact ⟨rfl, rfl⟩
    · obtain rfl : k = n := by omega
      have ht : rs.take k = rs := List.take_of_length_le (by rw [← HN.out]; omega)
      rw [ht]
      have hle := HLE.out
      rw [ht] at hle
      have HT : Hid (cntZ (catB rs).length m = ((catB rs).length : Nat) ∧ cntE (catB rs).length m = 0) := Lib.hid ⟨if_pos hle, if_pos hle⟩
      clear hle
      go_wp2
      try rw [Exit.noGoto_ret]
      go_ret2
      rw [HT.out.1, HT.out.2]
      exact ⟨rfl, rfl⟩
end Go.Proofs.Ytmmhiolmeijemaa
