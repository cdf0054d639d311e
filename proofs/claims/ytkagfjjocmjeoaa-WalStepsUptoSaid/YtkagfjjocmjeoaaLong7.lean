/- How much things to be done have in them, told by the reference. -/
import Derived.Test.YtkagfjjocmjeoaaDone7
namespace Go.Proofs.Ytkagfjjocmjeoaa
open Go.RowKit Mem Be Word Frm
set_option maxRecDepth 10000
set_option maxHeartbeats 2000000
set_option linter.unusedVariables false
theorem longG_any (n c : Nat) (A : Option Addr) (rs : List DoG) (hn : n = rs.length) (hnl : n ≤ maxLen) (w : World) (h : InG w A rs) :
    Calls Try.prog 10 #[.slice A n c] w (SomeI w) := by
  have HR := Lib.hid (h w (Below.refl _ _))
  have HN := Lib.hid hn
  have hni : (n : Int) ≤ 9223372036854775807 := by unfold maxLen at hnl; omega
  clear h hn hnl
  go_enter Try.func10, Try.ntmps10
  go_wp2
  go_loop [3, 4] (fun z i => ∃ k : Nat, k ≤ n ∧ i = .int .i64 k ∧ ∃ q : Int, z = .int .i64 q) (fun _ i => n - (intOf i).toNat)
  case atStart => exact ⟨0, by omega, rfl, 0, rfl⟩
  case round =>
    obtain ⟨k, hk, rfl, q, rfl⟩ := hrel
    by_cases hlt : k < n
    · have hk1 : k < rs.length := by rw [← HN.out]; exact hlt
      obtain ⟨b, o, rfl, _, hc⟩ := dosG_open HR.out.1 (by omega)
      have hcell := (hc k hk1).2.2.1
      have hok := HR.out.2 rs[k] (List.getElem_mem hk1)
      obtain ⟨⟨kd, of_, A1, ys, c1, kp⟩, hy1⟩ : ∃ y, rs[k] = y := ⟨_, rfl⟩
      rw [hy1] at hcell hok
      simp only at hcell
      have HRY := Lib.hid hok.row
      have HRW := Lib.hid hok.rows
      have hyl : (ys.length : Int) ≤ 9223372036854775807 := by have h1 := hok.cap; have h2 := hok.mx; simp only at h1 h2; unfold maxLen at h2; omega
      have hki : (0 : Int) ≤ (k : Int) := by omega
      have hki2 : (k : Int) < (n : Int) := by omega
      clear hc hy1 hok
      go_wp2_with fail
      go_loop [3, 5] (fun z i => ∃ j : Nat, j ≤ ys.length ∧ i = .int .i64 j ∧ ∃ q : Int, z = .int .i64 q) (fun _ i => ys.length - (intOf i).toNat)
      case atStart => exact ⟨0, by omega, rfl, _, rfl⟩
      case round =>
        obtain ⟨j, hj, rfl, q2, rfl⟩ := hrel
        by_cases hlt2 : j < ys.length
        · obtain ⟨b2, o2, rfl, _, hc2⟩ := HRY.out.open_ (by simp; omega)
          have hcell2 : w.cell? ⟨b2, o2 + j, none⟩ = some (rowV ys[j]) := (hc2 j (by simpa using hlt2)).trans (congrArg some (List.getElem_map (f := rowV) (h := by simpa using hlt2)))
          have hrl := (HRW.out ys[j] (List.getElem_mem hlt2)).2
          obtain ⟨⟨A3, y3, c3⟩, hy3⟩ : ∃ y, ys[j] = y := ⟨_, rfl⟩
          rw [hy3] at hcell2 hrl
          unfold rowV at hcell2
          simp only at hcell2 hrl
          have hyl3 : (y3.length : Int) ≤ 9223372036854775807 := by have h1 := hrl.1; have h2 := hrl.2; unfold maxLen at h2; omega
          have hji : (0 : Int) ≤ (j : Int) := by omega
          have hji2 : (j : Int) < (ys.length : Int) := by omega
          clear hc2 hy3 hrl
          go_wp2
          go_round
          case rel => exact ⟨j + 1, by omega, by go_num, _, rfl⟩
          case measure => simp [intOf]; omega
        · obtain rfl : j = ys.length := by omega
          go_wp2
          go_round
          case rel => exact ⟨k + 1, by omega, by go_num, _, rfl⟩
          case measure => simp [intOf]; omega
    · obtain rfl : k = n := by omega
      go_wp2
      go_ret
      exact ⟨⟨_, rfl⟩, rfl⟩
end Go.Proofs.Ytkagfjjocmjeoaa
