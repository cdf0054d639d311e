/- MsRf: may a ring be, told by the reference (stage 9's text RfB, over fewer texts). -/
import Derived.Test.YtfamklplhdnaiaaDoorRgB
namespace Go.Proofs.YtfamklplhdnaiaaDoor
open Go.RowKit Mem Rg
set_option maxRecDepth 100000
set_option maxHeartbeats 16000000
set_option linter.unusedVariables false
/-- A node that may stand at its place. -/
def OkAt12 (ns : List Int) (k : Nat) : Prop := ∀ h : k < ns.length, (0 ≤ ns[k] ∧ ns[k] ≤ 1048575) ∧ ∀ t (h2 : t < ns.length), t + 1 = k → ns[t] < ns[k]
theorem okAt12_all {ns : List Int} {e k : Int} (ok : OkR ns e k) (i : Nat) : OkAt12 ns i := fun h => by
  obtain ⟨o1, o2, o3, o4, o5, o6, o7, o8⟩ := ok
  exact ⟨o7 _ (List.getElem_mem h), fun t h2 e => inc_at o8 t i h2 h (by omega)⟩
theorem ok12_of {ns : List Int} {e k : Int} (h1 : 1 ≤ ns.length) (h2 : ns.length ≤ 64) (h3 : 1 ≤ e) (h4 : e ≤ 64) (h5 : 1 ≤ k) (h6 : k ≤ ns.length) (h : ∀ i, i < ns.length → OkAt12 ns i) : OkR ns e k :=
  ⟨h1, h2, h3, h4, h5, h6, fun x hx => by
    obtain ⟨i, hi, rfl⟩ := List.getElem_of_mem hx
    exact (h i hi hi).1, inc_of ns fun i hi => (h (i + 1) hi hi).2 i (by omega) rfl⟩
theorem refringcheck12 (A : Option Addr) (n c : Nat) (ns : List Int) (e k : Int) (hn : n = ns.length) (hl : n ≤ maxLen) (w : World) (h : Row w w.heap.size A (ns.map iV)) :
    Calls Tryd.prog 49 #[.agg #[.slice A n c, .int .i64 e, .int .i64 k]] w fun x w' => (∃ q, x = .returned (.int .i64 q) ∧ (OkR ns e k → q = 0) ∧ (¬ OkR ns e k → q = 2)) ∧ Below w.heap.size w w' := by
  have hb0 : Below w.heap.size w (w.alloc (.cells #[.slice A n c, .int .i64 e, .int .i64 k] 32)) := (Below.refl _ _).alloc (Nat.le_refl _) _
  have HB0 := Lib.hid hb0
  unfold maxLen at hl
  have HBAD : Hid (∀ W, ¬ OkR ns e k → Below w.heap.size w W → (∃ q, Ending.returned (.int .i64 2) = .returned (.int .i64 q) ∧ (OkR ns e k → q = 0) ∧ (¬ OkR ns e k → q = 2)) ∧ Below w.heap.size w W) := Lib.hid fun W hb h => ⟨⟨2, rfl, fun h => absurd h hb, fun _ => rfl⟩, h⟩
  by_cases o1 : (n : Int) < 1
  · have HNO := Lib.hid (show ¬ OkR ns e k from fun ok => by have := ok.1; omega)
    clear h hn hb0
    go_enter Tryd.func49, Tryd.ntmps49
    go_wp2
    go_ret
    exact HBAD.out _ HNO.out HB0.out
  by_cases o2 : (64 : Int) < (n : Int)
  · have HNO := Lib.hid (show ¬ OkR ns e k from fun ok => by have := ok.2.1; omega)
    clear h hn hb0
    go_enter Tryd.func49, Tryd.ntmps49
    go_wp2
    go_ret
    exact HBAD.out _ HNO.out HB0.out
  by_cases o3 : e < 1
  · have HNO := Lib.hid (show ¬ OkR ns e k from fun ok => by have := ok.2.2.1; omega)
    clear h hn hb0
    go_enter Tryd.func49, Tryd.ntmps49
    go_wp2
    go_ret
    exact HBAD.out _ HNO.out HB0.out
  by_cases o4 : 64 < e
  · have HNO := Lib.hid (show ¬ OkR ns e k from fun ok => by have := ok.2.2.2.1; omega)
    clear h hn hb0
    go_enter Tryd.func49, Tryd.ntmps49
    go_wp2
    go_ret
    exact HBAD.out _ HNO.out HB0.out
  by_cases o5 : k < 1
  · have HNO := Lib.hid (show ¬ OkR ns e k from fun ok => by have := ok.2.2.2.2.1; omega)
    clear h hn hb0
    go_enter Tryd.func49, Tryd.ntmps49
    go_wp2
    go_ret
    exact HBAD.out _ HNO.out HB0.out
  by_cases o6 : (n : Int) < k
  · have HNO := Lib.hid (show ¬ OkR ns e k from fun ok => by have := ok.2.2.2.2.2.1; omega)
    clear h hn hb0
    go_enter Tryd.func49, Tryd.ntmps49
    go_wp2
    go_ret
    exact HBAD.out _ HNO.out HB0.out
  have hk0 : Blk (w.alloc (.cells #[.slice A n c, .int .i64 e, .int .i64 k] 32)) w.heap.size 32 #[.slice A n c, .int .i64 e, .int .i64 k] := Blk.new _ _ _
  obtain ⟨W0, hW0⟩ : ∃ W0, w.alloc (.cells #[.slice A n c, .int .i64 e, .int .i64 k] 32) = W0 := ⟨_, rfl⟩
  have HROW : Hid (Row W0 w.heap.size A (ns.map iV)) := Lib.hid (by rw [← hW0]; exact h.below hb0)
  rw [hW0] at hk0 HB0
  have HK0 := Lib.hid hk0
  have HN := Lib.hid hn
  have HGOOD : Hid ((∀ i, i < ns.length → OkAt12 ns i) → OkR ns e k) := Lib.hid fun h => ok12_of (by omega) (by omega) (by omega) (by omega) (by omega) (by omega) h
  have HNO : Hid (∀ i, ¬ OkAt12 ns i → ¬ OkR ns e k) := Lib.hid fun i h ok => h (okAt12_all ok i)
  have hn1 : (n : Int) ≤ 64 := by omega
  have HW := Lib.hid hW0
  clear h hn hb0 hk0 hW0
  go_enter Tryd.func49, Tryd.ntmps49
  go_wp2
  rw [HW.out]
  go_loopw [4] (fun i wr => ∃ j : Nat, j ≤ n ∧ i = .int .i64 j ∧ Hid (∃ q, wr = W0.drewN q) ∧ Hid (∀ i, i < j → OkAt12 ns i)) (fun i _ => n - (intOf i).toNat)
  case atStart => exact ⟨0, by omega, rfl, Lib.hid ⟨0, rfl⟩, Lib.hid fun i h => absurd h (Nat.not_lt_zero _)⟩
  case round =>
    obtain ⟨j, hj, rfl, HQ, HALL⟩ := hrel
    have HBW : Hid (Below w.heap.size w wr) := Lib.hid (HB0.out.trans (quiet_below HQ.out))
    by_cases hjn : j < n
    · have hjl : j < ns.length := by have := HN.out; omega
      have d0 : wr.cell? ⟨w.heap.size, 0, none⟩ = some (.slice A n c) := by obtain ⟨q, hq⟩ := HQ.out; rw [hq]; exact HK0.out.cell 0
      obtain ⟨b, o, rfl, _, hc⟩ := int_cell (quiet_row HROW.out HQ.out) (by omega)
      have hcj := hc j hjl
      have hj0 : (0 : Int) ≤ (j : Int) := by omega
      have hj1 : (j : Int) < (n : Int) := by omega
      have HNEXT : Hid (OkAt12 ns j → ∀ i, i < j + 1 → OkAt12 ns i) := Lib.hid fun h i hi => by
        rcases Nat.lt_or_ge i j with h1 | h1
        · exact HALL.out i h1
        · obtain rfl : i = j := by omega
          exact h
      have HQN : Hid (∀ m, ∃ q, wr.drewN m = W0.drewN q) := Lib.hid fun m => by obtain ⟨q, hq⟩ := HQ.out; exact ⟨_, by rw [hq]; exact World.drewN_drewN _ _ _⟩
      have HBN : Hid (∀ m, Below w.heap.size w (wr.drewN m)) := Lib.hid fun m => HBW.out.trans (below_drew' _ _ _)
      rcases j with _ | t
      · have HOK : Hid (0 ≤ ns[0] → ns[0] ≤ 1048575 → OkAt12 ns 0) := Lib.hid fun h1 h2 _ => ⟨⟨h1, h2⟩, fun t h2 e => by omega⟩
        have HNK : Hid (¬ (0 ≤ ns[0] ∧ ns[0] ≤ 1048575) → ¬ OkAt12 ns 0) := Lib.hid fun h1 h2 => h1 (h2 hjl).1
        generalize ns[0] = y at hcj HOK HNK
        rw [Nat.add_zero] at hcj
        clear hc
        by_cases a1 : y < 0
        · have HNO2 := Lib.hid (HNO.out 0 (HNK.out (by omega)))
          have b1 : decide (y < 0) = true := by simpa using a1
          clear a1
          go_wp2
          go_quiet (fail)
          go_wp2
          go_ret
          exact HBAD.out _ HNO2.out (HBN.out _)
        · have b1 : decide (y < 0) = false := by simpa using a1
          by_cases a2 : 1048575 < y
          · have HNO2 := Lib.hid (HNO.out 0 (HNK.out (by omega)))
            have b2 : decide (1048575 < y) = true := by simpa using a2
            clear a1 a2
            go_wp2
            go_quiet (fail)
            go_wp2
            go_ret
            exact HBAD.out _ HNO2.out (HBN.out _)
          · have HN2 := Lib.hid (HNEXT.out (HOK.out (by omega) (by omega)))
            have b2 : decide (1048575 < y) = false := by simpa using a2
            clear a1 a2
            go_wp2
            go_quiet (fail)
            go_wp2
            go_roundw
            case rel => exact ⟨1, by omega, rfl, Lib.hid (HQN.out _), HN2⟩
            case measure => simp [intOf]; omega
      · have hct := hc t (by omega)
        have HOK : Hid (0 ≤ ns[t + 1] → ns[t + 1] ≤ 1048575 → ns[t] < ns[t + 1] → OkAt12 ns (t + 1)) := Lib.hid fun h1 h2 h3 _ => ⟨⟨h1, h2⟩, fun t' h2 e => by
          obtain rfl : t' = t := by omega
          exact h3⟩
        have HNK : Hid (¬ (0 ≤ ns[t + 1] ∧ ns[t + 1] ≤ 1048575 ∧ ns[t] < ns[t + 1]) → ¬ OkAt12 ns (t + 1)) := Lib.hid fun h1 h2 => h1 ⟨(h2 hjl).1.1, (h2 hjl).1.2, (h2 hjl).2 t (by omega) rfl⟩
        obtain ⟨y, hy⟩ : ∃ y, ns[t + 1] = y := ⟨_, rfl⟩
        obtain ⟨z, hz⟩ : ∃ z, ns[t]'(by omega) = z := ⟨_, rfl⟩
        rw [hy] at hcj HOK HNK
        rw [hz] at hct HOK HNK
        obtain ⟨m, hm⟩ : ∃ m, t + 1 = m := ⟨_, rfl⟩
        rw [hm] at hcj HOK HNK hj1 hj0 HNEXT hj
        have HMM := Lib.hid hm
        have hs1 : IntKind.i64.wrap ((m : Int) - 1) = (t : Int) := by rw [show (m : Int) - 1 = (t : Int) by omega]; exact IntWalk.i64_in _ (by omega)
        have hs2 : (m : Int) - 1 = (t : Int) := by omega
        have ht0 : (0 : Int) ≤ (t : Int) := by omega
        have ht1 : (t : Int) < (n : Int) := by omega
        have hm0 : (0 : Int) < (m : Int) := by omega
        have hmn : 0 < m := by omega
        have hmd : decide (0 < m) = true := by simpa using hmn
        have hm0' : ((t : Int) + 1) = (m : Int) := by omega
        have hgoal : ((t + 1 : Nat) : Int) = (m : Int) := by omega
        rw [hgoal]
        clear hc hy hz hm hgoal hm0'
        by_cases a1 : y < 0
        · have HNO2 := Lib.hid (HNO.out m (HNK.out (by omega)))
          have b1 : decide (y < 0) = true := by simpa using a1
          clear hs2 a1
          go_wp2
          go_quiet (fail)
          go_wp2
          go_ret
          exact HBAD.out _ HNO2.out (HBN.out _)
        · have b1 : decide (y < 0) = false := by simpa using a1
          by_cases a2 : 1048575 < y
          · have HNO2 := Lib.hid (HNO.out m (HNK.out (by omega)))
            have b2 : decide (1048575 < y) = true := by simpa using a2
            clear hs2 a1 a2
            go_wp2
            go_quiet (fail)
            go_wp2
            go_ret
            exact HBAD.out _ HNO2.out (HBN.out _)
          · have b2 : decide (1048575 < y) = false := by simpa using a2
            by_cases a3 : y ≤ z
            · have HNO2 := Lib.hid (HNO.out m (HNK.out (by omega)))
              have b3 : decide (y ≤ z) = true := by simpa using a3
              clear a1 a2 a3
              go_wp2
              go_quiet (fail)
              go_wp2
              go_ret
              exact HBAD.out _ HNO2.out (HBN.out _)
            · have HN2 := Lib.hid (HNEXT.out (HOK.out (by omega) (by omega) (by omega)))
              have b3 : decide (y ≤ z) = false := by simpa using a3
              clear a1 a2 a3
              go_wp2
              go_quiet (fail)
              clear hs1 hs2
              go_wp2
              go_roundw
              case rel => exact ⟨m + 1, by omega, by go_num, Lib.hid (HQN.out _), HN2⟩
              case measure => simp [intOf]; omega
    · obtain rfl : j = n := by omega
      have HRES : Hid ((∃ q, Ending.returned (.int .i64 0) = .returned (.int .i64 q) ∧ (OkR ns e k → q = 0) ∧ (¬ OkR ns e k → q = 2)) ∧ Below w.heap.size w wr) := Lib.hid ⟨⟨0, rfl, fun _ => rfl, fun h => absurd (HGOOD.out (by rw [← HN.out]; exact HALL.out)) h⟩, HBW.out⟩
      go_wp2
      go_ret
      exact HRES.out
end Go.Proofs.YtfamklplhdnaiaaDoor
