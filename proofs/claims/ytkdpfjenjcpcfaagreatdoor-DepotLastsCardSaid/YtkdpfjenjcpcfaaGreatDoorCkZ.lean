/- MsRf: may a ring be, told by the reference (stage 9's text RfB, over fewer texts). -/
/- Which entries may be, told by the reference: whatever lengths (written by tools/gen_rrg8.py). -/
/- MsCk: Which messages may be, told by the reference. -/
import Derived.Test.YtkdpfjenjcpcfaaGreatDoorRgB
import Derived.Test.YtkdpfjenjcpcfaaGreatDoorTg
import Derived.Test.YtkdpfjenjcpcfaaGreatDoorMsF
import Derived.Test.YtkdpfjenjcpcfaaGreatDoorMsE
import Derived.Deep.DeepCutAuto
import Derived.Deep.LoopGhost
namespace Go.Proofs.YtkdpfjenjcpcfaaGreatDoor
open Go.RowKit Mem Rg
set_option maxRecDepth 100000
set_option maxHeartbeats 16000000
set_option linter.unusedVariables false
/-- A node that may stand at its place. -/
def OkAt12 (ns : List Int) (k : Nat) : Prop := ∀ h : k < ns.length, (0 ≤ ns[k] ∧ ns[k] ≤ 1048575) ∧ ∀ t (h2 : t < ns.length), t + 1 = k → ns[t] < ns[k]
theorem okAt12_all {ns : List Int} {e k : Int} (ok : OkR ns e k) (i : Nat) : OkAt12 ns i := fun h => by
  obtain ⟨o1, o2, o3, o4, o5, o6, o7, o8⟩ := ok
  exact ⟨o7 _ (List.getElem_mem h), fun t h2 e => inc_at o8 t i h2 h (by omega)⟩
theorem ok12_of {ns : List Int} {e k : Int} (h1 : 1 ≤ ns.length) (h2 : ns.length ≤ 64) (h3 : 1 ≤ e) (h4 : e ≤ 64) (h5 : 1 ≤ k) (h6 : k ≤ ns.length) (h : ∀ i, i < ns.length → OkAt12 ns i) : OkR ns e k :=
  ⟨h1, h2, h3, h4, h5, h6, fun x hx => by
    obtain ⟨i, hi, rfl⟩ := List.getElem_of_mem hx
    exact (h i hi hi).1, inc_of ns fun i hi => (h (i + 1) hi hi).2 i (by omega) rfl⟩
theorem refringcheck12 (A : Option Addr) (n c : Nat) (ns : List Int) (e k : Int) (hn : n = ns.length) (hl : n ≤ maxLen) (w : World) (h : Row w w.heap.size A (ns.map iV)) :
    Calls Tryz.prog 48 #[.agg #[.slice A n c, .int .i64 e, .int .i64 k]] w fun x w' => (∃ q, x = .returned (.int .i64 q) ∧ (OkR ns e k → q = 0) ∧ (¬ OkR ns e k → q = 2)) ∧ Below w.heap.size w w' := by
  have hb0 : Below w.heap.size w (w.alloc (.cells #[.slice A n c, .int .i64 e, .int .i64 k] 49)) := (Below.refl _ _).alloc (Nat.le_refl _) _
  have HB0 := Lib.hid hb0
  unfold maxLen at hl
  have HBAD : Hid (∀ W, ¬ OkR ns e k → Below w.heap.size w W → (∃ q, Ending.returned (.int .i64 2) = .returned (.int .i64 q) ∧ (OkR ns e k → q = 0) ∧ (¬ OkR ns e k → q = 2)) ∧ Below w.heap.size w W) := Lib.hid fun W hb h => ⟨⟨2, rfl, fun h => absurd h hb, fun _ => rfl⟩, h⟩
  by_cases o1 : (n : Int) < 1
  · have HNO := Lib.hid (show ¬ OkR ns e k from fun ok => by have := ok.1; omega)
    clear h hn hb0
    go_enter Tryz.func48, Tryz.ntmps48
    go_wp2
    go_ret
    exact HBAD.out _ HNO.out HB0.out
  by_cases o2 : (64 : Int) < (n : Int)
  · have HNO := Lib.hid (show ¬ OkR ns e k from fun ok => by have := ok.2.1; omega)
    clear h hn hb0
    go_enter Tryz.func48, Tryz.ntmps48
    go_wp2
    go_ret
    exact HBAD.out _ HNO.out HB0.out
  by_cases o3 : e < 1
  · have HNO := Lib.hid (show ¬ OkR ns e k from fun ok => by have := ok.2.2.1; omega)
    clear h hn hb0
    go_enter Tryz.func48, Tryz.ntmps48
    go_wp2
    go_ret
    exact HBAD.out _ HNO.out HB0.out
  by_cases o4 : 64 < e
  · have HNO := Lib.hid (show ¬ OkR ns e k from fun ok => by have := ok.2.2.2.1; omega)
    clear h hn hb0
    go_enter Tryz.func48, Tryz.ntmps48
    go_wp2
    go_ret
    exact HBAD.out _ HNO.out HB0.out
  by_cases o5 : k < 1
  · have HNO := Lib.hid (show ¬ OkR ns e k from fun ok => by have := ok.2.2.2.2.1; omega)
    clear h hn hb0
    go_enter Tryz.func48, Tryz.ntmps48
    go_wp2
    go_ret
    exact HBAD.out _ HNO.out HB0.out
  by_cases o6 : (n : Int) < k
  · have HNO := Lib.hid (show ¬ OkR ns e k from fun ok => by have := ok.2.2.2.2.2.1; omega)
    clear h hn hb0
    go_enter Tryz.func48, Tryz.ntmps48
    go_wp2
    go_ret
    exact HBAD.out _ HNO.out HB0.out
  have hk0 : Blk (w.alloc (.cells #[.slice A n c, .int .i64 e, .int .i64 k] 49)) w.heap.size 49 #[.slice A n c, .int .i64 e, .int .i64 k] := Blk.new _ _ _
  obtain ⟨W0, hW0⟩ : ∃ W0, w.alloc (.cells #[.slice A n c, .int .i64 e, .int .i64 k] 49) = W0 := ⟨_, rfl⟩
  have HROW : Hid (Row W0 w.heap.size A (ns.map iV)) := Lib.hid (by rw [← hW0]; exact h.below hb0)
  rw [hW0] at hk0 HB0
  have HK0 := Lib.hid hk0
  have HN := Lib.hid hn
  have HGOOD : Hid ((∀ i, i < ns.length → OkAt12 ns i) → OkR ns e k) := Lib.hid fun h => ok12_of (by omega) (by omega) (by omega) (by omega) (by omega) (by omega) h
  have HNO : Hid (∀ i, ¬ OkAt12 ns i → ¬ OkR ns e k) := Lib.hid fun i h ok => h (okAt12_all ok i)
  have hn1 : (n : Int) ≤ 64 := by omega
  have HW := Lib.hid hW0
  clear h hn hb0 hk0 hW0
  go_enter Tryz.func48, Tryz.ntmps48
  go_wp2
  rw [HW.out]
  go_loopw [4] (fun i wr => ∃ j : Nat, j ≤ n ∧ i = .int .i64 j ∧ Hid (∃ q, wr = W0.drewN q) ∧ Hid (∀ i, i < j → OkAt12 ns i)) (fun i _ => n - (intOf i).toNat)
  case atStart => exact ⟨0, by omega, rfl, Lib.hid ⟨0, rfl⟩, Lib.hid fun i h => absurd h (Nat.not_lt_zero _)⟩
  case round =>
    obtain ⟨j, hj, rfl, HQ, HALL⟩ := hrel
    have HBW : Hid (Below w.heap.size w wr) := Lib.hid (HB0.out.trans (quiet_below HQ.out))
    by_cases hjn : j < n
    · have hjl : j < ns.length := by have := HN.out; omega
      have d0 : wr.cell? ⟨w.heap.size, 0, none⟩ = some (.slice A n c) := by obtain ⟨q, hq⟩ := HQ.out; rw [hq]; exact HK0.out.cell 0
      obtain ⟨b, o, rfl, _, hc⟩ := int_cell (quiet_row HROW.out HQ.out) (by omega)
      have hcj := hc j hjl
      have hj0 : (0 : Int) ≤ (j : Int) := by omega
      have hj1 : (j : Int) < (n : Int) := by omega
      have HNEXT : Hid (OkAt12 ns j → ∀ i, i < j + 1 → OkAt12 ns i) := Lib.hid fun h i hi => by
        rcases Nat.lt_or_ge i j with h1 | h1
        · exact HALL.out i h1
        · obtain rfl : i = j := by omega
          exact h
      have HQN : Hid (∀ m, ∃ q, wr.drewN m = W0.drewN q) := Lib.hid fun m => by obtain ⟨q, hq⟩ := HQ.out; exact ⟨_, by rw [hq]; exact World.drewN_drewN _ _ _⟩
      have HBN : Hid (∀ m, Below w.heap.size w (wr.drewN m)) := Lib.hid fun m => HBW.out.trans (below_drew' _ _ _)
      rcases j with _ | t
      · have HOK : Hid (0 ≤ ns[0] → ns[0] ≤ 1048575 → OkAt12 ns 0) := Lib.hid fun h1 h2 _ => ⟨⟨h1, h2⟩, fun t h2 e => by omega⟩
        have HNK : Hid (¬ (0 ≤ ns[0] ∧ ns[0] ≤ 1048575) → ¬ OkAt12 ns 0) := Lib.hid fun h1 h2 => h1 (h2 hjl).1
        generalize ns[0] = y at hcj HOK HNK
        rw [Nat.add_zero] at hcj
        clear hc
        by_cases a1 : y < 0
        · have HNO2 := Lib.hid (HNO.out 0 (HNK.out (by omega)))
          have b1 : decide (y < 0) = true := by simpa using a1
          clear a1
          go_wp2
          go_quiet (fail)
          go_wp2
          go_ret
          exact HBAD.out _ HNO2.out (HBN.out _)
        · have b1 : decide (y < 0) = false := by simpa using a1
          by_cases a2 : 1048575 < y
          · have HNO2 := Lib.hid (HNO.out 0 (HNK.out (by omega)))
            have b2 : decide (1048575 < y) = true := by simpa using a2
            clear a1 a2
            go_wp2
            go_quiet (fail)
            go_wp2
            go_ret
            exact HBAD.out _ HNO2.out (HBN.out _)
          · have HN2 := Lib.hid (HNEXT.out (HOK.out (by omega) (by omega)))
            have b2 : decide (1048575 < y) = false := by simpa using a2
            clear a1 a2
            go_wp2
            go_quiet (fail)
            go_wp2
            go_roundw
            case rel => exact ⟨1, by omega, rfl, Lib.hid (HQN.out _), HN2⟩
            case measure => simp [intOf]; omega
      · have hct := hc t (by omega)
        have HOK : Hid (0 ≤ ns[t + 1] → ns[t + 1] ≤ 1048575 → ns[t] < ns[t + 1] → OkAt12 ns (t + 1)) := Lib.hid fun h1 h2 h3 _ => ⟨⟨h1, h2⟩, fun t' h2 e => by
          obtain rfl : t' = t := by omega
          exact h3⟩
        have HNK : Hid (¬ (0 ≤ ns[t + 1] ∧ ns[t + 1] ≤ 1048575 ∧ ns[t] < ns[t + 1]) → ¬ OkAt12 ns (t + 1)) := Lib.hid fun h1 h2 => h1 ⟨(h2 hjl).1.1, (h2 hjl).1.2, (h2 hjl).2 t (by omega) rfl⟩
        obtain ⟨y, hy⟩ : ∃ y, ns[t + 1] = y := ⟨_, rfl⟩
        obtain ⟨z, hz⟩ : ∃ z, ns[t]'(by omega) = z := ⟨_, rfl⟩
        rw [hy] at hcj HOK HNK
        rw [hz] at hct HOK HNK
        obtain ⟨m, hm⟩ : ∃ m, t + 1 = m := ⟨_, rfl⟩
        rw [hm] at hcj HOK HNK hj1 hj0 HNEXT hj
        have HMM := Lib.hid hm
        have hs1 : IntKind.i64.wrap ((m : Int) - 1) = (t : Int) := by rw [show (m : Int) - 1 = (t : Int) by omega]; exact IntWalk.i64_in _ (by omega)
        have hs2 : (m : Int) - 1 = (t : Int) := by omega
        have ht0 : (0 : Int) ≤ (t : Int) := by omega
        have ht1 : (t : Int) < (n : Int) := by omega
        have hm0 : (0 : Int) < (m : Int) := by omega
        have hmn : 0 < m := by omega
        have hmd : decide (0 < m) = true := by simpa using hmn
        have hm0' : ((t : Int) + 1) = (m : Int) := by omega
        have hgoal : ((t + 1 : Nat) : Int) = (m : Int) := by omega
        rw [hgoal]
        clear hc hy hz hm hgoal hm0'
        by_cases a1 : y < 0
        · have HNO2 := Lib.hid (HNO.out m (HNK.out (by omega)))
          have b1 : decide (y < 0) = true := by simpa using a1
          clear hs2 a1
          go_wp2
          go_quiet (fail)
          go_wp2
          go_ret
          exact HBAD.out _ HNO2.out (HBN.out _)
        · have b1 : decide (y < 0) = false := by simpa using a1
          by_cases a2 : 1048575 < y
          · have HNO2 := Lib.hid (HNO.out m (HNK.out (by omega)))
            have b2 : decide (1048575 < y) = true := by simpa using a2
            clear hs2 a1 a2
            go_wp2
            go_quiet (fail)
            go_wp2
            go_ret
            exact HBAD.out _ HNO2.out (HBN.out _)
          · have b2 : decide (1048575 < y) = false := by simpa using a2
            by_cases a3 : y ≤ z
            · have HNO2 := Lib.hid (HNO.out m (HNK.out (by omega)))
              have b3 : decide (y ≤ z) = true := by simpa using a3
              clear a1 a2 a3
              go_wp2
              go_quiet (fail)
              go_wp2
              go_ret
              exact HBAD.out _ HNO2.out (HBN.out _)
            · have HN2 := Lib.hid (HNEXT.out (HOK.out (by omega) (by omega) (by omega)))
              have b3 : decide (y ≤ z) = false := by simpa using a3
              clear a1 a2 a3
              go_wp2
              go_quiet (fail)
              clear hs1 hs2
              go_wp2
              go_roundw
              case rel => exact ⟨m + 1, by omega, by go_num, Lib.hid (HQN.out _), HN2⟩
              case measure => simp [intOf]; omega
    · obtain rfl : j = n := by omega
      have HRES : Hid ((∃ q, Ending.returned (.int .i64 0) = .returned (.int .i64 q) ∧ (OkR ns e k → q = 0) ∧ (¬ OkR ns e k → q = 2)) ∧ Below w.heap.size w wr) := Lib.hid ⟨⟨0, rfl, fun _ => rfl, fun h => absurd (HGOOD.out (by rw [← HN.out]; exact HALL.out)) h⟩, HBW.out⟩
      go_wp2
      go_ret
      exact HRES.out
end Go.Proofs.YtkdpfjenjcpcfaaGreatDoor
namespace Go.Proofs.YtkdpfjenjcpcfaaGreatDoor
open Go.RowKit Mem
set_option maxRecDepth 10000
set_option maxHeartbeats 4000000
theorem refright_big (key : ByteArray) (s u o : Int) (has : Bool) (A : Option Addr) (m c : Nat) (hm : (m : Int) ≤ 9223372036854775807) (hsz : (key.size : Int) ≤ 9223372036854775807) (w : World) :
    Calls Tryz.prog 30 #[entV key s u o has A m c] w (IsI (rightE key.size m s u o has) w) := by
  have HB : Hid (Below w.heap.size w (w.alloc (entO key s u o has A m c))) := Lib.hid ((Below.refl _ _).alloc (Nat.le_refl _) _)
  obtain ⟨hk, hv⟩ := ways key.size m has
  rcases hk with hk | hk | ⟨hk, hk2⟩
  · clear hv
    go_enter Tryz.func30, Tryz.ntmps30
    go_wp2
    go_ret
    exact isI_of (rightE_no (by rintro ⟨h1, _⟩; omega)).symm HB.out
  · clear hv
    go_enter Tryz.func30, Tryz.ntmps30
    go_wp2
    go_ret
    exact isI_of (rightE_no (by rintro ⟨_, h1, _⟩; omega)).symm HB.out
  rcases hv with hv | ⟨hv, rfl⟩ | ⟨hv, rfl, rfl⟩ | ⟨hv, hv2, rfl⟩
  · go_enter Tryz.func30, Tryz.ntmps30
    go_wp2
    go_ret
    exact isI_of (rightE_no (by rintro ⟨_, _, h1, _⟩; omega)).symm HB.out
  · rcases checkT_02 s u o with h0 | h0
    · have H0 := Lib.hid h0
      clear h0
      cases h1 : (s == 0)
      · have hq : (s == 0) = false := h1
        have H1 : Hid ((s == 0) = false) := Lib.hid h1
        clear h1
        go_enter Tryz.func30, Tryz.ntmps30
        go_wp2_with (go_at_call 57; refine (refcheck_val _ _ _ _ (by assumption) _).mono ?_; rintro e w2 ⟨rfl, hb⟩; obtain ⟨hc, hf⟩ := bcell hb; have HB2 := Lib.hid (HB.out.trans (hb.mono HB.out.size)); clear hb)
        go_ret
        exact isI_of ((rightE_check (by refine ⟨by omega, by omega, by omega, by simp, ?_⟩; rintro ⟨h1, h2⟩; exact hid_some H1 h1)).trans H0.out).symm HB2.out
      · have H1 : Hid ((s == 0) = true) := Lib.hid h1
        go_enter Tryz.func30, Tryz.ntmps30
        go_wp2_with (go_at_call 57; refine (refcheck_val _ _ _ _ (by assumption) _).mono ?_; rintro e w2 ⟨rfl, hb⟩; obtain ⟨hc, hf⟩ := bcell hb; have HB2 := Lib.hid (HB.out.trans (hb.mono HB.out.size)); clear hb)
        go_ret
        exact isI_of (rightE_no (by rintro ⟨h1, h2, h3, h4, h5, h6⟩; exact h6 ⟨hid_nought H1, rfl⟩)).symm HB2.out
    · have H0 := Lib.hid h0
      clear h0
      go_enter Tryz.func30, Tryz.ntmps30
      go_wp2_with (go_at_call 57; refine (refcheck_val _ _ _ _ (by assumption) _).mono ?_; rintro e w2 ⟨rfl, hb⟩; obtain ⟨hc, hf⟩ := bcell hb; have HB2 := Lib.hid (HB.out.trans (hb.mono HB.out.size)); clear hb)
      go_ret
      exact isI_of (rightE_no (by rintro ⟨_, _, _, _, h1, _⟩; have := H0.out; omega)).symm HB2.out
  · rcases checkT_02 s u o with h0 | h0
    · have H0 := Lib.hid h0
      clear h0
      cases h1 : (s == 0)
      all_goals
        go_enter Tryz.func30, Tryz.ntmps30
        go_wp2_with (go_at_call 57; refine (refcheck_val _ _ _ _ (by assumption) _).mono ?_; rintro e w2 ⟨rfl, hb⟩; obtain ⟨hc, hf⟩ := bcell hb; have HB2 := Lib.hid (HB.out.trans (hb.mono HB.out.size)); clear hb)
        go_ret
        exact isI_of ((rightE_check (by refine ⟨by omega, by omega, by omega, by simp, ?_⟩; rintro ⟨h1, h2⟩; simp at h2)).trans H0.out).symm HB2.out
    · have H0 := Lib.hid h0
      clear h0
      go_enter Tryz.func30, Tryz.ntmps30
      go_wp2_with (go_at_call 57; refine (refcheck_val _ _ _ _ (by assumption) _).mono ?_; rintro e w2 ⟨rfl, hb⟩; obtain ⟨hc, hf⟩ := bcell hb; have HB2 := Lib.hid (HB.out.trans (hb.mono HB.out.size)); clear hb)
      go_ret
      exact isI_of (rightE_no (by rintro ⟨_, _, _, _, h1, _⟩; have := H0.out; omega)).symm HB2.out
  · go_enter Tryz.func30, Tryz.ntmps30
    go_wp2
    go_ret
    exact isI_of (rightE_no (by rintro ⟨_, _, _, h1, _⟩; simp at h1; omega)).symm HB.out
end Go.Proofs.YtkdpfjenjcpcfaaGreatDoor
namespace Go.Proofs.YtkdpfjenjcpcfaaGreatDoor
open Go.RowKit Mem Be Rg
set_option maxRecDepth 100000
set_option maxHeartbeats 16000000
set_option linter.unusedVariables false
theorem refwithin12_any (n m : Int) (w : World) : Calls Tryz.prog 46 #[.int .i64 n, .int .i64 m] w fun e w' => e = .returned (.bool (inR n m)) ∧ w = w' := by
  by_cases h : 0 ≤ n
  · by_cases h2 : n ≤ m
    · rw [show inR n m = true from decide_eq_true ⟨h, h2⟩]
      go_enter Tryz.func46, Tryz.ntmps46
      go_wp2
      go_ret
      exact ⟨rfl, rfl⟩
    · rw [show inR n m = false from decide_eq_false (by omega)]
      have h3 : decide (n ≤ m) = false := decide_eq_false h2
      clear h2
      go_enter Tryz.func46, Tryz.ntmps46
      go_wp2
      go_ret
      exact ⟨rfl, rfl⟩
  · rw [show inR n m = false from decide_eq_false (by omega)]
    have h3 : n < 0 := by omega
    clear h
    go_enter Tryz.func46, Tryz.ntmps46
    go_wp2
    go_ret
    exact ⟨rfl, rfl⟩
theorem refrightev_any (x : EV) (hv : (x.1.v.length : Int) ≤ 9223372036854775807) (hk : (x.1.k.length : Int) ≤ 9223372036854775807) (w : World) :
    Calls Tryz.prog 30 #[.agg #[.string ⟨x.1.k.toArray⟩, .int .i64 x.1.s, .int .i64 x.1.u, .int .i64 x.1.o, .bool x.1.has, .slice x.2.1 x.1.v.length x.2.2]] w (IsI (rightE x.1.k.length x.1.v.length x.1.s x.1.u x.1.o x.1.has) w) := by
  have := refright_big ⟨x.1.k.toArray⟩ x.1.s x.1.u x.1.o x.1.has x.2.1 x.1.v.length x.2.2 hv (by rw [ba_len12]; exact hk) w
  rw [ba_len12] at this; exact this
def k5 (m : MsgP) : Bool := (!hasN m.kind && decide (0 < m.n)) || ((!hasF m.kind && m.flag) || ((!hasL m.kind && decide (0 < m.l.length)) || decide (1000 < m.l.length)))
def k13 (m : MsgP) : Bool := if hasE m.kind = true then !decide (okE m.e) else !decide (noE m.e)
def k15 (m : MsgP) : Bool := if hasR m.kind = true then !decide (OkR m.ns m.each m.keep) else !decide (m.ns = [] ∧ m.each = 0 ∧ m.keep = 0)
theorem okM_by {m : MsgP} (h0 : headR m = true) (hn : inR m.n 1099511627775 = true) : okM m = (!k5 m && (allE m.l && (!k13 m && !k15 m))) := by
  have e1 : fldB (hasN m.kind) (rN m) (bN m) = !(!hasN m.kind && decide (0 < m.n)) := by
    unfold fldB rN bN
    rw [hn]
    obtain ⟨p, _⟩ := inR_iff.1 hn
    cases hasN m.kind
    · by_cases hz : m.n = 0
      · rw [hz]; rfl
      · have : 0 < m.n := by omega
        simp [hz, this]
    · rfl
  have e2 : fldB (hasF m.kind) true (bF m) = !(!hasF m.kind && m.flag) := by
    unfold fldB bF
    cases hasF m.kind <;> cases m.flag <;> rfl
  have e3 : fldB (hasE m.kind) (rE m) (bE m) = !k13 m := by
    unfold fldB rE bE k13
    cases hasE m.kind <;> simp
  have e5 : fldB (hasR m.kind) (rR m) (bR m) = !k15 m := by
    unfold fldB rR bR k15
    cases hasR m.kind
    · simp only [Bool.false_eq_true, if_false, Bool.not_not]
    · simp only [if_true, Bool.not_not]
  have e4 : fldB (hasL m.kind) (rL m) (bL m) = (!((!hasL m.kind && decide (0 < m.l.length)) || decide (1000 < m.l.length)) && allE m.l) := by
    unfold fldB rL bL
    cases hasL m.kind
    · by_cases hz : m.l = []
      · rw [hz]; rfl
      · have h1 : 0 < m.l.length := List.length_pos_iff.2 hz
        have h2 : (m.l.length == 0) = false := by rw [beq_eq_false_iff_ne]; omega
        rw [h2, decide_eq_true h1]; rfl
    · by_cases hz : m.l.length ≤ 1000
      · rw [decide_eq_true hz, decide_eq_false (show ¬ 1000 < m.l.length by omega)]; simp
      · rw [decide_eq_false hz, decide_eq_true (show 1000 < m.l.length by omega)]; simp
  unfold okM k5
  rw [h0, e1, e2, e3, e4, e5]
  generalize (!hasN m.kind && decide (0 < m.n)) = a
  generalize (!hasF m.kind && m.flag) = b
  generalize ((!hasL m.kind && decide (0 < m.l.length)) || decide (1000 < m.l.length)) = c
  generalize allE m.l = d
  generalize k13 m = e
  generalize k15 m = f
  cases a <;> cases b <;> cases c <;> cases d <;> cases e <;> cases f <;> rfl
theorem headno_n {m : MsgP} (h : inR m.n 1099511627775 = false) : okM m = false := by
  cases ho : okM m
  · rfl
  · obtain ⟨_, h2, _⟩ := okM_parts ho
    unfold fldB rN bN at h2
    split at h2
    · rw [h] at h2; cases h2
    · have : m.n = 0 := by simpa using h2
      rw [this] at h; exact absurd h (by decide)
theorem kind_sets12 {k : Int} (h : exK k = true) : (hasN k = false ∧ hasF k = false ∧ hasL k = false) ∨ (hasN k = true ∧ hasF k = true ∧ hasL k = false) ∨ (hasN k = true ∧ hasF k = false ∧ hasL k = false) ∨ (hasN k = true ∧ hasF k = true ∧ hasL k = true) := by
  have key : ∀ i : Fin 18, 1 ≤ i.val → (hasN (i.val : Int) = false ∧ hasF (i.val : Int) = false ∧ hasL (i.val : Int) = false) ∨ (hasN (i.val : Int) = true ∧ hasF (i.val : Int) = true ∧ hasL (i.val : Int) = false) ∨ (hasN (i.val : Int) = true ∧ hasF (i.val : Int) = false ∧ hasL (i.val : Int) = false) ∨ (hasN (i.val : Int) = true ∧ hasF (i.val : Int) = true ∧ hasL (i.val : Int) = true) := by decide +kernel
  obtain ⟨h1, h2⟩ := exK_yes h
  have := key ⟨k.toNat, by omega⟩ (by show 1 ≤ k.toNat; omega)
  have e : ((k.toNat : Nat) : Int) = k := by omega
  simp only [e] at this
  exact this
theorem refcheck12 (x : MV) (w : World) (h : MsgM w x) : Calls Tryz.prog 19 #[.agg #[.int .i64 x.kind, .int .i64 x.fr, .int .i64 x.dst, .int .i64 x.ep, .int .i64 x.op, .int .i64 x.n, .bool x.flag, .string ⟨x.e.1.k.toArray⟩, .int .i64 x.e.1.s, .int .i64 x.e.1.u, .int .i64 x.e.1.o, .bool x.e.1.has, .slice x.e.2.1 x.e.1.v.length x.e.2.2, .slice x.lA x.l.length x.lc, .slice x.rA x.ns.length x.rc, .int .i64 x.each, .int .i64 x.keep]] w (IsI (checkM (mP x)) w) := by
  have hb : Below w.heap.size w (w.alloc (.cells #[.int .i64 x.kind, .int .i64 x.fr, .int .i64 x.dst, .int .i64 x.ep, .int .i64 x.op, .int .i64 x.n, .bool x.flag, .string ⟨x.e.1.k.toArray⟩, .int .i64 x.e.1.s, .int .i64 x.e.1.u, .int .i64 x.e.1.o, .bool x.e.1.has, .slice x.e.2.1 x.e.1.v.length x.e.2.2, .slice x.lA x.l.length x.lc, .slice x.rA x.ns.length x.rc, .int .i64 x.each, .int .i64 x.keep] 51)) := (Below.refl _ _).alloc (Nat.le_refl _) _
  have HX := Lib.hid (Blk.new w 51 #[.int .i64 x.kind, .int .i64 x.fr, .int .i64 x.dst, .int .i64 x.ep, .int .i64 x.op, .int .i64 x.n, .bool x.flag, .string ⟨x.e.1.k.toArray⟩, .int .i64 x.e.1.s, .int .i64 x.e.1.u, .int .i64 x.e.1.o, .bool x.e.1.has, .slice x.e.2.1 x.e.1.v.length x.e.2.2, .slice x.lA x.l.length x.lc, .slice x.rA x.ns.length x.rc, .int .i64 x.each, .int .i64 x.keep])
  have HM := Lib.hid (h.below hb)
  have HB := Lib.hid hb
  obtain ⟨W, hW⟩ : ∃ W, w.alloc (.cells #[.int .i64 x.kind, .int .i64 x.fr, .int .i64 x.dst, .int .i64 x.ep, .int .i64 x.op, .int .i64 x.n, .bool x.flag, .string ⟨x.e.1.k.toArray⟩, .int .i64 x.e.1.s, .int .i64 x.e.1.u, .int .i64 x.e.1.o, .bool x.e.1.has, .slice x.e.2.1 x.e.1.v.length x.e.2.2, .slice x.lA x.l.length x.lc, .slice x.rA x.ns.length x.rc, .int .i64 x.each, .int .i64 x.keep] 51) = W := ⟨_, rfl⟩
  rw [hW] at HX HM HB
  obtain ⟨R, hR⟩ : ∃ R, checkM (mP x) = R := ⟨_, rfl⟩
  rw [hR]
  have c0 : W.cell? ⟨w.heap.size, 0, none⟩ = some (.int .i64 x.kind) := HX.out.cell 0
  have c1 : W.cell? ⟨w.heap.size, 1, none⟩ = some (.int .i64 x.fr) := HX.out.cell 1
  have c2 : W.cell? ⟨w.heap.size, 2, none⟩ = some (.int .i64 x.dst) := HX.out.cell 2
  have c3 : W.cell? ⟨w.heap.size, 3, none⟩ = some (.int .i64 x.ep) := HX.out.cell 3
  have c4 : W.cell? ⟨w.heap.size, 4, none⟩ = some (.int .i64 x.op) := HX.out.cell 4
  have c5 : W.cell? ⟨w.heap.size, 5, none⟩ = some (.int .i64 x.n) := HX.out.cell 5
  clear h hb
  cases hk : exK x.kind
  · have HR2 : Hid (R = 2) := Lib.hid (hR.symm.trans (checkM_no (headno_1 (m := mP x) hk)))
    rcases exK_no hk with h1 | h1
    · clear hk hR
      go_enter Tryz.func19, Tryz.ntmps19
      go_wp2
      go_ret
      exact isI_of HR2.out.symm HB.out
    · have h0 : 1 ≤ x.kind := by omega
      clear hk hR
      go_enter Tryz.func19, Tryz.ntmps19
      go_wp2
      go_ret
      exact isI_of HR2.out.symm HB.out
  obtain ⟨hk1, hk17⟩ := exK_yes hk
  have HKX := Lib.hid hk
  have HRX := Lib.hid hR
  have HCN := Lib.hid fun W' => rhasN_any x.kind W'
  have HCF := Lib.hid fun W' => rhasF_any x.kind W'
  have HCE := Lib.hid fun W' => rhasE_any x.kind W'
  have HCL := Lib.hid fun W' => rhasL_any x.kind W'
  have HCR := Lib.hid fun W' => rhasR_any x.kind W'
  have HGN : Hid (∃ g, hasN x.kind = g) := Lib.hid ⟨_, rfl⟩
  clear hk hR
  go_enter Tryz.func19, Tryz.ntmps19
  go_wp2_with fail
  refine (refwithin12_any x.fr 1048575 W).mono ?_
  rintro e w' ⟨rfl, rfl⟩
  cases hf : inR x.fr 1048575
  · have HR2 : Hid (R = 2) := Lib.hid (HRX.out.symm.trans (checkM_no (headno_2 (m := mP x) hf)))
    as_aux_lemma =>
    clear hf
    go_wp2
    go_ret
    exact isI_of HR2.out.symm HB.out
  have If := Lib.hid hf
  clear hf
  go_wp2_with fail
  refine (refwithin12_any x.dst 1048575 W).mono ?_
  rintro e w' ⟨rfl, rfl⟩
  cases hd : inR x.dst 1048575
  · have HR2 : Hid (R = 2) := Lib.hid (HRX.out.symm.trans (checkM_no (headno_3 (m := mP x) hd)))
    as_aux_lemma =>
    clear hd
    go_wp2
    go_ret
    exact isI_of HR2.out.symm HB.out
  have Id := Lib.hid hd
  clear hd
  go_wp2_with fail
  refine (refwithin12_any x.ep 1099511627775 W).mono ?_
  rintro e w' ⟨rfl, rfl⟩
  cases he : inR x.ep 1099511627775
  · have HR2 : Hid (R = 2) := Lib.hid (HRX.out.symm.trans (checkM_no (headno_4 (m := mP x) he)))
    as_aux_lemma =>
    clear he
    go_wp2
    go_ret
    exact isI_of HR2.out.symm HB.out
  have Ie := Lib.hid he
  clear he
  go_wp2_with fail
  refine (refwithin12_any x.op 1099511627775 W).mono ?_
  rintro e w' ⟨rfl, rfl⟩
  cases ho : inR x.op 1099511627775
  · have HR2 : Hid (R = 2) := Lib.hid (HRX.out.symm.trans (checkM_no (headno_5 (m := mP x) ho)))
    as_aux_lemma =>
    clear ho
    go_wp2
    go_ret
    exact isI_of HR2.out.symm HB.out
  have Io := Lib.hid ho
  clear ho
  go_wp2_with fail
  refine (refwithin12_any x.n 1099511627775 W).mono ?_
  rintro e w' ⟨rfl, rfl⟩
  cases hn : inR x.n 1099511627775
  · have HR2 : Hid (R = 2) := Lib.hid (HRX.out.symm.trans (checkM_no (headno_n (m := mP x) hn)))
    as_aux_lemma =>
    clear hn
    go_wp2
    go_ret
    exact isI_of HR2.out.symm HB.out
  have In := Lib.hid hn
  clear hn
  have hh : headR (mP x) = true := by
    unfold headR
    show (exK x.kind && inR x.fr 1048575 && inR x.dst 1048575 && inR x.ep 1099511627775 && inR x.op 1099511627775) = true
    rw [HKX.out, If.out, Id.out, Ie.out, Io.out]; rfl
  have hby := okM_by (m := mP x) hh In.out
  have hRR : R = if (!k5 (mP x) && (allE (mP x).l && (!k13 (mP x) && !k15 (mP x)))) = true then 0 else 2 := by rw [← HRX.out, ← hby]; rfl
  obtain ⟨q5, hq5⟩ : ∃ q, k5 (mP x) = q := ⟨_, rfl⟩
  obtain ⟨qa, hqa⟩ : ∃ q, allE (mP x).l = q := ⟨_, rfl⟩
  obtain ⟨q13, hq13⟩ : ∃ q, k13 (mP x) = q := ⟨_, rfl⟩
  obtain ⟨q15, hq15⟩ : ∃ q, k15 (mP x) = q := ⟨_, rfl⟩
  rw [hq5, hqa, hq13, hq15] at hRR
  have HRR := Lib.hid hRR
  have HQ5 : Hid (((!hasN x.kind && decide (0 < x.n)) || ((!hasF x.kind && x.flag) || ((!hasL x.kind && decide (0 < x.l.length)) || decide (1000 < x.l.length)))) = q5) := Lib.hid (by rw [← hq5]; unfold k5; show _ = _; unfold mP; simp only [List.length_map])
  have HQA : Hid ((qa = true ↔ ∀ y ∈ x.l, okE y.1)) := Lib.hid (by
    rw [← hqa, allE_iff]
    exact ⟨fun h y hy => h _ (List.mem_map_of_mem hy), fun h z hz => by obtain ⟨y, hy, rfl⟩ := List.mem_map.1 hz; exact h y hy⟩)
  have HQ13 : Hid ((if hasE x.kind = true then !decide (okE x.e.1) else !decide (noE x.e.1)) = q13) := Lib.hid hq13
  have HQ15 : Hid ((if hasR x.kind = true then !decide (OkR x.ns x.each x.keep) else !decide (x.ns = [] ∧ x.each = 0 ∧ x.keep = 0)) = q15) := Lib.hid hq15
  have HGS := Lib.hid (kind_sets12 HKX.out)
  generalize hasN x.kind = gN at HQ5 HCN HGS
  generalize hasF x.kind = gF at HQ5 HCF HGS
  generalize hasL x.kind = gL at HQ5 HCL HGS
  generalize hasE x.kind = gE at HQ13 HCE
  generalize hasR x.kind = gR at HQ15 HCR
  obtain ⟨fl, hfl⟩ : ∃ b, x.flag = b := ⟨_, rfl⟩
  have HFL := Lib.hid hfl
  rw [hfl] at HQ5
  have hlb := HM.out.ln
  unfold maxLen at hlb
  have hl0 : (0 : Int) ≤ (x.l.length : Int) := by omega
  have hl1 : (x.l.length : Int) ≤ 9223372036854775807 := by omega
  have HLQ : Hid (decide ((1000 : Int) < (x.l.length : Int)) = decide (1000 < x.l.length)) := Lib.hid (decide_eq_decide.2 (by omega))
  clear hh hby hRR hq5 hqa hq13 hq15 hfl hlb HKX HRX HGN
  go_upto_region 5 with fail
  go_cut [77] (fun t wx => t = .bool q5 ∧ Hid (Below W.heap.size W wx))
  case first =>
    rcases HGS.out with ⟨rfl, rfl, rfl⟩ | ⟨rfl, rfl, rfl⟩ | ⟨rfl, rfl, rfl⟩ | ⟨rfl, rfl, rfl⟩
    · clear HGS
      go_wp2_with fail
      refine (HCN.out W).mono ?_
      rintro e w2 ⟨rfl, hb2⟩
      have hc2 : Below W.heap.size W w2 := ((Below.refl W.heap.size W)).trans (hb2.mono ((Below.refl W.heap.size W)).size)
      have hx2 := HX.out.below hc2 HX.out.lt
      have d0 : w2.cell? ⟨w.heap.size, 0, none⟩ = some (.int .i64 x.kind) := hx2.cell 0
      have d5 : w2.cell? ⟨w.heap.size, 5, none⟩ = some (.int .i64 x.n) := hx2.cell 5
      have d6 : w2.cell? ⟨w.heap.size, 6, none⟩ = some (.bool fl) := (hx2.cell 6).trans (by rw [← HFL.out]; rfl)
      have d13 : w2.cell? ⟨w.heap.size, 13, none⟩ = some (.slice x.lA x.l.length x.lc) := hx2.cell 13
      clear hb2 hx2
      by_cases hp : 0 < x.n
      ·
        as_aux_lemma =>
        go_wp2
        go_meet
        exact ⟨congrArg Value.bool (by rw [← HQ5.out]; simp [hp]), Lib.hid hc2⟩
      have hn0 : x.n ≤ 0 := by omega
      clear hp
      go_wp2_with fail
      refine (HCF.out w2).mono ?_
      rintro e w3 ⟨rfl, hb3⟩
      have hc3 : Below W.heap.size W w3 := (hc2).trans (hb3.mono (hc2).size)
      have hx3 := HX.out.below hc3 HX.out.lt
      have d0 : w3.cell? ⟨w.heap.size, 0, none⟩ = some (.int .i64 x.kind) := hx3.cell 0
      have d5 : w3.cell? ⟨w.heap.size, 5, none⟩ = some (.int .i64 x.n) := hx3.cell 5
      have d6 : w3.cell? ⟨w.heap.size, 6, none⟩ = some (.bool fl) := (hx3.cell 6).trans (by rw [← HFL.out]; rfl)
      have d13 : w3.cell? ⟨w.heap.size, 13, none⟩ = some (.slice x.lA x.l.length x.lc) := hx3.cell 13
      clear hb3 hx3
      cases fl
      case true =>
        as_aux_lemma =>
        go_wp2
        go_meet
        exact ⟨congrArg Value.bool (by rw [← HQ5.out]; simp [(show ¬ 0 < x.n by omega)]), Lib.hid hc3⟩
      case false =>
      go_wp2_with fail
      refine (HCL.out w3).mono ?_
      rintro e w4 ⟨rfl, hb4⟩
      have hc4 : Below W.heap.size W w4 := (hc3).trans (hb4.mono (hc3).size)
      have hx4 := HX.out.below hc4 HX.out.lt
      have d0 : w4.cell? ⟨w.heap.size, 0, none⟩ = some (.int .i64 x.kind) := hx4.cell 0
      have d5 : w4.cell? ⟨w.heap.size, 5, none⟩ = some (.int .i64 x.n) := hx4.cell 5
      have d6 : w4.cell? ⟨w.heap.size, 6, none⟩ = some (.bool false) := (hx4.cell 6).trans (by rw [← HFL.out]; rfl)
      have d13 : w4.cell? ⟨w.heap.size, 13, none⟩ = some (.slice x.lA x.l.length x.lc) := hx4.cell 13
      clear hb4 hx4
      by_cases hz : 0 < x.l.length
      · have hz1 : (0 : Int) < (x.l.length : Int) := by omega
        as_aux_lemma =>
        go_wp2
        go_meet
        exact ⟨congrArg Value.bool (by rw [← HQ5.out]; simp [(show ¬ 0 < x.n by omega), hz]), Lib.hid hc4⟩
      have hz1 : (x.l.length : Int) ≤ 0 := by omega
      as_aux_lemma =>
      go_wp2
      go_meet
      exact ⟨congrArg Value.bool (by rw [← HQ5.out, HLQ.out]; simp [(show ¬ 0 < x.n by omega), (show ¬ 0 < x.l.length by omega)]), Lib.hid hc4⟩
    · clear HGS
      go_wp2_with fail
      refine (HCN.out W).mono ?_
      rintro e w2 ⟨rfl, hb2⟩
      have hc2 : Below W.heap.size W w2 := ((Below.refl W.heap.size W)).trans (hb2.mono ((Below.refl W.heap.size W)).size)
      have hx2 := HX.out.below hc2 HX.out.lt
      have d0 : w2.cell? ⟨w.heap.size, 0, none⟩ = some (.int .i64 x.kind) := hx2.cell 0
      have d5 : w2.cell? ⟨w.heap.size, 5, none⟩ = some (.int .i64 x.n) := hx2.cell 5
      have d6 : w2.cell? ⟨w.heap.size, 6, none⟩ = some (.bool fl) := (hx2.cell 6).trans (by rw [← HFL.out]; rfl)
      have d13 : w2.cell? ⟨w.heap.size, 13, none⟩ = some (.slice x.lA x.l.length x.lc) := hx2.cell 13
      clear hb2 hx2
      go_wp2_with fail
      refine (HCF.out w2).mono ?_
      rintro e w3 ⟨rfl, hb3⟩
      have hc3 : Below W.heap.size W w3 := (hc2).trans (hb3.mono (hc2).size)
      have hx3 := HX.out.below hc3 HX.out.lt
      have d0 : w3.cell? ⟨w.heap.size, 0, none⟩ = some (.int .i64 x.kind) := hx3.cell 0
      have d5 : w3.cell? ⟨w.heap.size, 5, none⟩ = some (.int .i64 x.n) := hx3.cell 5
      have d6 : w3.cell? ⟨w.heap.size, 6, none⟩ = some (.bool fl) := (hx3.cell 6).trans (by rw [← HFL.out]; rfl)
      have d13 : w3.cell? ⟨w.heap.size, 13, none⟩ = some (.slice x.lA x.l.length x.lc) := hx3.cell 13
      clear hb3 hx3
      go_wp2_with fail
      refine (HCL.out w3).mono ?_
      rintro e w4 ⟨rfl, hb4⟩
      have hc4 : Below W.heap.size W w4 := (hc3).trans (hb4.mono (hc3).size)
      have hx4 := HX.out.below hc4 HX.out.lt
      have d0 : w4.cell? ⟨w.heap.size, 0, none⟩ = some (.int .i64 x.kind) := hx4.cell 0
      have d5 : w4.cell? ⟨w.heap.size, 5, none⟩ = some (.int .i64 x.n) := hx4.cell 5
      have d6 : w4.cell? ⟨w.heap.size, 6, none⟩ = some (.bool fl) := (hx4.cell 6).trans (by rw [← HFL.out]; rfl)
      have d13 : w4.cell? ⟨w.heap.size, 13, none⟩ = some (.slice x.lA x.l.length x.lc) := hx4.cell 13
      clear hb4 hx4
      by_cases hz : 0 < x.l.length
      · have hz1 : (0 : Int) < (x.l.length : Int) := by omega
        as_aux_lemma =>
        go_wp2
        go_meet
        exact ⟨congrArg Value.bool (by rw [← HQ5.out]; simp [hz]), Lib.hid hc4⟩
      have hz1 : (x.l.length : Int) ≤ 0 := by omega
      as_aux_lemma =>
      go_wp2
      go_meet
      exact ⟨congrArg Value.bool (by rw [← HQ5.out, HLQ.out]; simp [(show ¬ 0 < x.l.length by omega)]), Lib.hid hc4⟩
    · clear HGS
      go_wp2_with fail
      refine (HCN.out W).mono ?_
      rintro e w2 ⟨rfl, hb2⟩
      have hc2 : Below W.heap.size W w2 := ((Below.refl W.heap.size W)).trans (hb2.mono ((Below.refl W.heap.size W)).size)
      have hx2 := HX.out.below hc2 HX.out.lt
      have d0 : w2.cell? ⟨w.heap.size, 0, none⟩ = some (.int .i64 x.kind) := hx2.cell 0
      have d5 : w2.cell? ⟨w.heap.size, 5, none⟩ = some (.int .i64 x.n) := hx2.cell 5
      have d6 : w2.cell? ⟨w.heap.size, 6, none⟩ = some (.bool fl) := (hx2.cell 6).trans (by rw [← HFL.out]; rfl)
      have d13 : w2.cell? ⟨w.heap.size, 13, none⟩ = some (.slice x.lA x.l.length x.lc) := hx2.cell 13
      clear hb2 hx2
      go_wp2_with fail
      refine (HCF.out w2).mono ?_
      rintro e w3 ⟨rfl, hb3⟩
      have hc3 : Below W.heap.size W w3 := (hc2).trans (hb3.mono (hc2).size)
      have hx3 := HX.out.below hc3 HX.out.lt
      have d0 : w3.cell? ⟨w.heap.size, 0, none⟩ = some (.int .i64 x.kind) := hx3.cell 0
      have d5 : w3.cell? ⟨w.heap.size, 5, none⟩ = some (.int .i64 x.n) := hx3.cell 5
      have d6 : w3.cell? ⟨w.heap.size, 6, none⟩ = some (.bool fl) := (hx3.cell 6).trans (by rw [← HFL.out]; rfl)
      have d13 : w3.cell? ⟨w.heap.size, 13, none⟩ = some (.slice x.lA x.l.length x.lc) := hx3.cell 13
      clear hb3 hx3
      cases fl
      case true =>
        as_aux_lemma =>
        go_wp2
        go_meet
        exact ⟨congrArg Value.bool (by rw [← HQ5.out]; simp), Lib.hid hc3⟩
      case false =>
      go_wp2_with fail
      refine (HCL.out w3).mono ?_
      rintro e w4 ⟨rfl, hb4⟩
      have hc4 : Below W.heap.size W w4 := (hc3).trans (hb4.mono (hc3).size)
      have hx4 := HX.out.below hc4 HX.out.lt
      have d0 : w4.cell? ⟨w.heap.size, 0, none⟩ = some (.int .i64 x.kind) := hx4.cell 0
      have d5 : w4.cell? ⟨w.heap.size, 5, none⟩ = some (.int .i64 x.n) := hx4.cell 5
      have d6 : w4.cell? ⟨w.heap.size, 6, none⟩ = some (.bool false) := (hx4.cell 6).trans (by rw [← HFL.out]; rfl)
      have d13 : w4.cell? ⟨w.heap.size, 13, none⟩ = some (.slice x.lA x.l.length x.lc) := hx4.cell 13
      clear hb4 hx4
      by_cases hz : 0 < x.l.length
      · have hz1 : (0 : Int) < (x.l.length : Int) := by omega
        as_aux_lemma =>
        go_wp2
        go_meet
        exact ⟨congrArg Value.bool (by rw [← HQ5.out]; simp [hz]), Lib.hid hc4⟩
      have hz1 : (x.l.length : Int) ≤ 0 := by omega
      as_aux_lemma =>
      go_wp2
      go_meet
      exact ⟨congrArg Value.bool (by rw [← HQ5.out, HLQ.out]; simp [(show ¬ 0 < x.l.length by omega)]), Lib.hid hc4⟩
    · clear HGS
      go_wp2_with fail
      refine (HCN.out W).mono ?_
      rintro e w2 ⟨rfl, hb2⟩
      have hc2 : Below W.heap.size W w2 := ((Below.refl W.heap.size W)).trans (hb2.mono ((Below.refl W.heap.size W)).size)
      have hx2 := HX.out.below hc2 HX.out.lt
      have d0 : w2.cell? ⟨w.heap.size, 0, none⟩ = some (.int .i64 x.kind) := hx2.cell 0
      have d5 : w2.cell? ⟨w.heap.size, 5, none⟩ = some (.int .i64 x.n) := hx2.cell 5
      have d6 : w2.cell? ⟨w.heap.size, 6, none⟩ = some (.bool fl) := (hx2.cell 6).trans (by rw [← HFL.out]; rfl)
      have d13 : w2.cell? ⟨w.heap.size, 13, none⟩ = some (.slice x.lA x.l.length x.lc) := hx2.cell 13
      clear hb2 hx2
      go_wp2_with fail
      refine (HCF.out w2).mono ?_
      rintro e w3 ⟨rfl, hb3⟩
      have hc3 : Below W.heap.size W w3 := (hc2).trans (hb3.mono (hc2).size)
      have hx3 := HX.out.below hc3 HX.out.lt
      have d0 : w3.cell? ⟨w.heap.size, 0, none⟩ = some (.int .i64 x.kind) := hx3.cell 0
      have d5 : w3.cell? ⟨w.heap.size, 5, none⟩ = some (.int .i64 x.n) := hx3.cell 5
      have d6 : w3.cell? ⟨w.heap.size, 6, none⟩ = some (.bool fl) := (hx3.cell 6).trans (by rw [← HFL.out]; rfl)
      have d13 : w3.cell? ⟨w.heap.size, 13, none⟩ = some (.slice x.lA x.l.length x.lc) := hx3.cell 13
      clear hb3 hx3
      go_wp2_with fail
      refine (HCL.out w3).mono ?_
      rintro e w4 ⟨rfl, hb4⟩
      have hc4 : Below W.heap.size W w4 := (hc3).trans (hb4.mono (hc3).size)
      have hx4 := HX.out.below hc4 HX.out.lt
      have d0 : w4.cell? ⟨w.heap.size, 0, none⟩ = some (.int .i64 x.kind) := hx4.cell 0
      have d5 : w4.cell? ⟨w.heap.size, 5, none⟩ = some (.int .i64 x.n) := hx4.cell 5
      have d6 : w4.cell? ⟨w.heap.size, 6, none⟩ = some (.bool fl) := (hx4.cell 6).trans (by rw [← HFL.out]; rfl)
      have d13 : w4.cell? ⟨w.heap.size, 13, none⟩ = some (.slice x.lA x.l.length x.lc) := hx4.cell 13
      clear hb4 hx4
      as_aux_lemma =>
      go_wp2
      go_meet
      exact ⟨congrArg Value.bool (by rw [← HQ5.out, HLQ.out]; simp), Lib.hid hc4⟩
  case rest =>
    obtain ⟨rfl, HB5⟩ := hcut
    cases q5
    case true =>
      have HR2 : Hid (R = 2) := Lib.hid (by rw [HRR.out]; simp)
      go_wp2
      go_ret
      exact isI_of HR2.out.symm (HB.out.trans (HB5.out.mono HB.out.size))
    case false =>
    have hln : x.l.length ≤ 1000 := by
      have := HQ5.out
      simp only [Bool.or_eq_false_iff, decide_eq_false_iff_not] at this
      omega
    have hln1 : (x.l.length : Int) ≤ 1000 := by omega
    clear HQ5 HCN HCF HCL HGS c0 c1 c2 c3 c4 c5 If Id Ie Io In
    have HX5 := Lib.hid (HX.out.below HB5.out HX.out.lt)
    have HM5 := Lib.hid (HM.out.below HB5.out)
    have HB6 := Lib.hid (HB.out.trans (HB5.out.mono HB.out.size))
    obtain ⟨V, hV⟩ : ∃ V, wc = V := ⟨_, rfl⟩
    go_wp2
    go_loopg [3] x.l.length (fun gk i wr => ∃ k : Nat, k + gk = x.l.length ∧ i = .int .i64 k ∧ Hid (Below wc.heap.size wc wr) ∧ Hid (∀ j (hj : j < x.l.length), j < k → okE x.l[j].1))
    case atStart => exact ⟨0, by omega, rfl, Lib.hid (Below.refl _ _), Lib.hid fun j _ h => absurd h (Nat.not_lt_zero _)⟩
    case round =>
      obtain ⟨k, hk, rfl, HBR, HOE⟩ := hrel
      have d13 : wr.cell? ⟨w.heap.size, 13, none⟩ = some (.slice x.lA x.l.length x.lc) := (HX5.out.below HBR.out HX5.out.lt).cell 13
      have HBW := Lib.hid (HB6.out.trans (HBR.out.mono HB6.out.size))
      by_cases hlt : k < x.l.length
      · obtain ⟨b, o, hA, hbl, hc⟩ := ents_open (HM5.out.below HBR.out).en.row (by omega)
        obtain ⟨a0, a1, a2, a3, a4, a5⟩ := hc k hlt
        have v1 := (HM5.out.below HBR.out).en.val x.l[k] (List.getElem_mem hlt)
        have HMEM := Lib.hid (List.getElem_mem hlt)
        have HC := Lib.hid fun W' => refrightev_any x.l[k] v1.leni v1.kleni W'
        have HOK : Hid (∀ r, rightE x.l[k].1.k.length x.l[k].1.v.length x.l[k].1.s x.l[k].1.u x.l[k].1.o x.l[k].1.has = r → (r = 0 ∧ ∀ j (hj : j < x.l.length), j < k + 1 → okE x.l[j].1) ∨ (r = 2 ∧ R = 2)) := Lib.hid fun r hr => by
          rcases rightE_02 x.l[k].1.k.length x.l[k].1.v.length x.l[k].1.s x.l[k].1.u x.l[k].1.o x.l[k].1.has with h2 | h2
          · left
            refine ⟨hr.symm.trans h2, fun j hj hjk => ?_⟩
            by_cases hjj : j = k
            · subst hjj; exact h2
            · exact HOE.out j hj (by omega)
          · right
            refine ⟨hr.symm.trans h2, ?_⟩
            have hqa : qa = false := by
              cases hqq : qa
              · rfl
              · have h3 : rightE x.l[k].1.k.length x.l[k].1.v.length x.l[k].1.s x.l[k].1.u x.l[k].1.o x.l[k].1.has = 0 := HQA.out.1 hqq _ HMEM.out
                rw [h2] at h3; cases h3
            rw [HRR.out, hqa]; simp
        obtain ⟨r, hr⟩ : ∃ r, rightE x.l[k].1.k.length x.l[k].1.v.length x.l[k].1.s x.l[k].1.u x.l[k].1.o x.l[k].1.has = r := ⟨_, rfl⟩
        have HOR := Lib.hid (HOK.out r hr)
        rw [hr] at HC
        obtain ⟨⟨y, A1, c1⟩, hy⟩ : ∃ p, x.l[k]'hlt = p := ⟨_, rfl⟩
        rw [hy] at a0 a1 a2 a3 a4 a5 HC
        simp only at a0 a1 a2 a3 a4 a5 HC
        have hki : (0 : Int) ≤ (k : Int) := by omega
        have hki2 : (k : Int) < (x.l.length : Int) := by omega
        rw [hA] at d13
        clear hA hc v1 HMEM HOK hr hy hbl
        rcases HOR.out with ⟨rfl, hall⟩ | ⟨rfl, hR2⟩
        · have HOE2 := Lib.hid hall
          clear hall HOR HOE
          go_wp2_with fail
          refine (HC.out wr).mono ?_
          rintro e w2 ⟨rfl, hb2⟩
          have HB2 := Lib.hid (HBR.out.trans (hb2.mono HBR.out.size))
          clear hb2
          go_wp2
          go_roundg (gk - 1)
          case rel => exact ⟨k + 1, by omega, by go_num, HB2, HOE2⟩
          case measure => omega
        · have HR2 := Lib.hid hR2
          clear hR2 HOR HOE
          go_wp2_with fail
          refine (HC.out wr).mono ?_
          rintro e w2 ⟨rfl, hb2⟩
          have HB2 := Lib.hid (HBW.out.trans (hb2.mono HBW.out.size))
          clear hb2
          go_wp2
          go_ret
          exact isI_of HR2.out.symm HB2.out
      · obtain rfl : k = x.l.length := by omega
        have HQT : Hid (qa = true) := Lib.hid (HQA.out.2 fun y hy => by
          obtain ⟨j, hj, rfl⟩ := List.mem_iff_getElem.1 hy
          exact HOE.out j hj hj)
        obtain rfl := HQT.out
        have HXr := Lib.hid (HX5.out.below HBR.out HX5.out.lt)
        have HMr := Lib.hid (HM5.out.below HBR.out)
        clear HOE HQA HX5 HM5 HB6 hV HQT
        obtain ⟨q4, hq4⟩ : ∃ q, decide (noE x.e.1) = q := ⟨_, rfl⟩
        rw [hq4] at HQ13
        have HQ4 := Lib.hid hq4
        clear hq4
        go_upto_region 12 with fail
        go_cut [4] (fun t wx => t = .bool q4 ∧ wx = wr)
        case first =>
          have d7 : wr.cell? ⟨w.heap.size, 7, none⟩ = some (.string ⟨x.e.1.k.toArray⟩) := HXr.out.cell 7
          have d8 : wr.cell? ⟨w.heap.size, 8, none⟩ = some (.int .i64 x.e.1.s) := HXr.out.cell 8
          have d9 : wr.cell? ⟨w.heap.size, 9, none⟩ = some (.int .i64 x.e.1.u) := HXr.out.cell 9
          have d10 : wr.cell? ⟨w.heap.size, 10, none⟩ = some (.int .i64 x.e.1.o) := HXr.out.cell 10
          have d11 : wr.cell? ⟨w.heap.size, 11, none⟩ = some (.bool x.e.1.has) := HXr.out.cell 11
          have d12 : wr.cell? ⟨w.heap.size, 12, none⟩ = some (.slice x.e.2.1 x.e.1.v.length x.e.2.2) := HXr.out.cell 12
          have HNE : Hid (decide (noE x.e.1) = (decide (x.e.1.k = []) && (eqT x.e.1.s x.e.1.u x.e.1.o 0 0 0 && (!x.e.1.has && x.e.1.v.length == 0)))) := Lib.hid (by
            rw [Bool.eq_iff_iff, decide_eq_true_iff (p := noE x.e.1)]
            unfold noE eqT
            simp only [decide_eq_true_eq, Bool.and_eq_true, beq_iff_eq, Bool.not_eq_true', List.length_eq_zero_iff, and_assoc])
          rw [HQ4.out] at HNE
          have hvl : (x.e.1.v.length : Int) ≤ 9223372036854775807 := HMr.out.ev.leni
          have hv0 : (0 : Int) ≤ (x.e.1.v.length : Int) := by omega
          obtain ⟨ks, hks⟩ : ∃ l, x.e.1.k = l := ⟨_, rfl⟩
          obtain ⟨vl, hvl2⟩ : ∃ n, x.e.1.v.length = n := ⟨_, rfl⟩
          obtain ⟨hs, hhs⟩ : ∃ n, x.e.1.has = n := ⟨_, rfl⟩
          have hq := run_eqT x.e.1.s x.e.1.u x.e.1.o 0 0 0
          obtain ⟨te, hte⟩ : ∃ b, eqT x.e.1.s x.e.1.u x.e.1.o 0 0 0 = b := ⟨_, rfl⟩
          rw [hks, hte, hhs, hvl2] at HNE
          rw [hks] at d7
          rw [hhs] at d11
          rw [hvl2] at d12 hvl hv0
          rw [hte] at hq
          clear hks hvl2 hhs hte
          cases ks with
          | cons a r =>
            have f1 : (a :: r == []) = false := rfl
            have f2 : (a :: r).isEmpty = false := rfl
            have f3 : ¬ (a :: r) = [] := by simp
            go_wp2
            go_meet
            exact ⟨congrArg Value.bool (by rw [HNE.out]; rfl), rfl⟩
          | nil =>
            cases te
            · go_wp2
              go_meet
              exact ⟨congrArg Value.bool (by rw [HNE.out]; rfl), rfl⟩
            · cases hs
              · by_cases hz : vl = 0
                · subst hz
                  go_wp2
                  go_meet
                  exact ⟨congrArg Value.bool (by rw [HNE.out]; rfl), rfl⟩
                · have hz1 : ((vl : Int) == 0) = false := by rw [beq_eq_false_iff_ne]; omega
                  have hz2 : (vl == 0) = false := by rw [beq_eq_false_iff_ne]; exact hz
                  go_wp2
                  go_meet
                  exact ⟨congrArg Value.bool (by rw [HNE.out, hz2]; rfl), rfl⟩
              · go_wp2
                go_meet
                exact ⟨congrArg Value.bool (by rw [HNE.out]; rfl), rfl⟩
        case rest =>
          obtain ⟨rfl, hwc⟩ := hcut
          have hwc2 := hwc.symm
          clear hwc
          subst hwc2
          go_upto_region 13 with fail
          go_cut [136] (fun t wx => t = .bool q13 ∧ Hid (Below wr.heap.size wr wx))
          case first =>
            have hx1 := HXr.out
            have d0 : wr.cell? ⟨w.heap.size, 0, none⟩ = some (.int .i64 x.kind) := hx1.cell 0
            have HCR1 := Lib.hid fun W' => refrightev_any x.e HMr.out.ev.leni HMr.out.ev.kleni W'
            clear hx1
            go_wp2_with fail
            refine (HCE.out wr).mono ?_
            rintro e w2 ⟨rfl, hb2⟩
            have hc2 : Below wr.heap.size wr w2 := ((Below.refl wr.heap.size wr)).trans (hb2.mono ((Below.refl wr.heap.size wr)).size)
            have hx2 := HXr.out.below hc2 HXr.out.lt
            have d0 : w2.cell? ⟨w.heap.size, 0, none⟩ = some (.int .i64 x.kind) := hx2.cell 0
            have d7 : w2.cell? ⟨w.heap.size, 7, none⟩ = some (.string ⟨x.e.1.k.toArray⟩) := hx2.cell 7
            have d8 : w2.cell? ⟨w.heap.size, 8, none⟩ = some (.int .i64 x.e.1.s) := hx2.cell 8
            have d9 : w2.cell? ⟨w.heap.size, 9, none⟩ = some (.int .i64 x.e.1.u) := hx2.cell 9
            have d10 : w2.cell? ⟨w.heap.size, 10, none⟩ = some (.int .i64 x.e.1.o) := hx2.cell 10
            have d11 : w2.cell? ⟨w.heap.size, 11, none⟩ = some (.bool x.e.1.has) := hx2.cell 11
            have d12 : w2.cell? ⟨w.heap.size, 12, none⟩ = some (.slice x.e.2.1 x.e.1.v.length x.e.2.2) := hx2.cell 12
            clear hb2 hx2
            cases gE
            · go_wp2_with fail
              refine (HCE.out w2).mono ?_
              rintro e w3 ⟨rfl, hb3⟩
              have hc3 : Below wr.heap.size wr w3 := (hc2).trans (hb3.mono (hc2).size)
              have hx3 := HXr.out.below hc3 HXr.out.lt
              clear hb3 hx3
              cases q4
              all_goals
                go_wp2
                go_meet
                exact ⟨congrArg Value.bool (by rw [← HQ13.out]; simp), Lib.hid hc3⟩
            · obtain ⟨r, hr⟩ : ∃ r, rightE x.e.1.k.length x.e.1.v.length x.e.1.s x.e.1.u x.e.1.o x.e.1.has = r := ⟨_, rfl⟩
              have HR0 : Hid (decide (okE x.e.1) = (r == 0)) := Lib.hid (okE_def x.e.1 r hr)
              have hr2 : r = 0 ∨ r = 2 := by rw [← hr]; exact rightE_02 _ _ _ _ _ _
              rw [hr] at HCR1
              clear hr
              go_wp2_with fail
              refine (HCR1.out w2).mono ?_
              rintro e w3 ⟨rfl, hb3⟩
              have hc3 : Below wr.heap.size wr w3 := hc2.trans (hb3.mono hc2.size)
              have hx3 := HXr.out.below hc3 HXr.out.lt
              have d0 : w3.cell? ⟨w.heap.size, 0, none⟩ = some (.int .i64 x.kind) := hx3.cell 0
              clear hb3 hx3
              rcases hr2 with rfl | rfl
              · go_wp2_with fail
                refine (HCE.out w3).mono ?_
                rintro e w4 ⟨rfl, hb4⟩
                have hc4 : Below wr.heap.size wr w4 := (hc3).trans (hb4.mono (hc3).size)
                have hx4 := HXr.out.below hc4 HXr.out.lt
                clear hb4 hx4
                go_wp2
                go_meet
                exact ⟨congrArg Value.bool (by rw [← HQ13.out, HR0.out]; simp), Lib.hid hc4⟩
              · go_wp2
                go_meet
                exact ⟨congrArg Value.bool (by rw [← HQ13.out, HR0.out]; simp), Lib.hid hc3⟩
          case rest =>
            obtain ⟨rfl, HB13⟩ := hcut
            cases q13
            case true =>
              have HR2 : Hid (R = 2) := Lib.hid (by rw [HRR.out]; simp)
              go_wp2
              go_ret
              exact isI_of HR2.out.symm (HBW.out.trans (HB13.out.mono HBW.out.size))
            case false =>
            clear HQ13 HCE
            obtain ⟨V1, hV1⟩ : ∃ V1, wr = V1 := ⟨_, rfl⟩
            go_upto_region 15 with fail
            go_cut [158] (fun t wx => t = .bool q15 ∧ Hid (Below wr.heap.size wr wx))
            case first =>
              have hx1 := HXr.out.below HB13.out HXr.out.lt
              have d0 : wc.cell? ⟨w.heap.size, 0, none⟩ = some (.int .i64 x.kind) := hx1.cell 0
              have HRC := Lib.hid fun W' (hb : Below wr.heap.size wr W') => refringcheck12 x.rA x.ns.length x.rc x.ns x.each x.keep rfl HMr.out.rl W' ((HMr.out.rn.below hb).more hb.size)
              have HRS := Lib.hid fun W' (hb : Below wr.heap.size wr W') => refringsame_gen x.rA none x.ns.length 0 x.rc 0 x.ns [] x.each x.keep 0 0 rfl rfl HMr.out.rl (by decide) W' ((HMr.out.rn.below hb).more hb.size) (Row.nil _ _ _)
              clear hx1
              go_wp2_with fail
              refine (HCR.out wc).mono ?_
              rintro e w2 ⟨rfl, hb2⟩
              have hc2 : Below wr.heap.size wr w2 := (HB13.out).trans (hb2.mono (HB13.out).size)
              have hx2 := HXr.out.below hc2 HXr.out.lt
              have d0 : w2.cell? ⟨w.heap.size, 0, none⟩ = some (.int .i64 x.kind) := hx2.cell 0
              have d14 : w2.cell? ⟨w.heap.size, 14, none⟩ = some (.slice x.rA x.ns.length x.rc) := hx2.cell 14
              have d15 : w2.cell? ⟨w.heap.size, 15, none⟩ = some (.int .i64 x.each) := hx2.cell 15
              have d16 : w2.cell? ⟨w.heap.size, 16, none⟩ = some (.int .i64 x.keep) := hx2.cell 16
              clear hb2 hx2
              cases gR
              · go_wp2_with fail
                refine (HCR.out w2).mono ?_
                rintro e w3 ⟨rfl, hb3⟩
                have hc3 : Below wr.heap.size wr w3 := (hc2).trans (hb3.mono (hc2).size)
                have hx3 := HXr.out.below hc3 HXr.out.lt
                have d14 : w3.cell? ⟨w.heap.size, 14, none⟩ = some (.slice x.rA x.ns.length x.rc) := hx3.cell 14
                have d15 : w3.cell? ⟨w.heap.size, 15, none⟩ = some (.int .i64 x.each) := hx3.cell 15
                have d16 : w3.cell? ⟨w.heap.size, 16, none⟩ = some (.int .i64 x.keep) := hx3.cell 16
                clear hb3 hx3
                obtain ⟨qs, hqs⟩ : ∃ q, decide (x.ns = [] ∧ x.each = 0 ∧ x.keep = 0) = q := ⟨_, rfl⟩
                rw [hqs] at HQ15 HRS
                clear hqs
                go_wp2_with fail
                refine (HRS.out w3 hc3).mono ?_
                rintro e w4 ⟨rfl, hb4⟩
                have hc4 : Below wr.heap.size wr w4 := hc3.trans (hb4.mono hc3.size)
                clear hb4
                cases qs
                all_goals
                  go_wp2
                  go_meet
                  exact ⟨congrArg Value.bool (by rw [← HQ15.out]; simp), Lib.hid hc4⟩
              · go_wp2_with fail
                refine (HRC.out w2 hc2).mono ?_
                rintro e w3 ⟨⟨r, rfl, hr0, hr2⟩, hb3⟩
                have hc3 : Below wr.heap.size wr w3 := hc2.trans (hb3.mono hc2.size)
                have hx3 := HXr.out.below hc3 HXr.out.lt
                have d0 : w3.cell? ⟨w.heap.size, 0, none⟩ = some (.int .i64 x.kind) := hx3.cell 0
                clear hb3 hx3
                by_cases hO : OkR x.ns x.each x.keep
                · obtain rfl := hr0 hO
                  go_wp2_with fail
                  refine (HCR.out w3).mono ?_
                  rintro e w4 ⟨rfl, hb4⟩
                  have hc4 : Below wr.heap.size wr w4 := (hc3).trans (hb4.mono (hc3).size)
                  have hx4 := HXr.out.below hc4 HXr.out.lt
                  clear hb4 hx4
                  go_wp2
                  go_meet
                  exact ⟨congrArg Value.bool (by rw [← HQ15.out, decide_eq_true hO]; simp), Lib.hid hc4⟩
                · obtain rfl := hr2 hO
                  go_wp2
                  go_meet
                  exact ⟨congrArg Value.bool (by rw [← HQ15.out, decide_eq_false hO]; simp), Lib.hid hc3⟩
            case rest =>
              obtain ⟨rfl, HB15⟩ := hcut
              have HR3 : Hid (R = if q15 = true then 2 else 0) := Lib.hid (by rw [HRR.out]; cases q15 <;> rfl)
              cases q15
              all_goals
                go_wp2
                go_ret
                exact isI_of (by rw [HR3.out]; rfl) (HBW.out.trans (HB15.out.mono HBW.out.size))
end Go.Proofs.YtkdpfjenjcpcfaaGreatDoor
