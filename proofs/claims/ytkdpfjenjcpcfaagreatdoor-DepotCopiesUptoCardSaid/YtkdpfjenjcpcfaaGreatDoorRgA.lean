/- Whether a ring may be, by the program and by the document; how two points stand, by the program and by the document. -/
import Derived.Test.YtkdpfjenjcpcfaaGreatDoorCore
import Derived.Test.YtkdpfjenjcpcfaaGreatDoorSames
import Derived.Test.YtkdpfjenjcpcfaaGreatDoorRng
import Derived.IntWalk
import Derived.Deep.QuietTactic
import Derived.BigQuiet
namespace Go.Proofs.YtkdpfjenjcpcfaaGreatDoor
open Go.RowKit Mem Rg
set_option maxRecDepth 100000
set_option maxHeartbeats 2000000
set_option linter.unusedVariables false
theorem inc_of : ∀ (l : List Int), (∀ i (h : i + 1 < l.length), l[i] < l[i + 1]) → l.Pairwise (· < ·)
  | [], _ => List.Pairwise.nil
  | [a], _ => by simp
  | a :: b :: l, h => by
    have ih := inc_of (b :: l) (fun i hi => h (i + 1) (by simpa using hi))
    have h0 : a < b := h 0 (by simp)
    refine List.pairwise_cons.2 ⟨fun x hx => ?_, ih⟩
    rcases List.mem_cons.1 hx with rfl | hx
    · exact h0
    · have := (List.pairwise_cons.1 ih).1 x hx
      omega
theorem inc_at {l : List Int} (h : l.Pairwise (· < ·)) (i j : Nat) (hi : i < l.length) (hj : j < l.length) (hij : i < j) : l[i] < l[j] :=
  List.pairwise_iff_getElem.1 h i j hi hj hij
/-- A ring that may be. -/
def OkR (ns : List Int) (e k : Int) : Prop := 1 ≤ ns.length ∧ ns.length ≤ 64 ∧ 1 ≤ e ∧ e ≤ 64 ∧ 1 ≤ k ∧ k ≤ ns.length ∧ (∀ x ∈ ns, 0 ≤ x ∧ x ≤ 1048575) ∧ ns.Pairwise (· < ·)
instance (ns : List Int) (e k : Int) : Decidable (OkR ns e k) := inferInstanceAs (Decidable (_ ∧ _))
theorem int_cell {w : World} {B : Nat} {A : Option Addr} {ns : List Int} (h : Row w B A (ns.map iV)) (hn : 0 < ns.length) :
    ∃ b o, A = some ⟨b, o, none⟩ ∧ b < B ∧ ∀ i (hi : i < ns.length), w.cell? ⟨b, o + i, none⟩ = some (.int .i64 ns[i]) := by
  obtain ⟨b, o, hA, hb, hc⟩ := h.open_ (by rw [List.length_map]; exact hn)
  exact ⟨b, o, hA, hb, fun i hi => (hc i (by rw [List.length_map]; exact hi)).trans (congrArg some (List.getElem_map (f := iV) (h := by simpa using hi)))⟩
theorem inc_true (B c n : Nat) (A : Option Addr) (ns : List Int) (hn : n = ns.length) (hp : ns.Pairwise (· < ·)) (w : World) (h : Row w B A (ns.map iV)) (hl : n ≤ 1000000) :
    Calls Tryz.prog 139 #[.slice A n c] w (Quiet (.bool true) w) := by
  have HR := Lib.hid h
  have HP := Lib.hid hp
  have HN := Lib.hid hn
  have hnl : (n : Int) ≤ 1000000 := by omega
  clear h hp hn
  go_enter Tryz.func139, Tryz.ntmps139
  go_wp2
  go_loopw [7] (fun i wr => ∃ k : Nat, k ≤ n ∧ i = .int .i64 k ∧ Hid (∃ q, wr = w.drewN q)) (fun i _ => n - (intOf i).toNat)
  case atStart => exact ⟨0, by omega, rfl, Lib.hid ⟨0, rfl⟩⟩
  case round =>
    obtain ⟨k, hk, rfl, HQ⟩ := hrel
    by_cases hlt : k + 1 < n
    · obtain ⟨b, o, rfl, _, hc⟩ := int_cell (quiet_row HR.out HQ.out) (by rw [← HN.out]; omega)
      have h0 := hc k (by rw [← HN.out]; omega)
      have h1 := hc (k + 1) (by rw [← HN.out]; omega)
      have hlt2 := inc_at HP.out k (k + 1) (by rw [← HN.out]; omega) (by rw [← HN.out]; omega) (by omega)
      obtain ⟨x, hx⟩ : ∃ x, ns[k]'(by rw [← HN.out]; omega) = x := ⟨_, rfl⟩
      obtain ⟨y, hy⟩ : ∃ y, ns[k + 1]'(by rw [← HN.out]; omega) = y := ⟨_, rfl⟩
      rw [hx] at h0 hlt2
      rw [hy] at h1 hlt2
      have hki : (0 : Int) ≤ (k : Int) := by omega
      have hki2 : (k : Int) + 1 < (n : Int) := by omega
      have hki3 : (k : Int) < (n : Int) - 1 := by omega
      have hki4 : (k : Int) < (n : Int) := by omega
      have hki5 : (0 : Int) ≤ (k : Int) + 1 := by omega
      have hge : decide (y ≤ x) = false := by simpa using hlt2
      have hs1 : IntKind.i64.wrap ((k : Int) + 1) = (k : Int) + 1 := IntWalk.i64_in _ (by omega)
      have hs2 : ((k : Int) + 1).toNat = k + 1 := by omega
      clear hc hx hy
      go_wp2
      go_quiet (fail)
      go_wp2
      go_roundw
      case rel => exact ⟨k + 1, by omega, by go_num, Lib.hid (by obtain ⟨q, rfl⟩ := HQ.out; exact ⟨_, World.drewN_drewN _ _ _⟩)⟩
      case measure => simp [intOf]; omega
    · have hki3 : ¬ (k : Int) < (n : Int) - 1 := by omega
      go_wp2
      go_ret
      exact ⟨rfl, HQ.out⟩
theorem inc_false (B c n : Nat) (A : Option Addr) (ns : List Int) (hn : n = ns.length) (hp : ¬ ns.Pairwise (· < ·)) (w : World) (h : Row w B A (ns.map iV)) (hl : n ≤ 1000000) :
    Calls Tryz.prog 139 #[.slice A n c] w (Quiet (.bool false) w) := by
  have HR := Lib.hid h
  have HP := Lib.hid hp
  have HN := Lib.hid hn
  have hnl : (n : Int) ≤ 1000000 := by omega
  clear h hp hn
  go_enter Tryz.func139, Tryz.ntmps139
  go_wp2
  go_loopw [7] (fun i wr => ∃ k : Nat, k ≤ n ∧ i = .int .i64 k ∧ Hid (∃ q, wr = w.drewN q) ∧ Hid (∀ i (hi : i + 1 < ns.length), i < k → ns[i] < ns[i + 1])) (fun i _ => n - (intOf i).toNat)
  case atStart => exact ⟨0, by omega, rfl, Lib.hid ⟨0, rfl⟩, Lib.hid fun i _ h => absurd h (Nat.not_lt_zero _)⟩
  case round =>
    obtain ⟨k, hk, rfl, HQ, HA⟩ := hrel
    by_cases hlt : k + 1 < n
    · obtain ⟨b, o, rfl, _, hc⟩ := int_cell (quiet_row HR.out HQ.out) (by rw [← HN.out]; omega)
      have h0 := hc k (by rw [← HN.out]; omega)
      have h1 := hc (k + 1) (by rw [← HN.out]; omega)
      have HA2 := fun (h : ns[k]'(by rw [← HN.out]; omega) < ns[k + 1]'(by rw [← HN.out]; omega)) => Lib.hid (show ∀ i (hi : i + 1 < ns.length), i < k + 1 → ns[i] < ns[i + 1] from fun i hi hik => by
        rcases Nat.lt_or_ge i k with h2 | h2
        · exact HA.out i hi h2
        · obtain rfl : i = k := by omega
          exact h)
      obtain ⟨x, hx⟩ : ∃ x, ns[k]'(by rw [← HN.out]; omega) = x := ⟨_, rfl⟩
      obtain ⟨y, hy⟩ : ∃ y, ns[k + 1]'(by rw [← HN.out]; omega) = y := ⟨_, rfl⟩
      rw [hx] at h0
      rw [hy] at h1
      rw [hx, hy] at HA2
      have hki : (0 : Int) ≤ (k : Int) := by omega
      have hki2 : (k : Int) + 1 < (n : Int) := by omega
      have hki3 : (k : Int) < (n : Int) - 1 := by omega
      have hki4 : (k : Int) < (n : Int) := by omega
      have hki5 : (0 : Int) ≤ (k : Int) + 1 := by omega
      have hs1 : IntKind.i64.wrap ((k : Int) + 1) = (k : Int) + 1 := IntWalk.i64_in _ (by omega)
      have hs2 : ((k : Int) + 1).toNat = k + 1 := by omega
      clear hc hx hy
      by_cases hxy : x < y
      · have hge : decide (y ≤ x) = false := by simpa using hxy
        have HA3 := HA2 hxy
        clear HA2 hxy
        go_wp2
        go_quiet (fail)
        go_wp2
        go_roundw
        case rel => exact ⟨k + 1, by omega, by go_num, Lib.hid (by obtain ⟨q, rfl⟩ := HQ.out; exact ⟨_, World.drewN_drewN _ _ _⟩), HA3⟩
        case measure => simp [intOf]; omega
      · have hge : decide (y ≤ x) = true := by simpa using hxy
        clear HA2 hxy
        go_wp2
        go_quiet (fail)
        go_wp2
        go_ret
        exact ⟨rfl, by obtain ⟨q, rfl⟩ := HQ.out; exact ⟨_, World.drewN_drewN _ _ _⟩⟩
    · exact absurd (inc_of ns fun i hi => HA.out i hi (by have := HN.out; omega)) HP.out
theorem check_ok (A : Option Addr) (n c : Nat) (ns : List Int) (e k : Int) (hn : n = ns.length) (ok : OkR ns e k) (w : World) (h : Row w w.heap.size A (ns.map iV)) :
    Calls Tryz.prog 109 #[.agg #[.slice A n c, .int .i64 e, .int .i64 k]] w fun x w' => x = .returned (.int .i64 0) ∧ Below w.heap.size w w' := by
  obtain ⟨o1, o2, o3, o4, o5, o6, o7, o8⟩ := ok
  have HC := fun W (hb : Below w.heap.size w W) => inc_true w.heap.size c n A ns hn o8 W (h.below hb) (by omega)
  obtain ⟨b, o, rfl, hb, hc⟩ := int_cell h (by omega)
  have h0 := hc 0 (by omega)
  have hm := hc (n - 1) (by omega)
  have p0 := (o7 _ (List.getElem_mem (by omega : 0 < ns.length))).1
  have pm := (o7 _ (List.getElem_mem (by omega : n - 1 < ns.length))).2
  obtain ⟨x, hx⟩ : ∃ x, ns[0]'(by omega) = x := ⟨_, rfl⟩
  obtain ⟨y, hy⟩ : ∃ y, ns[n - 1]'(by omega) = y := ⟨_, rfl⟩
  rw [hx] at h0 p0
  rw [hy] at hm pm
  rw [Nat.add_zero] at h0
  have HCC := Lib.hid HC
  obtain ⟨m, rfl⟩ : ∃ m, n = m + 1 := ⟨n - 1, by omega⟩
  rw [Nat.add_sub_cancel] at hm
  have q1 : (k : Int) ≤ ((m : Int) + 1) := by omega
  have q2 : (m : Int) + 1 ≤ 64 := by omega
  have q3 : (0 : Int) ≤ (m : Int) := by omega
  clear HC hc hx hy o7 o8 hn h o1 o2 o6
  go_enter Tryz.func109, Tryz.ntmps109
  go_wp2_with fail
  refine (HCC.out _ ?_).mono ?_
  · exact (Below.refl _ _).alloc (Nat.le_refl _) _
  rintro e1 w1 ⟨rfl, q, rfl⟩
  go_wp2
  go_ret
  exact ⟨rfl, ((Below.refl _ _).alloc (Nat.le_refl _) _).trans (below_drew' _ _ _)⟩
theorem check_bad (A : Option Addr) (n c : Nat) (ns : List Int) (e k : Int) (hn : n = ns.length) (hl : n ≤ maxLen) (bad : ¬ OkR ns e k) (w : World) (h : Row w w.heap.size A (ns.map iV)) :
    Calls Tryz.prog 109 #[.agg #[.slice A n c, .int .i64 e, .int .i64 k]] w fun x w' => x = .returned (.int .i64 2) ∧ Below w.heap.size w w' := by
  have hb0 : Below w.heap.size w (w.alloc (.cells #[.slice A n c, .int .i64 e, .int .i64 k] 49)) := (Below.refl _ _).alloc (Nat.le_refl _) _
  have HB0 := Lib.hid hb0
  unfold maxLen at hl
  by_cases o1 : (n : Int) < 1
  · clear bad h hn hb0
    go_enter Tryz.func109, Tryz.ntmps109
    go_wp2
    go_ret
    exact ⟨rfl, HB0.out⟩
  by_cases o2 : (64 : Int) < (n : Int)
  · clear bad h hn hb0
    go_enter Tryz.func109, Tryz.ntmps109
    go_wp2
    go_ret
    exact ⟨rfl, HB0.out⟩
  by_cases o3 : e < 1
  · clear bad h hn hb0
    go_enter Tryz.func109, Tryz.ntmps109
    go_wp2
    go_ret
    exact ⟨rfl, HB0.out⟩
  by_cases o4 : 64 < e
  · clear bad h hn hb0
    go_enter Tryz.func109, Tryz.ntmps109
    go_wp2
    go_ret
    exact ⟨rfl, HB0.out⟩
  by_cases o5 : k < 1
  · clear bad h hn hb0
    go_enter Tryz.func109, Tryz.ntmps109
    go_wp2
    go_ret
    exact ⟨rfl, HB0.out⟩
  by_cases o6 : (n : Int) < k
  · clear bad h hn hb0
    go_enter Tryz.func109, Tryz.ntmps109
    go_wp2
    go_ret
    exact ⟨rfl, HB0.out⟩
  obtain ⟨b, o, rfl, hb, hc⟩ := int_cell h (by omega)
  have h0 := hc 0 (by omega)
  have hm := hc (n - 1) (by omega)
  have HB := Lib.hid bad
  have HROW := Lib.hid h
  have HN := Lib.hid hn
  have HALL : Hid (0 ≤ ns[0]'(by omega) → ns[n - 1]'(by omega) ≤ 1048575 → ¬ ns.Pairwise (· < ·)) := Lib.hid (fun p0 pm hp => bad ⟨by omega, by omega, by omega, by omega, by omega, by omega, fun x hx => by
    obtain ⟨i, hi, rfl⟩ := List.getElem_of_mem hx
    have a1 : ns[0]'(by omega) ≤ ns[i] := by
      rcases Nat.eq_zero_or_pos i with h0 | h0
      · subst h0; omega
      · have := inc_at hp 0 i (by omega) hi h0; omega
    have a2 : ns[i] ≤ ns[n - 1]'(by omega) := by
      rcases Nat.lt_or_ge i (n - 1) with h0 | h0
      · have := inc_at hp i (n - 1) hi (by omega) h0; omega
      · obtain rfl : i = n - 1 := by omega
        omega
    omega, hp⟩)
  obtain ⟨x, hx⟩ : ∃ x, ns[0]'(by omega) = x := ⟨_, rfl⟩
  obtain ⟨y, hy⟩ : ∃ y, ns[n - 1]'(by omega) = y := ⟨_, rfl⟩
  rw [hx] at h0
  rw [hy] at hm
  rw [hx, hy] at HALL
  rw [Nat.add_zero] at h0
  obtain ⟨m, rfl⟩ : ∃ m, n = m + 1 := ⟨n - 1, by omega⟩
  rw [Nat.add_sub_cancel] at hm
  have q1 : (k : Int) ≤ ((m : Int) + 1) := by omega
  have q2 : (m : Int) + 1 ≤ 64 := by omega
  have q3 : (0 : Int) ≤ (m : Int) := by omega
  clear hc hx hy hn h bad hb0 o1 o2 o6
  have hm1 : m + 1 ≤ 1000000 := by omega
  by_cases p0 : x < 0
  · go_enter Tryz.func109, Tryz.ntmps109
    go_wp2
    go_ret
    exact ⟨rfl, HB0.out⟩
  by_cases pm : 1048575 < y
  · go_enter Tryz.func109, Tryz.ntmps109
    go_wp2
    go_ret
    exact ⟨rfl, HB0.out⟩
  have HCC := Lib.hid fun W (hb : Below w.heap.size w W) => inc_false w.heap.size c (m + 1) (some ⟨b, o, none⟩) ns HN.out (HALL.out (by omega) (by omega)) W (HROW.out.below hb) hm1
  go_enter Tryz.func109, Tryz.ntmps109
  go_wp2_with fail
  refine (HCC.out _ HB0.out).mono ?_
  rintro e1 w1 ⟨rfl, q, rfl⟩
  go_wp2
  go_ret
  exact ⟨rfl, HB0.out.trans (below_drew' _ _ _)⟩
end Go.Proofs.YtkdpfjenjcpcfaaGreatDoor
