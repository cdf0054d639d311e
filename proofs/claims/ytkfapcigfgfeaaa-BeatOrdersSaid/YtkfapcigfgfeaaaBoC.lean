/- BoC: A row of at most twenty indexes is sorted by inserting (slices.SortStableFunc). -/
import Derived.Test.YtkfapcigfgfeaaaBoB
namespace Go.Proofs.Ytkfapcigfgfeaaa
open Go.RowKit Flo Mem
set_option maxRecDepth 100000
set_option maxHeartbeats 1000000
set_option linter.unusedVariables false
def SrtP (gd n : Nat) (sc : Nat → Int) (w : World) (e : Ending) (w' : World) : Prop := e = .returned (.tuple #[]) ∧ Blk w' gd 3 (rowN15 (ordS sc n)) ∧ w.grownBy w' (some gd)
/-- From behind the last on, nothing is sorted. -/
theorem isort_none (gd gs n cd k : Nat) (hk : k ≤ 20) (w : World) :
    Calls Try.prog 56 #[.slice (some ⟨gd, 0, none⟩) n cd, .int .i64 (k : Int), .int .i64 (k : Int), .func (.func 47) #[] #[.pointer (some ⟨gs, 0, none⟩)]] w fun e w' => e = .returned (.tuple #[]) ∧ w = w' := by
  have hk2 : (k : Int) ≤ 20 := by omega
  have hk3 : (0 : Int) ≤ (k : Int) := by omega
  go_enter Try.func56, Try.ntmps56
  go_wp2
  go_loopw [8] (fun iv wr => iv = .int .i64 ((k : Int) + 1) ∧ wr = w) (fun iv _ => 0)
  case atStart => exact ⟨rfl, rfl⟩
  case round =>
    obtain ⟨rfl, rfl⟩ := hrel
    go_wp2
    go_end0
    exact ⟨rfl, rfl⟩
theorem stable_any (gd gs bs os n cs cd : Nat) (sc : Nat → Int) (hn : 0 < n) (hn2 : n ≤ 20) (w : World) (S : ScA w gd gs bs os n cs sc) (hd : Blk w gd 3 (rowN15 (restN 0 n))) :
    Calls Try.prog 54 #[.slice (some ⟨gd, 0, none⟩) n cd, .int .i64 (n : Int), .func (.func 47) #[] #[.pointer (some ⟨gs, 0, none⟩)]] w (SrtP gd n sc w) := by
  have HI := Lib.hid (isort_any gd gs bs os n cs cd sc hn hn2 w S hd)
  have hn3 : (n : Int) ≤ 20 := by omega
  clear S hd
  by_cases h20 : n = 20
  · subst h20
    have HN := Lib.hid (fun W => isort_none gd gs 20 cd 20 (by omega) W)
    have ee : ((20 : Nat) : Int) = 20 := rfl
    rw [ee] at HI HN ⊢
    clear ee
    go_enter Try.func54, Try.ntmps54
    go_wp2
    go_loopw [7, 8] (fun a b wr => ∃ t : Nat, t ≤ 1 ∧ a = .int .i64 (20 * (t : Int)) ∧ b = .int .i64 (20 * (t : Int) + 20) ∧ Hid (t = 0 → wr = w) ∧ Hid (t = 1 → Blk wr gd 3 (rowN15 (ordS sc 20)) ∧ w.grownBy wr (some gd))) (fun _ b _ => 40 - (intOf b).toNat)
    case atStart => exact ⟨0, by omega, rfl, rfl, Lib.hid (fun _ => rfl), Lib.hid (fun h => by omega)⟩
    case round =>
      obtain ⟨t, ht, rfl, rfl, H0, H1⟩ := hrel
      rcases (show t = 0 ∨ t = 1 by omega) with rfl | rfl
      · have hw := H0.out rfl
        subst hw
        have e0 : (20 * ((0 : Nat) : Int)) = 0 := rfl
        have e1 : (20 * ((0 : Nat) : Int) + 20) = 20 := rfl
        rw [e0] at *
        go_wp2_with fail
        refine (HI.out).mono ?_
        rintro e w2 ⟨rfl, h1, h2⟩
        have H2 := Lib.hid (And.intro h1 h2)
        clear h1 h2
        go_wp2
        go_roundw
        case rel => exact ⟨1, by omega, by go_num, by go_num, Lib.hid (fun h => by omega), Lib.hid (fun _ => H2.out)⟩
        case measure => simp [intOf]
      · have HR := Lib.hid (H1.out rfl)
        have e0 : (20 * ((1 : Nat) : Int)) = 20 := rfl
        have e1 : ((20 : Int) + 20) = 40 := rfl
        rw [e0, e1]
        go_wp2_with fail
        refine (HN.out _).mono ?_
        rintro e w2 ⟨rfl, rfl⟩
        go_wp2
        go_loopw [6] (fun z wr2 => z = .int .i64 20 ∧ wr2 = wr) (fun _ _ => 0)
        case atStart => exact ⟨rfl, rfl⟩
        case round =>
          obtain ⟨rfl, rfl⟩ := hrel
          go_wp2
          go_end0
          exact ⟨rfl, HR.out.1, HR.out.2⟩
  · have hlt : (n : Int) < 20 := by omega
    have hn4 : ¬ ((20 : Int) ≤ (n : Int)) := by omega
    go_enter Try.func54, Try.ntmps54
    go_wp2
    go_loopw [7, 8] (fun a b wr => a = .int .i64 0 ∧ b = .int .i64 20 ∧ wr = w) (fun _ _ _ => 0)
    case atStart => exact ⟨rfl, rfl, rfl⟩
    case round =>
      obtain ⟨rfl, rfl, rfl⟩ := hrel
      go_wp2_with fail
      refine (HI.out).mono ?_
      rintro e w2 ⟨rfl, h1, h2⟩
      have H2 := Lib.hid (And.intro h1 h2)
      clear h1 h2
      go_wp2
      go_loopw [6] (fun z wr2 => z = .int .i64 20 ∧ wr2 = w2) (fun _ _ => 0)
      case atStart => exact ⟨rfl, rfl⟩
      case round =>
        obtain ⟨rfl, rfl⟩ := hrel
        go_wp2
        go_end0
        exact ⟨rfl, H2.out.1, H2.out.2⟩
theorem sort_any15 (gd gs bs os n cs cd : Nat) (sc : Nat → Int) (hn : 0 < n) (hn2 : n ≤ 20) (w : World) (S : ScA w gd gs bs os n cs sc) (hd : Blk w gd 3 (rowN15 (restN 0 n))) :
    Calls Try.prog 46 #[.slice (some ⟨gd, 0, none⟩) n cd, .func (.func 47) #[] #[.pointer (some ⟨gs, 0, none⟩)]] w (SrtP gd n sc w) := by
  have HI := Lib.hid (stable_any gd gs bs os n cs cd sc hn hn2 w S hd)
  clear S hd
  go_enter Try.func46, Try.ntmps46
  go_wp2_with fail
  refine (HI.out).mono ?_
  rintro e w2 ⟨rfl, h1, h2⟩
  go_wp2
  go_end0
  exact ⟨rfl, h1, h2⟩
theorem sort_none15 (gd gs cd : Nat) (w : World) :
    Calls Try.prog 46 #[.slice (some ⟨gd, 0, none⟩) 0 cd, .func (.func 47) #[] #[.pointer (some ⟨gs, 0, none⟩)]] w fun e w' => e = .returned (.tuple #[]) ∧ w = w' := by
  have HN : Hid (∀ W, Calls Try.prog 56 #[.slice (some ⟨gd, 0, none⟩) 0 cd, .int .i64 0, .int .i64 0, .func (.func 47) #[] #[.pointer (some ⟨gs, 0, none⟩)]] W fun e w' => e = .returned (.tuple #[]) ∧ W = w') := Lib.hid (fun W => isort_none gd gs 0 cd 0 (by omega) W)
  have HST : Hid (∀ W, Calls Try.prog 54 #[.slice (some ⟨gd, 0, none⟩) 0 cd, .int .i64 0, .func (.func 47) #[] #[.pointer (some ⟨gs, 0, none⟩)]] W fun e w' => e = .returned (.tuple #[]) ∧ W = w') := Lib.hid (fun W => by
    go_enter Try.func54, Try.ntmps54
    go_wp2
    go_loopw [7, 8] (fun a b wr => a = .int .i64 0 ∧ b = .int .i64 20 ∧ wr = W) (fun _ _ _ => 0)
    case atStart => exact ⟨rfl, rfl, rfl⟩
    case round =>
      obtain ⟨rfl, rfl, rfl⟩ := hrel
      go_wp2_with fail
      refine (HN.out _).mono ?_
      rintro e w2 ⟨rfl, rfl⟩
      go_wp2
      go_loopw [6] (fun z wr2 => z = .int .i64 20 ∧ wr2 = wr) (fun _ _ => 0)
      case atStart => exact ⟨rfl, rfl⟩
      case round =>
        obtain ⟨rfl, rfl⟩ := hrel
        go_wp2
        go_end0
        exact ⟨rfl, rfl⟩)
  go_enter Try.func46, Try.ntmps46
  go_wp2_with fail
  refine (HST.out _).mono ?_
  rintro e w2 ⟨rfl, rfl⟩
  go_wp2
  go_end0
  exact ⟨rfl, rfl⟩
end Go.Proofs.Ytkfapcigfgfeaaa
