/- Frames that are cut: how many records are whole; what a crash leaves. -/
import Derived.Test.YtkdpfjenjcpcfaaGreatDoorFrm
namespace Go.Proofs.YtkdpfjenjcpcfaaGreatDoor
open Mem Be Word Frm
set_option linter.unusedVariables false
/-- How many records of a row are whole in so many bytes. -/
theorem whole_at (rs : List Rc) (k : Nat) (hk : k ≤ (allB rs).length) : ∃ p, p ≤ rs.length ∧ (allB (rs.take p)).length ≤ k ∧ ∀ hl : p < rs.length, k < (allB (rs.take p)).length + (rs[p].2.length + 10) := by
  have key : ∀ j, j ≤ rs.length → (allB (rs.take j)).length ≤ k → ∃ p, p ≤ rs.length ∧ (allB (rs.take p)).length ≤ k ∧ ∀ hl : p < rs.length, k < (allB (rs.take p)).length + (rs[p].2.length + 10) := by
    intro j
    induction hr : rs.length - j generalizing j with
    | zero => intro hj h; exact ⟨j, hj, h, fun hl => by omega⟩
    | succ d ih =>
      intro hj h
      by_cases hc : k < (allB (rs.take j)).length + (rs[j].2.length + 10)
      · exact ⟨j, hj, h, fun _ => hc⟩
      · refine ih (j + 1) (by omega) (by omega) ?_
        rw [all_snoc rs j (by omega), List.length_append, fr_len]
        omega
  exact key 0 (Nat.zero_le _) (by simp [allB])
theorem all_take_mono (rs : List Rc) {a b : Nat} (h : a ≤ b) : (allB (rs.take a)).length ≤ (allB (rs.take b)).length := by
  have : rs.take b = rs.take a ++ (rs.take b).drop a := by
    have := List.take_append_drop a (rs.take b)
    rw [List.take_take, Nat.min_eq_left h] at this
    exact this.symm
  rw [this, all_app, List.length_append]; omega
/-- Behind a crash there are the records that lasted, and of the others as many as are whole. -/
theorem crash_take (rs : List Rc) (m k : Nat) (h : Short rs) (hm : m ≤ rs.length) : ∃ p, m ≤ p ∧ p ≤ rs.length ∧ (scanS (allB (rs.take m) ++ (allB (rs.drop m)).take k)).1 = rs.take p := by
  have e : allB (rs.take m) ++ (allB (rs.drop m)).take k = (allB rs).take ((allB (rs.take m)).length + k) := by
    conv => rhs; rw [all_drop rs m]
    rw [List.take_length_add_append]
  rw [e]
  have hk : ∃ j, j ≤ (allB rs).length ∧ (allB (rs.take m)).length ≤ j ∧ (allB rs).take ((allB (rs.take m)).length + k) = (allB rs).take j := by
    by_cases hj : (allB (rs.take m)).length + k ≤ (allB rs).length
    · exact ⟨_, hj, by omega, rfl⟩
    · refine ⟨(allB rs).length, Nat.le_refl _, by have := congrArg List.length (all_drop rs m); rw [List.length_append] at this; omega, ?_⟩
      rw [List.take_of_length_le (by omega), List.take_of_length_le (Nat.le_refl _)]
  obtain ⟨j, h1, h2, h3⟩ := hk
  obtain ⟨p, hp, hp1, hp2⟩ := whole_at rs j h1
  rw [h3, scan_cut rs h j p hp hp1 h1 hp2]
  refine ⟨p, ?_, hp, rfl⟩
  rcases Nat.lt_or_ge p m with hlt | hge
  · have h5 := hp2 (by omega)
    have h6 := all_take_mono rs (show p + 1 ≤ m by omega)
    rw [all_snoc rs p (by omega), List.length_append, fr_len] at h6
    omega
  · exact hge
end Go.Proofs.YtkdpfjenjcpcfaaGreatDoor
