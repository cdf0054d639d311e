/- What a reader reads of an entry, and what the document does: the same. -/
import Derived.Test.YtmbcdakfnckcmaaGetE2
import Derived.Test.YtmbcdakfnckcmaaRefGetE
namespace Go.Proofs.Ytmbcdakfnckcmaa
open Go.RowKit Mem Be
set_option maxRecDepth 10000
set_option maxHeartbeats 2000000
theorem stepTag_no (b : List UInt8) (e : Int) (he : e ≠ 0) : stepTag b e = ((0, 0, 0), b, e) := by
  unfold stepTag; simp only [step_below_no _ _ e he]
theorem stepV_no (b : List UInt8) (e : Int) (he : e ≠ 0) : stepV b e = ((false, []), b, e) := by
  unfold stepV; simp only [step_truth_no _ e he]; simp
theorem endE_bad {r : EntP × List UInt8 × Int} (he : r.2.2 ≠ 0) : endE r = (entP0, r.2.1, r.2.2) := by
  have h : errE r.1 r.2.2 = r.2.2 := by simp [errE, he]
  unfold endE; rw [h, if_neg he]
theorem stepB0 (m : Int) (b : List UInt8) : stepB m b 0 = ((getB m b).1, b.drop (getB m b).2.1, (getB m b).2.2) := if_pos rfl
theorem stepR0 (b : List UInt8) : stepR b 0 = ((getR b).1, b.drop (getR b).2.1, (getR b).2.2) := if_pos rfl
theorem stepT0 (b : List UInt8) : stepT b 0 = ((getT b).1, b.drop (getT b).2.1, (getT b).2.2) := if_pos rfl
def StepRef (bs : List UInt8) : Prop := (stepE bs 0).1 = (refE bs).1 ∧ (stepE bs 0).2.2 = (refE bs).2.2 ∧ ((refE bs).2.2 = 0 → (stepE bs 0).2.1 = bs.drop (refE bs).2.1)
theorem bad_ref {bs b : List UInt8} {e : Int} {x : EntP} (he : e ≠ 0) (h1 : stepE1 bs 0 = (x, b, e)) (h2 : refE bs = (entP0, 0, e)) : StepRef bs := by
  have h3 : stepE bs 0 = (entP0, b, e) := by unfold stepE; rw [h1]; exact endE_bad he
  unfold StepRef
  rw [h3, h2]
  exact ⟨rfl, rfl, fun h => absurd h he⟩
theorem step_ref (bs : List UInt8) : StepRef bs := by
  obtain ⟨⟨ks, k1, e1⟩, h1⟩ : ∃ y, getR bs = y := ⟨_, rfl⟩
  have r1 : stepR bs 0 = (ks, bs.drop k1, e1) := by rw [stepR0, h1]
  by_cases hx1 : e1 = 0
  case neg =>
    refine bad_ref (x := ⟨ks, 0, 0, 0, false, []⟩) (b := bs.drop k1) hx1 ?_ ?_
    · unfold stepE1; simp only [r1, stepTag_no _ e1 hx1, stepV_no _ e1 hx1]
    · unfold refE; simp only [h1]; exact if_pos hx1
  subst hx1
  obtain ⟨⟨s, k2, e2⟩, h2⟩ : ∃ y, getB 1099511627776 (bs.drop k1) = y := ⟨_, rfl⟩
  have r2 : stepB 1099511627776 (bs.drop k1) 0 = (s, bs.drop (k1 + k2), e2) := by rw [stepB0, h2, List.drop_drop]
  by_cases hx2 : e2 = 0
  case neg =>
    have ht : stepTag (bs.drop k1) 0 = ((s, 0, 0), bs.drop (k1 + k2), e2) := by unfold stepTag; simp only [r2, step_below_no _ _ e2 hx2]
    refine bad_ref (x := ⟨ks, s, 0, 0, false, []⟩) (b := bs.drop (k1 + k2)) hx2 ?_ ?_
    · unfold stepE1; simp only [r1, ht, stepV_no _ e2 hx2]
    · unfold refE; simp only [h1, h2]; exact (if_neg (by simp)).trans (if_pos hx2)
  subst hx2
  obtain ⟨⟨u, k3, e3⟩, h3⟩ : ∃ y, getB 1048576 (bs.drop (k1 + k2)) = y := ⟨_, rfl⟩
  have r3 : stepB 1048576 (bs.drop (k1 + k2)) 0 = (u, bs.drop (k1 + k2 + k3), e3) := by rw [stepB0, h3, List.drop_drop]
  by_cases hx3 : e3 = 0
  case neg =>
    have ht : stepTag (bs.drop k1) 0 = ((s, u, 0), bs.drop (k1 + k2 + k3), e3) := by unfold stepTag; simp only [r2, r3, step_below_no _ _ e3 hx3]
    refine bad_ref (x := ⟨ks, s, u, 0, false, []⟩) (b := bs.drop (k1 + k2 + k3)) hx3 ?_ ?_
    · unfold stepE1; simp only [r1, ht, stepV_no _ e3 hx3]
    · unfold refE; simp only [h1, h2, h3]; exact (if_neg (by simp)).trans ((if_neg (by simp)).trans (if_pos hx3))
  subst hx3
  obtain ⟨⟨o, k4, e4⟩, h4⟩ : ∃ y, getB 1048576 (bs.drop (k1 + k2 + k3)) = y := ⟨_, rfl⟩
  have r4 : stepB 1048576 (bs.drop (k1 + k2 + k3)) 0 = (o, bs.drop (k1 + k2 + k3 + k4), e4) := by rw [stepB0, h4, List.drop_drop]
  have ht : stepTag (bs.drop k1) 0 = ((s, u, o), bs.drop (k1 + k2 + k3 + k4), e4) := by unfold stepTag; simp only [r2, r3, r4]
  by_cases hx4 : e4 = 0
  case neg =>
    refine bad_ref (x := ⟨ks, s, u, o, false, []⟩) (b := bs.drop (k1 + k2 + k3 + k4)) hx4 ?_ ?_
    · unfold stepE1; simp only [r1, ht, stepV_no _ e4 hx4]
    · unfold refE; simp only [h1, h2, h3, h4]; exact (if_neg (by simp)).trans ((if_neg (by simp)).trans ((if_neg (by simp)).trans (if_pos hx4)))
  subst hx4
  obtain ⟨⟨has, k5, e5⟩, h5⟩ : ∃ y, getT (bs.drop (k1 + k2 + k3 + k4)) = y := ⟨_, rfl⟩
  have r5 : stepT (bs.drop (k1 + k2 + k3 + k4)) 0 = (has, bs.drop (k1 + k2 + k3 + k4 + k5), e5) := by rw [stepT0, h5, List.drop_drop]
  have l5 := getT_err (bs.drop (k1 + k2 + k3 + k4))
  rw [h5] at l5
  simp only at l5
  by_cases hx5 : e5 = 0
  case neg =>
    have hf : has = false := by rcases l5 with ⟨h, _⟩ | ⟨h, _⟩; exact absurd h hx5; exact h
    subst hf
    have hv : stepV (bs.drop (k1 + k2 + k3 + k4)) 0 = ((false, []), bs.drop (k1 + k2 + k3 + k4 + k5), e5) := by unfold stepV; simp only [r5]; rfl
    refine bad_ref (x := ⟨ks, s, u, o, false, []⟩) (b := bs.drop (k1 + k2 + k3 + k4 + k5)) hx5 ?_ ?_
    · unfold stepE1; simp only [r1, ht, hv]
    · unfold refE; simp only [h1, h2, h3, h4, h5]; exact (if_neg (by simp)).trans ((if_neg (by simp)).trans ((if_neg (by simp)).trans ((if_neg (by simp)).trans (if_pos hx5))))
  subst hx5
  cases has
  · have hv : stepV (bs.drop (k1 + k2 + k3 + k4)) 0 = ((false, []), bs.drop (k1 + k2 + k3 + k4 + k5), 0) := by unfold stepV; simp only [r5]; rfl
    have hs : stepE1 bs 0 = (⟨ks, s, u, o, false, []⟩, bs.drop (k1 + k2 + k3 + k4 + k5), 0) := by unfold stepE1; simp only [r1, ht, hv]
    have hr : refE bs = if rightE ks.length 0 s u o false ≠ 0 then (entP0, 0, 11) else (⟨ks, s, u, o, false, []⟩, k1 + k2 + k3 + k4 + k5, 0) := by
      unfold refE; simp only [h1, h2, h3, h4, h5]
      exact (if_neg (by simp)).trans ((if_neg (by simp)).trans ((if_neg (by simp)).trans ((if_neg (by simp)).trans ((if_neg (by simp)).trans (if_neg (by simp))))))
    by_cases hq : rightE ks.length 0 s u o false = 0
    · rw [if_neg (by rw [hq]; simp)] at hr
      have he : errE ⟨ks, s, u, o, false, []⟩ 0 = 0 := if_pos hq
      have h : stepE bs 0 = (⟨ks, s, u, o, false, []⟩, bs.drop (k1 + k2 + k3 + k4 + k5), 0) := by unfold stepE; rw [hs]; exact if_pos he
      unfold StepRef; rw [h, hr]; exact ⟨rfl, rfl, fun _ => rfl⟩
    · rw [if_pos hq] at hr
      have he : errE ⟨ks, s, u, o, false, []⟩ 0 = 11 := (if_neg hq).trans (if_pos rfl)
      have h : stepE bs 0 = (entP0, bs.drop (k1 + k2 + k3 + k4 + k5), 11) := by unfold stepE; rw [hs]; unfold endE; rw [he]; exact if_neg (by decide)
      unfold StepRef; rw [h, hr]; exact ⟨rfl, rfl, fun h => absurd h (by decide)⟩
  · obtain ⟨⟨xs, k6, e6⟩, h6⟩ : ∃ y, getR (bs.drop (k1 + k2 + k3 + k4 + k5)) = y := ⟨_, rfl⟩
    have r6 : stepR (bs.drop (k1 + k2 + k3 + k4 + k5)) 0 = (xs, bs.drop (k1 + k2 + k3 + k4 + k5 + k6), e6) := by rw [stepR0, h6, List.drop_drop]
    have hv : stepV (bs.drop (k1 + k2 + k3 + k4)) 0 = ((true, xs), bs.drop (k1 + k2 + k3 + k4 + k5 + k6), e6) := by unfold stepV; simp only [r5, if_true, r6]
    have hs : stepE1 bs 0 = (⟨ks, s, u, o, true, xs⟩, bs.drop (k1 + k2 + k3 + k4 + k5 + k6), e6) := by unfold stepE1; simp only [r1, ht, hv]
    have hr : refE bs = if e6 ≠ 0 then (entP0, 0, e6) else if rightE ks.length xs.length s u o true ≠ 0 then (entP0, 0, 11) else (⟨ks, s, u, o, true, xs⟩, k1 + k2 + k3 + k4 + k5 + k6, 0) := by
      unfold refE; simp only [h1, h2, h3, h4, h5, h6]
      exact (if_neg (by simp)).trans ((if_neg (by simp)).trans ((if_neg (by simp)).trans ((if_neg (by simp)).trans ((if_neg (by simp)).trans (if_pos (by simp))))))
    by_cases hx6 : e6 = 0
    case neg =>
      rw [if_pos hx6] at hr
      exact bad_ref hx6 hs hr
    subst hx6
    rw [if_neg (by simp)] at hr
    by_cases hq : rightE ks.length xs.length s u o true = 0
    · rw [if_neg (by rw [hq]; simp)] at hr
      have he : errE ⟨ks, s, u, o, true, xs⟩ 0 = 0 := if_pos hq
      have h : stepE bs 0 = (⟨ks, s, u, o, true, xs⟩, bs.drop (k1 + k2 + k3 + k4 + k5 + k6), 0) := by unfold stepE; rw [hs]; exact if_pos he
      unfold StepRef; rw [h, hr]; exact ⟨rfl, rfl, fun _ => rfl⟩
    · rw [if_pos hq] at hr
      have he : errE ⟨ks, s, u, o, true, xs⟩ 0 = 11 := (if_neg hq).trans (if_pos rfl)
      have h : stepE bs 0 = (entP0, bs.drop (k1 + k2 + k3 + k4 + k5 + k6), 11) := by unfold stepE; rw [hs]; unfold endE; rw [he]; exact if_neg (by decide)
      unfold StepRef; rw [h, hr]; exact ⟨rfl, rfl, fun h => absurd h (by decide)⟩
/-- What Read answers. -/
def readP (bs : List UInt8) : EntP × Int := if endZ (stepE bs 0).2.1 (stepE bs 0).2.2 = 0 then ((stepE bs 0).1, 0) else (entP0, endZ (stepE bs 0).2.1 (stepE bs 0).2.2)
def refReadP (bs : List UInt8) : EntP × Int := if (refE bs).2.2 ≠ 0 then (entP0, (refE bs).2.2) else if (refE bs).2.1 < bs.length then (entP0, 11) else ((refE bs).1, 0)
theorem read_ref (bs : List UInt8) : readP bs = refReadP bs := by
  obtain ⟨h1, h2, h3⟩ := step_ref bs
  unfold readP refReadP endZ
  rw [h2, h1]
  by_cases h0 : (refE bs).2.2 = 0
  · rw [h0, h3 h0]
    simp only [if_true, List.length_drop]
    by_cases hl : (refE bs).2.1 < bs.length
    · have hz : ¬ (bs.length - (refE bs).2.1 = 0) := by omega
      simp [hz, hl]
    · have hz : bs.length - (refE bs).2.1 = 0 := by omega
      simp [hz, hl]
  · rw [if_neg h0, if_neg h0, if_pos h0]
end Go.Proofs.Ytmbcdakfnckcmaa
