/- Cl3: What a fill of a table leaves, and a query tells then. -/
import Derived.Test.YtkljcoecgmpgpaaCl1
namespace Go.Proofs.Ytkljcoecgmpgpaa
open Go.RowKit Go.ChangeShapes Mem Be Word Rg Go.Maps
set_option maxRecDepth 10000
set_option maxHeartbeats 1000000
set_option linter.unusedVariables false
theorem fill_fails {S : Cl} {t : Int} (ok : OkC S) (e : EntP) (hf : (fillS S e t).2.1 = false) (ht : t = tokK S e.k) : (fillS S e t).1 = S ∧ ((fillS S e t).2.2 = 30 ∨ (fillS S e t).2.2 = 2) := by
  have hl : (layF S e).2.1 = false → (layF S e).1 = S ∧ ((layF S e).2.2 = 30 ∨ (layF S e).2.2 = 2) := fun h => by
    unfold layF at h ⊢
    rcases lay_cases S e true true ok.srt with ⟨h1, _⟩ | ⟨_, h1⟩
    · rw [h1]; exact ⟨rfl, Or.inl rfl⟩
    · rw [h1] at h; cases h
  by_cases h1 : okE e
  · have h2 : fillS S e t = match getK kP S.T e.k with | none => layF S e | some x => if 0 < cE x.e e then (useS S { x with wh := true }, true, 0) else layF S e := by
      unfold fillS
      rw [if_neg (not_not_intro h1), if_neg (not_not_intro ht)]
      cases getK kP S.T e.k <;> rfl
    rw [h2] at hf ⊢
    cases hg : getK kP S.T e.k with
    | none => rw [hg] at hf; exact hl hf
    | some x =>
      rw [hg] at hf
      simp only at hf ⊢
      by_cases h3 : 0 < cE x.e e
      · rw [if_pos h3] at hf; cases hf
      · rw [if_neg h3] at hf ⊢
        exact hl hf
  · have h2 : fillS S e t = (S, false, 2) := by unfold fillS; rw [if_pos h1]
    rw [h2]; exact ⟨rfl, Or.inr rfl⟩
theorem query_put {S : Cl} {k : List UInt8} (h0 : k ≠ []) (h1 : k.length ≤ 250) {y : CP} (hy : getK kP S.T k = some y) : (queryS S k).2.2 = 0 ∧ (queryS S k).2.1.wh = y.wh ∧ (queryS S k).2.1.e = y.e := by
  unfold queryS
  rw [if_neg (by intro h; rcases h with h | h; exact h0 h; omega), hy]
  exact ⟨rfl, rfl, rfl⟩
theorem fill_tells {S : Cl} {t : Int} (ok : OkC S) (e : EntP) (hf : (fillS S e t).2.1 = true) : (fillS S e t).2.2 = 0 ∧ (queryS (fillS S e t).1 e.k).2.2 = 0 ∧ (queryS (fillS S e t).1 e.k).2.1.wh = true ∧ 0 ≤ cmpT (queryS (fillS S e t).1 e.k).2.1.e.s (queryS (fillS S e t).1 e.k).2.1.e.u (queryS (fillS S e t).1 e.k).2.1.e.o e.s e.u e.o := by
  by_cases h1 : okE e
  · obtain ⟨_, k1, _, k0⟩ := sizE_le h1
    have hk0 : e.k ≠ [] := fun h => by rw [h] at k0; simp at k0
    have hl : (layF S e).2.1 = true → (layF S e).2.2 = 0 ∧ (queryS (layF S e).1 e.k).2.2 = 0 ∧ (queryS (layF S e).1 e.k).2.1.wh = true ∧ 0 ≤ cmpT (queryS (layF S e).1 e.k).2.1.e.s (queryS (layF S e).1 e.k).2.1.e.u (queryS (layF S e).1 e.k).2.1.e.o e.s e.u e.o := fun h => by
      unfold layF at h ⊢
      rcases lay_cases S e true true ok.srt with ⟨h1, _⟩ | ⟨_, h1⟩
      · rw [h1] at h; cases h
      · rw [h1]
        simp only
        have hg : getK kP (useS (roomS S e).1 ⟨e, true, true, 0⟩).T e.k = some ⟨e, true, true, (roomS S e).1.us + 1⟩ := by
          show getK kP (putK kP _ _) e.k = _
          rw [get_put, if_pos rfl]
        obtain ⟨q1, q2, q3⟩ := query_put hk0 k1 hg
        rw [q1, q2, q3]
        exact ⟨by trivial, by trivial, by trivial, (geT_iff _ _ _ _ _ _).2 (geT_refl _)⟩
    by_cases h2 : t = tokK S e.k
    · have h3 : fillS S e t = match getK kP S.T e.k with | none => layF S e | some x => if 0 < cE x.e e then (useS S { x with wh := true }, true, 0) else layF S e := by
        unfold fillS
        rw [if_neg (not_not_intro h1), if_neg (not_not_intro h2)]
        cases getK kP S.T e.k <;> rfl
      rw [h3] at hf ⊢
      cases hg : getK kP S.T e.k with
      | none => rw [hg] at hf; exact hl hf
      | some x =>
        rw [hg] at hf
        simp only at hf ⊢
        by_cases h4 : 0 < cE x.e e
        · rw [if_pos h4]
          have hxk : x.e.k = e.k := (get_some hg).2
          have hg2 : getK kP (useS S { x with wh := true }).T e.k = some { x with wh := true, us := S.us + 1 } := by
            show getK kP (putK kP _ _) e.k = _
            rw [get_put, if_pos hxk]
          obtain ⟨q1, q2, q3⟩ := query_put hk0 k1 hg2
          simp only
          rw [q1, q2, q3]
          exact ⟨by trivial, by trivial, by trivial, by have := h4; unfold cE at this; simp only; omega⟩
        · rw [if_neg h4] at hf ⊢
          exact hl hf
    · have h3 := (fill_wrong (S := S) (e := e) h2).1
      rw [h3] at hf; cases hf
  · have h2 : fillS S e t = (S, false, 2) := by unfold fillS; rw [if_pos h1]
    rw [h2] at hf; cases hf
end Go.Proofs.Ytkljcoecgmpgpaa
