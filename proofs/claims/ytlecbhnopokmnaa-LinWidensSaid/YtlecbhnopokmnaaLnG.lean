/- LnG: What holds of deeds holds of wider ones; an order of deeds that are all done has each once. -/
import Derived.Test.YtlecbhnopokmnaaLnQ
namespace Go.Proofs.Ytlecbhnopokmnaa
set_option maxRecDepth 100000
set_option linter.unusedVariables false
namespace Ln
/-- One is as wide as another, or wider. -/
structure Wid (p q : DeedP) : Prop where
  kind : q.kind = p.kind
  val : valD q = valD p
  fro : q.fro ≤ p.fro
  till : p.till ≤ q.till
  done : q.done = p.done
structure WidL (P Q : List DeedP) : Prop where
  len : Q.length = P.length
  at_ : ∀ i, i < P.length → Wid (atD P i) (atD Q i)
theorem run_wide {P Q : List DeedP} (h : WidL P Q) : ∀ (o : List Int) (d : Nat) (L L' : Int) (v : Va) (D : Nat) (M : Int), L' ≤ L → runO P o d L v = some (D, M) → ∃ M', M' ≤ M ∧ runO Q o d L' v = some (D, M') := by
  intro o
  induction o with
  | nil =>
    intro d L L' v D M hL hr
    simp only [runO, Option.some.injEq, Prod.mk.injEq] at hr
    obtain ⟨rfl, rfl⟩ := hr
    exact ⟨L', hL, rfl⟩
  | cons i o ih =>
    intro d L L' v D M hL hr
    rw [runO] at hr
    split at hr
    · cases hr
    · rename_i hn
      have h0 : 0 ≤ i := by
        apply Int.not_lt.1; intro e; exact hn (Or.inl e)
      have h1 : i < (P.length : Int) := by
        apply Int.not_le.1; intro e; exact hn (Or.inr (Or.inl e))
      have h2 : ¬ d.testBit i.toNat = true := fun e => hn (Or.inr (Or.inr (Or.inl e)))
      have h3 : L ≤ (atD P i.toNat).till := by
        apply Int.not_lt.1; intro e; exact hn (Or.inr (Or.inr (Or.inr (Or.inl e))))
      have h4 : ¬ ((atD P i.toNat).kind = 1 ∧ valD (atD P i.toNat) ≠ v) := fun e => hn (Or.inr (Or.inr (Or.inr (Or.inr e))))
      have W := h.at_ i.toNat (by omega)
      obtain ⟨M', hM, hr'⟩ := ih _ _ (max L' (atD Q i.toNat).fro) _ D M (by have := W.fro; omega) hr
      refine ⟨M', hM, ?_⟩
      rw [runO, if_neg, W.val]
      · exact hr'
      · rintro (e | e | e | e | e)
        · omega
        · have := h.len; omega
        · exact h2 e
        · have := W.till; omega
        · rw [W.kind, W.val] at e; exact h4 e
theorem holds_wide {P Q : List DeedP} (h : WidL P Q) {o : List Int} (hh : holdsP P o = true) : holdsP Q o = true := by
  unfold holdsP at hh ⊢
  rw [Bool.and_eq_true] at hh ⊢
  obtain ⟨h1, h2⟩ := hh
  have hk : ∀ i, i < P.length → knownK (atD P i).kind = true := fun i hi => by
    have e : atD P i = P[i] := by unfold atD; rw [List.getD_eq_getElem?_getD, List.getElem?_eq_getElem hi]; rfl
    rw [e]; exact List.all_eq_true.1 h1 _ (List.getElem_mem hi)
  refine ⟨List.all_eq_true.2 fun d hd => ?_, ?_⟩
  · obtain ⟨i, hi, rfl⟩ := List.mem_iff_getElem.1 hd
    have hi' : i < P.length := by rw [← h.len]; exact hi
    have e : atD Q i = Q[i] := by unfold atD; rw [List.getD_eq_getElem?_getD, List.getElem?_eq_getElem hi]; rfl
    rw [← e, (h.at_ i hi').kind]; exact hk i hi'
  · cases hr : runO P o 0 minI none with
    | none => rw [hr] at h2; cases h2
    | some r =>
      obtain ⟨D, M⟩ := r
      rw [hr] at h2
      obtain ⟨M', hM, hr'⟩ := run_wide h o 0 minI minI none D M (Int.le_refl _) hr
      rw [hr']
      refine endO_iff.2 fun i hi => ?_
      have hi' : i < P.length := by rw [← h.len]; exact hi
      rcases endO_iff.1 h2 i hi' with e | ⟨e1, e2⟩
      · exact Or.inl e
      · exact Or.inr ⟨by rw [(h.at_ i hi').done]; exact e1, by have := (h.at_ i hi').till; show M' ≤ _; omega⟩
theorem cnt_ins' {n d i : Nat} (hi : i < n) (hd : d.testBit i = false) : cnt n (ins d i) + 1 = cnt n d := by
  unfold cnt
  have key : ∀ m, m ≤ n → ((List.range m).filter fun j => !(ins d i).testBit j).length + (if i < m then 1 else 0) = ((List.range m).filter fun j => !d.testBit j).length := by
    intro m
    induction m with
    | zero => intro _; simp
    | succ m ih =>
      intro hm
      have := ih (by omega)
      rw [List.range_succ, List.filter_append, List.filter_append, List.length_append, List.length_append]
      by_cases e : m = i
      · subst e
        have e1 : ((ins d m).testBit m) = true := ins_same _ _
        simp only [List.filter_cons, List.filter_nil, e1, hd, Bool.not_true, Bool.not_false, if_true, Bool.false_eq_true, if_false, List.length_nil, List.length_singleton]
        rw [if_neg (by omega)] at this
        rw [if_pos (by omega)]
        omega
      · have e1 : (ins d i).testBit m = d.testBit m := ins_ne (fun h => e h.symm)
        simp only [List.filter_cons, List.filter_nil, e1]
        by_cases hlt : i < m
        · rw [if_pos hlt] at this
          rw [if_pos (show i < m + 1 by omega)]
          omega
        · rw [if_neg hlt] at this
          rw [if_neg (show ¬ i < m + 1 by omega)]
          omega
  have := key n (Nat.le_refl _)
  rw [if_pos hi] at this
  exact this
theorem run_cnt {P : List DeedP} : ∀ (o : List Int) (d : Nat) (L : Int) (v : Va) (D : Nat) (M : Int), runO P o d L v = some (D, M) → cnt P.length D + o.length = cnt P.length d := by
  intro o
  induction o with
  | nil =>
    intro d L v D M hr
    simp only [runO, Option.some.injEq, Prod.mk.injEq] at hr
    obtain ⟨rfl, rfl⟩ := hr
    rfl
  | cons i o ih =>
    intro d L v D M hr
    rw [runO] at hr
    split at hr
    · cases hr
    · rename_i hn
      have h0 : 0 ≤ i := by
        apply Int.not_lt.1; intro e; exact hn (Or.inl e)
      have h1 : i < (P.length : Int) := by
        apply Int.not_le.1; intro e; exact hn (Or.inr (Or.inl e))
      have h2 : d.testBit i.toNat = false := by
        rw [Bool.eq_false_iff]; intro e; exact hn (Or.inr (Or.inr (Or.inl e)))
      have := ih _ _ _ D M hr
      have h5 := cnt_ins' (show i.toNat < P.length by omega) h2
      rw [List.length_cons]
      omega
theorem holds_len {P : List DeedP} {o : List Int} (hd : ∀ i, i < P.length → (atD P i).done = true) (hh : holdsP P o = true) : o.length = P.length := by
  unfold holdsP at hh
  rw [Bool.and_eq_true] at hh
  obtain ⟨_, h2⟩ := hh
  cases hr : runO P o 0 minI none with
  | none => rw [hr] at h2; cases h2
  | some r =>
    obtain ⟨D, M⟩ := r
    rw [hr] at h2
    have hc := run_cnt o 0 minI none D M hr
    have h0 : cnt P.length D = 0 := by
      unfold cnt
      rw [List.length_eq_zero_iff, List.filter_eq_nil_iff]
      intro i hi
      have hi' := List.mem_range.1 hi
      rcases endO_iff.1 h2 i hi' with e | ⟨e, _⟩
      · rw [e]; decide
      · rw [hd i hi'] at e; cases e
    have h1 : cnt P.length 0 = P.length := by
      unfold cnt
      have : (List.range P.length).filter (fun i => !(0 : Nat).testBit i) = List.range P.length := List.filter_eq_self.2 fun i _ => by simp
      rw [this, List.length_range]
    omega
end Ln
end Go.Proofs.Ytlecbhnopokmnaa
