/- What a node more, or less, changes; from where a word is kept: the plain mathematics of layer 9's statements. -/
import Derived.Test.YthnfinnlnkjomaaLw9T
namespace Go.Proofs.Ythnfinnlnkjomaa
open Rg
set_option maxRecDepth 10000
set_option linter.unusedVariables false
def notX (x : Int) (l : List Int) : List Int := l.filter fun y => decide (y ≠ x)
theorem notX_snoc (x : Int) (l : List Int) (i : Nat) (h : i < l.length) : notX x (l.take (i + 1)) = if l[i] = x then notX x (l.take i) else notX x (l.take i) ++ [l[i]] := by
  unfold notX
  rw [List.take_succ_eq_append_getElem h, List.filter_append]
  by_cases e : l[i] = x
  · rw [if_pos e, List.filter_cons_of_neg (by simpa using e), List.filter_nil, List.append_nil]
  · rw [if_neg e, List.filter_cons_of_pos (by simpa using e), List.filter_nil]
theorem notX_len (x : Int) : ∀ l : List Int, l.Nodup → l.length ≤ (notX x l).length + 1
  | [], _ => by simp
  | y :: l, h => by
    have hn := List.nodup_cons.1 h
    unfold notX
    by_cases e : y = x
    · rw [List.filter_cons_of_neg (by simpa using e)]
      have : l.filter (fun y => decide (y ≠ x)) = l := by
        rw [List.filter_eq_self]
        intro z hz
        have : z ≠ x := fun e2 => hn.1 (by rw [e, ← e2]; exact hz)
        simpa using this
      rw [this]; simp
    · rw [List.filter_cons_of_pos (by simpa using e)]
      have := notX_len x l hn.2
      unfold notX at this
      simp only [List.length_cons]
      omega
theorem notX_le (x : Int) (l : List Int) : (notX x l).length ≤ l.length := List.length_filter_le _ _
/-- One node more. -/
theorem stays_math (f : Int → Nat → Nat) (ns L : List Int) (x : Int) (e h k : Nat) (hL : ∀ n, n ∈ ns ↔ n ∈ L ∧ decide (n ≠ x) = true) :
    (keepP (ptsP f L e) h k).length ≤ (notX x (keepP (ptsP f L e) h k)).length + 1 ∧ notX x (keepP (ptsP f L e) h k) = (keepP (ptsP f ns e) h k).take (notX x (keepP (ptsP f L e) h k)).length := by
  have hs := metP_sub f L ns e (fun y => decide (y ≠ x)) hL h
  refine ⟨notX_len x _ (List.Nodup.sublist (List.take_sublist _ _) (metP_nodup _ _)), ?_⟩
  have hp := take_filter_pre (fun y => decide (y ≠ x)) (metP (ptsP f L e) h) k
  rw [hs] at hp
  have ht := pre_take hp
  have hl := notX_le x (keepP (ptsP f L e) h k)
  have hl2 : (keepP (ptsP f L e) h k).length ≤ k := by unfold keepP; rw [List.length_take]; omega
  have hr := Nat.le_trans hl hl2
  have ht2 : notX x (keepP (ptsP f L e) h k) = (metP (ptsP f ns e) h).take (notX x (keepP (ptsP f L e) h k)).length := ht
  generalize notX x (keepP (ptsP f L e) h k) = R at hr ht2
  have e1 : (keepP (ptsP f ns e) h k).take R.length = (metP (ptsP f ns e) h).take R.length := by
    show ((metP (ptsP f ns e) h).take k).take R.length = _
    rw [List.take_take, Nat.min_eq_left hr]
  rw [e1]
  exact ht2
/-- Where a word begins. -/
theorem seg_first {l : List Pt} (hs : SL l) (h : Nat) (hp : 0 < l.length) (j : Nat) (hj : j < l.length) (hge : h ≤ l[j].1) : h ≤ (l[firstP l h]'(firstP_lt l h hp)).1 ∧ (l[firstP l h]'(firstP_lt l h hp)).1 ≤ l[j].1 := by
  have hcut := sl_cut hs h
  have hc : cntP l h < l.length ∧ cntP l h ≤ j := by
    rcases Nat.lt_or_ge j (cntP l h) with h1 | h1
    · exfalso
      have hm : l[j] ∈ l.take (cntP l h) := List.mem_take_iff_getElem.2 ⟨j, by have := cntP_le l h; omega, rfl⟩
      rw [hcut.1] at hm
      have := (List.mem_filter.1 hm).2
      simp at this
      omega
    · exact ⟨by omega, h1⟩
  have hF : firstP l h = cntP l h := by rw [firstP_eq, if_neg (by omega)]
  have hm : l[cntP l h]'hc.1 ∈ l.drop (cntP l h) := List.mem_drop_iff_getElem.2 ⟨0, by omega, by simp⟩
  rw [hcut.2] at hm
  have h2 := (List.mem_filter.1 hm).2
  simp only [hF]
  exact ⟨by simpa using h2, sl_le hs (cntP l h) j hc.1 hj hc.2⟩
theorem seg_zero {l : List Pt} (hs : SL l) (h : Nat) (hp : 0 < l.length) (hlt : (l[firstP l h]'(firstP_lt l h hp)).1 < h) : firstP l h = 0 := by
  rw [firstP_eq]
  by_cases e : cntP l h = l.length
  · rw [if_pos e]
  · exfalso
    have hc := cntP_le l h
    have hF : firstP l h = cntP l h := by rw [firstP_eq, if_neg e]
    have hcut := sl_cut hs h
    have hm : l[cntP l h]'(by omega) ∈ l.drop (cntP l h) := List.mem_drop_iff_getElem.2 ⟨0, by omega, by simp⟩
    rw [hcut.2] at hm
    have h2 := (List.mem_filter.1 hm).2
    simp only [hF] at hlt
    simp at h2
    omega
theorem seg_keep {l : List Pt} (hs : SL l) (h : Nat) (hp : 0 < l.length) (k : Nat) : keepP l (l[firstP l h]'(firstP_lt l h hp)).1 k = keepP l h k := by
  have hc := cntP_le l h
  have key : rotP l (l[firstP l h]'(firstP_lt l h hp)).1 = rotP l h := by
    by_cases e : cntP l h = l.length
    · have hF : firstP l h = 0 := by rw [firstP_eq, if_pos e]
      have h0 : cntP l (l[0]'hp).1 = 0 := cnt_first hs _ 0 (Nat.zero_le _) (fun j hj h => absurd h (Nat.not_lt_zero _)) (fun _ => Nat.le_refl _)
      unfold rotP
      simp only [hF, h0, e]
      simp
    · have hF : firstP l h = cntP l h := by rw [firstP_eq, if_neg e]
      have hlt : cntP l h < l.length := by omega
      have h0 : cntP l (l[cntP l h]'hlt).1 = cntP l h := cnt_first hs _ _ (by omega) (fun j hj hjc => by
        have hcut := sl_cut hs h
        have hm : l[j] ∈ l.take (cntP l h) := List.mem_take_iff_getElem.2 ⟨j, by omega, rfl⟩
        rw [hcut.1] at hm
        have h1 := (List.mem_filter.1 hm).2
        have hm2 : l[cntP l h]'hlt ∈ l.drop (cntP l h) := List.mem_drop_iff_getElem.2 ⟨0, by omega, by simp⟩
        rw [hcut.2] at hm2
        have h2 := (List.mem_filter.1 hm2).2
        simp at h1 h2
        omega) (fun _ => Nat.le_refl _)
      unfold rotP
      simp only [hF, h0]
  unfold keepP metP
  rw [key]
theorem seg_head {l : List Pt} (h : Nat) (hp : 0 < l.length) (k : Nat) (hk : 1 ≤ k) (h0 : 0 < (keepP l h k).length) : (keepP l h k)[0] = (l[firstP l h]'(firstP_lt l h hp)).2 := by
  have hm : (firstP l h + 0) % l.length = firstP l h := by rw [Nat.add_zero, Nat.mod_eq_of_lt (firstP_lt l h hp)]
  have h1 := metUp_snoc l h 0 (firstP l h) hp hm (firstP_lt l h hp)
  rw [metUp_zero, if_neg (by simp), List.nil_append] at h1
  have h2 := metUp_pre l h 1
  rw [h1] at h2
  obtain ⟨t, ht⟩ := h2
  have h3 : keepP l h k = ((l[firstP l h]'(firstP_lt l h hp)).2 :: t).take k := by unfold keepP; rw [← ht]; rfl
  obtain ⟨k', rfl⟩ : ∃ k', k = k' + 1 := ⟨k - 1, by omega⟩
  rw [List.take_succ_cons] at h3
  simp only [h3, List.getElem_cons_zero]
end Go.Proofs.Ythnfinnlnkjomaa
