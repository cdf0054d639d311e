/- Entries that are put in whichever order come to the same: of tables. -/
import Derived.Test.YtkleecaghgpndaaLaw8
namespace Go.Proofs.Ytkleecaghgpndaa
open Go.RowKit Go.ChangeShapes Mem Be Word Frm Go.Maps
set_option maxRecDepth 10000
set_option maxHeartbeats 2000000
set_option linter.unusedVariables false
/-- A table against what was put. -/
structure Best (N X : List EntP) : Prop where
  mem : ∀ e ∈ N, e ∈ X
  top : ∀ x ∈ X, okE x → x.s ≠ 0 → ∃ e ∈ N, e.k = x.k ∧ GeE e x
  ok : ∀ e ∈ N, okE e ∧ e.s ≠ 0
theorem best_nil : Best [] [] := ⟨(fun e h => by cases h), (fun x h => by cases h), (fun e h => by cases h)⟩
theorem best_put {N X : List EntP} {e : EntP} (h : Best N X) (hs : SortT kE N) (ok : okE e) (hz : e.s ≠ 0) (hgt : 0 < cmpE e (ofT N e.k)) : Best (putK kE N e) (X ++ [e]) := by
  refine ⟨fun x hx => ?_, fun x hx hok hnz => ?_, fun x hx => ?_⟩
  · rcases mem_put_of hx with rfl | hx
    · simp
    · exact List.mem_append_left _ (h.mem x hx)
  · have hself : e ∈ putK kE N e := mem_put.2 (Or.inl rfl)
    rcases List.mem_append.1 hx with hx | hx
    · obtain ⟨y, hy, hk, hge⟩ := h.top x hx hok hnz
      by_cases he : y.k = e.k
      · have hof : ofT N e.k = y := by
          unfold ofT
          rw [(get_iff (key := kE) hs).2 ⟨hy, he⟩]; rfl
        rw [hof] at hgt
        exact ⟨e, hself, by rw [← he, hk], (geE_of hgt).trans hge⟩
      · exact ⟨y, mem_put.2 (Or.inr ⟨hy, he⟩), hk, hge⟩
    · obtain rfl : x = e := by simpa using hx
      exact ⟨x, hself, rfl, GeE.refl _⟩
  · rcases mem_put_of hx with rfl | hx
    · exact ⟨ok, hz⟩
    · exact h.ok x hx
theorem best_old {N X : List EntP} {e : EntP} (h : Best N X) (hgt : okE e → e.s ≠ 0 → ¬ 0 < cmpE e (ofT N e.k)) : Best N (X ++ [e]) := by
  refine ⟨fun x hx => List.mem_append_left _ (h.mem x hx), fun x hx hok hnz => ?_, h.ok⟩
  rcases List.mem_append.1 hx with hx | hx
  · exact h.top x hx hok hnz
  · obtain rfl : x = e := by simpa using hx
    have h1 := (cmpE_le x (ofT N x.k)).1 (by have := hgt hok hnz; omega)
    cases hg : getK kE N x.k with
    | some y =>
      have hof : ofT N x.k = y := by unfold ofT; rw [hg]; rfl
      rw [hof] at h1
      exact ⟨y, (get_some hg).1, (get_some hg).2, by unfold GeE; omega⟩
    | none =>
      have hof : ofT N x.k = entN x.k := by unfold ofT; rw [hg]; rfl
      rw [hof] at h1
      have h2 := okE_nums hok
      have e1 : (entN x.k).s = 0 := rfl
      have e2 : (entN x.k).u = 0 := rfl
      have e3 : (entN x.k).o = 0 := rfl
      rw [e1, e2, e3] at h1
      omega
/-- A put, where there is room. -/
theorem best_step {S : St8} {X : List EntP} {e : EntP} {who : Int} (h : Best S.N X) (ok : Ok8 S) (h0 : 0 ≤ who) (h1 : who ≤ 1048575) {b : Nat} (hb : (allB S.rs).length ≤ b) (hb2 : b ≤ 4000000) :
    Best (putS S e who).1.N (X ++ [e]) ∧ (allB (putS S e who).1.rs).length ≤ b + 65546 ∧ ((putS S e who).2 = 0 ∨ (putS S e who).2 = 2) := by
  unfold putS
  split
  · rename_i hm
    have hlen : (allB (S.rs ++ [(1, putE e)])).length = (allB S.rs).length + ((putE e).length + 10) := by rw [all_app, List.length_append, all_one, fr_len]
    have hpl := putE_len hm.1
    split
    · rename_i hgt
      have hw : writeS S e = (⟨S.rs ++ [(1, putE e)], S.m, S.L, putK kE S.N e, S.acks⟩, 0) := if_pos (by omega)
      rw [hw, if_pos rfl]
      refine ⟨best_put h ok.nOk.srt hm.1 hm.2.1 hgt, ?_, Or.inl rfl⟩
      show (allB (S.rs ++ [(1, putE e)])).length ≤ _
      omega
    · rename_i hgt
      refine ⟨best_old h fun _ _ => hgt, ?_, Or.inl rfl⟩
      show (allB S.rs).length ≤ _
      omega
  · rename_i hm
    refine ⟨best_old h fun g1 g2 => absurd ⟨g1, g2, h0, h1⟩ hm, ?_, Or.inr rfl⟩
    show (allB S.rs).length ≤ _
    omega
theorem best_same {N N' X X' : List EntP} (hs : SortT kE N) (hs' : SortT kE N') (h : Best N X) (h' : Best N' X') (hX : ∀ x, x ∈ X → x ∈ X') (hX' : ∀ x, x ∈ X' → x ∈ X)
    (hd : ∀ a ∈ X, ∀ b ∈ X, a.k = b.k → a.s = b.s → a.u = b.u → a.o = b.o → a = b) : N = N' := by
  have key : ∀ {N N' X X' : List EntP}, SortT kE N → Best N X → Best N' X' → (∀ x, x ∈ X → x ∈ X') → (∀ x, x ∈ X' → x ∈ X) → (∀ a ∈ X, ∀ b ∈ X, a.k = b.k → a.s = b.s → a.u = b.u → a.o = b.o → a = b) → ∀ e ∈ N, e ∈ N' := by
    intro N N' X X' hs h h' hX hX' hd e he
    obtain ⟨h1, h2⟩ := h.ok e he
    have hx := h.mem e he
    obtain ⟨e', g1, g2, g3⟩ := h'.top e (hX e hx) h1 h2
    obtain ⟨o1, o2⟩ := h'.ok e' g1
    have hx' := hX' e' (h'.mem e' g1)
    obtain ⟨e2, k1, k2, k3⟩ := h.top e' hx' o1 o2
    have : e2 = e := sort_inj (key := kE) hs k1 he (k2.trans g2)
    subst this
    have e9 : e2 = e' := hd e2 hx e' hx' k2 (by unfold GeE at g3 k3; omega) (by unfold GeE at g3 k3; omega) (by unfold GeE at g3 k3; omega)
    rw [e9]; exact g1
  have hd' : ∀ a ∈ X', ∀ b ∈ X', a.k = b.k → a.s = b.s → a.u = b.u → a.o = b.o → a = b := fun a ha b hb => hd a (hX' a ha) b (hX' b hb)
  refine ext_tab (key := kE) hs hs' fun k => ?_
  cases hg : getK kE N k with
  | some x =>
    have h1 := (get_iff (key := kE) hs).1 hg
    exact ((get_iff (key := kE) hs').2 ⟨key hs h h' hX hX' hd x h1.1, h1.2⟩).symm
  | none =>
    cases hg' : getK kE N' k with
    | none => rfl
    | some x =>
      have h1 := (get_iff (key := kE) hs').1 hg'
      have h2 := (get_iff (key := kE) hs).2 ⟨key hs' h' h hX' hX hd' x h1.1, h1.2⟩
      rw [hg] at h2; cases h2
/-- The turned order meets all. -/
theorem turn_onto (n t j : Nat) (hj : j < n) : ∃ i, i < n ∧ (n - 1 - i + t) % n = j := by
  have hn : 0 < n := by omega
  obtain ⟨m, hm⟩ : ∃ m, n - 1 + t = m := ⟨_, rfl⟩
  have hr := Nat.mod_lt m hn
  have hq := Nat.div_add_mod m n
  obtain ⟨r, hrr⟩ : ∃ r, m % n = r := ⟨_, rfl⟩
  obtain ⟨q, hqq⟩ : ∃ q, m / n = q := ⟨_, rfl⟩
  rw [hrr, hqq] at hq
  rw [hrr] at hr
  by_cases hle : j ≤ r
  · refine ⟨r - j, by omega, ?_⟩
    have e : n - 1 - (r - j) + t = n * q + j := by omega
    rw [e, Nat.mul_add_mod, Nat.mod_eq_of_lt hj]
  · cases q with
    | zero => rw [Nat.mul_zero] at hq; omega
    | succ q =>
      refine ⟨r + n - j, by omega, ?_⟩
      have e : n - 1 - (r + n - j) + t = n * q + j := by rw [Nat.mul_succ] at hq; omega
      rw [e, Nat.mul_add_mod, Nat.mod_eq_of_lt hj]
end Go.Proofs.Ytkleecaghgpndaa
