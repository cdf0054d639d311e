/- An entry laid among some, told by the reference. -/
import Derived.Test.YtdmoogbmaodfnaaGreatRefO8
namespace Go.Proofs.YtdmoogbmaodfnaaGreat
open Go.RowKit Go.ChangeShapes Mem Be Word Frm Go.Maps
set_option maxRecDepth 100000
set_option maxHeartbeats 4000000
set_option linter.unusedVariables false
theorem ins_front {e : EntP} : ∀ {T : List EntP}, (∀ y ∈ T, bytesBefore e.k y.k = true) → insK kE e T = e :: T
  | [], _ => rfl
  | y :: r, h => by
    unfold insK
    rw [if_pos (h y (by simp))]
/-- Where an entry comes to stand. -/
theorem with_put {e : EntP} : ∀ (T : List EntP) (j : Nat), SortT kE T → j ≤ T.length → (∀ i, ∀ hi : i < T.length, i < j → bytesBefore T[i].k e.k = true) → (∀ hj : j < T.length, bytesBefore T[j].k e.k = false) →
    ∀ m, (m = j + 1 ∧ (∃ hj : j < T.length, T[j].k = e.k) ∨ m = j ∧ ∀ hj : j < T.length, T[j].k ≠ e.k) → putK kE T e = T.take j ++ e :: T.drop m
  | [], j, _, hj, _, _, m, hm => by
    have : j = 0 := by simpa using hj
    subst this
    rw [List.drop_nil]
    rfl
  | y :: r, 0, hs, _, _, hno, m, hm => by
    have hno' : bytesBefore y.k e.k = false := hno (by simp)
    have hs' := List.pairwise_cons.1 hs
    rcases hm with ⟨rfl, hj, he⟩ | ⟨rfl, hne⟩
    · have he' : y.k = e.k := he
      have hd : delK kE (kE e) (y :: r) = r := by
        unfold delK
        rw [List.filter_cons, if_neg (by simp [he'])]
        exact del_of_none (key := kE) fun x hx => fun h => bb_ne (hs'.1 x hx) (he'.trans h.symm)
      unfold putK
      rw [hd]
      exact ins_front fun x hx => by have := hs'.1 x hx; rw [show kE y = e.k from he'] at this; exact this
    · have hne' : y.k ≠ e.k := hne (by simp)
      have hby : bytesBefore e.k y.k = true := by
        rcases WideAt.bytes_total _ _ (Ne.symm hne') with h | h
        · exact h
        · rw [h] at hno'; cases hno'
      have hall : ∀ x ∈ y :: r, bytesBefore e.k x.k = true := fun x hx => by
        rcases List.mem_cons.1 hx with rfl | hx
        · exact hby
        · exact bb_trans hby (hs'.1 x hx)
      unfold putK
      rw [del_of_none (key := kE) fun x hx => fun h => bb_ne (hall x hx) h.symm]
      exact ins_front hall
  | y :: r, j + 1, hs, hj, hb, hno, m, hm => by
    have hs' := List.pairwise_cons.1 hs
    have hy : bytesBefore y.k e.k = true := hb 0 (by simp) (by omega)
    obtain ⟨m', rfl⟩ : ∃ m', m = m' + 1 := by rcases hm with ⟨h, _⟩ | ⟨h, _⟩ <;> exact ⟨m - 1, by omega⟩
    have ih := with_put r j hs'.2 (by simpa using hj) (fun i hi h => hb (i + 1) (by simpa using hi) (by omega)) (fun h => hno (by simpa using h)) m' (by
      rcases hm with ⟨h, hj2, he⟩ | ⟨h, hne⟩
      · exact Or.inl ⟨by omega, by simpa using hj2, he⟩
      · exact Or.inr ⟨by omega, fun h2 => hne (by simpa using h2)⟩)
    have hd : delK kE (kE e) (y :: r) = y :: delK kE (kE e) r := by
      unfold delK
      rw [List.filter_cons, if_pos (by simp; exact bb_ne hy)]
    have hnb : bytesBefore e.k y.k = false := by
      cases h : bytesBefore e.k y.k
      · rfl
      · exact absurd (bb_trans hy h) (fun h2 => bb_ne h2 rfl)
    unfold putK at ih ⊢
    rw [hd]
    unfold insK
    rw [if_neg (by rw [show bytesBefore (kE e) (kE y) = false from hnb]; simp), ih]
    rfl
theorem cutE (W : World) (A : Option Addr) (n c k : Nat) (h : k ≤ n) : (Instr.slice 33 (.slice A n c) (some (.int .i64 (k : Int))) none none).run Tryz.prog W = .ok (.slice (if c = k then A else A.map (·.add (k * 6))) (n - k) (c - k)) W := by
  obtain ⟨i, hi, hz, hz1, hz2⟩ := info_parts info_ent
  simp [Instr.slice, run_underlying Tryz.underlying33, Instr.sliceBounds, Instr.sliceBound, asIntOf, sizeOf, typeInfo, hi, hz1, h]
theorem rowE_tail {w : World} {B : Nat} {A : Option Addr} {us : List EV} {c k : Nat} (h : Row w B A (entsC us)) (hc : us.length ≤ c) (hk : k ≤ us.length) : Row w B (if c = k then A else A.map (·.add (k * 6))) (entsC (us.drop k)) := by
  rcases Nat.lt_or_ge k us.length with hlt | hge
  · obtain ⟨b, o, rfl, hb, hcell⟩ := h.open_ (by rw [entsC_len]; omega)
    rw [if_neg (by omega)]
    have e : (some (⟨b, o, none⟩ : Addr)).map (·.add (k * 6)) = some ⟨b, o + k * 6, none⟩ := by
      show some ((⟨b, o, none⟩ : Addr).add (k * 6)) = _
      unfold Addr.add
      split
      · rename_i h0
        rw [h0]; rfl
      · rfl
    rw [e]
    refine Or.inr ⟨b, o + k * 6, rfl, hb, fun j hj => ?_⟩
    have hd : entsC us = entsC (us.take k) ++ entsC (us.drop k) := by rw [← entsC_app, List.take_append_drop]
    have hl : (entsC (us.take k)).length = k * 6 := by rw [entsC_len, List.length_take]; congr 1; omega
    have hj2 : k * 6 + j < (entsC us).length := by rw [hd, List.length_append, hl]; omega
    have h1 := hcell (k * 6 + j) hj2
    rw [show o + k * 6 + j = o + (k * 6 + j) by omega, h1]
    congr 1
    rw [List.getElem_of_eq hd]
    rw [List.getElem_append_right (by omega)]
    congr 1
    omega
  · have : us.drop k = [] := List.drop_eq_nil_of_le hge
    rw [this]; exact Or.inl rfl
end Go.Proofs.YtdmoogbmaodfnaaGreat
