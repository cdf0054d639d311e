/- CrP: The reference's table, without memory: where a key is found, what is laid, taken off, evicted to make room; that it is the table of Cls. -/
import Derived.Test.YtpebhfjcakllmaaGreatCls
namespace Go.Proofs.YtpebhfjcakllmaaGreat
open Go.RowKit Mem Be Word Go.Maps
set_option maxRecDepth 10000
set_option maxHeartbeats 1000000
set_option linter.unusedVariables false
/-- What Find tells of a key. -/
def FindR (T : List CP) (k : List UInt8) (r : Int) : Prop := (r = -1 ∧ getK kP T k = none) ∨ ∃ (i : Nat) (h : i < T.length), r = (i : Int) ∧ getK kP T k = some T[i]
theorem find_no {T : List CP} {k : List UInt8} (h : ∀ i (hi : i < T.length), T[i].e.k ≠ k) : FindR T k (-1) := Or.inl ⟨rfl, get_none.2 fun x hx => by
  obtain ⟨i, hi, rfl⟩ := List.mem_iff_getElem.1 hx
  exact h i hi⟩
theorem find_at {T : List CP} {k : List UInt8} (hs : SortT kP T) (i : Nat) (hi : i < T.length) (h : T[i].e.k = k) : FindR T k (i : Int) := Or.inr ⟨i, hi, rfl, by
  rw [← h]; exact get_mem hs (List.getElem_mem hi)⟩
theorem ins_frontC {e : CP} : ∀ {T : List CP}, (∀ y ∈ T, bytesBefore e.e.k y.e.k = true) → insK kP e T = e :: T
  | [], _ => rfl
  | y :: r, h => by
    unfold insK
    rw [if_pos (h y (by simp))]
/-- Where a cell comes to stand. -/
theorem with_putC {e : CP} : ∀ (T : List CP) (j : Nat), SortT kP T → j ≤ T.length → (∀ i, ∀ hi : i < T.length, i < j → bytesBefore T[i].e.k e.e.k = true) → (∀ hj : j < T.length, bytesBefore T[j].e.k e.e.k = false) →
    ∀ m, (m = j + 1 ∧ (∃ hj : j < T.length, T[j].e.k = e.e.k) ∨ m = j ∧ ∀ hj : j < T.length, T[j].e.k ≠ e.e.k) → putK kP T e = T.take j ++ e :: T.drop m
  | [], j, _, hj, _, _, m, hm => by
    have : j = 0 := by simpa using hj
    subst this
    rw [List.drop_nil]
    rfl
  | y :: r, 0, hs, _, _, hno, m, hm => by
    have hno' : bytesBefore y.e.k e.e.k = false := hno (by simp)
    have hs' := List.pairwise_cons.1 hs
    rcases hm with ⟨rfl, hj, he⟩ | ⟨rfl, hne⟩
    · have he' : y.e.k = e.e.k := he
      have hd : delK kP (kP e) (y :: r) = r := by
        unfold delK
        rw [List.filter_cons, if_neg (by simp [he'])]
        exact del_of_none (key := kP) fun x hx => fun h => bb_ne (hs'.1 x hx) (he'.trans h.symm)
      unfold putK
      rw [hd]
      exact ins_frontC fun x hx => by have := hs'.1 x hx; rw [show kP y = e.e.k from he'] at this; exact this
    · have hne' : y.e.k ≠ e.e.k := hne (by simp)
      have hby : bytesBefore e.e.k y.e.k = true := by
        rcases WideAt.bytes_total _ _ (Ne.symm hne') with h | h
        · exact h
        · rw [h] at hno'; cases hno'
      have hall : ∀ x ∈ y :: r, bytesBefore e.e.k x.e.k = true := fun x hx => by
        rcases List.mem_cons.1 hx with rfl | hx
        · exact hby
        · exact bb_trans hby (hs'.1 x hx)
      unfold putK
      rw [del_of_none (key := kP) fun x hx => fun h => bb_ne (hall x hx) h.symm]
      exact ins_frontC hall
  | y :: r, j + 1, hs, hj, hb, hno, m, hm => by
    have hs' := List.pairwise_cons.1 hs
    have hy : bytesBefore y.e.k e.e.k = true := hb 0 (by simp) (by omega)
    obtain ⟨m', rfl⟩ : ∃ m', m = m' + 1 := by rcases hm with ⟨h, _⟩ | ⟨h, _⟩ <;> exact ⟨m - 1, by omega⟩
    have ih := with_putC r j hs'.2 (by simpa using hj) (fun i hi h => hb (i + 1) (by simpa using hi) (by omega)) (fun h => hno (by simpa using h)) m' (by
      rcases hm with ⟨h, hj2, he⟩ | ⟨h, hne⟩
      · exact Or.inl ⟨by omega, by simpa using hj2, he⟩
      · exact Or.inr ⟨by omega, fun h2 => hne (by simpa using h2)⟩)
    have hd : delK kP (kP e) (y :: r) = y :: delK kP (kP e) r := by
      unfold delK
      rw [List.filter_cons, if_pos (by simp; exact bb_ne hy)]
    have hnb : bytesBefore e.e.k y.e.k = false := by
      cases h : bytesBefore e.e.k y.e.k
      · rfl
      · exact absurd (bb_trans hy h) (fun h2 => bb_ne h2 rfl)
    unfold putK at ih ⊢
    rw [hd]
    unfold insK
    rw [if_neg (by rw [show bytesBefore (kP e) (kP y) = false from hnb]; simp), ih]
    rfl
/-- All but one. -/
theorem del_at : ∀ {T : List CP} (i : Nat) (h : i < T.length), SortT kP T → delK kP T[i].e.k T = T.eraseIdx i
  | y :: r, 0, _, hs => by
    have hs' := List.pairwise_cons.1 hs
    show delK kP y.e.k (y :: r) = r
    unfold delK
    rw [List.filter_cons, if_neg (by simp)]
    exact del_of_none (key := kP) fun x hx => fun h => bb_ne (hs'.1 x hx) h.symm
  | y :: r, i + 1, h, hs => by
    have hs' := List.pairwise_cons.1 hs
    have ih := del_at (T := r) i (by simpa using h) hs'.2
    have hne : y.e.k ≠ (r[i]'(by simpa using h)).e.k := bb_ne (hs'.1 _ (List.getElem_mem _))
    show delK kP (r[i]'(by simpa using h)).e.k (y :: r) = y :: r.eraseIdx i
    rw [← ih]
    unfold delK
    rw [List.filter_cons, if_pos (by simpa using hne)]
theorem map_eraseT {α β : Type} (f : α → β) : ∀ (l : List α) (i : Nat), (l.eraseIdx i).map f = (l.map f).eraseIdx i
  | [], _ => rfl
  | _ :: _, 0 => rfl
  | a :: r, i + 1 => congrArg (f a :: ·) (map_eraseT f r i)
/-- Cells one by one, but one. -/
theorem erase_take {α : Type} (T : List α) (i k : Nat) (hk : k < T.length) : (T.take (k + 1)).eraseIdx i = if k = i then (T.take k).eraseIdx i else (T.take k).eraseIdx i ++ [T[k]] := by
  rw [List.take_succ_eq_append_getElem hk]
  have hl : (T.take k).length = k := by rw [List.length_take]; omega
  by_cases h : k = i
  · subst h
    rw [if_pos rfl, List.eraseIdx_append_of_length_le (by omega), hl, Nat.sub_self]
    show List.take k T ++ [] = _
    rw [List.append_nil, List.eraseIdx_of_length_le (l := List.take k T) (by omega)]
  · rw [if_neg h]
    rcases Nat.lt_or_gt_of_ne h with h | h
    · rw [List.eraseIdx_of_length_le (l := List.take k T ++ [T[k]]) (by simp; omega), List.eraseIdx_of_length_le (l := List.take k T) (by omega)]
    · rw [List.eraseIdx_append_of_lt_length (by omega)]
/-- What is evicted first, found one by one. -/
def OldR (T : List CP) (k : List UInt8) (n : Nat) (r : Int) : Prop :=
  (r = -1 ∧ ∀ i (h : i < T.length), i < n → ¬ (T[i].cl = true ∧ T[i].e.k ≠ k)) ∨
  ∃ (j : Nat) (h : j < T.length), r = (j : Int) ∧ T[j].cl = true ∧ T[j].e.k ≠ k ∧ ∀ i (h2 : i < T.length), i < n → T[i].cl = true → T[i].e.k ≠ k → T[j].us ≤ T[i].us
theorem oldR_0 (T : List CP) (k : List UInt8) : OldR T k 0 (-1) := Or.inl ⟨rfl, fun i _ h => absurd h (Nat.not_lt_zero _)⟩
theorem oldR_skip {T : List CP} {k : List UInt8} {n : Nat} {r : Int} (h : OldR T k n r) (hn : n < T.length) (hno : ¬ (T[n].cl = true ∧ T[n].e.k ≠ k)) : OldR T k (n + 1) r := by
  rcases h with ⟨h1, h2⟩ | ⟨j, hj, h1, h2, h3, h4⟩
  · exact Or.inl ⟨h1, fun i hi hin => by
      by_cases e : i = n
      · subst e; exact hno
      · exact h2 i hi (by omega)⟩
  · exact Or.inr ⟨j, hj, h1, h2, h3, fun i hi hin a b => by
      by_cases e : i = n
      · subst e; exact absurd ⟨a, b⟩ hno
      · exact h4 i hi (by omega) a b⟩
theorem oldR_keep {T : List CP} {k : List UInt8} {n : Nat} {j : Nat} (h : OldR T k n (j : Int)) (hn : n < T.length) (hj : j < T.length) (hle : T[j].us ≤ T[n].us) : OldR T k (n + 1) (j : Int) := by
  rcases h with ⟨h1, _⟩ | ⟨j', hj', h1, h2, h3, h4⟩
  · omega
  · obtain rfl : j = j' := by omega
    exact Or.inr ⟨j, hj, rfl, h2, h3, fun i hi hin a b => by
      by_cases e : i = n
      · subst e; exact hle
      · exact h4 i hi (by omega) a b⟩
theorem oldR_first {T : List CP} {k : List UInt8} {n : Nat} (h : OldR T k n (-1)) (hn : n < T.length) (hc : T[n].cl = true) (hk : T[n].e.k ≠ k) : OldR T k (n + 1) (n : Int) := by
  rcases h with ⟨_, h2⟩ | ⟨j', hj', h1, _⟩
  · exact Or.inr ⟨n, hn, rfl, hc, hk, fun i hi hin a b => by
      by_cases e : i = n
      · subst e; exact Int.le_refl _
      · exact absurd ⟨a, b⟩ (h2 i hi (by omega))⟩
  · omega
theorem oldR_less {T : List CP} {k : List UInt8} {n j : Nat} (h : OldR T k n (j : Int)) (hn : n < T.length) (hj : j < T.length) (hc : T[n].cl = true) (hk : T[n].e.k ≠ k) (hlt : T[n].us < T[j].us) : OldR T k (n + 1) (n : Int) := by
  rcases h with ⟨h1, _⟩ | ⟨j', hj', h1, h2, h3, h4⟩
  · omega
  · obtain rfl : j = j' := by omega
    exact Or.inr ⟨n, hn, rfl, hc, hk, fun i hi hin a b => by
      by_cases e : i = n
      · subst e; exact Int.le_refl _
      · have := h4 i hi (by omega) a b; omega⟩
theorem oldR_in {T : List CP} {k : List UInt8} {n : Nat} {r : Int} (h : OldR T k n r) : r = -1 ∨ ∃ j, ∃ hj : j < T.length, r = (j : Int) := by
  rcases h with ⟨h1, _⟩ | ⟨j, hj, h1, _⟩
  · exact Or.inl h1
  · exact Or.inr ⟨j, hj, h1⟩
theorem oldR_end {S : Cl} (ok : OkC S) {k : List UInt8} {n : Nat} {r : Int} (hn : n = S.T.length) (h : OldR S.T k n r) : (r = -1 ∧ oldS S.T k = none) ∨ ∃ (j : Nat) (h : j < S.T.length), r = (j : Int) ∧ oldS S.T k = some S.T[j] := by
  rcases h with ⟨h1, h2⟩ | ⟨j, hj, h1, h2, h3, h4⟩
  · refine Or.inl ⟨h1, ?_⟩
    cases ho : oldS S.T k with
    | none => rfl
    | some x =>
      obtain ⟨o1, o2, o3, _⟩ := old_some ho
      obtain ⟨i, hi, rfl⟩ := List.mem_iff_getElem.1 o1
      exact absurd ⟨o3, o2⟩ (h2 i hi (by omega))
  · refine Or.inr ⟨j, hj, h1, old_is ok.inj (List.getElem_mem hj) h3 h2 fun y hy a b => ?_⟩
    obtain ⟨i, hi, rfl⟩ := List.mem_iff_getElem.1 hy
    exact h4 i hi (by omega) b a
/-- Room, made as the reference makes it: one cell more is evicted, as long as there is one. -/
def roomQ : Nat → Cl → EntP → Cl × Bool
  | 0, S, _ => (S, false)
  | n + 1, S, e => if fitsS S (delK kP e.k S.T) e then (S, true) else
    match oldS S.T e.k with
    | none => (S, false)
    | some x => roomQ n (goneS S x.e.k) e
theorem stay_leP (k : List UInt8) (T : List CP) : (stayC T k).length ≤ (delK kP k T).length ∧ sumC (stayC T k) ≤ sumC (delK kP k T) := ⟨List.length_filter_le _ _, sumC_filter _ _⟩
theorem roomQ_no : ∀ (n : Nat) (S : Cl) (e : EntP), SortT kP S.T → ¬ fitsS S (stayC S.T e.k) e → (roomQ n S e).2 = false
  | 0, _, _, _, _ => rfl
  | n + 1, S, e, hs, h => by
    unfold roomQ
    rw [if_neg (fun h2 => h (by
      have := stay_leP e.k S.T
      unfold fitsS at h2 ⊢
      omega))]
    cases ho : oldS S.T e.k with
    | none => rfl
    | some x =>
      obtain ⟨x1, x2, x3, _⟩ := old_some ho
      exact roomQ_no n (goneS S x.e.k) e (del_sort hs) (by rw [fits_gone]; show ¬ fitsS S (stayC (delK kP x.e.k S.T) e.k) e; rw [stay_gone hs x1 x3]; exact h)
theorem roomQ_F : ∀ (n : Nat) (S : Cl) (e : EntP), SortT kP S.T → S.T.length < n → ((roomF n S e).2 = 0 → roomQ n S e = ((roomF n S e).1, true)) ∧ ((roomF n S e).2 ≠ 0 → (roomQ n S e).2 = false)
  | 0, _, _, _, h => by omega
  | n + 1, S, e, hs, hn => by
    by_cases hf : fitsS S (delK kP e.k S.T) e
    · unfold roomF roomQ
      rw [if_pos hf, if_pos hf]
      exact ⟨fun _ => rfl, fun h => absurd rfl h⟩
    · by_cases h2 : fitsS S (stayC S.T e.k) e
      · unfold roomF roomQ
        rw [if_neg hf, if_neg hf, if_pos h2]
        cases ho : oldS S.T e.k with
        | none => exact ⟨fun h => absurd (show (30 : Int) = 0 from h) (by decide), fun _ => rfl⟩
        | some x =>
          obtain ⟨x1, _, _, _⟩ := old_some ho
          have hd := (del_cons hs x1).1
          exact roomQ_F n (goneS S x.e.k) e (del_sort hs) (by show (delK kP x.e.k S.T).length < n; omega)
      · have hno := roomQ_no (n + 1) S e hs h2
        have hF : roomF (n + 1) S e = (S, 30) := by
          unfold roomF
          rw [if_neg hf, if_neg h2]
        rw [hF]
        exact ⟨fun h => absurd (show (30 : Int) = 0 from h) (by decide), fun _ => hno⟩
theorem roomQ_S (S : Cl) (e : EntP) (hs : SortT kP S.T) : ((roomS S e).2 = 0 → roomQ (S.T.length + 1) S e = ((roomS S e).1, true)) ∧ ((roomS S e).2 ≠ 0 → (roomQ (S.T.length + 1) S e).2 = false) := roomQ_F _ S e hs (Nat.lt_succ_self _)
theorem roomQ_more : ∀ (n m : Nat) (S : Cl) (e : EntP), SortT kP S.T → S.T.length < n → S.T.length < m → roomQ n S e = roomQ m S e
  | 0, _, _, _, _, h, _ => by omega
  | _, 0, _, _, _, _, h => by omega
  | n + 1, m + 1, S, e, hs, hn, hm => by
    unfold roomQ
    split
    · rfl
    · cases ho : oldS S.T e.k with
      | none => rfl
      | some x =>
        obtain ⟨x1, _, _, _⟩ := old_some ho
        have hd := (del_cons hs x1).1
        exact roomQ_more n m (goneS S x.e.k) e (del_sort hs) (by show (delK kP x.e.k S.T).length < n; omega) (by show (delK kP x.e.k S.T).length < m; omega)
end Go.Proofs.YtpebhfjcakllmaaGreat
