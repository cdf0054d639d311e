/- Points of a ring in their order, each once; who follows a word; a node more, a node less. No dump is imported here. -/
import Derived.WalkKit
namespace Go.Proofs.YtkdpfjenjcpcfaaGreatDoor
set_option maxRecDepth 10000
namespace Rg
abbrev Pt := Nat × Int
def ltP (p q : Pt) : Prop := p.1 < q.1 ∨ (p.1 = q.1 ∧ p.2 < q.2)
instance (p q : Pt) : Decidable (ltP p q) := inferInstanceAs (Decidable (_ ∨ _))
theorem ltP_irrefl (p : Pt) : ¬ ltP p p := by unfold ltP; omega
theorem ltP_trans {p q r : Pt} (h : ltP p q) (h' : ltP q r) : ltP p r := by unfold ltP at *; omega
theorem ltP_tri (p q : Pt) : ltP p q ∨ p = q ∨ ltP q p := by
  obtain ⟨a, b⟩ := p
  obtain ⟨c, d⟩ := q
  unfold ltP
  simp only [Prod.mk.injEq]
  omega
theorem ltP_asymm {p q : Pt} (h : ltP p q) (h' : ltP q p) : False := ltP_irrefl _ (ltP_trans h h')
abbrev SL (l : List Pt) : Prop := l.Pairwise ltP
/-- A point laid at its place, if it is not there. -/
def insP (p : Pt) : List Pt → List Pt
  | [] => [p]
  | q :: l => if ltP q p then q :: insP p l else if q = p then q :: l else p :: q :: l
theorem insP_mem (p x : Pt) (l : List Pt) : x ∈ insP p l ↔ x = p ∨ x ∈ l := by
  induction l with
  | nil => simp [insP]
  | cons q l ih =>
    unfold insP
    by_cases h : ltP q p
    · rw [if_pos h, List.mem_cons, ih, List.mem_cons]
      constructor
      · rintro (h | h | h)
        · exact Or.inr (Or.inl h)
        · exact Or.inl h
        · exact Or.inr (Or.inr h)
      · rintro (h | h | h)
        · exact Or.inr (Or.inl h)
        · exact Or.inl h
        · exact Or.inr (Or.inr h)
    · rw [if_neg h]
      by_cases h2 : q = p
      · subst h2
        rw [if_pos rfl]
        simp
      · rw [if_neg h2]
        simp
theorem insP_sl (p : Pt) {l : List Pt} (h : SL l) : SL (insP p l) := by
  induction l with
  | nil => simp [insP, SL]
  | cons q l ih =>
    have hq := List.pairwise_cons.1 h
    unfold insP
    by_cases h1 : ltP q p
    · rw [if_pos h1]
      refine List.pairwise_cons.2 ⟨fun x hx => ?_, ih hq.2⟩
      rcases (insP_mem p x l).1 hx with rfl | hx
      · exact h1
      · exact hq.1 x hx
    · rw [if_neg h1]
      by_cases h2 : q = p
      · rw [if_pos h2]; exact h
      · rw [if_neg h2]
        have h3 : ltP p q := by
          rcases ltP_tri p q with h | h | h
          · exact h
          · exact absurd h.symm h2
          · exact absurd h h1
        refine List.pairwise_cons.2 ⟨fun x hx => ?_, h⟩
        rcases List.mem_cons.1 hx with rfl | hx
        · exact h3
        · exact ltP_trans h3 (hq.1 x hx)
/-- Two rows in order with the same points are the same. -/
theorem sl_one : ∀ {a b : List Pt}, SL a → SL b → (∀ x, x ∈ a ↔ x ∈ b) → a = b
  | [], [], _, _, _ => rfl
  | [], y :: b, _, _, h => absurd ((h y).2 (by simp)) (by simp)
  | x :: a, [], _, _, h => absurd ((h x).1 (by simp)) (by simp)
  | x :: a, y :: b, ha, hb, h => by
    have ha' := List.pairwise_cons.1 ha
    have hb' := List.pairwise_cons.1 hb
    have e : x = y := by
      rcases List.mem_cons.1 ((h x).1 (by simp)) with e | hx
      · exact e
      · rcases List.mem_cons.1 ((h y).2 (by simp)) with e | hy
        · exact e.symm
        · exact (ltP_asymm (hb'.1 x hx) (ha'.1 y hy)).elim
    subst e
    rw [sl_one ha'.2 hb'.2 fun z => ?_]
    constructor
    · intro hz
      rcases List.mem_cons.1 ((h z).1 (List.mem_cons_of_mem _ hz)) with e | hz'
      · subst e; exact (ltP_irrefl _ (ha'.1 _ hz)).elim
      · exact hz'
    · intro hz
      rcases List.mem_cons.1 ((h z).2 (List.mem_cons_of_mem _ hz)) with e | hz'
      · subst e; exact (ltP_irrefl _ (hb'.1 _ hz)).elim
      · exact hz'
/-- Laid at the place that is found. -/
theorem insP_at (p : Pt) : ∀ (l : List Pt) (k : Nat), k ≤ l.length → (∀ j (h : j < l.length), j < k → ltP l[j] p) → (∀ h : k < l.length, ¬ ltP l[k] p) → insP p l = if l[k]? = some p then l else l.take k ++ p :: l.drop k
  | [], k, hk, _, _ => by
    obtain rfl : k = 0 := by simpa using hk
    simp [insP]
  | q :: l, 0, _, _, h2 => by
    have h2' : ¬ ltP q p := h2 (by simp)
    unfold insP
    rw [if_neg h2']
    by_cases e : q = p
    · subst e; simp
    · rw [if_neg e, if_neg (by simpa using e)]; rfl
  | q :: l, k + 1, hk, h1, h2 => by
    have hq : ltP q p := h1 0 (by simp) (by omega)
    unfold insP
    rw [if_pos hq, insP_at p l k (by simpa using hk) (fun j h hj => h1 (j + 1) (by simpa using h) (by omega)) (fun h => h2 (by simpa using h))]
    simp only [List.getElem?_cons_succ, List.take_succ_cons, List.drop_succ_cons, List.cons_append]
    split <;> rfl
def foldP (l : List Pt) (ps : List Pt) : List Pt := ps.foldl (fun l p => insP p l) l
theorem foldP_mem (ps l : List Pt) (x : Pt) : x ∈ foldP l ps ↔ x ∈ l ∨ x ∈ ps := by
  induction ps generalizing l with
  | nil => simp [foldP]
  | cons p ps ih =>
    show x ∈ foldP (insP p l) ps ↔ _
    rw [ih, insP_mem, List.mem_cons]
    constructor
    · rintro ((h | h) | h)
      · exact Or.inr (Or.inl h)
      · exact Or.inl h
      · exact Or.inr (Or.inr h)
    · rintro (h | h | h)
      · exact Or.inl (Or.inr h)
      · exact Or.inl (Or.inl h)
      · exact Or.inr h
theorem foldP_sl (ps : List Pt) {l : List Pt} (h : SL l) : SL (foldP l ps) := by
  induction ps generalizing l with
  | nil => exact h
  | cons p ps ih => exact ih (insP_sl p h)
theorem foldP_app (l a b : List Pt) : foldP l (a ++ b) = foldP (foldP l a) b := List.foldl_append ..
theorem foldP_snoc (l a : List Pt) (p : Pt) : foldP l (a ++ [p]) = insP p (foldP l a) := by rw [foldP_app]; rfl
/-- The points of a node; of nodes, one behind the other; all in their order. -/
def ofNode (f : Int → Nat → Nat) (n : Int) (e : Nat) : List Pt := (List.range e).map fun k => (f n k, n)
def rawP (f : Int → Nat → Nat) (ns : List Int) (e : Nat) : List Pt := ns.flatMap fun n => ofNode f n e
def ptsP (f : Int → Nat → Nat) (ns : List Int) (e : Nat) : List Pt := foldP [] (rawP f ns e)
theorem ofNode_len (f : Int → Nat → Nat) (n : Int) (e : Nat) : (ofNode f n e).length = e := by simp [ofNode]
theorem ofNode_at (f : Int → Nat → Nat) (n : Int) (e k : Nat) (h : k < e) : (ofNode f n e).take (k + 1) = (ofNode f n e).take k ++ [(f n k, n)] := by
  rw [List.take_succ_eq_append_getElem (by rw [ofNode_len]; exact h)]
  simp [ofNode]
theorem rawP_len (f : Int → Nat → Nat) (ns : List Int) (e : Nat) : (rawP f ns e).length = ns.length * e := by
  induction ns with
  | nil => simp [rawP]
  | cons n ns ih =>
    show (ofNode f n e ++ rawP f ns e).length = _
    rw [List.length_append, ofNode_len, ih, List.length_cons, Nat.succ_mul, Nat.add_comm]
theorem rawP_snoc (f : Int → Nat → Nat) (ns : List Int) (e k : Nat) (h : k < ns.length) : rawP f (ns.take (k + 1)) e = rawP f (ns.take k) e ++ ofNode f ns[k] e := by
  rw [List.take_succ_eq_append_getElem h]
  unfold rawP
  rw [List.flatMap_append]
  simp
theorem rawP_mem (f : Int → Nat → Nat) (ns : List Int) (e : Nat) (x : Pt) : x ∈ rawP f ns e ↔ ∃ n ∈ ns, ∃ k, k < e ∧ x = (f n k, n) := by
  unfold rawP ofNode
  simp only [List.mem_flatMap, List.mem_map, List.mem_range]
  constructor
  · rintro ⟨n, hn, k, hk, rfl⟩; exact ⟨n, hn, k, hk, rfl⟩
  · rintro ⟨n, hn, k, hk, rfl⟩; exact ⟨n, hn, k, hk, rfl⟩
theorem ptsP_mem (f : Int → Nat → Nat) (ns : List Int) (e : Nat) (x : Pt) : x ∈ ptsP f ns e ↔ ∃ n ∈ ns, ∃ k, k < e ∧ x = (f n k, n) := by
  unfold ptsP
  rw [foldP_mem, rawP_mem]
  simp
theorem ptsP_sl (f : Int → Nat → Nat) (ns : List Int) (e : Nat) : SL (ptsP f ns e) := foldP_sl _ List.Pairwise.nil
theorem insP_len (p : Pt) (l : List Pt) : (insP p l).length ≤ l.length + 1 := by
  induction l with
  | nil => simp [insP]
  | cons q l ih =>
    unfold insP
    split
    · simp; omega
    · split <;> simp
theorem foldP_len (ps l : List Pt) : (foldP l ps).length ≤ l.length + ps.length := by
  induction ps generalizing l with
  | nil => simp [foldP]
  | cons p ps ih =>
    have h1 := ih (insP p l)
    have h2 := insP_len p l
    show (foldP (insP p l) ps).length ≤ _
    simp only [List.length_cons]
    omega
theorem ptsP_len (f : Int → Nat → Nat) (ns : List Int) (e : Nat) : (ptsP f ns e).length ≤ ns.length * e := by
  have := foldP_len (rawP f ns e) []
  rw [rawP_len] at this
  simpa [ptsP] using this
theorem ptsP_pos (f : Int → Nat → Nat) (ns : List Int) (e : Nat) (h : 0 < ns.length) (he : 0 < e) : 0 < (ptsP f ns e).length := by
  rcases ns with _ | ⟨n, ns⟩
  · simp at h
  · exact List.length_pos_of_mem ((ptsP_mem f (n :: ns) e (f n 0, n)).2 ⟨n, by simp, 0, he, rfl⟩)
/-- Any row in order that has these points is it. -/
theorem ptsP_one (f : Int → Nat → Nat) (ns : List Int) (e : Nat) {l : List Pt} (h : SL l) (hm : ∀ x, x ∈ l ↔ x ∈ rawP f ns e) : l = ptsP f ns e :=
  sl_one h (ptsP_sl _ _ _) fun x => by rw [hm, rawP_mem, ptsP_mem]

/-- The different ones, in the order in which they are met. -/
def dd (acc : List Int) : List Int → List Int
  | [] => acc
  | x :: xs => if x ∈ acc then dd acc xs else dd (acc ++ [x]) xs
theorem dd_app (a b : List Int) : ∀ acc, dd acc (a ++ b) = dd (dd acc a) b := by
  induction a with
  | nil => intro acc; rfl
  | cons x a ih =>
    intro acc
    simp only [List.cons_append, dd]
    split <;> exact ih _
theorem dd_snoc (acc a : List Int) (x : Int) : dd acc (a ++ [x]) = if x ∈ dd acc a then dd acc a else dd acc a ++ [x] := by
  rw [dd_app]; simp only [dd]
theorem dd_mem (x : Int) (l : List Int) : ∀ acc, x ∈ dd acc l ↔ x ∈ acc ∨ x ∈ l := by
  induction l with
  | nil => intro acc; simp [dd]
  | cons y l ih =>
    intro acc
    simp only [dd]
    split
    · rename_i h
      rw [ih, List.mem_cons]
      constructor
      · rintro (h1 | h1)
        · exact Or.inl h1
        · exact Or.inr (Or.inr h1)
      · rintro (h1 | h1 | h1)
        · exact Or.inl h1
        · subst h1; exact Or.inl h
        · exact Or.inr h1
    · rw [ih, List.mem_append, List.mem_singleton, List.mem_cons, or_assoc]
theorem dd_nodup (l : List Int) : ∀ {acc : List Int}, acc.Nodup → (dd acc l).Nodup := by
  induction l with
  | nil => intro acc h; exact h
  | cons y l ih =>
    intro acc h
    simp only [dd]
    split
    · exact ih h
    · rename_i hy
      refine ih (List.nodup_append.2 ⟨h, by simp, fun a ha b hb => ?_⟩)
      have : b = y := by simpa using hb
      subst this
      intro e; subst e; exact hy ha
theorem dd_pre (l : List Int) : ∀ acc, acc <+: dd acc l := by
  induction l with
  | nil => intro acc; exact List.prefix_rfl
  | cons y l ih =>
    intro acc
    simp only [dd]
    split
    · exact ih acc
    · exact List.IsPrefix.trans (List.prefix_append _ _) (ih _)
theorem dd_filter (q : Int → Bool) (l : List Int) : ∀ acc, (dd acc l).filter q = dd (acc.filter q) (l.filter q) := by
  induction l with
  | nil => intro acc; rfl
  | cons y l ih =>
    intro acc
    simp only [dd]
    by_cases hq : q y = true
    · rw [List.filter_cons_of_pos hq]
      simp only [dd]
      by_cases hy : y ∈ acc
      · rw [if_pos hy, if_pos (List.mem_filter.2 ⟨hy, hq⟩), ih]
      · rw [if_neg hy, if_neg (fun h => hy (List.mem_filter.1 h).1), ih, List.filter_append]
        simp [hq]
    · rw [List.filter_cons_of_neg hq]
      split
      · exact ih _
      · rw [ih, List.filter_append]
        simp [hq]
/-- Where a word begins; the way round from there. -/
def cntP (l : List Pt) (h : Nat) : Nat := l.countP fun p => decide (p.1 < h)
def firstP (l : List Pt) (h : Nat) : Nat := cntP l h % l.length
def rotP (l : List Pt) (h : Nat) : List Pt := l.drop (cntP l h) ++ l.take (cntP l h)
theorem cntP_le (l : List Pt) (h : Nat) : cntP l h ≤ l.length := List.countP_le_length
theorem sl_le {l : List Pt} (h : SL l) : ∀ i j (hi : i < l.length) (hj : j < l.length), i ≤ j → l[i].1 ≤ l[j].1 := by
  intro i j hi hj hij
  rcases Nat.lt_or_ge i j with hlt | hge
  · have := List.pairwise_iff_getElem.1 h i j hi hj hlt
    unfold ltP at this
    omega
  · obtain rfl : i = j := by omega
    exact Nat.le_refl _
theorem sl_cut {l : List Pt} (hs : SL l) (h : Nat) : l.take (cntP l h) = l.filter (fun p => decide (p.1 < h)) ∧ l.drop (cntP l h) = l.filter (fun p => decide (h ≤ p.1)) := by
  induction l with
  | nil => simp [cntP]
  | cons p l ih =>
    have hp := List.pairwise_cons.1 hs
    have ih := ih hp.2
    by_cases hlt : p.1 < h
    · have e : cntP (p :: l) h = cntP l h + 1 := by unfold cntP; rw [List.countP_cons_of_pos (by simpa using hlt)]
      rw [e, List.take_succ_cons, List.drop_succ_cons, ih.1, ih.2, List.filter_cons_of_pos (by simpa using hlt), List.filter_cons_of_neg (by simpa using hlt)]
      exact ⟨rfl, rfl⟩
    · have hz : ∀ q ∈ p :: l, ¬ q.1 < h := by
        intro q hq
        rcases List.mem_cons.1 hq with rfl | hq
        · exact hlt
        · have := hp.1 q hq
          unfold ltP at this
          omega
      have e : cntP (p :: l) h = 0 := by
        unfold cntP
        rw [List.countP_eq_zero]
        intro q hq
        simpa using hz q hq
      rw [e]
      constructor
      · rw [List.take_zero]
        symm
        rw [List.filter_eq_nil_iff]
        intro q hq
        simpa using hz q hq
      · rw [List.drop_zero]
        symm
        rw [List.filter_eq_self]
        intro q hq
        have := hz q hq
        simp; omega
theorem rotP_eq {l : List Pt} (hs : SL l) (h : Nat) : rotP l h = l.filter (fun p => decide (h ≤ p.1)) ++ l.filter (fun p => decide (p.1 < h)) := by
  unfold rotP
  rw [(sl_cut hs h).1, (sl_cut hs h).2]
theorem rotP_len (l : List Pt) (h : Nat) : (rotP l h).length = l.length := by
  have := cntP_le l h
  unfold rotP
  rw [List.length_append, List.length_drop, List.length_take]
  omega
theorem rotP_mem (l : List Pt) (h : Nat) (x : Pt) : x ∈ rotP l h ↔ x ∈ l := by
  unfold rotP
  rw [List.mem_append, Or.comm, ← List.mem_append, List.take_append_drop]
theorem firstP_lt (l : List Pt) (h : Nat) (hl : 0 < l.length) : firstP l h < l.length := Nat.mod_lt _ hl
theorem firstP_eq (l : List Pt) (h : Nat) : firstP l h = if cntP l h = l.length then 0 else cntP l h := by
  have := cntP_le l h
  unfold firstP
  split
  · rename_i e; rw [e, Nat.mod_self]
  · exact Nat.mod_eq_of_lt (by omega)
theorem rotP_at? (l : List Pt) (h i : Nat) (hi : i < l.length) : (rotP l h)[i]? = l[(firstP l h + i) % l.length]? := by
  have hc := cntP_le l h
  unfold rotP
  rw [firstP_eq]
  by_cases hlt : i < l.length - cntP l h
  · rw [List.getElem?_append_left (by rw [List.length_drop]; exact hlt), List.getElem?_drop, if_neg (by omega), Nat.mod_eq_of_lt (by omega)]
  · rw [List.getElem?_append_right (by rw [List.length_drop]; omega), List.length_drop, List.getElem?_take, if_pos (by omega)]
    by_cases e : cntP l h = l.length
    · rw [if_pos e, Nat.zero_add, Nat.mod_eq_of_lt hi, e]
      congr 1; omega
    · rw [if_neg e, show cntP l h + i = (i - (l.length - cntP l h)) + l.length by omega, Nat.add_mod_right, Nat.mod_eq_of_lt (by omega)]
theorem rotP_snoc (l : List Pt) (h i m : Nat) (hi : i < l.length) (hm : (firstP l h + i) % l.length = m) (hml : m < l.length) : (rotP l h).take (i + 1) = (rotP l h).take i ++ [l[m]] := by
  have e := rotP_at? l h i hi
  rw [hm, List.getElem?_eq_getElem hml, List.getElem?_eq_getElem (by rw [rotP_len]; exact hi)] at e
  injection e with e
  rw [List.take_succ_eq_append_getElem (by rw [rotP_len]; exact hi), e]
def snds (l : List Pt) : List Int := l.map fun p => p.2
/-- Who follows a word, all of them; and those that keep it. -/
def metP (l : List Pt) (h : Nat) : List Int := dd [] (snds (rotP l h))
def keepP (l : List Pt) (h keep : Nat) : List Int := (metP l h).take keep
theorem metP_nodup (l : List Pt) (h : Nat) : (metP l h).Nodup := dd_nodup _ List.nodup_nil
theorem metP_mem (l : List Pt) (h : Nat) (n : Int) : n ∈ metP l h ↔ ∃ a, (a, n) ∈ l := by
  unfold metP snds
  rw [dd_mem, List.mem_map]
  simp only [List.not_mem_nil, false_or]
  constructor
  · rintro ⟨⟨a, b⟩, hp, rfl⟩; exact ⟨a, (rotP_mem l h _).1 hp⟩
  · rintro ⟨a, ha⟩; exact ⟨(a, n), (rotP_mem l h _).2 ha, rfl⟩
theorem metP_node (f : Int → Nat → Nat) (ns : List Int) (e : Nat) (he : 0 < e) (h : Nat) (n : Int) : n ∈ metP (ptsP f ns e) h ↔ n ∈ ns := by
  rw [metP_mem]
  constructor
  · rintro ⟨a, ha⟩
    obtain ⟨m, hm, k, hk, hx⟩ := (ptsP_mem f ns e _).1 ha
    injection hx with h1 h2
    rw [h2]; exact hm
  · intro hn
    exact ⟨f n 0, (ptsP_mem f ns e _).2 ⟨n, hn, 0, he, rfl⟩⟩
theorem nodup_len {a b : List Int} (ha : a.Nodup) (hb : b.Nodup) (h : ∀ x, x ∈ a ↔ x ∈ b) : a.length = b.length :=
  ((List.perm_ext_iff_of_nodup ha hb).2 h).length_eq
theorem metP_len (f : Int → Nat → Nat) (ns : List Int) (hn : ns.Nodup) (e : Nat) (he : 0 < e) (h : Nat) : (metP (ptsP f ns e) h).length = ns.length :=
  nodup_len (metP_nodup _ _) hn fun x => metP_node f ns e he h x
theorem keepP_len (f : Int → Nat → Nat) (ns : List Int) (hn : ns.Nodup) (e : Nat) (he : 0 < e) (h keep : Nat) (hk : keep ≤ ns.length) : (keepP (ptsP f ns e) h keep).length = keep := by
  unfold keepP
  rw [List.length_take, metP_len f ns hn e he]
  omega
/-- What some nodes' points are among all. -/
theorem ptsP_sub (f : Int → Nat → Nat) (ns ms : List Int) (e : Nat) (q : Int → Bool) (hq : ∀ n, n ∈ ms ↔ n ∈ ns ∧ q n = true) : (ptsP f ns e).filter (fun p => q p.2) = ptsP f ms e := by
  refine sl_one (List.Pairwise.filter _ (ptsP_sl f ns e)) (ptsP_sl f ms e) fun x => ?_
  rw [List.mem_filter, ptsP_mem, ptsP_mem]
  constructor
  · rintro ⟨⟨n, hn, k, hk, rfl⟩, hx⟩
    exact ⟨n, (hq n).2 ⟨hn, hx⟩, k, hk, rfl⟩
  · rintro ⟨n, hn, k, hk, rfl⟩
    exact ⟨⟨n, ((hq n).1 hn).1, k, hk, rfl⟩, ((hq n).1 hn).2⟩
theorem metP_sub (f : Int → Nat → Nat) (ns ms : List Int) (e : Nat) (q : Int → Bool) (hq : ∀ n, n ∈ ms ↔ n ∈ ns ∧ q n = true) (h : Nat) : (metP (ptsP f ns e) h).filter q = metP (ptsP f ms e) h := by
  unfold metP
  rw [dd_filter, List.filter_nil]
  congr 1
  rw [rotP_eq (ptsP_sl _ _ _), rotP_eq (ptsP_sl _ _ _), ← ptsP_sub f ns ms e q hq]
  unfold snds
  rw [List.filter_map, List.filter_append]
  simp only [List.filter_filter]
  congr 1
  congr 1
  · apply List.filter_congr; intro p _; simp [Bool.and_comm]
  · apply List.filter_congr; intro p _; simp [Bool.and_comm]
/-- Those of whom some are left out are the first of the others. -/
theorem take_filter_pre (q : Int → Bool) : ∀ (l : List Int) (k : Nat), (l.take k).filter q <+: l.filter q
  | l, k => by
    have := List.take_append_drop k l
    have e : l.filter q = (l.take k).filter q ++ (l.drop k).filter q := by rw [← List.filter_append, this]
    rw [e]; exact List.prefix_append _ _
theorem pre_take {a b : List Int} (h : a <+: b) : a = b.take a.length := (List.prefix_iff_eq_take.1 h)
end Rg
end Go.Proofs.YtkdpfjenjcpcfaaGreatDoor
