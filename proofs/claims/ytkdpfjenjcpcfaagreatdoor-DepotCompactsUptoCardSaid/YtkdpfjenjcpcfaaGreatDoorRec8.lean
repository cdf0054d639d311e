/- What a log's records tell: a table of entries; what is laid behind them; what comes back. -/
import Derived.Test.YtkdpfjenjcpcfaaGreatDoorTb8
import Derived.Test.YtkdpfjenjcpcfaaGreatDoorCut5
import Derived.Test.YtkdpfjenjcpcfaaGreatDoorRefAll
namespace Go.Proofs.YtkdpfjenjcpcfaaGreatDoor
open Go.RowKit Mem Be Word Frm
set_option linter.unusedVariables false
/-- An entry, unless its key's is newer. -/
def cmpE (a b : EntP) : Int := cmpT a.s a.u a.o b.s b.u b.o
def layT (T : List EntP) (e : EntP) : List EntP := if cmpE e (ofT T e.k) < 0 then T else putK kE T e
def readRs : List (List UInt8) → List EntP → Option (List EntP)
  | [], T => some T
  | b :: r, T => if (readP b).2 = 0 then readRs r (layT T (readP b).1) else none
def okC (r : Rc) : Prop := r.1 = 1 ∧ (readP r.2).2 = 0 ∧ (readP r.2).1.s ≠ 0
instance okCdec (r : Rc) : Decidable (okC r) := by unfold okC; infer_instance
def readCs : List Rc → List EntP → Option (List EntP)
  | [], T => some T
  | r :: l, T => if okC r then readCs l (layT T (readP r.2).1) else none
def snap8 (b : List UInt8) : Option (List EntP) := if (allA getR b).2 = 0 then readRs (allA getR b).1 [] else none
/-- How many records there are up to the last snapshot, itself counted. -/
def lastN : List Rc → Nat
  | [] => 0
  | r :: t => if lastN t ≠ 0 then lastN t + 1 else if r.1 = 0 then 1 else 0
def lastO (rs : List Rc) : Nat → List UInt8
  | 0 => []
  | k + 1 => ((rs[k]?).getD (0, [])).2
/-- The table that records tell; none: they are no store's. -/
def recS (rs : List Rc) : Option (List EntP) := (snap8 (lastO rs (lastN rs))).bind (readCs (rs.drop (lastN rs)))
theorem lastN_le : ∀ rs : List Rc, lastN rs ≤ rs.length
  | [] => Nat.le_refl _
  | r :: t => by
    have := lastN_le t
    unfold lastN
    split
    · simp; omega
    · split <;> simp
theorem lastN_snoc (r : Rc) : ∀ rs : List Rc, lastN (rs ++ [r]) = if r.1 = 0 then rs.length + 1 else lastN rs
  | [] => by by_cases h : r.1 = 0 <;> simp [lastN, h]
  | x :: t => by
    have ih := lastN_snoc r t
    rw [List.cons_append]
    unfold lastN
    rw [ih]
    by_cases h : r.1 = 0
    · simp [h]
    · simp only [if_neg h]
theorem lastO_snoc (r : Rc) (rs : List Rc) {p : Nat} (h : p ≤ rs.length) : lastO (rs ++ [r]) p = lastO rs p := by
  cases p with
  | zero => rfl
  | succ k => simp only [lastO]; rw [List.getElem?_append_left (by omega)]
theorem readCs_app (a b : List Rc) (T : List EntP) : readCs (a ++ b) T = (readCs a T).bind (readCs b) := by
  induction a generalizing T with
  | nil => rfl
  | cons r a ih =>
    rw [List.cons_append]
    simp only [readCs]
    split
    · exact ih _
    · rfl
theorem recS_snoc {rs : List Rc} {T : List EntP} {e : EntP} (h : recS rs = some T) (ho : okE e) (hs : e.s ≠ 0) : recS (rs ++ [(1, putE e)]) = some (layT T e) := by
  have hl : lastN (rs ++ [(1, putE e)]) = lastN rs := by rw [lastN_snoc]; exact if_neg (show ¬ (1 : UInt8) = 0 by decide)
  have hr : readP (putE e) = (e, 0) := readP_put e ho
  unfold recS at h ⊢
  rw [hl, lastO_snoc _ _ (lastN_le rs), List.drop_append_of_le_length (lastN_le rs)]
  cases h1 : snap8 (lastO rs (lastN rs)) with
  | none => rw [h1] at h; cases h
  | some T0 =>
    rw [h1] at h
    simp only [Option.bind_some] at h ⊢
    rw [readCs_app, h]
    have hok : okC (1, putE e) := ⟨rfl, by rw [hr], by rw [hr]; exact hs⟩
    simp only [Option.bind_some, readCs, if_pos hok, hr]
/-- A table as it is to be: by rising keys, each entry one that may be. -/
structure OkT (T : List EntP) : Prop where
  srt : SortT kE T
  ok : ∀ e ∈ T, okE e
theorem okT_nil : OkT [] := ⟨sort_nil, fun e h => by cases h⟩
theorem okT_put {T : List EntP} {e : EntP} (h : OkT T) (he : okE e) : OkT (putK kE T e) := ⟨put_sort h.srt, fun x hx => by
  rcases mem_put_of hx with rfl | hx
  · exact he
  · exact h.ok x hx⟩
theorem okT_lay {T : List EntP} {e : EntP} (h : OkT T) (he : okE e) : OkT (layT T e) := by
  unfold layT
  split
  · exact h
  · exact okT_put h he
theorem lay_len (T : List EntP) (e : EntP) : (layT T e).length ≤ T.length + 1 := by
  unfold layT
  split
  · omega
  · exact put_len e T
theorem readP_ok {b : List UInt8} (h : (readP b).2 = 0) : okE (readP b).1 ∧ putE (readP b).1 = b := by
  rcases readP_back (bs := b) (x := (readP b).1) (e := (readP b).2) rfl with ⟨h1, _⟩ | ⟨_, h2, h3⟩
  · exact absurd h h1
  · exact ⟨h2, h3⟩
theorem readRs_ok : ∀ (l : List (List UInt8)) (T : List EntP), OkT T → ∀ T', readRs l T = some T' → OkT T' ∧ T'.length ≤ T.length + l.length
  | [], T, h, T', he => by injection he with he; subst he; exact ⟨h, Nat.le_refl _⟩
  | b :: r, T, h, T', he => by
    unfold readRs at he
    split at he
    · rename_i h0
      obtain ⟨h1, h2⟩ := readRs_ok r _ (okT_lay h (readP_ok h0).1) T' he
      have := lay_len T (readP b).1
      exact ⟨h1, by simp; omega⟩
    · cases he
theorem readCs_ok : ∀ (l : List Rc) (T : List EntP), OkT T → ∀ T', readCs l T = some T' → OkT T' ∧ T'.length ≤ T.length + l.length
  | [], T, h, T', he => by injection he with he; subst he; exact ⟨h, Nat.le_refl _⟩
  | b :: r, T, h, T', he => by
    unfold readCs at he
    split at he
    · rename_i h0
      obtain ⟨h1, h2⟩ := readCs_ok r _ (okT_lay h (readP_ok h0.2.1).1) T' he
      have := lay_len T (readP b.2).1
      exact ⟨h1, by simp; omega⟩
    · cases he
theorem allF_len {α : Type} (get : List UInt8 → α × Nat × Int) : ∀ (f : Nat) (bs : List UInt8), (allF get f bs).1.length ≤ f
  | 0, _ => by simp [allF]
  | f + 1, bs => by
    have := allF_len get f (bs.drop (get bs).2.1)
    unfold allF
    split
    · simp
    · split
      · unfold cons1; split <;> simp; exact this
      · simp
theorem lastO_len (rs : List Rc) (p : Nat) : (lastO rs p).length ≤ (allB rs).length := by
  cases p with
  | zero => simp [lastO]
  | succ k =>
    simp only [lastO]
    cases h : rs[k]? with
    | none => simp
    | some r =>
      obtain ⟨hk, hr⟩ := List.getElem?_eq_some_iff.1 h
      have := long_each (rs := rs) (r := r) (by rw [← hr]; exact List.getElem_mem hk)
      unfold longN at this
      simp only [Option.getD_some]; omega
theorem recS_ok {rs : List Rc} {T : List EntP} (h : recS rs = some T) : OkT T ∧ T.length ≤ 2 * (allB rs).length := by
  unfold recS at h
  cases h1 : snap8 (lastO rs (lastN rs)) with
  | none => rw [h1] at h; cases h
  | some T0 =>
    rw [h1] at h
    simp only [Option.bind_some] at h
    unfold snap8 at h1
    split at h1
    · obtain ⟨h2, h3⟩ := readRs_ok _ _ okT_nil T0 h1
      obtain ⟨h4, h5⟩ := readCs_ok _ _ h2 T h
      have h6 := allF_len getR (lastO rs (lastN rs)).length (lastO rs (lastN rs))
      have h7 := lastO_len rs (lastN rs)
      have h8 := long_many rs
      unfold longN at h8
      unfold allA at h3
      simp only [List.length_nil, List.length_drop] at h3 h5
      exact ⟨h4, by omega⟩
    · cases h1
theorem recS_nil : recS [] = some [] := rfl
/-- All entries' rows. -/
def rowsT (T : List EntP) : List UInt8 := T.flatMap fun e => rowB (putE e)
theorem rowB_ne (x : List UInt8) : rowB x ≠ [] := fun e => by
  have h1 := numB_pos (x.length : Int)
  have h2 : (rowB x).length = 0 := by rw [e]; rfl
  unfold rowB at h2
  rw [List.length_append] at h2
  omega
theorem putE_len {e : EntP} (h : okE e) : (putE e).length ≤ 65536 := by
  have h1 := rightE_yes h
  have h2 := entB_le e.k e.s e.u e.o e.has e.v
  unfold putE
  omega
theorem rows_laid {T : List EntP} (h : ∀ e ∈ T, okE e) : allA getR (rowsT T) = (T.map putE, 0) := by
  have := all_laid good_row rowB (fun x => x.length ≤ 65536) (fun x more hx => getR_row x more hx) rowB_ne (T.map putE) (fun x hx => by
    obtain ⟨e, he, rfl⟩ := List.mem_map.1 hx
    exact putE_len (h e he))
  rw [List.flatMap_map] at this
  exact this
theorem cmpE_none {e : EntP} (h : okE e) (k : List UInt8) : ¬ cmpE e (entN k) < 0 := by
  obtain ⟨h1, _, h3, _, h5, _⟩ := okE_nums h
  unfold cmpE cmpT cmpI entN
  simp only
  split
  · split
    · omega
    · split <;> omega
  · split
    · split
      · omega
      · split <;> omega
    · split
      · omega
      · split <;> omega
theorem lay_new {T : List EntP} {e : EntP} (h : okE e) (hn : getK kE T e.k = none) : layT T e = putK kE T e := by
  unfold layT ofT
  rw [hn]
  exact if_neg (cmpE_none h _)
theorem readRs_put : ∀ (T Q : List EntP), SortT kE (Q ++ T) → (∀ e ∈ T, okE e) → readRs (T.map putE) Q = some (Q ++ T)
  | [], Q, _, _ => by simp [readRs]
  | e :: r, Q, hs, ho => by
    have hr : readP (putE e) = (e, 0) := readP_put e (ho e (by simp))
    have hq : ∀ y ∈ Q, bytesBefore (kE y) (kE e) = true := fun y hy => (List.pairwise_append.1 hs).2.2 y hy e (by simp)
    have hl : layT Q e = Q ++ [e] := by
      rw [lay_new (ho e (by simp)) (get_none.2 fun y hy => bb_ne (hq y hy)), put_last hq]
    rw [List.map_cons]
    unfold readRs
    rw [hr]
    simp only [if_true]
    rw [hl, readRs_put r (Q ++ [e]) (by simpa using hs) fun x hx => ho x (by simp [hx])]
    simp
/-- One record for all tells all. -/
theorem recS_one {T : List EntP} (h : OkT T) : recS [(0, rowsT T)] = some T := by
  have hl : lastN [((0 : UInt8), rowsT T)] = 1 := by simp [lastN]
  unfold recS
  rw [hl]
  have : lastO [((0 : UInt8), rowsT T)] 1 = rowsT T := rfl
  rw [this]
  unfold snap8
  rw [rows_laid h.ok]
  simp only [if_true]
  rw [readRs_put T [] (by simpa using h.srt) h.ok]
  rfl
/-- Every part of the records from some place on tells something. -/
def Told8 (rs : List Rc) (m : Nat) : Prop := ∀ j, m ≤ j → j ≤ rs.length → (recS (rs.take j)).isSome = true
theorem cmpI_anti (a b : Int) : cmpI a b = - cmpI b a := by unfold cmpI; split <;> split <;> (try split) <;> (try split) <;> omega
end Go.Proofs.YtkdpfjenjcpcfaaGreatDoor
