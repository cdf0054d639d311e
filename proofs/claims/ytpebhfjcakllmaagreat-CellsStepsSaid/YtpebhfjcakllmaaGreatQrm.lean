/- Majorities: how many of a row are in another one, whether they are enough; rows of which not enough are left. -/
import Derived.Test.YtpebhfjcakllmaaGreatRgB
namespace Go.Proofs.YtpebhfjcakllmaaGreat
open Mem Rg
set_option maxRecDepth 10000
set_option linter.unusedVariables false
/-- More than half. -/
def need (n : Nat) : Nat := if n = 0 then 0 else n / 2 + 1
/-- Those of a row that are in another one. -/
def inn (l got : List Int) : List Int := l.filter fun x => isIn x got
def enO (l got : List Int) : Bool := decide (0 < l.length ∧ need l.length ≤ (inn l got).length)
/-- In both, each once. -/
def cmn (a b : List Int) : List Int := dd [] (inn a b)
theorem isIn_iff {x : Int} {l : List Int} : isIn x l = true ↔ x ∈ l := by unfold isIn; simp
theorem isIn_congr {x : Int} {a b : List Int} (h : x ∈ a ↔ x ∈ b) : isIn x a = isIn x b := by unfold isIn; rw [decide_eq_decide]; exact h
theorem inn_mem {x : Int} {l got : List Int} : x ∈ inn l got ↔ x ∈ l ∧ x ∈ got := by unfold inn; rw [List.mem_filter, isIn_iff]
theorem inn_le (l got : List Int) : (inn l got).length ≤ l.length := List.length_filter_le _ _
theorem inn_snoc (l got : List Int) (i : Nat) (h : i < l.length) : inn (l.take (i + 1)) got = if isIn l[i] got = true then inn (l.take i) got ++ [l[i]] else inn (l.take i) got := by
  unfold inn
  rw [List.take_succ_eq_append_getElem h, List.filter_append, List.filter_cons]
  by_cases e : isIn l[i] got = true
  · rw [if_pos e, if_pos e]; rfl
  · rw [if_neg e, if_neg e]; simp
theorem inn_snoc_len (l got : List Int) (i : Nat) (h : i < l.length) : (inn (l.take (i + 1)) got).length = (inn (l.take i) got).length + if isIn l[i] got = true then 1 else 0 := by
  rw [inn_snoc l got i h]; split <;> simp
theorem inn_take_le (l got : List Int) (i : Nat) : (inn (l.take i) got).length ≤ (inn l got).length := by
  have : inn l got = inn (l.take i) got ++ inn (l.drop i) got := by unfold inn; rw [← List.filter_append, List.take_append_drop]
  rw [this, List.length_append]; omega
theorem inn_congr {l a b : List Int} (h : ∀ x ∈ l, x ∈ a ↔ x ∈ b) : inn l a = inn l b := by
  unfold inn
  exact List.filter_congr fun x hx => isIn_congr (h x hx)
theorem inn_mono {l a b : List Int} (h : ∀ x, x ∈ a → x ∈ b) : (inn l a).length ≤ (inn l b).length := by
  unfold inn
  induction l with
  | nil => simp
  | cons x l ih =>
    rw [List.filter_cons, List.filter_cons]
    by_cases e : isIn x a = true
    · rw [if_pos e, if_pos (isIn_iff.2 (h x (isIn_iff.1 e)))]
      simp only [List.length_cons]; omega
    · rw [if_neg e]
      by_cases e2 : isIn x b = true
      · rw [if_pos e2]; simp only [List.length_cons]; omega
      · rw [if_neg e2]; exact ih
theorem inn_all {l got : List Int} (h : ∀ x ∈ l, x ∈ got) : inn l got = l := by
  unfold inn
  exact List.filter_eq_self.2 fun x hx => isIn_iff.2 (h x hx)
theorem inn_none {l : List Int} : inn l [] = [] := by
  unfold inn
  exact List.filter_eq_nil_iff.2 fun x _ h => by simpa using isIn_iff.1 h
theorem inn_idem (l got : List Int) : inn l (inn l got) = inn l got := by
  unfold inn
  exact List.filter_congr fun x hx => isIn_congr ⟨fun h => (inn_mem.1 h).2, fun h => inn_mem.2 ⟨hx, h⟩⟩
theorem cmn_eq (a b : List Int) : cmn a b = inn (dd [] a) b := by
  unfold cmn inn
  rw [dd_filter]; rfl
theorem cmn_snoc (a b : List Int) (i : Nat) (h : i < a.length) : cmn (a.take (i + 1)) b = if a[i] ∈ b ∧ a[i] ∉ cmn (a.take i) b then cmn (a.take i) b ++ [a[i]] else cmn (a.take i) b := by
  unfold cmn
  rw [inn_snoc a b i h]
  by_cases e : isIn a[i] b = true
  · rw [if_pos e, dd_snoc]
    by_cases e2 : a[i] ∈ dd [] (inn (a.take i) b)
    · rw [if_pos e2, if_neg (fun h => h.2 e2)]
    · rw [if_neg e2, if_pos ⟨isIn_iff.1 e, e2⟩]
  · rw [if_neg e, if_neg (fun h => e (isIn_iff.2 h.1))]
theorem cmn_mem {x : Int} {a b : List Int} : x ∈ cmn a b ↔ x ∈ a ∧ x ∈ b := by unfold cmn; rw [dd_mem, inn_mem]; simp
theorem dd_le (l : List Int) : ∀ acc, (dd acc l).length ≤ acc.length + l.length := by
  induction l with
  | nil => intro acc; simp [dd]
  | cons x l ih =>
    intro acc
    simp only [dd]
    split
    · have := ih acc; simp only [List.length_cons]; omega
    · have := ih (acc ++ [x]); simp only [List.length_append, List.length_cons, List.length_nil] at *; omega
theorem cmn_le (a b : List Int) : (cmn a b).length ≤ a.length := by
  have h1 := dd_le (inn a b) []
  have h2 := inn_le a b
  unfold cmn
  simp at h1
  omega
theorem dd_snoc_at (l : List Int) (i : Nat) (h : i < l.length) : dd [] (l.take (i + 1)) = if l[i] ∈ l.take i then dd [] (l.take i) else dd [] (l.take i) ++ [l[i]] := by
  rw [List.take_succ_eq_append_getElem h, dd_snoc]
  have e : (l[i] ∈ dd [] (l.take i)) ↔ l[i] ∈ l.take i := by rw [dd_mem]; simp
  by_cases h2 : l[i] ∈ l.take i
  · rw [if_pos h2, if_pos (e.2 h2)]
  · rw [if_neg h2, if_neg (fun h => h2 (e.1 h))]
theorem dd_self_go (l : List Int) : ∀ acc, (acc ++ l).Nodup → dd acc l = acc ++ l := by
  induction l with
  | nil => intro acc _; simp [dd]
  | cons x l ih =>
    intro acc h
    simp only [dd]
    have hx : x ∉ acc := fun hm => by
      have := List.nodup_append.1 h
      exact this.2.2 x hm x (by simp) rfl
    rw [if_neg hx, ih (acc ++ [x]) (by simpa using h)]
    simp
theorem dd_self {l : List Int} (h : l.Nodup) : dd [] l = l := dd_self_go l [] (by simpa using h)
theorem dd_len_nodup : ∀ (l acc : List Int), (dd acc l).length = acc.length + l.length → acc.Nodup → (acc ++ l).Nodup
  | [], acc, _, ha => by simpa using ha
  | x :: l, acc, h, ha => by
    simp only [dd] at h
    split at h
    · have := dd_le l acc; simp only [List.length_cons] at h; omega
    · rename_i hx
      have ih := dd_len_nodup l (acc ++ [x]) (by simp only [List.length_append, List.length_cons, List.length_nil] at *; omega) (by
        rw [List.nodup_append]
        exact ⟨ha, by simp, fun a h1 b h2 e => by
          have : b = x := by simpa using h2
          subst this; subst e; exact hx h1⟩)
      simpa using ih
theorem dd_nodup_iff (l : List Int) : (dd [] l).length < l.length ↔ ¬ l.Nodup := by
  constructor
  · intro h hn
    rw [dd_self hn] at h
    omega
  · intro hn
    have := dd_le l []
    rcases Nat.lt_or_ge (dd [] l).length l.length with h | h
    · exact h
    · exact absurd (by simpa using dd_len_nodup l [] (by simp at *; omega) List.nodup_nil) hn
theorem ddn (l : List Int) : (dd [] l).Nodup := dd_nodup l List.nodup_nil
theorem dd_nil_iff (l : List Int) : (dd [] l).length = 0 ↔ l.length = 0 := by
  constructor
  · intro h
    have h2 : dd [] l = [] := List.length_eq_zero_iff.1 h
    have : ∀ x, x ∉ l := fun x hx => by
      have := (dd_mem x l []).2 (Or.inr hx)
      rw [h2] at this
      cases this
    rw [List.eq_nil_iff_forall_not_mem.2 this]; rfl
  · intro h
    rw [List.length_eq_zero_iff.1 h]; rfl
/-- By the document: more than half of the different ones. -/
def enD (l got : List Int) : Bool := decide (0 < (cmn l l).length ∧ (cmn l l).length < 2 * (cmn l got).length)
theorem cmn_self (l : List Int) : cmn l l = dd [] l := by
  unfold cmn
  rw [inn_all fun x h => h]
theorem enD_eq (l got : List Int) : enD l got = enO (dd [] l) got := by
  unfold enD enO need
  rw [cmn_self, cmn_eq, decide_eq_decide]
  by_cases h : (dd [] l).length = 0
  · rw [if_pos h]; omega
  · rw [if_neg h]; omega
theorem enO_mono {l a b : List Int} (h : ∀ x, x ∈ a → x ∈ b) (he : enO l a = true) : enO l b = true := by
  unfold enO at *
  have := inn_mono (l := l) h
  simp only [decide_eq_true_eq] at *
  omega
theorem enO_congr {l a b : List Int} (h : ∀ x ∈ l, x ∈ a ↔ x ∈ b) : enO l a = enO l b := by unfold enO; rw [inn_congr h]
theorem enO_all {l got : List Int} (h : ∀ x ∈ l, x ∈ got) : enO l got = decide (0 < l.length) := by
  unfold enO need
  rw [inn_all h, decide_eq_decide]
  split <;> omega
theorem enO_none (l : List Int) : enO l [] = false := by
  unfold enO need
  rw [inn_none]
  simp only [List.length_nil, decide_eq_false_iff_not]
  split <;> omega
/-- Two majorities meet. -/
theorem two_meet (p q : Int → Bool) : ∀ l : List Int, (l.filter p).length + (l.filter q).length ≤ l.length + ((l.filter p).filter q).length
  | [] => by simp
  | x :: l => by
    have ih := two_meet p q l
    rw [List.filter_cons, List.filter_cons]
    cases hp : p x <;> cases hq : q x <;> simp only [if_true, if_false, Bool.false_eq_true, List.filter_cons, hq, List.length_cons] <;> omega
theorem meet_cmn (l a b : List Int) (h : (cmn l l).length < (cmn l a).length + (cmn l b).length) : 0 < (cmn (cmn l a) (cmn l b)).length := by
  rw [cmn_self] at h
  rw [cmn_eq (cmn l a), cmn_eq l a, cmn_eq l b] at *
  have h2 := two_meet (fun x => isIn x a) (fun x => isIn x b) (dd [] l)
  have h3 : dd [] (inn (dd [] l) a) = inn (dd [] l) a := dd_self ((ddn l).filter _)
  rw [h3]
  have h4 : inn (inn (dd [] l) a) (inn (dd [] l) b) = ((dd [] l).filter fun x => isIn x a).filter fun x => isIn x b := by
    show (inn (dd [] l) a).filter _ = _
    exact List.filter_congr fun x hx => isIn_congr ⟨fun h => (inn_mem.1 h).2, fun h => inn_mem.2 ⟨(inn_mem.1 hx).1, h⟩⟩
  rw [h4]
  unfold inn at h
  omega
/-- The places of the rows of which not enough are in the other one. -/
def lackP (got : List Int) (LL : List (List Int)) : List Int := ((List.range LL.length).filter fun i => !enO (LL[i]!) got).map fun i : Nat => (i : Int)
theorem lackP_take (got : List Int) (LL : List (List Int)) (q : Nat) (h : q < LL.length) : lackP got (LL.take (q + 1)) = if enO LL[q] got = true then lackP got (LL.take q) else lackP got (LL.take q) ++ [(q : Int)] := by
  have e1 : (LL.take (q + 1)).length = q + 1 := by rw [List.length_take]; omega
  have e2 : (LL.take q).length = q := by rw [List.length_take]; omega
  have ea : ∀ m i, i < m → m ≤ LL.length → (LL.take m)[i]! = LL[i]! := fun m i hi hm => by
    rw [getElem!_pos (LL.take m) i (by rw [List.length_take]; omega), getElem!_pos LL i (by omega), List.getElem_take]
  unfold lackP
  rw [e1, e2, List.range_succ, List.filter_append, List.map_append]
  have e3 : (List.range q).filter (fun i => !enO ((LL.take (q + 1))[i]!) got) = (List.range q).filter (fun i => !enO ((LL.take q)[i]!) got) :=
    List.filter_congr fun i hi => by
      have hi := List.mem_range.1 hi
      rw [ea (q + 1) i (by omega) (by omega), ea q i hi (by omega)]
  rw [e3]
  have e4 : (LL.take (q + 1))[q]! = LL[q] := by rw [ea (q + 1) q (by omega) (by omega), getElem!_pos LL q h]
  by_cases he : enO LL[q] got = true
  · rw [if_pos he, List.filter_cons, if_neg (by rw [e4, he]; simp)]; simp
  · rw [if_neg he, List.filter_cons, if_pos (by rw [e4]; simpa using he)]; simp
theorem lackP_mem {got : List Int} {LL : List (List Int)} {x : Int} : x ∈ lackP got LL ↔ ∃ i : Nat, i < LL.length ∧ enO (LL[i]!) got = false ∧ x = (i : Int) := by
  unfold lackP
  rw [List.mem_map]
  constructor
  · rintro ⟨i, hi, rfl⟩
    have := List.mem_filter.1 hi
    exact ⟨i, List.mem_range.1 this.1, by simpa using this.2, rfl⟩
  · rintro ⟨i, h1, h2, rfl⟩
    exact ⟨i, List.mem_filter.2 ⟨List.mem_range.2 h1, by simpa using h2⟩, rfl⟩
theorem lackP_le (got : List Int) (LL : List (List Int)) : (lackP got LL).length ≤ LL.length := by
  unfold lackP
  rw [List.length_map]
  have := List.length_filter_le (fun i => !enO (LL[i]!) got) (List.range LL.length)
  simpa using this
theorem lackP_zero {got : List Int} {LL : List (List Int)} : (lackP got LL).length = 0 ↔ ∀ L ∈ LL, enO L got = true := by
  rw [List.length_eq_zero_iff, List.eq_nil_iff_forall_not_mem]
  constructor
  · intro h L hL
    obtain ⟨i, hi, rfl⟩ := List.getElem_of_mem hL
    cases e : enO LL[i] got with
    | true => rfl
    | false => exact absurd (lackP_mem.2 ⟨i, hi, by rw [getElem!_pos LL i hi]; exact e, rfl⟩) (h i)
  · intro h x hx
    obtain ⟨i, hi, e, rfl⟩ := lackP_mem.1 hx
    rw [getElem!_pos LL i hi, h _ (List.getElem_mem hi)] at e
    cases e
theorem lackP_congr {a b : List Int} {LL : List (List Int)} (h : ∀ L ∈ LL, ∀ x ∈ L, x ∈ a ↔ x ∈ b) : lackP a LL = lackP b LL := by
  unfold lackP
  congr 1
  exact List.filter_congr fun i hi => by
    have hi := List.mem_range.1 hi
    rw [getElem!_pos LL i hi, enO_congr (h _ (List.getElem_mem hi))]
theorem lackP_mono {a b : List Int} {LL : List (List Int)} (h : ∀ x, x ∈ b → x ∈ a) {x : Int} (hx : x ∈ lackP a LL) : x ∈ lackP b LL := by
  obtain ⟨i, hi, e, rfl⟩ := lackP_mem.1 hx
  refine lackP_mem.2 ⟨i, hi, ?_, rfl⟩
  cases e2 : enO (LL[i]!) b with
  | false => rfl
  | true => rw [enO_mono h e2] at e; cases e
/-- Those of a row that are not in another one. -/
def outs (l dead : List Int) : List Int := l.filter fun x => !isIn x dead
theorem out_mem {x : Int} {l dead : List Int} : x ∈ outs l dead ↔ x ∈ l ∧ x ∉ dead := by
  unfold outs
  rw [List.mem_filter]
  simp [isIn]
theorem out_snoc (l got : List Int) (i : Nat) (h : i < l.length) : outs (l.take (i + 1)) got = if isIn l[i] got = true then outs (l.take i) got else outs (l.take i) got ++ [l[i]] := by
  unfold outs
  rw [List.take_succ_eq_append_getElem h, List.filter_append, List.filter_cons]
  by_cases e : isIn l[i] got = true
  · rw [if_pos e, if_neg (by rw [e]; simp)]; simp
  · rw [if_neg e, if_pos (by simpa using e)]; rfl
theorem out_le (l dead : List Int) : (outs l dead).length ≤ l.length := List.length_filter_le _ _
end Go.Proofs.YtpebhfjcakllmaaGreat
