/- LnP: Pure: when the rest of some deeds can be ordered, and why looking at some of the ways alone is enough; that orders and such ways are the same. -/
import Derived.Test.YtlecbhnopokmnaaCore
namespace Go.Proofs.Ytlecbhnopokmnaa.Ln
set_option maxRecDepth 10000
set_option linter.unusedVariables false
/-- A set of small numbers with one more. -/
def ins (d i : Nat) : Nat := d ||| 2 ^ i
theorem ins_bit (d i j : Nat) : (ins d i).testBit j = (d.testBit j || decide (i = j)) := by
  unfold ins; rw [Nat.testBit_or, Nat.testBit_two_pow]
theorem ins_same (d i : Nat) : (ins d i).testBit i = true := by rw [ins_bit]; simp
theorem ins_old {d i j : Nat} (h : d.testBit j = true) : (ins d i).testBit j = true := by rw [ins_bit, h]; rfl
theorem ins_ne {d i j : Nat} (h : i ≠ j) : (ins d i).testBit j = d.testBit j := by rw [ins_bit, decide_eq_false h, Bool.or_false]
theorem ins_comm (d i j : Nat) : ins (ins d i) j = ins (ins d j) i := by
  unfold ins; rw [Nat.or_assoc, Nat.or_assoc, Nat.or_comm (2 ^ i)]
theorem ins_lt {d i n : Nat} (hd : d < 2 ^ n) (hi : i < n) : ins d i < 2 ^ n := Nat.or_lt_two_pow hd (Nat.pow_lt_pow_right (by omega) hi)
/-- All of a are in b. -/
def Sub (a b : Nat) : Prop := ∀ j, a.testBit j = true → b.testBit j = true
theorem sub_iff (a b : Nat) : Sub a b ↔ a ||| b = b := by
  constructor
  · intro h
    apply Nat.eq_of_testBit_eq
    intro j
    rw [Nat.testBit_or]
    cases ha : a.testBit j with
    | false => rfl
    | true => rw [h j ha]; rfl
  · intro h j ha
    rw [← h, Nat.testBit_or, ha]; rfl
instance (a b : Nat) : Decidable (Sub a b) := decidable_of_iff _ (sub_iff a b).symm
theorem Sub.trans {a b c : Nat} (h : Sub a b) (k : Sub b c) : Sub a c := fun j hj => k j (h j hj)
theorem sub_ins (d i : Nat) : Sub d (ins d i) := fun j hj => ins_old hj
theorem Sub.ins {a d : Nat} (h : Sub a d) (i : Nat) : Sub a (ins d i) := h.trans (sub_ins d i)
/-- What is searched: how many; which are reads; what each reads or leaves, by number; which ended before it began; which must be there. -/
structure Env where
  n : Nat
  get : Nat → Bool
  val : Nat → Nat
  bef : Nat → Nat
  must : Nat
variable {E : Env}
/-- May i come next? -/
def May (E : Env) (d : Nat) (v : Int) (i : Nat) : Prop := i < E.n ∧ d.testBit i = false ∧ Sub (E.bef i) d ∧ (E.get i = true → (E.val i : Int) = v)
instance (d : Nat) (v : Int) (i : Nat) : Decidable (May E d v i) := by unfold May; infer_instance
/-- There is a way from d on, where v is held. -/
inductive Poss (E : Env) : Nat → Int → Prop
  | fin {d : Nat} {v : Int} : Sub E.must d → Poss E d v
  | step {d : Nat} {v : Int} (i : Nat) : May E d v i → Poss E (ins d i) (E.val i) → Poss E d v
theorem May.ins {d : Nat} {v u : Int} {i j : Nat} (h : May E d v j) (hne : i ≠ j) (hv : E.get j = true → (E.val j : Int) = u) : May E (ins d i) u j :=
  ⟨h.1, by rw [ins_ne hne]; exact h.2.1, h.2.2.1.ins i, hv⟩
/-- Without a read that is ahead all others can come as they did. -/
theorem poss_get {d : Nat} {v : Int} (h : Poss E d v) (i : Nat) (hg : E.get i = true) (hi : d.testBit i = false) : Poss E (ins d i) v := by
  induction h with
  | fin hm => exact .fin (hm.ins i)
  | @step d v j hj hp ih =>
    by_cases e : i = j
    · subst e
      rw [← hj.2.2.2 hg]; exact hp
    · have h1 := ih (by rw [ins_ne (fun h => e h.symm)]; exact hi)
      rw [ins_comm] at h1
      exact .step j (hj.ins e hj.2.2.2) h1
theorem poss_get_iff {d : Nat} {v : Int} {i : Nat} (hm : May E d v i) (hg : E.get i = true) : Poss E d v ↔ Poss E (ins d i) (E.val i) :=
  ⟨fun h => by rw [hm.2.2.2 hg]; exact poss_get h i hg hm.2.1, fun h => .step i hm h⟩
/-- What nobody is left to read may be anything. -/
theorem poss_any {d : Nat} {v : Int} (h : Poss E d v) (hr : ∀ j, E.get j = true → (E.val j : Int) = v → d.testBit j = false → j < E.n → False) (u : Int) : Poss E d u := by
  cases h with
  | fin hm => exact .fin hm
  | step j hj hp => exact .step j ⟨hj.1, hj.2.1, hj.2.2.1, fun hg => (hr j hg (hj.2.2.2 hg) hj.2.1 hj.1).elim⟩ hp
theorem poss_drop {d : Nat} {u : Int} (h : Poss E d u) (w : Nat) (hw : d.testBit w = false) (hr : ∀ j, E.get j = true → E.val j = E.val w → d.testBit j = false → j < E.n → False) : Poss E (ins d w) u := by
  induction h with
  | fin hm => exact .fin (hm.ins w)
  | @step d v j hj hp ih =>
    by_cases e : w = j
    · subst e
      refine poss_any hp (fun k hk hv hd hn => hr k hk (by omega) ?_ hn) v
      cases hb : d.testBit k with
      | false => rfl
      | true => rw [ins_old hb] at hd; cases hd
    · have h1 := ih (by rw [ins_ne (fun h => e h.symm)]; exact hw) (fun k hk hv hd hn => hr k hk hv (by
        cases hb : d.testBit k with
        | false => rfl
        | true => rw [ins_old hb] at hd; cases hd) hn)
      rw [ins_comm] at h1
      exact .step j (hj.ins e hj.2.2.2) h1
/-- A write that nobody is left to read, where no read may come next. -/
theorem poss_write_iff {d : Nat} {v : Int} {w : Nat} (hm : May E d v w) (hn : ∀ j, E.get j = true → ¬ May E d v j) (hr : ∀ j, E.get j = true → E.val j = E.val w → d.testBit j = false → j < E.n → False) : Poss E d v ↔ Poss E (ins d w) (E.val w) := by
  constructor
  · intro h
    cases h with
    | fin hf => exact .fin (hf.ins w)
    | step j hj hp =>
      by_cases e : w = j
      · subst e; exact hp
      · have hg : E.get j = false := by
          cases hb : E.get j with
          | false => rfl
          | true => exact (hn j hb hj).elim
        have h1 := poss_drop hp w (by rw [ins_ne (fun h => e h.symm)]; exact hm.2.1) (fun k hk hv hd hn => hr k hk hv (by
          cases hb : d.testBit k with
          | false => rfl
          | true => rw [ins_old hb] at hd; cases hd) hn)
        rw [ins_comm] at h1
        exact .step j (hj.ins e (fun h => by rw [hg] at h; cases h)) h1
  · exact fun h => .step w hm h
/-- Where no read may come next it is the same what is held. -/
theorem poss_over_iff {d : Nat} {v : Int} (hn : ∀ j, E.get j = true → ¬ May E d v j) : Poss E d v ↔ Poss E d (-1) := by
  constructor
  · intro h
    cases h with
    | fin hf => exact .fin hf
    | step j hj hp => exact .step j ⟨hj.1, hj.2.1, hj.2.2.1, fun hg => (hn j hg hj).elim⟩ hp
  · intro h
    cases h with
    | fin hf => exact .fin hf
    | step j hj hp => exact .step j ⟨hj.1, hj.2.1, hj.2.2.1, fun hg => by have := hj.2.2.2 hg; omega⟩ hp
theorem may_over {d : Nat} {j : Nat} (h : May E d (-1) j) : E.get j = false := by
  cases hb : E.get j with
  | false => rfl
  | true => have := h.2.2.2 hb; omega
/-- Of two writes of one value the one that ended first serves. -/
theorem poss_swap {d0 : Nat} {i k : Nat} (hv : E.val i = E.val k) (hgi : E.get i = false) (hin : i < E.n) (hb : Sub (E.bef i) d0) (hdom : ∀ j, (E.bef j).testBit i = true → j ≠ k → (E.bef j).testBit k = true) (hki : k ≠ i) :
    ∀ {e : Nat} {u : Int}, Poss E e u → ∀ d, e = ins d i → Sub d0 d → d.testBit i = false → d.testBit k = false → Poss E (ins d k) u := by
  intro e u h
  induction h with
  | @fin e u hm =>
    intro d he hs hi hk
    refine .step i ⟨hin, by rw [ins_ne hki]; exact hi, (hb.trans hs).ins k, fun h => by rw [hgi] at h; cases h⟩ (.fin ?_)
    rw [ins_comm, ← he]
    exact hm.ins k
  | @step e u j hj hp ih =>
    intro d he hs hi hk
    subst he
    by_cases e1 : j = k
    · subst e1
      refine .step i ⟨hin, by rw [ins_ne hki]; exact hi, (hb.trans hs).ins j, fun h => by rw [hgi] at h; cases h⟩ ?_
      rw [ins_comm, hv]
      exact hp
    · have hij : i ≠ j := fun h => by subst h; have := hj.2.1; rw [ins_same] at this; cases this
      have h1 := ih (ins d j) (ins_comm d i j) (hs.ins j) (by rw [ins_ne (fun h => hij h.symm)]; exact hi) (by rw [ins_ne e1]; exact hk)
      rw [ins_comm] at h1
      refine .step j ⟨hj.1, ?_, ?_, hj.2.2.2⟩ h1
      · have := hj.2.1
        rw [ins_ne hij] at this
        rw [ins_ne (fun h => e1 h.symm)]; exact this
      · intro x hx
        have h2 := hj.2.2.1 x hx
        rw [ins_bit] at h2
        by_cases ex : i = x
        · subst ex
          have h3 := hj.2.2.1 k (hdom j hx e1)
          rw [ins_ne (fun h => hki h.symm), hk] at h3; cases h3
        · rw [decide_eq_false ex, Bool.or_false] at h2
          exact ins_old h2
/-- How many are left. -/
def cnt (n d : Nat) : Nat := ((List.range n).filter fun i => !d.testBit i).length
theorem filter_lt {α : Type} (p q : α → Bool) (l : List α) (h : ∀ x ∈ l, q x = true → p x = true) (x : α) (hx : x ∈ l) (hp : p x = true) (hq : q x = false) : (l.filter q).length < (l.filter p).length := by
  have hle : ∀ l : List α, (∀ x ∈ l, q x = true → p x = true) → (l.filter q).length ≤ (l.filter p).length := by
    intro l
    induction l with
    | nil => intro _; exact Nat.le_refl _
    | cons a l ih =>
      intro h
      have h1 := ih (fun x hx => h x (List.mem_cons_of_mem _ hx))
      cases ha : q a with
      | true => rw [List.filter_cons_of_pos ha, List.filter_cons_of_pos (h a List.mem_cons_self ha)]; simp; exact h1
      | false =>
        rw [List.filter_cons_of_neg (by rw [ha]; decide)]
        cases hb : p a with
        | true => rw [List.filter_cons_of_pos hb]; simp; omega
        | false => rw [List.filter_cons_of_neg (by rw [hb]; decide)]; exact h1
  induction l with
  | nil => cases hx
  | cons a l ih =>
    have hl := fun x hx => h x (List.mem_cons_of_mem a hx)
    rcases List.mem_cons.1 hx with rfl | hx
    · rw [List.filter_cons_of_neg (by rw [hq]; decide), List.filter_cons_of_pos hp]
      have := hle l hl
      simp; omega
    · have h1 := ih hl hx
      cases ha : q a with
      | true => rw [List.filter_cons_of_pos ha, List.filter_cons_of_pos (h a List.mem_cons_self ha)]; simp; exact h1
      | false =>
        rw [List.filter_cons_of_neg (by rw [ha]; decide)]
        cases hb : p a with
        | true => rw [List.filter_cons_of_pos hb]; simp; omega
        | false => rw [List.filter_cons_of_neg (by rw [hb]; decide)]; exact h1
theorem cnt_ins {n d i : Nat} (hi : i < n) (hd : d.testBit i = false) : cnt n (ins d i) < cnt n d :=
  filter_lt _ _ _ (fun x _ h => by
    rw [ins_bit] at h
    cases hb : d.testBit x with
    | false => rfl
    | true => rw [hb] at h; cases h) i (List.mem_range.2 hi) (by rw [hd]; rfl) (by rw [ins_same]; rfl)
theorem cnt_le (n d : Nat) : cnt n d ≤ n := by
  have := List.length_filter_le (fun i => !d.testBit i) (List.range n)
  rw [List.length_range] at this; exact this
/-- A way: each may come next; at its end all that must be are there. -/
def Path (E : Env) : Nat → Int → List Nat → Prop
  | d, _, [] => Sub E.must d
  | d, v, i :: r => May E d v i ∧ Path E (ins d i) (E.val i) r
theorem path_poss : ∀ {r : List Nat} {d : Nat} {v : Int}, Path E d v r → Poss E d v
  | [], _, _, h => .fin h
  | i :: r, _, _, h => .step i h.1 (path_poss h.2)
end Go.Proofs.Ytlecbhnopokmnaa.Ln
