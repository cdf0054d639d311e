/- A region that draws its order, whatever its operations make: each operation is asked alone, of any frame in which the operations that it waits for and reads have left what they leave, in any later world. No dump is imported here. -/
import Derived.Test.YtkdpfjenjcpcfaaGreatDoorCore
import Derived.Deep.QuietTactic
import Derived.BigQuiet
namespace Go.Proofs.YtkdpfjenjcpcfaaGreatDoor
open Go.RowKit Mem
namespace Rely
/-- What is asked of an operation's result: a value, in a world. -/
def GivesR (P : Program) (R : Value → World → Prop) : Result Next → Prop
  | .ok (.value v) w' => R v w'
  | .ok .skip w' => R undef w'
  | .ok (.enter f args) w' => Calls P f args w' fun e w'' => ∃ v, e = .returned v ∧ R v w''
  | _ => False
def gives (P : Program) (o : Oper) (a : Act) (w : World) (R : Value → World → Prop) : Prop := GivesR P R ((execOp a.eval o).run P w)
theorem wp_of_gives {P : Program} {o : Oper} {a : Act} {w : World} {R : Value → World → Prop} {K : Act → World → Prop} {Q : Exit → Act → World → Prop} (h : gives P o a w R) (hk : ∀ v w', R v w' → K (a.put o.dst v) w') : o.wp P a w K Q := by
  unfold gives at h
  unfold Oper.wp
  generalize (execOp a.eval o).run P w = r at *
  cases r with
  | ok n w' =>
    cases n <;> simp only [GivesR] at h <;> simp only [Oper.upon]
    case value v => exact hk _ _ h
    case skip => exact hk _ _ h
    case enter f args => exact h.mono fun e w'' ⟨v, he, hr⟩ => by subst he; exact hk _ _ hr
  | halt x w' => simp only [GivesR] at h
theorem gives_congr {P : Program} {o : Oper} {a a' : Act} {w : World} {R : Value → World → Prop} (h : execOp a.eval o = execOp a'.eval o) (hh : gives P o a w R) : gives P o a' w R := by
  unfold gives at *; rwa [← h]
/-- The frame with some operations' values in their places. -/
def sel (a : Act) (vs : Nat → Value) (L : List (Nat × Tmp)) : Act := L.foldl (fun b p => b.put (some p.2) (vs p.1)) a
/-- Which operations an operation waits for and reads. -/
def readsOf (ops : Array Oper) (i : Nat) : List (Nat × Tmp) :=
  match ops[i]? with
  | none => []
  | some o => (List.range ops.size).filterMap fun k =>
    match (ops[k]?).bind (·.dst) with
    | some d => if (o.looksAt ops).contains d && o.after.toList.any (fun e => Region.binds .any e && e.on == k) then some (k, d) else none
    | none => none
/-- Whatever is read is either waited for, or written behind this; no place is written twice. -/
def okB (ops : Array Oper) : Bool :=
  Region.noSelect ops && (List.range ops.size).all fun i =>
    match ops[i]? with
    | none => true
    | some o => (List.range ops.size).all fun k =>
      match ops[k]? with
      | none => true
      | some ok => !(ok.after.toList.any fun e => Region.binds .any e && decide (k ≤ e.on)) && match ok.dst with
        | none => true
        | some d => (i == k || o.dst != some d) &&
          (!(o.looksAt ops).contains d || o.after.toList.any (fun e => Region.binds .any e && e.on == k) || ok.after.toList.any (fun e => Region.binds .any e && e.on == i))
def Pre (T : Nat → Value → World → Prop) (vs : Nat → Value) (w : World) : List (Nat × Tmp) → Prop
  | [] => True
  | p :: L => T p.1 (vs p.1) w ∧ Pre T vs w L
/-- What is asked of each operation. -/
def Steps (P : Program) (ops : Array Oper) (a : Act) (w : World) (T : Nat → Value → World → Prop) : List (Oper × List (Nat × Tmp)) → Nat → Prop
  | [], _ => True
  | p :: rest, i =>
    (∀ (vs : Nat → Value) (w' : World), Below w.heap.size w w' → Pre T vs w' p.2 →
      if Region.wanted p.1 (yielded ops (sel a vs p.2).tmps) = true then gives P p.1 (sel a vs p.2) w' (fun v w'' => Below w'.heap.size w' w'' ∧ T i v w'') else T i undef w') ∧ Steps P ops a w T rest (i + 1)
theorem Steps.at_ {P : Program} {ops : Array Oper} {a : Act} {w : World} {T : Nat → Value → World → Prop} : ∀ {l : List (Oper × List (Nat × Tmp))} {i : Nat}, Steps P ops a w T l i → ∀ (j : Nat) (p : Oper × List (Nat × Tmp)), l[j]? = some p →
    ∀ (vs : Nat → Value) (w' : World), Below w.heap.size w w' → Pre T vs w' p.2 →
      if Region.wanted p.1 (yielded ops (sel a vs p.2).tmps) = true then gives P p.1 (sel a vs p.2) w' (fun v w'' => Below w'.heap.size w' w'' ∧ T (i + j) v w'') else T (i + j) undef w'
  | [], _, _, j, _, h => by simp at h
  | q :: l, i, hs, 0, p, h => by
    simp only [List.getElem?_cons_zero, Option.some.injEq] at h
    subst h
    exact hs.1
  | q :: l, i, hs, j + 1, p, h => by
    simp only [List.getElem?_cons_succ] at h
    have := Steps.at_ hs.2 j p h
    rw [show i + 1 + j = i + (j + 1) by omega] at this
    exact this
theorem sel_size (a : Act) (vs : Nat → Value) (L : List (Nat × Tmp)) : (sel a vs L).tmps.size = a.tmps.size ∧ (sel a vs L).defers = a.defers := by
  unfold sel
  induction L generalizing a with
  | nil => exact ⟨rfl, rfl⟩
  | cons p L ih =>
    have := ih (a.put (some p.2) (vs p.1))
    simp only [List.foldl_cons]
    exact ⟨this.1.trans (by simp [Act.put]), this.2.trans rfl⟩
theorem sel_far (a : Act) (vs : Nat → Value) (L : List (Nat × Tmp)) (t : Tmp) (h : ∀ p ∈ L, p.2 ≠ t) : (sel a vs L).tmps[t]? = a.tmps[t]? := by
  unfold sel
  induction L generalizing a with
  | nil => rfl
  | cons p L ih =>
    simp only [List.foldl_cons]
    rw [ih (a.put (some p.2) (vs p.1)) (fun q hq => h q (by simp [hq]))]
    simp only [Act.put]
    rw [Array.getElem?_setIfInBounds, if_neg (h p (by simp))]
theorem sel_at (a : Act) (vs : Nat → Value) (L : List (Nat × Tmp)) (k : Nat) (t : Tmp) (h : (k, t) ∈ L) (hd : ∀ p ∈ L, ∀ q ∈ L, p.2 = q.2 → p.1 = q.1) (ht : t < a.tmps.size) : (sel a vs L).tmps[t]? = some (vs k) := by
  unfold sel
  induction L generalizing a with
  | nil => cases h
  | cons p L ih =>
    simp only [List.foldl_cons]
    by_cases hin : (k, t) ∈ L
    · exact ih (a.put (some p.2) (vs p.1)) hin (fun p hp q hq => hd p (by simp [hp]) q (by simp [hq])) (by simpa [Act.put] using ht)
    · have hp : p = (k, t) := by
        rcases List.mem_cons.1 h with h | h
        · exact h.symm
        · exact absurd h hin
      subst hp
      have hfar : ∀ q ∈ L, q.2 ≠ t := fun q hq e => hin (by
        have := hd q (by simp [hq]) (k, t) (by simp) e
        have : q = (k, t) := Prod.ext this e
        rw [← this]; exact hq)
      have := sel_far (a.put (some t) (vs k)) vs L t hfar
      unfold sel at this
      rw [this]
      simp only [Act.put]
      rw [Array.getElem?_setIfInBounds, if_pos rfl, if_pos ht]
structure Ok (ops : Array Oper) : Prop where
  noSel : Region.noSelect ops = true
  back : ∀ (k : Nat) (ok : Oper), ops[k]? = some ok → ∀ e ∈ ok.after, Region.binds .any e = true → e.on < k
  apart : ∀ (i k : Nat) (o ok : Oper) (d : Tmp), ops[i]? = some o → ops[k]? = some ok → ok.dst = some d → i ≠ k → o.dst ≠ some d
  read : ∀ (i k : Nat) (o ok : Oper) (d : Tmp), ops[i]? = some o → ops[k]? = some ok → ok.dst = some d → d ∈ o.looksAt ops → (∃ e ∈ o.after, Region.binds .any e = true ∧ e.on = k) ∨ (∃ e ∈ ok.after, Region.binds .any e = true ∧ e.on = i)
theorem lt_of_some {ops : Array Oper} {i : Nat} {o : Oper} (h : ops[i]? = some o) : i < ops.size := (Array.getElem?_eq_some_iff.1 h).1
theorem any_after {o : Oper} {k : Nat} : o.after.toList.any (fun e => Region.binds .any e && e.on == k) = true ↔ ∃ e ∈ o.after, Region.binds .any e = true ∧ e.on = k := by
  simp only [List.any_eq_true, Bool.and_eq_true, beq_iff_eq, Array.mem_toList_iff]
theorem ok_of {ops : Array Oper} (h : okB ops = true) : Ok ops := by
  unfold okB at h
  simp only [Bool.and_eq_true, List.all_eq_true, List.mem_range] at h
  obtain ⟨h1, h2⟩ := h
  have key : ∀ (i k : Nat) (o ok : Oper), ops[i]? = some o → ops[k]? = some ok → (!(ok.after.toList.any fun e => Region.binds .any e && decide (k ≤ e.on)) && match ok.dst with
        | none => true
        | some d => (i == k || o.dst != some d) && (!(o.looksAt ops).contains d || o.after.toList.any (fun e => Region.binds .any e && e.on == k) || ok.after.toList.any (fun e => Region.binds .any e && e.on == i))) = true := by
    intro i k o ok hi hk
    have := h2 i (lt_of_some hi)
    rw [hi] at this
    simp only [List.all_eq_true, List.mem_range] at this
    have := this k (lt_of_some hk)
    rw [hk] at this
    exact this
  refine ⟨h1, ?_, ?_, ?_⟩
  · intro k ok hk e he hb
    have := key k k ok ok hk hk
    rw [Bool.and_eq_true] at this
    have h3 := this.1
    rw [Bool.not_eq_true', List.any_eq_false] at h3
    have := h3 e (Array.mem_toList_iff.2 he)
    rw [hb] at this
    simp at this
    omega
  · intro i k o ok d hi hk hd hne hod
    have := key i k o ok hi hk
    rw [hd] at this
    simp only [Bool.and_eq_true] at this
    have h3 := this.2.1
    rw [Bool.or_eq_true] at h3
    rcases h3 with h3 | h3
    · exact hne (by simpa using h3)
    · rw [hod] at h3; simp at h3
  · intro i k o ok d hi hk hd hl
    have := key i k o ok hi hk
    rw [hd] at this
    simp only [Bool.and_eq_true] at this
    have h3 := this.2.2
    rw [Bool.or_eq_true, Bool.or_eq_true] at h3
    rcases h3 with (h3 | h3) | h3
    · rw [Bool.not_eq_true'] at h3
      have : (o.looksAt ops).contains d = true := by simpa using hl
      rw [this] at h3; cases h3
    · exact Or.inl (any_after.1 h3)
    · exact Or.inr (any_after.1 h3)
/-- The frame tells an operation the same. -/
theorem same_of {ops : Array Oper} (o : Oper) (hs : ∀ cs b, o.op ≠ .select cs b) {a1 a2 : Act} (h : ∀ t ∈ o.looksAt ops, a1.tmps[t]? = a2.tmps[t]?) :
    execOp a1.eval o = execOp a2.eval o ∧ Region.wanted o (yielded ops a1.tmps) = Region.wanted o (yielded ops a2.tmps) := by
  constructor
  · refine execOp_congr o hs fun x hx => ?_
    cases x with
    | tmp t =>
      have := h t (List.mem_append_left _ (List.mem_filterMap.2 ⟨.tmp t, by simpa using hx, rfl⟩))
      show a1.tmps.getD t undef = a2.tmps.getD t undef
      rw [Array.getD_eq_getD_getElem?, Array.getD_eq_getD_getElem?, this]
    | const v => rfl
    | global g => rfl
    | func f => rfl
  · unfold Region.wanted
    cases hg : o.guard with
    | none => rfl
    | some gw =>
      obtain ⟨g, want⟩ := gw
      have hy : yielded ops a1.tmps g = yielded ops a2.tmps g := by
        unfold yielded
        cases ht : (ops[g]?).bind (·.dst) with
        | none => rfl
        | some t =>
          have := h t (by
            unfold Oper.looksAt
            refine List.mem_append_right _ ?_
            rw [hg]
            simp only
            rw [ht]
            simp)
          simp only [Option.bind_some]
          rw [this]
      simp only
      rw [hy]
structure Inv (ops : Array Oper) (a : Act) (w : World) (T : Nat → Value → World → Prop) (listed : Array Bool) (a' : Act) (w' : World) : Prop where
  bel : Below w.heap.size w w'
  size : a'.tmps.size = a.tmps.size
  defers : a'.defers = a.defers
  done : ∀ k o, listed.getD k false = true → ops[k]? = some o → ∃ v, T k v w' ∧ ∀ d, o.dst = some d → a'.tmps[d]? = some v
  rest : ∀ t, (∀ k o, listed.getD k false = true → ops[k]? = some o → o.dst ≠ some t) → a'.tmps[t]? = a.tmps[t]?
  closed : ∀ k o, listed.getD k false = true → ops[k]? = some o → ∀ e ∈ o.after, Region.binds .any e = true → listed.getD e.on false = true
theorem getD_set {l : Array Bool} {i k : Nat} (h : (l.setIfInBounds i true).getD k false = true) : k = i ∨ l.getD k false = true := by
  by_cases hik : i = k
  · exact Or.inl hik.symm
  · rw [getD_set_ne false hik] at h; exact Or.inr h
theorem getD_set_mono {l : Array Bool} {i k : Nat} (h : l.getD k false = true) : (l.setIfInBounds i true).getD k false = true := by
  by_cases hik : i = k
  · subst hik
    rw [Array.getD_eq_getD_getElem?] at h ⊢
    rw [Array.getElem?_setIfInBounds, if_pos rfl]
    split
    · rfl
    · rename_i hlt
      rw [Array.getElem?_eq_none (by omega)] at h; simp at h
  · rw [getD_set_ne false hik]; exact h
theorem countP_lt {α : Type} {p q : α → Bool} : ∀ {l : List α}, (∀ x ∈ l, q x = true → p x = true) → (∃ x ∈ l, p x = true ∧ q x = false) → l.countP q < l.countP p
  | [], _, ⟨_, h, _⟩ => by cases h
  | x :: l, hle, ⟨y, hy, hp, hq⟩ => by
    have hmono : l.countP q ≤ l.countP p := List.countP_mono_left fun z hz => hle z (by simp [hz])
    rw [List.countP_cons, List.countP_cons]
    rcases List.mem_cons.1 hy with rfl | hy
    · rw [hp, hq]; simp; omega
    · have := countP_lt (fun z hz => hle z (by simp [hz])) ⟨y, hy, hp, hq⟩
      have hx := hle x (by simp)
      cases hqx : q x
      · cases p x <;> simp <;> omega
      · rw [hx hqx]; simp; omega
def left (ops : Array Oper) (listed : Array Bool) : Nat := (List.range ops.size).countP fun k => !listed.getD k true
theorem all_listed {ops : Array Oper} {listed : Array Bool} (hok : Ok ops) (hsz : listed.size = ops.size) (h : Region.ready .any ops listed = []) : ∀ n k, k < n → k < ops.size → listed.getD k false = true
  | 0, k, hk, _ => by omega
  | n + 1, k, hk, hks => by
    have ih := all_listed hok hsz h n
    by_cases hkn : k < n
    · exact ih k hkn hks
    · obtain rfl : k = n := by omega
      have hl : listed[k]? = some (listed[k]'(by omega)) := Array.getElem?_eq_getElem (by omega)
      cases hv : listed[k]'(by omega) with
      | true => rw [Array.getD_eq_getD_getElem?, hl, hv]; rfl
      | false =>
        exfalso
        obtain ⟨o, ho⟩ : ∃ o, ops[k]? = some o := ⟨_, Array.getElem?_eq_getElem hks⟩
        have : k ∈ Region.ready .any ops listed := mem_ready.2 ⟨by rw [Array.getD_eq_getD_getElem?, hl, hv]; rfl, o, ho, fun e he hb => by
          have hlt := hok.back k o ho e he hb
          exact ih e.on hlt (by omega)⟩
        rw [h] at this
        cases this
theorem mem_reads {ops : Array Oper} {i k : Nat} {d : Tmp} {o : Oper} (ho : ops[i]? = some o) : (k, d) ∈ readsOf ops i ↔ ∃ ok, ops[k]? = some ok ∧ ok.dst = some d ∧ d ∈ o.looksAt ops ∧ ∃ e ∈ o.after, Region.binds .any e = true ∧ e.on = k := by
  unfold readsOf
  rw [ho]
  simp only [List.mem_filterMap, List.mem_range]
  constructor
  · rintro ⟨k', hk', h⟩
    cases hd : (ops[k']?).bind (·.dst) with
    | none => rw [hd] at h; simp at h
    | some d' =>
      rw [hd] at h
      simp only at h
      split at h
      · rename_i hc
        simp only [Option.some.injEq, Prod.mk.injEq] at h
        obtain ⟨rfl, rfl⟩ := h
        rw [Bool.and_eq_true] at hc
        obtain ⟨ok, h1, h2⟩ := Option.bind_eq_some_iff.1 hd
        exact ⟨ok, h1, h2, by simpa using hc.1, any_after.1 hc.2⟩
      · simp at h
  · rintro ⟨ok, h1, h2, h3, h4⟩
    refine ⟨k, lt_of_some h1, ?_⟩
    rw [h1]
    simp only [Option.bind_some, h2]
    rw [if_pos (by rw [Bool.and_eq_true]; exact ⟨by simpa using h3, any_after.2 h4⟩)]
theorem pre_of {T : Nat → Value → World → Prop} {vs : Nat → Value} {w : World} : ∀ {L : List (Nat × Tmp)}, (∀ p ∈ L, T p.1 (vs p.1) w) → Pre T vs w L
  | [], _ => trivial
  | p :: L, h => ⟨h p (by simp), pre_of fun q hq => h q (by simp [hq])⟩
/-- All places that are written, and the operations that write none. -/
def writesOf (ops : Array Oper) : List (Nat × Tmp) := (List.range ops.size).filterMap fun k => ((ops[k]?).bind (·.dst)).map fun d => (k, d)
def silentOf (ops : Array Oper) : List Nat := (List.range ops.size).filter fun k => ((ops[k]?).bind (·.dst)).isNone
def PreN (T : Nat → Value → World → Prop) (w : World) : List Nat → Prop
  | [] => True
  | k :: L => (∃ v, T k v w) ∧ PreN T w L
theorem preN_of {T : Nat → Value → World → Prop} {w : World} : ∀ {L : List Nat}, (∀ k ∈ L, ∃ v, T k v w) → PreN T w L
  | [], _ => trivial
  | k :: L, h => ⟨h k (by simp), preN_of fun q hq => h q (by simp [hq])⟩
theorem mem_writes {ops : Array Oper} {k : Nat} {d : Tmp} : (k, d) ∈ writesOf ops ↔ ∃ o, ops[k]? = some o ∧ o.dst = some d := by
  unfold writesOf
  simp only [List.mem_filterMap, List.mem_range, Option.map_eq_some_iff, Prod.mk.injEq]
  constructor
  · rintro ⟨k', _, d', h, rfl, rfl⟩
    obtain ⟨o, h1, h2⟩ := Option.bind_eq_some_iff.1 h
    exact ⟨o, h1, h2⟩
  · rintro ⟨o, h1, h2⟩
    exact ⟨k, lt_of_some h1, d, by rw [h1]; exact h2, rfl, rfl⟩
/-- What stands at an operation's place. -/
def valAt (ops : Array Oper) (a' : Act) (k : Nat) : Value := match (ops[k]?).bind (·.dst) with | some d => a'.tmps.getD d undef | none => undef
theorem valAt_eq {ops : Array Oper} {a' : Act} {k : Nat} {o : Oper} {d : Tmp} {v : Value} (ho : ops[k]? = some o) (hd : o.dst = some d) (hv : a'.tmps[d]? = some v) : valAt ops a' k = v := by
  unfold valAt
  rw [ho]
  simp only [Option.bind_some, hd]
  rw [Array.getD_eq_getD_getElem?, hv]; rfl
section
variable {P : Program} {ops : Array Oper} {a : Act} {w : World} {T : Nat → Value → World → Prop}
theorem step_inv (hok : Ok ops) (hT : ∀ i v w1 w2, T i v w1 → Below w1.heap.size w1 w2 → T i v w2) (hdst : ∀ k d, (k, d) ∈ writesOf ops → d < a.tmps.size)
    {l : List (Oper × List (Nat × Tmp))} (hl : ∀ i o, ops[i]? = some o → l[i]? = some (o, readsOf ops i)) (hs : Steps P ops a w T l 0)
    {Q : Exit → Act → World → Prop} {listed : Array Bool} {a' : Act} {w' : World} (hI : Inv ops a w T listed a' w') {i : Nat} (hi : i ∈ Region.ready .any ops listed)
    {K : Act → World → Prop} (hK : ∀ a2 w2, Inv ops a w T (listed.setIfInBounds i true) a2 w2 → K a2 w2) (hsz : listed.size = ops.size) : wpOp P ops Q i K a' w' := by
  obtain ⟨hun, o, ho, hall⟩ := mem_ready.1 hi
  have hnot : ¬ listed.getD i false = true := by
    have hil : i < listed.size := by rw [hsz]; exact lt_of_some ho
    rw [Array.getD_eq_getD_getElem?, Array.getElem?_eq_getElem hil] at hun ⊢
    simp only [Option.getD_some] at hun ⊢
    rw [hun]; simp
  have hsel := fun cs b => Region.noSelect_spec hok.noSel i o cs b ho
  -- what it reads is there
  have hread : ∀ p ∈ readsOf ops i, a'.tmps[p.2]? = some (valAt ops a' p.1) ∧ T p.1 (valAt ops a' p.1) w' := by
    rintro ⟨k, d⟩ hp
    obtain ⟨ok, h1, h2, _, e, he, hb, rfl⟩ := (mem_reads ho).1 hp
    obtain ⟨v, hv, hd⟩ := hI.done e.on ok (hall e he hb) h1
    have := hd d h2
    rw [valAt_eq h1 h2 this]
    exact ⟨this, hv⟩
  have hagree : ∀ t ∈ o.looksAt ops, (sel a (valAt ops a') (readsOf ops i)).tmps[t]? = a'.tmps[t]? := by
    intro t ht
    by_cases hex : ∃ k, (k, t) ∈ readsOf ops i
    · obtain ⟨k, hk⟩ := hex
      obtain ⟨ok, h1, h2, _⟩ := (mem_reads ho).1 hk
      rw [(hread _ hk).1]
      refine sel_at a _ _ k t hk ?_ (hdst k t (mem_writes.2 ⟨ok, h1, h2⟩))
      rintro ⟨k1, d1⟩ hp1 ⟨k2, d2⟩ hp2 e
      obtain ⟨o1, g1, g2, _⟩ := (mem_reads ho).1 hp1
      obtain ⟨o2, g3, g4, _⟩ := (mem_reads ho).1 hp2
      simp only at e ⊢
      subst e
      by_cases hne : k1 = k2
      · exact hne
      · exact absurd g2 (hok.apart k1 k2 o1 o2 d1 g1 g3 g4 hne)
    · rw [sel_far a _ _ t (fun p hp e => hex ⟨p.1, by rw [← e]; exact hp⟩)]
      refine (hI.rest t fun k ok hkl hok' hd => ?_).symm
      rcases hok.read i k o ok t ho hok' hd ht with h | ⟨e, he, hb, rfl⟩
      · exact hex ⟨k, (mem_reads ho).2 ⟨ok, hok', hd, ht, h⟩⟩
      · exact hnot (hI.closed k ok hkl hok' e he hb)
  obtain ⟨hex, hwt⟩ := same_of o hsel hagree
  have hst := hs.at_ i _ (hl i o ho) (valAt ops a') w' hI.bel (pre_of fun p hp => (hread p hp).2)
  simp only [Nat.zero_add] at hst
  rw [hwt] at hst
  -- what it leaves
  have next : ∀ v w2, Below w'.heap.size w' w2 → T i v w2 → Inv ops a w T (listed.setIfInBounds i true) (a'.put o.dst v) w2 := by
    intro v w2 hb hv
    have hput : ∀ t, o.dst ≠ some t → (a'.put o.dst v).tmps[t]? = a'.tmps[t]? := by
      intro t ht
      cases hd : o.dst with
      | none => rfl
      | some d =>
        simp only [Act.put]
        rw [Array.getElem?_setIfInBounds, if_neg (fun e => ht (by rw [hd, e]))]
    refine ⟨hI.bel.trans (hb.mono hI.bel.size), ?_, ?_, ?_, ?_, ?_⟩
    · cases hd : o.dst with
      | none => exact hI.size
      | some d => simp only [Act.put]; rw [Array.size_setIfInBounds]; exact hI.size
    · cases o.dst <;> exact hI.defers
    · intro k ok hk hok'
      rcases getD_set hk with rfl | hk
      · rw [ho] at hok'
        injection hok' with hok'
        subst hok'
        refine ⟨v, hv, fun d hd => ?_⟩
        rw [hd]
        simp only [Act.put]
        rw [Array.getElem?_setIfInBounds, if_pos rfl, if_pos (by rw [hI.size]; exact hdst k d (mem_writes.2 ⟨o, ho, hd⟩))]
      · obtain ⟨u, hu, hud⟩ := hI.done k ok hk hok'
        refine ⟨u, hT k u w' w2 hu hb, fun d hd => ?_⟩
        rw [hput d (hok.apart i k o ok d ho hok' hd (fun e => hnot (by rw [e]; exact hk)))]
        exact hud d hd
    · intro t ht
      rw [hput t (ht i o (by
        rw [Array.getD_eq_getD_getElem?, Array.getElem?_setIfInBounds, if_pos rfl, if_pos (by rw [hsz]; exact lt_of_some ho)]; rfl) ho)]
      exact hI.rest t fun k ok hk hok' => ht k ok (getD_set_mono hk) hok'
    · intro k ok hk hok' e he hb
      rcases getD_set hk with rfl | hk
      · rw [ho] at hok'
        injection hok' with hok'
        subst hok'
        exact getD_set_mono (hall e he hb)
      · exact getD_set_mono (hI.closed k ok hk hok' e he hb)
  unfold wpOp
  rw [ho]
  simp only
  split
  · rename_i hw
    simp only [hw, if_true] at hst
    exact Or.inl (wp_of_gives (gives_congr hex hst) fun v w2 h => hK _ _ (next v w2 h.1 h.2))
  · rename_i hw
    simp only [hw] at hst
    exact hK _ _ (next undef w' (Below.refl _ _) hst)
theorem left_lt {listed : Array Bool} {i : Nat} (hsz : listed.size = ops.size) (hi : i ∈ Region.ready .any ops listed) : left ops (listed.setIfInBounds i true) < left ops listed := by
  obtain ⟨hun, o, ho, _⟩ := mem_ready.1 hi
  have hio := lt_of_some ho
  refine countP_lt (fun k _ h => ?_) ⟨i, List.mem_range.2 hio, by rw [hun]; rfl, ?_⟩
  · by_cases hik : i = k
    · subst hik; rw [hun]; rfl
    · rw [getD_set_ne true hik] at h; exact h
  · rw [Array.getD_eq_getD_getElem?, Array.getElem?_setIfInBounds, if_pos rfl, if_pos (by rw [hsz]; exact hio)]; rfl
theorem any_of_inv (hok : Ok ops) (hT : ∀ i v w1 w2, T i v w1 → Below w1.heap.size w1 w2 → T i v w2) (hdst : ∀ k d, (k, d) ∈ writesOf ops → d < a.tmps.size)
    {l : List (Oper × List (Nat × Tmp))} (hl : ∀ i o, ops[i]? = some o → l[i]? = some (o, readsOf ops i)) (hs : Steps P ops a w T l 0) {Q : Exit → Act → World → Prop}
    (hQ : ∀ (vs : Nat → Value) (w' : World), Below w.heap.size w w' → Pre T vs w' (writesOf ops) → PreN T w' (silentOf ops) → Q .normal (sel a vs (writesOf ops)) w') :
    ∀ (fuel : Nat) (listed : Array Bool) (a' : Act) (w' : World), listed.size = ops.size → left ops listed ≤ fuel → Inv ops a w T listed a' w' → wpAny P .any ops Q fuel listed a' w' := by
  have fin : ∀ (listed : Array Bool) (a' : Act) (w' : World), listed.size = ops.size → Inv ops a w T listed a' w' → Region.ready .any ops listed = [] → Q .normal a' w' := by
    intro listed a' w' hsz hI hr
    have hall := fun k h => all_listed hok hsz hr (k + 1) k (by omega) h
    have hw : ∀ p ∈ writesOf ops, a'.tmps[p.2]? = some (valAt ops a' p.1) ∧ T p.1 (valAt ops a' p.1) w' := by
      rintro ⟨k, d⟩ hp
      obtain ⟨o, h1, h2⟩ := mem_writes.1 hp
      obtain ⟨v, hv, hd⟩ := hI.done k o (hall k (lt_of_some h1)) h1
      rw [valAt_eq h1 h2 (hd d h2)]
      exact ⟨hd d h2, hv⟩
    have e : a' = sel a (valAt ops a') (writesOf ops) := by
      obtain ⟨z1, z2⟩ := sel_size a (valAt ops a') (writesOf ops)
      have ht : a'.tmps = (sel a (valAt ops a') (writesOf ops)).tmps := by
        apply Array.ext_getElem?
        intro t
        by_cases hex : ∃ k, (k, t) ∈ writesOf ops
        · obtain ⟨k, hk⟩ := hex
          rw [(hw _ hk).1]
          refine (sel_at a _ _ k t hk ?_ (hdst k t hk)).symm
          rintro ⟨k1, d1⟩ hp1 ⟨k2, d2⟩ hp2 e
          obtain ⟨o1, g1, g2⟩ := mem_writes.1 hp1
          obtain ⟨o2, g3, g4⟩ := mem_writes.1 hp2
          simp only at e ⊢
          subst e
          by_cases hne : k1 = k2
          · exact hne
          · exact absurd g2 (hok.apart k1 k2 o1 o2 d1 g1 g3 g4 hne)
        · rw [sel_far a _ _ t (fun p hp e => hex ⟨p.1, by rw [← e]; exact hp⟩)]
          exact hI.rest t fun k o _ ho hd => hex ⟨k, mem_writes.2 ⟨o, ho, hd⟩⟩
      have hdf : a'.defers = (sel a (valAt ops a') (writesOf ops)).defers := hI.defers.trans z2.symm
      cases a'
      cases hse : sel a (valAt ops _) (writesOf ops)
      rw [hse] at ht hdf
      simp only at ht hdf
      rw [ht, hdf]
    rw [e]
    refine hQ _ _ hI.bel (pre_of fun p hp => (hw p hp).2) (preN_of fun k hk => ?_)
    have hk2 : k < ops.size := List.mem_range.1 (List.mem_filter.1 hk).1
    obtain ⟨v, hv, _⟩ := hI.done k ops[k] (hall k hk2) (Array.getElem?_eq_getElem hk2)
    exact ⟨v, hv⟩
  intro fuel
  induction fuel with
  | zero =>
    intro listed a' w' hsz hf hI
    have hr : Region.ready .any ops listed = [] := by
      cases hq : Region.ready .any ops listed with
      | nil => rfl
      | cons i r =>
        have := left_lt hsz (i := i) (by rw [hq]; simp)
        omega
    exact ⟨hr, fin listed a' w' hsz hI hr⟩
  | succ fuel ih =>
    intro listed a' w' hsz hf hI
    refine ⟨fun hr => fin listed a' w' hsz hI hr, fun i hi => ?_⟩
    refine step_inv hok hT hdst hl hs hI hi (fun a2 w2 h2 => ih _ a2 w2 (by rw [Array.size_setIfInBounds]; exact hsz) ?_ h2) hsz
    have := left_lt hsz hi
    omega
end
theorem left_le (ops : Array Oper) (listed : Array Bool) : left ops listed ≤ ops.size := by
  have := List.countP_le_length (p := fun k => !listed.getD k true) (l := List.range ops.size)
  rw [List.length_range] at this
  exact this
theorem none_listed (n k : Nat) : ¬ (Array.replicate n false).getD k false = true := by
  rw [Array.getD_eq_getD_getElem?]
  by_cases h : k < n
  · rw [Array.getElem?_eq_getElem (by simpa using h)]; simp
  · rw [Array.getElem?_eq_none (by simpa using h)]; simp
/-- THE RULE. 'l': the operations, each with what it waits for and reads; 'D': all that is written; 'N': the operations that write no place. -/
theorem wp_region_rely {P : Program} {id : Nat} {Q : Exit → Act → World → Prop} {a : Act} {w : World} {os : List Oper} (hm : P.follows .mixedOrders = true) (l : List (Oper × List (Nat × Tmp))) (D : List (Nat × Tmp)) (N : List Nat)
    (hok : okB os.toArray = true) (hl : (List.range os.length).map (readsOf os.toArray) = l.map (·.2)) (hlo : os = l.map (·.1)) (hD : writesOf os.toArray = D) (hN : silentOf os.toArray = N) (hdst : D.all (fun p => decide (p.2 < a.tmps.size)) = true)
    (T : Nat → Value → World → Prop) (hT : ∀ i v w1 w2, T i v w1 → Below w1.heap.size w1 w2 → T i v w2) (hs : Steps P os.toArray a w T l 0)
    (hQ : ∀ (vs : Nat → Value) (w' : World), Below w.heap.size w w' → Pre T vs w' D → PreN T w' N → Q .normal (sel a vs D) w') : (Code.region id os.toArray true).wp P Q a w := by
  subst hD; subst hN
  refine wp_region_any hm (any_of_inv (ok_of hok) hT ?_ ?_ hs hQ _ _ _ _ (by simp) (left_le _ _) ⟨(Below.refl _ _).drew, rfl, rfl, ?_, ?_, ?_⟩)
  · intro k d hkd
    have := List.all_eq_true.1 hdst _ hkd
    simpa using this
  · intro i o ho
    have hi : i < os.length := by simpa using lt_of_some ho
    have h1 : os[i]? = some o := by simpa using ho
    have h2 := congrArg (fun x => x[i]?) hl
    have h3 := congrArg (fun x => x[i]?) hlo
    simp only [List.getElem?_map] at h2 h3
    rw [List.getElem?_range hi] at h2
    rw [h1] at h3
    cases hli : l[i]? with
    | none => rw [hli] at h3; simp at h3
    | some p =>
      rw [hli] at h2 h3
      simp only [Option.map_some, Option.some.injEq] at h2 h3
      rw [h2, h3]
  · exact fun k o hk _ => absurd hk (none_listed _ k)
  · exact fun t _ => rfl
  · exact fun k o hk => absurd hk (none_listed _ k)
/-- What is asked of each operation, by two lists. -/
def Step1 (P : Program) (ops : Array Oper) (a : Act) (w : World) (T : Nat → Value → World → Prop) (o : Oper) (r : List (Nat × Tmp)) (i : Nat) : Prop :=
  ∀ (vs : Nat → Value) (w' : World), Below w.heap.size w w' → Pre T vs w' r →
    if Region.wanted o (yielded ops (sel a vs r).tmps) = true then gives P o (sel a vs r) w' (fun v w'' => Below w'.heap.size w' w'' ∧ T i v w'') else T i undef w'
def StepsZ (P : Program) (ops : Array Oper) (a : Act) (w : World) (T : Nat → Value → World → Prop) : List Oper → List (List (Nat × Tmp)) → Nat → Prop
  | o :: os, r :: R, i => Step1 P ops a w T o r i ∧ StepsZ P ops a w T os R (i + 1)
  | _, _, _ => True
theorem stepsZ_cons {P : Program} {ops : Array Oper} {a : Act} {w : World} {T : Nat → Value → World → Prop} {o : Oper} {os : List Oper} {r : List (Nat × Tmp)} {R : List (List (Nat × Tmp))} {i : Nat}
    (h1 : Step1 P ops a w T o r i) (h2 : StepsZ P ops a w T os R (i + 1)) : StepsZ P ops a w T (o :: os) (r :: R) i := ⟨h1, h2⟩
theorem stepsZ_nil {P : Program} {ops : Array Oper} {a : Act} {w : World} {T : Nat → Value → World → Prop} {i : Nat} : StepsZ P ops a w T [] [] i := trivial
theorem steps_of {P : Program} {ops : Array Oper} {a : Act} {w : World} {T : Nat → Value → World → Prop} : ∀ {os : List Oper} {R : List (List (Nat × Tmp))} {i : Nat}, StepsZ P ops a w T os R i → Steps P ops a w T (os.zip R) i
  | [], [], _, _ => trivial
  | [], _ :: _, _, _ => trivial
  | _ :: _, [], _, _ => trivial
  | _ :: _, _ :: _, _, h => ⟨h.1, steps_of h.2⟩
/-- THE RULE, as it is used: R: for each operation what it reads and waits for; D: all that is written; N: the operations that write no place (wip/tools/reads.py prints the three). -/
theorem wp_region_by {P : Program} {id : Nat} {Q : Exit → Act → World → Prop} {a : Act} {w : World} {os : List Oper} (R : List (List (Nat × Tmp))) (D : List (Nat × Tmp)) (N : List Nat) (T : Nat → Value → World → Prop)
    (hm : P.follows .mixedOrders = true) (hok : okB os.toArray = true) (hl : (List.range os.length).map (readsOf os.toArray) = R) (hD : writesOf os.toArray = D) (hN : silentOf os.toArray = N) (hdst : D.all (fun p => decide (p.2 < a.tmps.size)) = true)
    (hT : ∀ i v w1 w2, T i v w1 → Below w1.heap.size w1 w2 → T i v w2) (hs : StepsZ P os.toArray a w T os R 0)
    (hQ : ∀ (vs : Nat → Value) (w' : World), Below w.heap.size w w' → Pre T vs w' D → PreN T w' N → Q .normal (sel a vs D) w') : (Code.region id os.toArray true).wp P Q a w := by
  have hlen : R.length = os.length := by rw [← hl]; simp
  refine wp_region_rely hm (os.zip R) D N hok ?_ ?_ hD hN hdst T hT (steps_of hs) hQ
  · rw [hl, List.map_snd_zip (by omega)]
  · rw [List.map_fst_zip (by omega)]
end Rely
end Go.Proofs.YtkdpfjenjcpcfaaGreatDoor
