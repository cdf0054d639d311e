/- MsP: Messages, pure: which may be, their bytes, what is read of bytes; what is laid is read as it was. -/
import Derived.Test.YtgmennblbeefhaaDoorTgB
import Derived.Test.YtgmennblbeefhaaDoorRgA
namespace Go.Proofs.YtgmennblbeefhaaDoor
open Go.RowKit Mem Be Rg
set_option maxRecDepth 10000
set_option maxHeartbeats 4000000
set_option linter.unusedVariables false
section
variable {α β : Type}
abbrev Pr (α : Type) := List UInt8 → α × Nat × Int
/-- A field: what is laid is read as it was; what was read lies there so; cut short something is missing. -/
structure GoodP (get : Pr α) (put : α → List UInt8) (ok : α → Prop) : Prop where
  lay : ∀ x more, ok x → get (put x ++ more) = (x, (put x).length, 0)
  back : ∀ bs x k, get bs = (x, k, 0) → ok x ∧ k ≤ bs.length ∧ bs.take k = put x
  cut : ∀ x c, ok x → c < (put x).length → (get ((put x).take c)).2.2 = 12
def bindP [Inhabited β] (g1 : Pr α) (g2 : α → Pr β) : Pr (α × β) := fun bs =>
  if (g1 bs).2.2 ≠ 0 then (((g1 bs).1, default), 0, (g1 bs).2.2)
  else (((g1 bs).1, (g2 (g1 bs).1 (bs.drop (g1 bs).2.1)).1), (g1 bs).2.1 + (g2 (g1 bs).1 (bs.drop (g1 bs).2.1)).2.1, (g2 (g1 bs).1 (bs.drop (g1 bs).2.1)).2.2)
theorem bind_yes [Inhabited β] {g1 : Pr α} {g2 : α → Pr β} {bs : List UInt8} {a : α} {k : Nat} (h : g1 bs = (a, k, 0)) :
    bindP g1 g2 bs = ((a, (g2 a (bs.drop k)).1), k + (g2 a (bs.drop k)).2.1, (g2 a (bs.drop k)).2.2) := by
  unfold bindP; rw [h]; exact if_neg (by simp)
theorem bind_no [Inhabited β] {g1 : Pr α} {g2 : α → Pr β} {bs : List UInt8} (h : (g1 bs).2.2 ≠ 0) : (bindP g1 g2 bs).2.2 = (g1 bs).2.2 := by
  unfold bindP; rw [if_pos h]
theorem GoodP.bind [Inhabited β] {g1 : Pr α} {g2 : α → Pr β} {p1 : α → List UInt8} {p2 : α → β → List UInt8} {o1 : α → Prop} {o2 : α → β → Prop} (h1 : GoodP g1 p1 o1) (h2 : ∀ a, o1 a → GoodP (g2 a) (p2 a) (o2 a)) :
    GoodP (bindP g1 g2) (fun x => p1 x.1 ++ p2 x.1 x.2) (fun x => o1 x.1 ∧ o2 x.1 x.2) where
  lay := fun x more ⟨ha, hb⟩ => by
    obtain ⟨a, b⟩ := x
    have e1 := h1.lay a (p2 a b ++ more) ha
    have e2 := (h2 a ha).lay b more hb
    rw [List.append_assoc, bind_yes e1, List.drop_left, e2, List.length_append]
  back := fun bs x k h => by
    obtain ⟨a, b⟩ := x
    obtain ⟨⟨a', k1, e1⟩, hg⟩ : ∃ y, g1 bs = y := ⟨_, rfl⟩
    by_cases he : e1 = 0
    · subst he
      rw [bind_yes hg] at h
      obtain ⟨⟨b', k2, e2⟩, hg2⟩ : ∃ y, g2 a' (bs.drop k1) = y := ⟨_, rfl⟩
      rw [hg2] at h
      simp only [Prod.mk.injEq] at h
      obtain ⟨⟨rfl, rfl⟩, rfl, rfl⟩ := h
      obtain ⟨q1, q2, q3⟩ := h1.back _ _ _ hg
      obtain ⟨r1, r2, r3⟩ := (h2 _ q1).back _ _ _ hg2
      rw [List.length_drop] at r2
      refine ⟨⟨q1, r1⟩, by omega, ?_⟩
      rw [List.take_add, q3, r3]
    · have hn : (g1 bs).2.2 ≠ 0 := by rw [hg]; exact he
      have := bind_no (g2 := g2) hn
      rw [h] at this
      exact absurd this.symm hn
  cut := fun x c ⟨ha, hb⟩ hc => by
    obtain ⟨a, b⟩ := x
    simp only [List.length_append] at hc
    rcases Nat.lt_or_ge c (p1 a).length with h | h
    · have e1 := h1.cut a c ha h
      have e : (p1 a ++ p2 a b).take c = (p1 a).take c := List.take_append_of_le_length (by omega)
      show (bindP g1 g2 ((p1 a ++ p2 a b).take c)).2.2 = 12
      rw [e, bind_no (by rw [e1]; decide), e1]
    · have e : (p1 a ++ p2 a b).take c = p1 a ++ (p2 a b).take (c - (p1 a).length) := by rw [List.take_append, List.take_of_length_le h]
      show (bindP g1 g2 ((p1 a ++ p2 a b).take c)).2.2 = 12
      rw [e, bind_yes (h1.lay a _ ha), List.drop_left]
      exact (h2 a ha).cut b _ hb (by omega)
def optP (b : Bool) (get : Pr α) (z : α) : Pr α := fun bs => if b = true then get bs else (z, 0, 0)
theorem GoodP.opt {get : Pr α} {put : α → List UInt8} {ok : α → Prop} (h : GoodP get put ok) (b : Bool) (z : α) : GoodP (optP b get z) (fun x => if b = true then put x else []) (fun x => if b = true then ok x else x = z) := by
  cases b
  · refine ⟨fun x more hx => ?_, fun bs x k hx => ?_, fun x c _ hc => ?_⟩
    · have : x = z := hx
      subst this; rfl
    · have hx' : (z, 0, 0) = (x, k, (0 : Int)) := hx
      simp only [Prod.mk.injEq] at hx'
      obtain ⟨rfl, rfl, _⟩ := hx'
      exact ⟨rfl, Nat.zero_le _, rfl⟩
    · exact absurd hc (Nat.not_lt_zero _)
  · exact ⟨fun x more hx => h.lay x more hx, fun bs x k hx => h.back bs x k hx, fun x c hx hc => h.cut x c hx hc⟩
def timesP (get : Pr α) : Nat → Pr (List α)
  | 0 => fun _ => ([], 0, 0)
  | n + 1 => fun bs => if (get bs).2.2 ≠ 0 then ([], 0, (get bs).2.2) else
      if (timesP get n (bs.drop (get bs).2.1)).2.2 ≠ 0 then ([], 0, (timesP get n (bs.drop (get bs).2.1)).2.2)
      else ((get bs).1 :: (timesP get n (bs.drop (get bs).2.1)).1, (get bs).2.1 + (timesP get n (bs.drop (get bs).2.1)).2.1, 0)
theorem GoodP.times {get : Pr α} {put : α → List UInt8} {ok : α → Prop} (h : GoodP get put ok) : ∀ n, GoodP (timesP get n) (fun l => l.flatMap put) (fun l => l.length = n ∧ ∀ x ∈ l, ok x)
  | 0 => ⟨fun x more hx => by
      obtain rfl : x = [] := List.length_eq_zero_iff.1 hx.1
      rfl, fun bs x k hx => by
      have hx' : (([] : List α), 0, (0 : Int)) = (x, k, 0) := hx
      simp only [Prod.mk.injEq] at hx'
      obtain ⟨rfl, rfl, _⟩ := hx'
      exact ⟨⟨rfl, fun x hx => by cases hx⟩, Nat.zero_le _, rfl⟩, fun x c hx hc => by
      obtain rfl : x = [] := List.length_eq_zero_iff.1 hx.1
      exact absurd hc (Nat.not_lt_zero _)⟩
  | n + 1 => by
    have ih := GoodP.times h n
    refine ⟨fun l more hl => ?_, fun bs l k hl => ?_, fun l c hl hc => ?_⟩
    · match l, hl with
      | a :: r, hl =>
        have ha : ok a := hl.2 a (by simp)
        have hr : r.length = n ∧ ∀ x ∈ r, ok x := ⟨by simpa using hl.1, fun x hx => hl.2 x (by simp [hx])⟩
        have e1 := h.lay a (r.flatMap put ++ more) ha
        have e2 := ih.lay r more hr
        show timesP get (n + 1) ((put a ++ r.flatMap put) ++ more) = _
        unfold timesP
        rw [List.append_assoc, e1]
        simp only [List.drop_left]
        rw [e2]
        simp [List.flatMap_cons]
    · unfold timesP at hl
      obtain ⟨⟨a, k1, e1⟩, hg⟩ : ∃ y, get bs = y := ⟨_, rfl⟩
      rw [hg] at hl
      simp only at hl
      by_cases he : e1 = 0
      · subst he
        rw [if_neg (by simp)] at hl
        obtain ⟨⟨r, k2, e2⟩, hg2⟩ : ∃ y, timesP get n (bs.drop k1) = y := ⟨_, rfl⟩
        rw [hg2] at hl
        simp only at hl
        by_cases he2 : e2 = 0
        · subst he2
          rw [if_neg (by simp)] at hl
          simp only [Prod.mk.injEq] at hl
          obtain ⟨rfl, rfl, _⟩ := hl
          obtain ⟨q1, q2, q3⟩ := h.back _ _ _ hg
          obtain ⟨⟨r0, r1⟩, r2, r3⟩ := ih.back _ _ _ hg2
          rw [List.length_drop] at r2
          refine ⟨⟨by simp [r0], fun x hx => ?_⟩, by omega, ?_⟩
          · rcases List.mem_cons.1 hx with rfl | hx
            · exact q1
            · exact r1 x hx
          · rw [List.take_add, q3, r3]; rfl
        · rw [if_pos he2] at hl
          simp only [Prod.mk.injEq] at hl
          exact absurd hl.2.2 he2
      · rw [if_pos he] at hl
        simp only [Prod.mk.injEq] at hl
        exact absurd hl.2.2 he
    · match l, hl with
      | a :: r, hl =>
        have ha : ok a := hl.2 a (by simp)
        have hr : r.length = n ∧ ∀ x ∈ r, ok x := ⟨by simpa using hl.1, fun x hx => hl.2 x (by simp [hx])⟩
        have hc' : c < (put a ++ r.flatMap put).length := hc
        rw [List.length_append] at hc'
        show (timesP get (n + 1) ((put a ++ r.flatMap put).take c)).2.2 = 12
        rcases Nat.lt_or_ge c (put a).length with h3 | h3
        · have e1 := h.cut a c ha h3
          have e : (put a ++ r.flatMap put).take c = (put a).take c := List.take_append_of_le_length (by omega)
          rw [e]
          unfold timesP
          rw [if_pos (by rw [e1]; decide), e1]
        · have e : (put a ++ r.flatMap put).take c = put a ++ (r.flatMap put).take (c - (put a).length) := by rw [List.take_append, List.take_of_length_le h3]
          have e1 := h.lay a ((r.flatMap put).take (c - (put a).length)) ha
          have e2 : (timesP get n ((r.flatMap put).take (c - (put a).length))).2.2 = 12 := ih.cut r (c - (put a).length) hr (show c - (put a).length < (r.flatMap put).length by omega)
          rw [e]
          unfold timesP
          rw [e1]
          simp only [List.drop_left]
          rw [if_neg (by simp), if_pos (by rw [e2]; decide), e2]
/-- Steps of a reader that stops at what is wrong first. -/
abbrev Sp (α : Type) := List UInt8 → Int → α × List UInt8 × Int
structure SimP (get : Pr α) (st : Sp α) : Prop where
  err : ∀ bs, (st bs 0).2.2 = (get bs).2.2
  val : ∀ bs, (get bs).2.2 = 0 → (st bs 0).1 = (get bs).1 ∧ (st bs 0).2.1 = bs.drop (get bs).2.1
  no : ∀ bs e, e ≠ 0 → (st bs e).2.2 = e
def bindS (s1 : Sp α) (s2 : α → Sp β) : Sp (α × β) := fun bs e =>
  (((s1 bs e).1, (s2 (s1 bs e).1 (s1 bs e).2.1 (s1 bs e).2.2).1), (s2 (s1 bs e).1 (s1 bs e).2.1 (s1 bs e).2.2).2.1, (s2 (s1 bs e).1 (s1 bs e).2.1 (s1 bs e).2.2).2.2)
theorem SimP.bind [Inhabited β] {g1 : Pr α} {g2 : α → Pr β} {s1 : Sp α} {s2 : α → Sp β} (h1 : SimP g1 s1) (h2 : ∀ a, SimP (g2 a) (s2 a)) : SimP (bindP g1 g2) (bindS s1 s2) := by
  have key : ∀ bs, (bindS s1 s2 bs 0).2.2 = (bindP g1 g2 bs).2.2 ∧ ((bindP g1 g2 bs).2.2 = 0 → (bindS s1 s2 bs 0).1 = (bindP g1 g2 bs).1 ∧ (bindS s1 s2 bs 0).2.1 = bs.drop (bindP g1 g2 bs).2.1) := fun bs => by
    obtain ⟨⟨a, k1, e1⟩, hg⟩ : ∃ y, g1 bs = y := ⟨_, rfl⟩
    have q1 := h1.err bs
    have q2 := h1.val bs
    rw [hg] at q1 q2
    simp only at q1 q2
    by_cases he : e1 = 0
    · subst he
      obtain ⟨p1, p2⟩ := q2 rfl
      rw [bind_yes hg]
      unfold bindS
      rw [p1, p2, q1]
      simp only
      refine ⟨(h2 a).err _, fun h => ?_⟩
      obtain ⟨r1, r2⟩ := (h2 a).val _ h
      rw [r1, r2, List.drop_drop]
      exact ⟨rfl, rfl⟩
    · have hn : (g1 bs).2.2 ≠ 0 := by rw [hg]; exact he
      have hb := bind_no (g2 := g2) hn
      rw [hg] at hb
      simp only at hb
      refine ⟨?_, fun h => absurd (hb.symm.trans h) he⟩
      rw [hb]
      unfold bindS
      simp only
      rw [q1]
      exact (h2 _).no _ _ he
  exact ⟨fun bs => (key bs).1, fun bs => (key bs).2, fun bs e he => by
    unfold bindS
    simp only
    rw [h1.no bs e he]
    exact (h2 _).no _ _ he⟩
def optS (b : Bool) (st : Sp α) (z : α) : Sp α := fun bs e => if b = true then st bs e else (z, bs, e)
theorem SimP.opt {get : Pr α} {st : Sp α} (h : SimP get st) (b : Bool) (z : α) : SimP (optP b get z) (optS b st z) := by
  cases b
  · exact ⟨fun bs => rfl, fun bs _ => ⟨rfl, rfl⟩, fun bs e _ => rfl⟩
  · exact ⟨fun bs => h.err bs, fun bs => h.val bs, fun bs e => h.no bs e⟩
/-- So many, one behind the other; brk: none behind the first wrong one. -/
def timesS (st : Sp α) (brk : Bool) : Nat → List α → List UInt8 → Int → List α × List UInt8 × Int
  | 0, acc, bs, e => (acc, bs, e)
  | n + 1, acc, bs, e => if brk = true ∧ (st bs e).2.2 ≠ 0 then (acc, (st bs e).2.1, (st bs e).2.2) else timesS st brk n (acc ++ [(st bs e).1]) (st bs e).2.1 (st bs e).2.2
theorem times_no {get : Pr α} {st : Sp α} (h : SimP get st) (brk : Bool) : ∀ n acc bs e, e ≠ 0 → (timesS st brk n acc bs e).2.2 = e
  | 0, acc, bs, e, he => rfl
  | n + 1, acc, bs, e, he => by
    unfold timesS
    split
    · exact h.no bs e he
    · rw [h.no bs e he]; exact times_no h brk n _ _ e he
theorem SimP.times {get : Pr α} {st : Sp α} (h : SimP get st) (brk : Bool) : ∀ n acc bs, (timesS st brk n acc bs 0).2.2 = (timesP get n bs).2.2 ∧
    ((timesP get n bs).2.2 = 0 → (timesS st brk n acc bs 0).1 = acc ++ (timesP get n bs).1 ∧ (timesS st brk n acc bs 0).2.1 = bs.drop (timesP get n bs).2.1)
  | 0, acc, bs => ⟨rfl, fun _ => ⟨by simp [timesS, timesP], rfl⟩⟩
  | n + 1, acc, bs => by
    have q1 := h.err bs
    have q2 := h.val bs
    obtain ⟨⟨a, k1, e1⟩, hg⟩ : ∃ y, get bs = y := ⟨_, rfl⟩
    rw [hg] at q1 q2
    simp only at q1 q2
    unfold timesS timesP
    rw [hg, q1]
    simp only
    by_cases he : e1 = 0
    · subst he
      obtain ⟨p1, p2⟩ := q2 rfl
      rw [p1, p2]
      obtain ⟨i1, i2⟩ := SimP.times h brk n (acc ++ [a]) (bs.drop k1)
      rw [if_neg (by simp), if_neg (by simp)]
      by_cases h2 : (timesP get n (bs.drop k1)).2.2 = 0
      · obtain ⟨j1, j2⟩ := i2 h2
        rw [if_neg (by simp [h2])]
        rw [i1, h2, j1, j2, List.drop_drop]
        simp
      · rw [if_pos h2]
        exact ⟨i1, fun hh => absurd hh h2⟩
    · rw [if_pos (show e1 ≠ 0 from he)]
      simp only
      refine ⟨?_, fun hh => absurd hh he⟩
      split
      · rfl
      · exact times_no h brk n _ _ e1 he
end
def stpP {α : Type} (get : Pr α) (z : α) : Sp α := fun bs e => if e = 0 then ((get bs).1, bs.drop (get bs).2.1, (get bs).2.2) else (z, bs, e)
theorem SimP.stp {α : Type} (get : Pr α) (z : α) : SimP get (stpP get z) :=
  ⟨fun bs => by unfold stpP; rw [if_pos rfl], fun bs _ => by unfold stpP; rw [if_pos rfl]; exact ⟨rfl, rfl⟩, fun bs e he => by unfold stpP; rw [if_neg he]⟩
theorem stepB_stp (m : Int) : stepB m = stpP (getB m) 0 := rfl
theorem stepT_stp : stepT = stpP getT false := rfl
theorem stepE_no (bs : List UInt8) (e : Int) (he : e ≠ 0) : (stepE bs e).2.2 = e := by
  have h1 : (stepE1 bs e).2.2 = e := by
    unfold stepE1
    simp only [step_row_no bs e he, stepTag_no bs e he, stepV_no bs e he]
  unfold stepE endE
  have h2 : errE (stepE1 bs e).1 (stepE1 bs e).2.2 = e := by
    rw [h1]; unfold errE
    repeat' split
    all_goals first | rfl | exact absurd ‹e = 0› he
  rw [if_neg (by rw [h2]; exact he)]
  exact h2
theorem simE : SimP refE stepE :=
  ⟨fun bs => (step_ref bs).2.1, fun bs h => ⟨(step_ref bs).1, (step_ref bs).2.2 h⟩, stepE_no⟩
instance entInh12 : Inhabited EntP := ⟨entP0⟩
theorem goodB (m : Int) (hm : m ≤ 1099511627776) : GoodP (getB m) numB (fun n => 0 ≤ n ∧ n < m) :=
  ⟨fun x more h => getB_num m x h.1 h.2 hm more, fun bs x k h => by
    have h1 := getB_back h
    have h2 := getB_err m bs
    rw [h] at h2
    simp only at h2
    refine ⟨?_, h1.1, h1.2⟩
    rcases h2 with h2 | ⟨_, _, h2⟩
    · exact ⟨h2.2.2.2.1, h2.2.2.2.2.1⟩
    · rcases h2 with h2 | h2 <;> exact absurd h2 (by decide), fun x c _ hc => getB_cut m x c hc⟩
theorem goodT : GoodP getT truthB (fun _ => True) :=
  ⟨fun x more _ => getT_truth x more, fun bs x k h => ⟨trivial, getT_back h⟩, fun x c _ hc => by
    obtain rfl : c = 0 := by
      have : (truthB x).length = 1 := rfl
      omega
    rfl⟩
theorem goodE : GoodP refE putE okE :=
  ⟨fun x more h => refE_put x h more, fun bs x k h => refE_back h, fun x c h hc => by rw [refE_cut x h c hc]⟩
/-- A kind that exists. -/
def getK12 : Pr Int := fun bs => if (getB 18 bs).2.2 = 0 ∧ (getB 18 bs).1 = 0 then (0, 0, 11) else getB 18 bs
theorem numB_zero_take {c : Nat} {x : Int} (h : c < (numB x).length) : (getB 18 ((numB x).take c)).2.2 = 12 := getB_cut 18 x c h
theorem goodK : GoodP getK12 numB (fun n => 1 ≤ n ∧ n ≤ 17) :=
  ⟨fun x more h => by
    have e := getB_num 18 x (by omega) (by omega) (by decide) more
    unfold getK12
    rw [e]
    exact if_neg (by simp; omega), fun bs x k h => by
    unfold getK12 at h
    by_cases hc : (getB 18 bs).2.2 = 0 ∧ (getB 18 bs).1 = 0
    · rw [if_pos hc] at h
      simp only [Prod.mk.injEq] at h
      exact absurd h.2.2 (by decide)
    · rw [if_neg hc] at h
      have h2 := (goodB 18 (by decide)).back bs x k h
      rw [h] at hc
      refine ⟨⟨?_, by have := h2.1.2; omega⟩, h2.2⟩
      have := h2.1.1
      have hx : x ≠ 0 := fun e => hc ⟨rfl, e⟩
      omega, fun x c _ hc => by
    have e := getB_cut 18 x c hc
    unfold getK12
    rw [if_neg (by rw [e]; simp)]
    exact e⟩
/-- The program's kind: told that something is wrong, if it does not exist. -/
def exK (k : Int) : Bool := decide (1 ≤ k ∧ k ≤ 17)
def stepK12 : Sp Int := fun bs e => ((stepB 18 bs e).1, (stepB 18 bs e).2.1, if exK (stepB 18 bs e).1 = true then (stepB 18 bs e).2.2 else if (stepB 18 bs e).2.2 = 0 then 11 else (stepB 18 bs e).2.2)
theorem simK : SimP getK12 stepK12 := by
  have key : ∀ bs, (stepK12 bs 0).2.2 = (getK12 bs).2.2 ∧ ((getK12 bs).2.2 = 0 → (stepK12 bs 0).1 = (getK12 bs).1 ∧ (stepK12 bs 0).2.1 = bs.drop (getK12 bs).2.1) := fun bs => by
    have hr := getB_err 18 bs
    have hs : stepB 18 bs 0 = ((getB 18 bs).1, bs.drop (getB 18 bs).2.1, (getB 18 bs).2.2) := if_pos rfl
    obtain ⟨⟨k, q, e⟩, hg⟩ : ∃ y, getB 18 bs = y := ⟨_, rfl⟩
    unfold stepK12 getK12
    rw [hs]
    rw [hg] at hr ⊢
    simp only at hr ⊢
    rcases hr with ⟨rfl, _, _, h3, h4, _⟩ | ⟨rfl, rfl, h⟩
    · by_cases h0 : k = 0
      · subst h0
        rw [if_neg (by decide), if_pos rfl, if_pos ⟨rfl, rfl⟩]
        exact ⟨rfl, fun h => absurd h (by decide)⟩
      · rw [if_pos (show exK k = true from decide_eq_true (by omega)), if_neg (fun h => h0 h.2)]
        exact ⟨rfl, fun _ => ⟨rfl, rfl⟩⟩
    · have he : e ≠ 0 := by rcases h with rfl | rfl <;> decide
      rw [if_neg (show ¬ exK 0 = true by decide), if_neg he, if_neg (fun h => he h.1)]
      exact ⟨rfl, fun h => absurd h he⟩
  refine ⟨fun bs => (key bs).1, fun bs => (key bs).2, fun bs e he => ?_⟩
  unfold stepK12
  rw [step_below_no 18 bs e he]
  simp only
  rw [if_neg (show ¬ exK 0 = true by decide), if_neg he]
/-- A message. -/
structure MsgP where
  kind : Int
  fr : Int
  dst : Int
  ep : Int
  op : Int
  n : Int
  flag : Bool
  e : EntP
  l : List EntP
  ns : List Int
  each : Int
  keep : Int
def msgP0 : MsgP := ⟨0, 0, 0, 0, 0, 0, false, entP0, [], [], 0, 0⟩
def hasN (k : Int) : Bool := k == 2 || k == 6 || k == 9 || k == 12 || k == 13 || k == 14
def hasF (k : Int) : Bool := k == 2 || k == 13 || k == 14
def hasE (k : Int) : Bool := k == 1 || k == 2 || k == 3 || k == 4 || k == 5 || k == 7 || k == 8 || k == 9 || k == 10 || k == 11
def hasL (k : Int) : Bool := k == 13 || k == 14
def hasR (k : Int) : Bool := k == 16
instance okE_dec (x : EntP) : Decidable (okE x) := inferInstanceAs (Decidable (_ = _))
def noE (x : EntP) : Prop := x.k = [] ∧ x.s = 0 ∧ x.u = 0 ∧ x.o = 0 ∧ x.has = false ∧ x.v = []
instance noE_dec (x : EntP) : Decidable (noE x) := inferInstanceAs (Decidable (_ ∧ _))
theorem noE_iff (x : EntP) : noE x ↔ x = entP0 := by
  obtain ⟨k, s, u, o, has, v⟩ := x
  unfold noE entP0
  simp only [EntP.mk.injEq]
def rN (m : MsgP) : Bool := inR m.n 1099511627775
def bN (m : MsgP) : Bool := m.n == 0
def bF (m : MsgP) : Bool := !m.flag
def rE (m : MsgP) : Bool := decide (okE m.e)
def bE (m : MsgP) : Bool := decide (noE m.e)
def allE (l : List EntP) : Bool := l.all fun x => decide (okE x)
def rL (m : MsgP) : Bool := decide (m.l.length ≤ 1000) && allE m.l
def bL (m : MsgP) : Bool := m.l.length == 0
def rR (m : MsgP) : Bool := decide (OkR m.ns m.each m.keep)
def bR (m : MsgP) : Bool := decide (m.ns = [] ∧ m.each = 0 ∧ m.keep = 0)
def headR (m : MsgP) : Bool := exK m.kind && inR m.fr 1048575 && inR m.dst 1048575 && inR m.ep 1099511627775 && inR m.op 1099511627775
def fldB (h r b : Bool) : Bool := if h = true then r else b
/-- May it be? -/
def okM (m : MsgP) : Bool := headR m && (fldB (hasN m.kind) (rN m) (bN m) && (fldB (hasF m.kind) true (bF m) && (fldB (hasE m.kind) (rE m) (bE m) && (fldB (hasL m.kind) (rL m) (bL m) && fldB (hasR m.kind) (rR m) (bR m)))))
def checkM (m : MsgP) : Int := if okM m = true then 0 else 2
def ringB (ns : List Int) (each keep : Int) : List UInt8 := numB each ++ (numB keep ++ (numB (ns.length : Int) ++ ns.flatMap numB))
def listB (l : List EntP) : List UInt8 := numB (l.length : Int) ++ l.flatMap putE
/-- Its bytes. -/
def putM (m : MsgP) : List UInt8 := numB m.kind ++ (numB m.fr ++ (numB m.dst ++ (numB m.ep ++ (numB m.op ++ ((if hasN m.kind = true then numB m.n else []) ++ ((if hasF m.kind = true then truthB m.flag else []) ++ ((if hasE m.kind = true then putE m.e else []) ++
  ((if hasL m.kind = true then listB m.l else []) ++ (if hasR m.kind = true then ringB m.ns m.each m.keep else [])))))))))
def bytesM (m : MsgP) : List UInt8 × Int := if okM m = true then (putM m, 0) else ([], 2)
def getL12 : Pr (Int × List EntP) := bindP (getB 1001) (fun n => timesP refE n.toNat)
def getR12 : Pr (Int × Int × Int × List Int) := bindP (getB 65) (fun _ => bindP (getB 65) (fun _ => bindP (getB 65) (fun n => timesP (getB 1048576) n.toNat)))
abbrev Tup := Int × Int × Int × Int × Int × Int × Bool × EntP × (Int × List EntP) × (Int × Int × Int × List Int)
def getM : Pr Tup := bindP getK12 fun k => bindP (getB 1048576) fun _ => bindP (getB 1048576) fun _ => bindP (getB 1099511627776) fun _ => bindP (getB 1099511627776) fun _ =>
  bindP (optP (hasN k) (getB 1099511627776) 0) fun _ => bindP (optP (hasF k) getT false) fun _ => bindP (optP (hasE k) refE entP0) fun _ => bindP (optP (hasL k) getL12 (0, [])) fun _ => optP (hasR k) getR12 (0, 0, 0, [])
def toM (t : Tup) : MsgP := ⟨t.1, t.2.1, t.2.2.1, t.2.2.2.1, t.2.2.2.2.1, t.2.2.2.2.2.1, t.2.2.2.2.2.2.1, t.2.2.2.2.2.2.2.1, t.2.2.2.2.2.2.2.2.1.2, t.2.2.2.2.2.2.2.2.2.2.2.2, t.2.2.2.2.2.2.2.2.2.1, t.2.2.2.2.2.2.2.2.2.2.1⟩
def unM (m : MsgP) : Tup := (m.kind, m.fr, m.dst, m.ep, m.op, m.n, m.flag, m.e, ((m.l.length : Int), m.l), (m.each, m.keep, (m.ns.length : Int), m.ns))
theorem goodL : GoodP getL12 (fun x => numB x.1 ++ x.2.flatMap putE) (fun x => (0 ≤ x.1 ∧ x.1 < 1001) ∧ (x.2.length = x.1.toNat ∧ ∀ y ∈ x.2, okE y)) := by
  unfold getL12
  refine GoodP.bind (p2 := fun (_ : Int) (l : List EntP) => l.flatMap putE) (o2 := fun (n : Int) (l : List EntP) => l.length = n.toNat ∧ ∀ y ∈ l, okE y) (goodB 1001 (by decide)) fun n _ => ?_
  exact GoodP.times goodE n.toNat
theorem goodR : GoodP getR12 (fun x => numB x.1 ++ (numB x.2.1 ++ (numB x.2.2.1 ++ x.2.2.2.flatMap numB)))
    (fun x => (0 ≤ x.1 ∧ x.1 < 65) ∧ ((0 ≤ x.2.1 ∧ x.2.1 < 65) ∧ ((0 ≤ x.2.2.1 ∧ x.2.2.1 < 65) ∧ (x.2.2.2.length = x.2.2.1.toNat ∧ ∀ y ∈ x.2.2.2, 0 ≤ y ∧ y < 1048576)))) := by
  unfold getR12
  refine GoodP.bind (p2 := fun (_ : Int) (x : Int × Int × List Int) => numB x.1 ++ (numB x.2.1 ++ x.2.2.flatMap numB)) (o2 := fun (_ : Int) (x : Int × Int × List Int) => (0 ≤ x.1 ∧ x.1 < 65) ∧ ((0 ≤ x.2.1 ∧ x.2.1 < 65) ∧ (x.2.2.length = x.2.1.toNat ∧ ∀ y ∈ x.2.2, 0 ≤ y ∧ y < 1048576))) (goodB 65 (by decide)) fun _ _ => ?_
  refine GoodP.bind (p2 := fun (_ : Int) (x : Int × List Int) => numB x.1 ++ x.2.flatMap numB) (o2 := fun (_ : Int) (x : Int × List Int) => (0 ≤ x.1 ∧ x.1 < 65) ∧ (x.2.length = x.1.toNat ∧ ∀ y ∈ x.2, 0 ≤ y ∧ y < 1048576)) (goodB 65 (by decide)) fun _ _ => ?_
  refine GoodP.bind (p2 := fun (_ : Int) (l : List Int) => l.flatMap numB) (o2 := fun (n : Int) (l : List Int) => l.length = n.toNat ∧ ∀ y ∈ l, 0 ≤ y ∧ y < 1048576) (goodB 65 (by decide)) fun n _ => ?_
  exact GoodP.times (goodB 1048576 (by decide)) n.toNat
def putU (t : Tup) : List UInt8 := numB t.1 ++ (numB t.2.1 ++ (numB t.2.2.1 ++ (numB t.2.2.2.1 ++ (numB t.2.2.2.2.1 ++ ((if hasN t.1 = true then numB t.2.2.2.2.2.1 else []) ++ ((if hasF t.1 = true then truthB t.2.2.2.2.2.2.1 else []) ++ ((if hasE t.1 = true then putE t.2.2.2.2.2.2.2.1 else []) ++ ((if hasL t.1 = true then numB t.2.2.2.2.2.2.2.2.1.1 ++ t.2.2.2.2.2.2.2.2.1.2.flatMap putE else []) ++ ((if hasR t.1 = true then numB t.2.2.2.2.2.2.2.2.2.1 ++ (numB t.2.2.2.2.2.2.2.2.2.2.1 ++ (numB t.2.2.2.2.2.2.2.2.2.2.2.1 ++ t.2.2.2.2.2.2.2.2.2.2.2.2.flatMap numB)) else []))))))))))
def okL12 (x : Int × List EntP) : Prop := (0 ≤ x.1 ∧ x.1 < 1001) ∧ (x.2.length = x.1.toNat ∧ ∀ y ∈ x.2, okE y)
def okR12 (x : Int × Int × Int × List Int) : Prop := (0 ≤ x.1 ∧ x.1 < 65) ∧ ((0 ≤ x.2.1 ∧ x.2.1 < 65) ∧ ((0 ≤ x.2.2.1 ∧ x.2.2.1 < 65) ∧ (x.2.2.2.length = x.2.2.1.toNat ∧ ∀ y ∈ x.2.2.2, 0 ≤ y ∧ y < 1048576)))
def okU (t : Tup) : Prop := (1 ≤ t.1 ∧ t.1 ≤ 17) ∧ ((0 ≤ t.2.1 ∧ t.2.1 < 1048576) ∧ ((0 ≤ t.2.2.1 ∧ t.2.2.1 < 1048576) ∧ ((0 ≤ t.2.2.2.1 ∧ t.2.2.2.1 < 1099511627776) ∧ ((0 ≤ t.2.2.2.2.1 ∧ t.2.2.2.2.1 < 1099511627776) ∧ ((if hasN t.1 = true then 0 ≤ t.2.2.2.2.2.1 ∧ t.2.2.2.2.2.1 < 1099511627776 else t.2.2.2.2.2.1 = 0) ∧ ((if hasF t.1 = true then True else t.2.2.2.2.2.2.1 = false) ∧ ((if hasE t.1 = true then okE t.2.2.2.2.2.2.2.1 else t.2.2.2.2.2.2.2.1 = entP0) ∧ ((if hasL t.1 = true then okL12 t.2.2.2.2.2.2.2.2.1 else t.2.2.2.2.2.2.2.2.1 = (0, [])) ∧ ((if hasR t.1 = true then okR12 t.2.2.2.2.2.2.2.2.2 else t.2.2.2.2.2.2.2.2.2 = (0, 0, 0, [])))))))))))
theorem goodU : GoodP getM putU okU := by
  have S := goodB 1099511627776 (by decide)
  have I := goodB 1048576 (by decide)
  unfold getM putU okU
  refine GoodP.bind (p2 := fun (k : Int) (x : Int × Int × Int × Int × Int × Bool × EntP × (Int × List EntP) × (Int × Int × Int × List Int)) => numB x.1 ++ (numB x.2.1 ++ (numB x.2.2.1 ++ (numB x.2.2.2.1 ++ ((if hasN k = true then numB x.2.2.2.2.1 else []) ++ ((if hasF k = true then truthB x.2.2.2.2.2.1 else []) ++ ((if hasE k = true then putE x.2.2.2.2.2.2.1 else []) ++ ((if hasL k = true then numB x.2.2.2.2.2.2.2.1.1 ++ x.2.2.2.2.2.2.2.1.2.flatMap putE else []) ++ ((if hasR k = true then numB x.2.2.2.2.2.2.2.2.1 ++ (numB x.2.2.2.2.2.2.2.2.2.1 ++ (numB x.2.2.2.2.2.2.2.2.2.2.1 ++ x.2.2.2.2.2.2.2.2.2.2.2.flatMap numB)) else [])))))))))) (o2 := fun (k : Int) (x : Int × Int × Int × Int × Int × Bool × EntP × (Int × List EntP) × (Int × Int × Int × List Int)) => (0 ≤ x.1 ∧ x.1 < 1048576) ∧ ((0 ≤ x.2.1 ∧ x.2.1 < 1048576) ∧ ((0 ≤ x.2.2.1 ∧ x.2.2.1 < 1099511627776) ∧ ((0 ≤ x.2.2.2.1 ∧ x.2.2.2.1 < 1099511627776) ∧ ((if hasN k = true then 0 ≤ x.2.2.2.2.1 ∧ x.2.2.2.2.1 < 1099511627776 else x.2.2.2.2.1 = 0) ∧ ((if hasF k = true then True else x.2.2.2.2.2.1 = false) ∧ ((if hasE k = true then okE x.2.2.2.2.2.2.1 else x.2.2.2.2.2.2.1 = entP0) ∧ ((if hasL k = true then okL12 x.2.2.2.2.2.2.2.1 else x.2.2.2.2.2.2.2.1 = (0, [])) ∧ ((if hasR k = true then okR12 x.2.2.2.2.2.2.2.2 else x.2.2.2.2.2.2.2.2 = (0, 0, 0, []))))))))))) goodK fun k _ => ?_
  refine GoodP.bind (p2 := fun (_ : Int) (x : Int × Int × Int × Int × Bool × EntP × (Int × List EntP) × (Int × Int × Int × List Int)) => numB x.1 ++ (numB x.2.1 ++ (numB x.2.2.1 ++ ((if hasN k = true then numB x.2.2.2.1 else []) ++ ((if hasF k = true then truthB x.2.2.2.2.1 else []) ++ ((if hasE k = true then putE x.2.2.2.2.2.1 else []) ++ ((if hasL k = true then numB x.2.2.2.2.2.2.1.1 ++ x.2.2.2.2.2.2.1.2.flatMap putE else []) ++ ((if hasR k = true then numB x.2.2.2.2.2.2.2.1 ++ (numB x.2.2.2.2.2.2.2.2.1 ++ (numB x.2.2.2.2.2.2.2.2.2.1 ++ x.2.2.2.2.2.2.2.2.2.2.flatMap numB)) else []))))))))) (o2 := fun (_ : Int) (x : Int × Int × Int × Int × Bool × EntP × (Int × List EntP) × (Int × Int × Int × List Int)) => (0 ≤ x.1 ∧ x.1 < 1048576) ∧ ((0 ≤ x.2.1 ∧ x.2.1 < 1099511627776) ∧ ((0 ≤ x.2.2.1 ∧ x.2.2.1 < 1099511627776) ∧ ((if hasN k = true then 0 ≤ x.2.2.2.1 ∧ x.2.2.2.1 < 1099511627776 else x.2.2.2.1 = 0) ∧ ((if hasF k = true then True else x.2.2.2.2.1 = false) ∧ ((if hasE k = true then okE x.2.2.2.2.2.1 else x.2.2.2.2.2.1 = entP0) ∧ ((if hasL k = true then okL12 x.2.2.2.2.2.2.1 else x.2.2.2.2.2.2.1 = (0, [])) ∧ ((if hasR k = true then okR12 x.2.2.2.2.2.2.2 else x.2.2.2.2.2.2.2 = (0, 0, 0, [])))))))))) I fun _ _ => ?_
  refine GoodP.bind (p2 := fun (_ : Int) (x : Int × Int × Int × Bool × EntP × (Int × List EntP) × (Int × Int × Int × List Int)) => numB x.1 ++ (numB x.2.1 ++ ((if hasN k = true then numB x.2.2.1 else []) ++ ((if hasF k = true then truthB x.2.2.2.1 else []) ++ ((if hasE k = true then putE x.2.2.2.2.1 else []) ++ ((if hasL k = true then numB x.2.2.2.2.2.1.1 ++ x.2.2.2.2.2.1.2.flatMap putE else []) ++ ((if hasR k = true then numB x.2.2.2.2.2.2.1 ++ (numB x.2.2.2.2.2.2.2.1 ++ (numB x.2.2.2.2.2.2.2.2.1 ++ x.2.2.2.2.2.2.2.2.2.flatMap numB)) else [])))))))) (o2 := fun (_ : Int) (x : Int × Int × Int × Bool × EntP × (Int × List EntP) × (Int × Int × Int × List Int)) => (0 ≤ x.1 ∧ x.1 < 1099511627776) ∧ ((0 ≤ x.2.1 ∧ x.2.1 < 1099511627776) ∧ ((if hasN k = true then 0 ≤ x.2.2.1 ∧ x.2.2.1 < 1099511627776 else x.2.2.1 = 0) ∧ ((if hasF k = true then True else x.2.2.2.1 = false) ∧ ((if hasE k = true then okE x.2.2.2.2.1 else x.2.2.2.2.1 = entP0) ∧ ((if hasL k = true then okL12 x.2.2.2.2.2.1 else x.2.2.2.2.2.1 = (0, [])) ∧ ((if hasR k = true then okR12 x.2.2.2.2.2.2 else x.2.2.2.2.2.2 = (0, 0, 0, []))))))))) I fun _ _ => ?_
  refine GoodP.bind (p2 := fun (_ : Int) (x : Int × Int × Bool × EntP × (Int × List EntP) × (Int × Int × Int × List Int)) => numB x.1 ++ ((if hasN k = true then numB x.2.1 else []) ++ ((if hasF k = true then truthB x.2.2.1 else []) ++ ((if hasE k = true then putE x.2.2.2.1 else []) ++ ((if hasL k = true then numB x.2.2.2.2.1.1 ++ x.2.2.2.2.1.2.flatMap putE else []) ++ ((if hasR k = true then numB x.2.2.2.2.2.1 ++ (numB x.2.2.2.2.2.2.1 ++ (numB x.2.2.2.2.2.2.2.1 ++ x.2.2.2.2.2.2.2.2.flatMap numB)) else []))))))) (o2 := fun (_ : Int) (x : Int × Int × Bool × EntP × (Int × List EntP) × (Int × Int × Int × List Int)) => (0 ≤ x.1 ∧ x.1 < 1099511627776) ∧ ((if hasN k = true then 0 ≤ x.2.1 ∧ x.2.1 < 1099511627776 else x.2.1 = 0) ∧ ((if hasF k = true then True else x.2.2.1 = false) ∧ ((if hasE k = true then okE x.2.2.2.1 else x.2.2.2.1 = entP0) ∧ ((if hasL k = true then okL12 x.2.2.2.2.1 else x.2.2.2.2.1 = (0, [])) ∧ ((if hasR k = true then okR12 x.2.2.2.2.2 else x.2.2.2.2.2 = (0, 0, 0, [])))))))) S fun _ _ => ?_
  refine GoodP.bind (p2 := fun (_ : Int) (x : Int × Bool × EntP × (Int × List EntP) × (Int × Int × Int × List Int)) => (if hasN k = true then numB x.1 else []) ++ ((if hasF k = true then truthB x.2.1 else []) ++ ((if hasE k = true then putE x.2.2.1 else []) ++ ((if hasL k = true then numB x.2.2.2.1.1 ++ x.2.2.2.1.2.flatMap putE else []) ++ ((if hasR k = true then numB x.2.2.2.2.1 ++ (numB x.2.2.2.2.2.1 ++ (numB x.2.2.2.2.2.2.1 ++ x.2.2.2.2.2.2.2.flatMap numB)) else [])))))) (o2 := fun (_ : Int) (x : Int × Bool × EntP × (Int × List EntP) × (Int × Int × Int × List Int)) => (if hasN k = true then 0 ≤ x.1 ∧ x.1 < 1099511627776 else x.1 = 0) ∧ ((if hasF k = true then True else x.2.1 = false) ∧ ((if hasE k = true then okE x.2.2.1 else x.2.2.1 = entP0) ∧ ((if hasL k = true then okL12 x.2.2.2.1 else x.2.2.2.1 = (0, [])) ∧ ((if hasR k = true then okR12 x.2.2.2.2 else x.2.2.2.2 = (0, 0, 0, []))))))) S fun _ _ => ?_
  refine GoodP.bind (p2 := fun (_ : Int) (x : Bool × EntP × (Int × List EntP) × (Int × Int × Int × List Int)) => (if hasF k = true then truthB x.1 else []) ++ ((if hasE k = true then putE x.2.1 else []) ++ ((if hasL k = true then numB x.2.2.1.1 ++ x.2.2.1.2.flatMap putE else []) ++ ((if hasR k = true then numB x.2.2.2.1 ++ (numB x.2.2.2.2.1 ++ (numB x.2.2.2.2.2.1 ++ x.2.2.2.2.2.2.flatMap numB)) else []))))) (o2 := fun (_ : Int) (x : Bool × EntP × (Int × List EntP) × (Int × Int × Int × List Int)) => (if hasF k = true then True else x.1 = false) ∧ ((if hasE k = true then okE x.2.1 else x.2.1 = entP0) ∧ ((if hasL k = true then okL12 x.2.2.1 else x.2.2.1 = (0, [])) ∧ ((if hasR k = true then okR12 x.2.2.2 else x.2.2.2 = (0, 0, 0, [])))))) (S.opt (hasN k) 0) fun _ _ => ?_
  refine GoodP.bind (p2 := fun (_ : Bool) (x : EntP × (Int × List EntP) × (Int × Int × Int × List Int)) => (if hasE k = true then putE x.1 else []) ++ ((if hasL k = true then numB x.2.1.1 ++ x.2.1.2.flatMap putE else []) ++ ((if hasR k = true then numB x.2.2.1 ++ (numB x.2.2.2.1 ++ (numB x.2.2.2.2.1 ++ x.2.2.2.2.2.flatMap numB)) else [])))) (o2 := fun (_ : Bool) (x : EntP × (Int × List EntP) × (Int × Int × Int × List Int)) => (if hasE k = true then okE x.1 else x.1 = entP0) ∧ ((if hasL k = true then okL12 x.2.1 else x.2.1 = (0, [])) ∧ ((if hasR k = true then okR12 x.2.2 else x.2.2 = (0, 0, 0, []))))) (goodT.opt (hasF k) false) fun _ _ => ?_
  refine GoodP.bind (p2 := fun (_ : EntP) (x : (Int × List EntP) × (Int × Int × Int × List Int)) => (if hasL k = true then numB x.1.1 ++ x.1.2.flatMap putE else []) ++ ((if hasR k = true then numB x.2.1 ++ (numB x.2.2.1 ++ (numB x.2.2.2.1 ++ x.2.2.2.2.flatMap numB)) else []))) (o2 := fun (_ : EntP) (x : (Int × List EntP) × (Int × Int × Int × List Int)) => (if hasL k = true then okL12 x.1 else x.1 = (0, [])) ∧ ((if hasR k = true then okR12 x.2 else x.2 = (0, 0, 0, [])))) (goodE.opt (hasE k) entP0) fun _ _ => ?_
  refine GoodP.bind (p2 := fun (_ : (Int × List EntP)) (x : (Int × Int × Int × List Int)) => (if hasR k = true then numB x.1 ++ (numB x.2.1 ++ (numB x.2.2.1 ++ x.2.2.2.flatMap numB)) else [])) (o2 := fun (_ : (Int × List EntP)) (x : (Int × Int × Int × List Int)) => (if hasR k = true then okR12 x else x = (0, 0, 0, []))) (GoodP.opt (ok := okL12) goodL (hasL k) (0, [])) fun _ _ => ?_
  exact GoodP.opt (ok := okR12) goodR (hasR k) (0, 0, 0, [])
theorem put_un (m : MsgP) : putU (unM m) = putM m := rfl
theorem to_un (m : MsgP) : toM (unM m) = m := rfl
theorem inR_iff {n k : Int} : inR n k = true ↔ 0 ≤ n ∧ n ≤ k := decide_eq_true_iff
theorem okM_parts {m : MsgP} (h : okM m = true) : headR m = true ∧ fldB (hasN m.kind) (rN m) (bN m) = true ∧ fldB (hasF m.kind) true (bF m) = true ∧ fldB (hasE m.kind) (rE m) (bE m) = true ∧ fldB (hasL m.kind) (rL m) (bL m) = true ∧ fldB (hasR m.kind) (rR m) (bR m) = true := by
  unfold okM at h
  simpa only [Bool.and_eq_true] using h
theorem headR_parts {m : MsgP} (h : headR m = true) : (1 ≤ m.kind ∧ m.kind ≤ 17) ∧ (0 ≤ m.fr ∧ m.fr ≤ 1048575) ∧ (0 ≤ m.dst ∧ m.dst ≤ 1048575) ∧ (0 ≤ m.ep ∧ m.ep ≤ 1099511627775) ∧ (0 ≤ m.op ∧ m.op ≤ 1099511627775) := by
  unfold headR exK at h
  simp only [Bool.and_eq_true, inR_iff, decide_eq_true_eq] at h
  exact ⟨h.1.1.1.1, h.1.1.1.2, h.1.1.2, h.1.2, h.2⟩
theorem allE_iff {l : List EntP} : allE l = true ↔ ∀ x ∈ l, okE x := by unfold allE; simp
theorem okU_of {m : MsgP} (h : okM m = true) : okU (unM m) := by
  obtain ⟨h1, h2, h3, h4, h5, h6⟩ := okM_parts h
  obtain ⟨k, f, t, e, o⟩ := headR_parts h1
  refine ⟨k, ⟨f.1, by show m.fr < _; omega⟩, ⟨t.1, by show m.dst < _; omega⟩, ⟨e.1, by show m.ep < _; omega⟩, ⟨o.1, by show m.op < _; omega⟩, ?_, ?_, ?_, ?_, ?_⟩
  · show if hasN m.kind = true then 0 ≤ m.n ∧ m.n < 1099511627776 else m.n = 0
    unfold fldB rN bN at h2
    split
    · rename_i hc; rw [if_pos hc] at h2; have := inR_iff.1 h2; omega
    · rename_i hc; rw [if_neg hc] at h2; simpa using h2
  · show if hasF m.kind = true then True else m.flag = false
    unfold fldB bF at h3
    split
    · trivial
    · rename_i hc; rw [if_neg hc] at h3; simpa using h3
  · show if hasE m.kind = true then okE m.e else m.e = entP0
    unfold fldB rE bE at h4
    split
    · rename_i hc; rw [if_pos hc] at h4; exact of_decide_eq_true h4
    · rename_i hc; rw [if_neg hc] at h4; exact (noE_iff _).1 (of_decide_eq_true h4)
  · show if hasL m.kind = true then okL12 ((m.l.length : Int), m.l) else ((m.l.length : Int), m.l) = (0, [])
    unfold fldB rL bL at h5
    split
    · rename_i hc; rw [if_pos hc, Bool.and_eq_true, decide_eq_true_eq, allE_iff] at h5
      exact ⟨⟨by simp, by simp only; omega⟩, by simp, h5.2⟩
    · rename_i hc; rw [if_neg hc, beq_iff_eq] at h5
      have : m.l = [] := List.length_eq_zero_iff.1 h5
      rw [this]; rfl
  · show if hasR m.kind = true then okR12 (m.each, m.keep, (m.ns.length : Int), m.ns) else (m.each, m.keep, (m.ns.length : Int), m.ns) = (0, 0, 0, [])
    unfold fldB rR bR at h6
    split
    · rename_i hc; rw [if_pos hc, decide_eq_true_eq] at h6
      obtain ⟨o1, o2, o3, o4, o5, o6, o7, o8⟩ := h6
      exact ⟨⟨by simp only; omega, by simp only; omega⟩, ⟨by simp only; omega, by simp only; omega⟩, ⟨by simp, by simp only; omega⟩, by simp, fun y hy => by have := o7 y hy; omega⟩
    · rename_i hc; rw [if_neg hc, decide_eq_true_eq] at h6
      obtain ⟨o1, o2, o3⟩ := h6
      rw [o1, o2, o3]; rfl
theorem un_to {t : Tup} (h : okU t) : unM (toM t) = t := by
  obtain ⟨k, f, t2, e, o, n, fl, en, ⟨c, l⟩, ea, ke, cn, ns⟩ := t
  obtain ⟨_, _, _, _, _, _, _, _, h9, h10⟩ := h
  simp only at h9 h10
  have e1 : (l.length : Int) = c := by
    split at h9
    · have := h9.1.1; have h2 := h9.2.1; simp only at this h2; omega
    · simp only [Prod.mk.injEq] at h9; rw [h9.2, h9.1]; rfl
  have e2 : (ns.length : Int) = cn := by
    split at h10
    · have := h10.2.2.1.1; have h2 := h10.2.2.2.1; simp only at this h2; omega
    · simp only [Prod.mk.injEq] at h10; rw [h10.2.2.2, h10.2.2.1]; rfl
  unfold unM toM
  simp only [e1, e2]
def readM (bs : List UInt8) : MsgP × Int :=
  if (getM bs).2.2 ≠ 0 then (msgP0, (getM bs).2.2) else if (getM bs).2.1 < bs.length ∨ okM (toM (getM bs).1) = false then (msgP0, 11) else (toM (getM bs).1, 0)
theorem readM_put (m : MsgP) (h : okM m = true) : readM (putM m) = (m, 0) := by
  have e := goodU.lay (unM m) [] (okU_of h)
  rw [List.append_nil, put_un] at e
  unfold readM
  rw [e]
  simp only
  rw [if_neg (by simp), to_un, if_neg (by rw [h]; simp)]
theorem readM_more (m : MsgP) (h : okM m = true) (b : UInt8) : readM (putM m ++ [b]) = (msgP0, 11) := by
  have e := goodU.lay (unM m) [b] (okU_of h)
  rw [put_un] at e
  unfold readM
  rw [e]
  simp only
  rw [if_neg (by simp), if_pos (Or.inl (by simp))]
theorem readM_cut (m : MsgP) (h : okM m = true) (c : Nat) (hc : c < (putM m).length) : readM ((putM m).take c) = (msgP0, 12) := by
  have e := goodU.cut (unM m) c (okU_of h) (by rw [put_un]; exact hc)
  rw [put_un] at e
  unfold readM
  rw [if_pos (by rw [e]; decide), e]
theorem readM_back {bs : List UInt8} {m : MsgP} {e : Int} (h : readM bs = (m, e)) : (e ≠ 0 ∧ m = msgP0) ∨ (e = 0 ∧ okM m = true ∧ putM m = bs) := by
  unfold readM at h
  obtain ⟨⟨t, k, e1⟩, hg⟩ : ∃ y, getM bs = y := ⟨_, rfl⟩
  rw [hg] at h
  simp only at h
  by_cases he : e1 = 0
  · subst he
    rw [if_neg (by simp)] at h
    by_cases hc : k < bs.length ∨ okM (toM t) = false
    · rw [if_pos hc] at h
      simp only [Prod.mk.injEq] at h
      exact Or.inl ⟨by rw [← h.2]; decide, h.1.symm⟩
    · rw [if_neg hc] at h
      simp only [Prod.mk.injEq] at h
      obtain ⟨rfl, rfl⟩ := h
      obtain ⟨q1, q2, q3⟩ := goodU.back _ _ _ hg
      have hk : ¬ k < bs.length := fun h => hc (Or.inl h)
      have ho : okM (toM t) = true := by
        cases h : okM (toM t)
        · exact absurd (Or.inr h) hc
        · rfl
      refine Or.inr ⟨rfl, ho, ?_⟩
      rw [← put_un, un_to q1, ← q3, List.take_of_length_le (by omega)]
  · rw [if_pos he] at h
    simp only [Prod.mk.injEq] at h
    exact Or.inl ⟨by rw [← h.2]; exact he, h.1.symm⟩
theorem putM_inj {m m' : MsgP} (h : okM m = true) (h' : okM m' = true) (he : putM m = putM m') : m = m' := by
  have e1 := readM_put m h
  rw [he, readM_put m' h'] at e1
  exact (Prod.mk.inj e1).1.symm
/-- The program's steps. -/
def timesZ {α : Type} (st : Sp α) (brk : Bool) (n : Nat) : Sp (List α) := fun bs e => timesS st brk n [] bs e
theorem simZ {α : Type} {get : Pr α} {st : Sp α} (h : SimP get st) (brk : Bool) (n : Nat) : SimP (timesP get n) (timesZ st brk n) :=
  ⟨fun bs => (SimP.times h brk n [] bs).1, fun bs hh => by have := (SimP.times h brk n [] bs).2 hh; simpa [timesZ] using this, fun bs e he => times_no h brk n [] bs e he⟩
def stepL12 : Sp (Int × List EntP) := bindS (stepB 1001) fun n => timesZ stepE true n.toNat
def stepR12 : Sp (Int × Int × Int × List Int) := bindS (stepB 65) fun _ => bindS (stepB 65) fun _ => bindS (stepB 65) fun n => timesZ (stepB 1048576) false n.toNat
def finS : Sp Tup := bindS stepK12 fun k => bindS (stepB 1048576) fun _ => bindS (stepB 1048576) fun _ => bindS (stepB 1099511627776) fun _ => bindS (stepB 1099511627776) fun _ =>
  bindS (optS (hasN k) (stepB 1099511627776) 0) fun _ => bindS (optS (hasF k) stepT false) fun _ => bindS (optS (hasE k) stepE entP0) fun _ => bindS (optS (hasL k) stepL12 (0, [])) fun _ => optS (hasR k) stepR12 (0, 0, 0, [])
theorem simB (m : Int) : SimP (getB m) (stepB m) := SimP.stp _ _
theorem simT : SimP getT stepT := SimP.stp _ _
theorem simL : SimP getL12 stepL12 := (simB 1001).bind fun n => simZ simE true n.toNat
theorem simR : SimP getR12 stepR12 := (simB 65).bind fun _ => (simB 65).bind fun _ => (simB 65).bind fun n => simZ (simB 1048576) false n.toNat
theorem simM : SimP getM finS :=
  simK.bind fun k => (simB _).bind fun _ => (simB _).bind fun _ => (simB _).bind fun _ => (simB _).bind fun _ => ((simB _).opt _ _).bind fun _ => (simT.opt _ _).bind fun _ => (simE.opt _ _).bind fun _ => (simL.opt _ _).bind fun _ => simR.opt _ _
/-- What the program's reader tells at its end, behind the check. -/
def failZ (ok : Bool) (e : Int) : Int := if ok = true then e else if e = 0 then 11 else e
theorem fin_read {bs : List UInt8} {t : Tup} {rest : List UInt8} {e : Int} (h : finS bs 0 = (t, rest, e)) :
    (endZ rest (failZ (okM (toM t)) e) = 0 ∧ readM bs = (toM t, 0)) ∨ (endZ rest (failZ (okM (toM t)) e) ≠ 0 ∧ readM bs = (msgP0, endZ rest (failZ (okM (toM t)) e))) := by
  have q1 := simM.err bs
  have q2 := simM.val bs
  rw [h] at q1 q2
  obtain ⟨⟨t', k, e'⟩, hg⟩ : ∃ y, getM bs = y := ⟨_, rfl⟩
  rw [hg] at q1 q2
  simp only at q1 q2
  subst q1
  unfold readM
  rw [hg]
  simp only
  by_cases he : e = 0
  · subst he
    obtain ⟨rfl, rfl⟩ := q2 rfl
    rw [if_neg (by simp)]
    have hk : k ≤ bs.length ∨ bs.length < k := by omega
    cases ho : okM (toM t)
    · rw [if_pos (Or.inr rfl)]
      exact Or.inr ⟨by unfold endZ failZ; simp, by unfold endZ failZ; simp⟩
    · have hf : failZ true 0 = 0 := rfl
      rw [hf]
      by_cases hl : k < bs.length
      · have hz : endZ (bs.drop k) 0 = 11 := by unfold endZ; rw [if_pos rfl, if_neg (by rw [List.length_drop]; omega)]
        rw [hz, if_pos (Or.inl hl)]
        exact Or.inr ⟨by decide, rfl⟩
      · have hz : endZ (bs.drop k) 0 = 0 := by unfold endZ; rw [if_pos rfl, if_pos (by rw [List.length_drop]; omega)]
        rw [hz, if_neg (fun h => by rcases h with h | h; exact hl h; cases h)]
        exact Or.inl ⟨rfl, rfl⟩
  · rw [if_pos he]
    have hf : failZ (okM (toM t)) e = e := by
      unfold failZ
      repeat' split
      all_goals first | rfl | exact absurd ‹e = 0› he
    have hz : endZ rest e = e := if_neg he
    rw [hf, hz]
    exact Or.inr ⟨he, rfl⟩
end Go.Proofs.YtgmennblbeefhaaDoor
