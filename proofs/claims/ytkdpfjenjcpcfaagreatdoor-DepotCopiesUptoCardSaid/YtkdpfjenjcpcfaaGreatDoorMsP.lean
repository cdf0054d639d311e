/- MsP: Messages, pure: which may be, their bytes, what is read of bytes; what is laid is read as it was. -/
import Derived.Test.YtkdpfjenjcpcfaaGreatDoorTgB
import Derived.Test.YtkdpfjenjcpcfaaGreatDoorRgA
namespace Go.Proofs.YtkdpfjenjcpcfaaGreatDoor
open Go.RowKit Mem Be Rg
set_option maxRecDepth 10000
set_option maxHeartbeats 4000000
set_option linter.unusedVariables false
section
variable {α β : Type}
abbrev Pr (α : Type) := List UInt8 → α × Nat × Int
/-- A field: what is laid is read as it was; what was read lies there so; cut short something is missing. -/
structure GoodP (get : Pr α) (put : α → List UInt8) (ok : α → Prop) : Prop where
  lay : ∀ x more, ok x → get (put x ++ more) = (x, (put x).length, 0)
  back : ∀ bs x k, get bs = (x, k, 0) → ok x ∧ k ≤ bs.length ∧ bs.take k = put x
  cut : ∀ x c, ok x → c < (put x).length → (get ((put x).take c)).2.2 = 12
def bindP [Inhabited β] (g1 : Pr α) (g2 : α → Pr β) : Pr (α × β) := fun bs =>
  if (g1 bs).2.2 ≠ 0 then (((g1 bs).1, default), 0, (g1 bs).2.2)
  else (((g1 bs).1, (g2 (g1 bs).1 (bs.drop (g1 bs).2.1)).1), (g1 bs).2.1 + (g2 (g1 bs).1 (bs.drop (g1 bs).2.1)).2.1, (g2 (g1 bs).1 (bs.drop (g1 bs).2.1)).2.2)
theorem bind_yes [Inhabited β] {g1 : Pr α} {g2 : α → Pr β} {bs : List UInt8} {a : α} {k : Nat} (h : g1 bs = (a, k, 0)) :
    bindP g1 g2 bs = ((a, (g2 a (bs.drop k)).1), k + (g2 a (bs.drop k)).2.1, (g2 a (bs.drop k)).2.2) := by
  unfold bindP; rw [h]; exact if_neg (by simp)
theorem bind_no [Inhabited β] {g1 : Pr α} {g2 : α → Pr β} {bs : List UInt8} (h : (g1 bs).2.2 ≠ 0) : (bindP g1 g2 bs).2.2 = (g1 bs).2.2 := by
  unfold bindP; rw [if_pos h]
theorem GoodP.bind [Inhabited β] {g1 : Pr α} {g2 : α → Pr β} {p1 : α → List UInt8} {p2 : α → β → List UInt8} {o1 : α → Prop} {o2 : α → β → Prop} (h1 : GoodP g1 p1 o1) (h2 : ∀ a, o1 a → GoodP (g2 a) (p2 a) (o2 a)) :
    GoodP (bindP g1 g2) (fun x => p1 x.1 ++ p2 x.1 x.2) (fun x => o1 x.1 ∧ o2 x.1 x.2) where
  lay := fun x more ⟨ha, hb⟩ => by
    obtain ⟨a, b⟩ := x
    have e1 := h1.lay a (p2 a b ++ more) ha
    have e2 := (h2 a ha).lay b more hb
    rw [List.append_assoc, bind_yes e1, List.drop_left, e2, List.length_append]
  back := fun bs x k h => by
    obtain ⟨a, b⟩ := x
    obtain ⟨⟨a', k1, e1⟩, hg⟩ : ∃ y, g1 bs = y := ⟨_, rfl⟩
    by_cases he : e1 = 0
    · subst he
      rw [bind_yes hg] at h
      obtain ⟨⟨b', k2, e2⟩, hg2⟩ : ∃ y, g2 a' (bs.drop k1) = y := ⟨_, rfl⟩
      rw [hg2] at h
      simp only [Prod.mk.injEq] at h
      obtain ⟨⟨rfl, rfl⟩, rfl, rfl⟩ := h
      obtain ⟨q1, q2, q3⟩ := h1.back _ _ _ hg
      obtain ⟨r1, r2, r3⟩ := (h2 _ q1).back _ _ _ hg2
      rw [List.length_drop] at r2
      refine ⟨⟨q1, r1⟩, by omega, ?_⟩
      rw [List.take_add, q3, r3]
    · have hn : (g1 bs).2.2 ≠ 0 := by rw [hg]; exact he
      have := bind_no (g2 := g2) hn
      rw [h] at this
      exact absurd this.symm hn
  cut := fun x c ⟨ha, hb⟩ hc => by
    obtain ⟨a, b⟩ := x
    simp only [List.length_append] at hc
    rcases Nat.lt_or_ge c (p1 a).length with h | h
    · have e1 := h1.cut a c ha h
      have e : (p1 a ++ p2 a b).take c = (p1 a).take c := List.take_append_of_le_length (by omega)
      show (bindP g1 g2 ((p1 a ++ p2 a b).take c)).2.2 = 12
      rw [e, bind_no (by rw [e1]; decide), e1]
    · have e : (p1 a ++ p2 a b).take c = p1 a ++ (p2 a b).take (c - (p1 a).length) := by rw [List.take_append, List.take_of_length_le h]
      show (bindP g1 g2 ((p1 a ++ p2 a b).take c)).2.2 = 12
      rw [e, bind_yes (h1.lay a _ ha), List.drop_left]
      exact (h2 a ha).cut b _ hb (by omega)
/-- Steps of a reader that stops at what is wrong first. -/
abbrev Sp (α : Type) := List UInt8 → Int → α × List UInt8 × Int
structure SimP (get : Pr α) (st : Sp α) : Prop where
  err : ∀ bs, (st bs 0).2.2 = (get bs).2.2
  val : ∀ bs, (get bs).2.2 = 0 → (st bs 0).1 = (get bs).1 ∧ (st bs 0).2.1 = bs.drop (get bs).2.1
  no : ∀ bs e, e ≠ 0 → (st bs e).2.2 = e
def bindS (s1 : Sp α) (s2 : α → Sp β) : Sp (α × β) := fun bs e =>
  (((s1 bs e).1, (s2 (s1 bs e).1 (s1 bs e).2.1 (s1 bs e).2.2).1), (s2 (s1 bs e).1 (s1 bs e).2.1 (s1 bs e).2.2).2.1, (s2 (s1 bs e).1 (s1 bs e).2.1 (s1 bs e).2.2).2.2)
theorem SimP.bind [Inhabited β] {g1 : Pr α} {g2 : α → Pr β} {s1 : Sp α} {s2 : α → Sp β} (h1 : SimP g1 s1) (h2 : ∀ a, SimP (g2 a) (s2 a)) : SimP (bindP g1 g2) (bindS s1 s2) := by
  have key : ∀ bs, (bindS s1 s2 bs 0).2.2 = (bindP g1 g2 bs).2.2 ∧ ((bindP g1 g2 bs).2.2 = 0 → (bindS s1 s2 bs 0).1 = (bindP g1 g2 bs).1 ∧ (bindS s1 s2 bs 0).2.1 = bs.drop (bindP g1 g2 bs).2.1) := fun bs => by
    obtain ⟨⟨a, k1, e1⟩, hg⟩ : ∃ y, g1 bs = y := ⟨_, rfl⟩
    have q1 := h1.err bs
    have q2 := h1.val bs
    rw [hg] at q1 q2
    simp only at q1 q2
    by_cases he : e1 = 0
    · subst he
      obtain ⟨p1, p2⟩ := q2 rfl
      rw [bind_yes hg]
      unfold bindS
      rw [p1, p2, q1]
      simp only
      refine ⟨(h2 a).err _, fun h => ?_⟩
      obtain ⟨r1, r2⟩ := (h2 a).val _ h
      rw [r1, r2, List.drop_drop]
      exact ⟨rfl, rfl⟩
    · have hn : (g1 bs).2.2 ≠ 0 := by rw [hg]; exact he
      have hb := bind_no (g2 := g2) hn
      rw [hg] at hb
      simp only at hb
      refine ⟨?_, fun h => absurd (hb.symm.trans h) he⟩
      rw [hb]
      unfold bindS
      simp only
      rw [q1]
      exact (h2 _).no _ _ he
  exact ⟨fun bs => (key bs).1, fun bs => (key bs).2, fun bs e he => by
    unfold bindS
    simp only
    rw [h1.no bs e he]
    exact (h2 _).no _ _ he⟩
end
instance entInh12 : Inhabited EntP := ⟨entP0⟩
/-- The program's kind: told that something is wrong, if it does not exist. -/
def exK (k : Int) : Bool := decide (1 ≤ k ∧ k ≤ 17)
/-- A message. -/
structure MsgP where
  kind : Int
  fr : Int
  dst : Int
  ep : Int
  op : Int
  n : Int
  flag : Bool
  e : EntP
  l : List EntP
  ns : List Int
  each : Int
  keep : Int
def hasN (k : Int) : Bool := k == 2 || k == 6 || k == 9 || k == 12 || k == 13 || k == 14
def hasF (k : Int) : Bool := k == 2 || k == 13 || k == 14
def hasE (k : Int) : Bool := k == 1 || k == 2 || k == 3 || k == 4 || k == 5 || k == 7 || k == 8 || k == 9 || k == 10 || k == 11
def hasL (k : Int) : Bool := k == 13 || k == 14
def hasR (k : Int) : Bool := k == 16
instance okE_dec (x : EntP) : Decidable (okE x) := inferInstanceAs (Decidable (_ = _))
def noE (x : EntP) : Prop := x.k = [] ∧ x.s = 0 ∧ x.u = 0 ∧ x.o = 0 ∧ x.has = false ∧ x.v = []
instance noE_dec (x : EntP) : Decidable (noE x) := inferInstanceAs (Decidable (_ ∧ _))
def rN (m : MsgP) : Bool := inR m.n 1099511627775
def bN (m : MsgP) : Bool := m.n == 0
def bF (m : MsgP) : Bool := !m.flag
def rE (m : MsgP) : Bool := decide (okE m.e)
def bE (m : MsgP) : Bool := decide (noE m.e)
def allE (l : List EntP) : Bool := l.all fun x => decide (okE x)
def rL (m : MsgP) : Bool := decide (m.l.length ≤ 1000) && allE m.l
def bL (m : MsgP) : Bool := m.l.length == 0
def rR (m : MsgP) : Bool := decide (OkR m.ns m.each m.keep)
def bR (m : MsgP) : Bool := decide (m.ns = [] ∧ m.each = 0 ∧ m.keep = 0)
def headR (m : MsgP) : Bool := exK m.kind && inR m.fr 1048575 && inR m.dst 1048575 && inR m.ep 1099511627775 && inR m.op 1099511627775
def fldB (h r b : Bool) : Bool := if h = true then r else b
/-- May it be? -/
def okM (m : MsgP) : Bool := headR m && (fldB (hasN m.kind) (rN m) (bN m) && (fldB (hasF m.kind) true (bF m) && (fldB (hasE m.kind) (rE m) (bE m) && (fldB (hasL m.kind) (rL m) (bL m) && fldB (hasR m.kind) (rR m) (bR m)))))
def checkM (m : MsgP) : Int := if okM m = true then 0 else 2
theorem allE_iff {l : List EntP} : allE l = true ↔ ∀ x ∈ l, okE x := by unfold allE; simp
end Go.Proofs.YtkdpfjenjcpcfaaGreatDoor
