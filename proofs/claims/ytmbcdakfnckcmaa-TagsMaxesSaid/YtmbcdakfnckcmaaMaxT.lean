/- Rows of tags, and the greatest one: what it is. -/
import Derived.Test.YtmbcdakfnckcmaaOrderT
import Derived.Test.YtmbcdakfnckcmaaOpenE
import Derived.Deep.Slices
import Derived.Deep.Fields
namespace Go.Proofs.Ytmbcdakfnckcmaa
open Go.RowKit Mem Be Go.ChangeShapes Go.WideShapes Go.Deep
set_option maxRecDepth 10000
set_option maxHeartbeats 1000000
abbrev Tg := Int × Int × Int
def cT (p q : Tg) : Int := cmpT p.1 p.2.1 p.2.2 q.1 q.2.1 q.2.2
def tgV (p : Tg) : Value := tagV p.1 p.2.1 p.2.2
def tgC (p : Tg) : List Value := [.int .i64 p.1, .int .i64 p.2.1, .int .i64 p.2.2]
theorem cT_anti (p q : Tg) : cT q p = - cT p q := cmpT_anti _ _ _ _ _ _
theorem cT_trans {p q r : Tg} (h1 : 0 ≤ cT p q) (h2 : 0 ≤ cT q r) : 0 ≤ cT p r := cmpT_trans h1 h2
theorem cT_zero {p q : Tg} (h : cT p q = 0) : p = q := by
  have := (cmpT_zero _ _ _ _ _ _).1 h
  unfold eqT at this
  simp only [Bool.and_eq_true, beq_iff_eq] at this
  obtain ⟨⟨h1, h2⟩, h3⟩ := this
  exact Prod.ext h1 (Prod.ext h2 h3)
theorem cT_self (p : Tg) : cT p p = 0 := by have := cT_anti p p; omega
/-- The greatest of a row. -/
def MaxIs (l : List Tg) (m : Tg) : Prop := m ∈ l ∧ ∀ x ∈ l, 0 ≤ cT m x
theorem max_one {l : List Tg} {m n : Tg} (h : MaxIs l m) (h' : MaxIs l n) : m = n := by
  have a := h.2 n h'.1
  have b := h'.2 m h.1
  have := cT_anti m n
  exact cT_zero (by omega)
theorem max_ex : ∀ l : List Tg, l ≠ [] → ∃ m, MaxIs l m
  | [], h => absurd rfl h
  | [p], _ => ⟨p, by simp, fun x hx => by
      have : x = p := by simpa using hx
      subst this; rw [cT_self]; omega⟩
  | p :: q :: l, _ => by
    obtain ⟨m, hm, hx⟩ := max_ex (q :: l) (by simp)
    by_cases h : 0 ≤ cT m p
    · refine ⟨m, by simp at hm ⊢; exact Or.inr hm, fun x hxm => ?_⟩
      rcases List.mem_cons.1 hxm with rfl | hxm
      · exact h
      · exact hx x hxm
    · have hp : 0 ≤ cT p m := by have := cT_anti m p; omega
      refine ⟨p, by simp, fun x hxm => ?_⟩
      rcases List.mem_cons.1 hxm with rfl | hxm
      · rw [cT_self]; omega
      · exact cT_trans hp (hx x hxm)
theorem max_self (m : Tg) : MaxIs [m] m := ⟨by simp, fun x hx => by
  have : x = m := by simpa using hx
  subst this; rw [cT_self]; omega⟩
/-- Of two rows. -/
theorem max_app {a b : List Tg} {m p q : Tg} (h : MaxIs (a ++ b) m) (ha : MaxIs a p) (hb : MaxIs b q) : MaxIs [p, q] m := by
  have hp := h.2 p (List.mem_append.2 (Or.inl ha.1))
  have hq := h.2 q (List.mem_append.2 (Or.inr hb.1))
  refine ⟨?_, fun x hx => ?_⟩
  · rcases List.mem_append.1 h.1 with hm | hm
    · have := ha.2 m hm
      have e : m = p := cT_zero (by have := cT_anti m p; omega)
      simp [e]
    · have := hb.2 m hm
      have e : m = q := cT_zero (by have := cT_anti m q; omega)
      simp [e]
  · have : x = p ∨ x = q := by simpa using hx
    rcases this with rfl | rfl
    · exact hp
    · exact hq
theorem max_take_first {l : List Tg} {p : Tg} (h : l[0]? = some p) : MaxIs (l.take 1) p := by
  cases l with
  | nil => simp at h
  | cons a l => simp at h; subst h; exact max_self a
theorem max_step_keep {l : List Tg} {m : Tg} {k : Nat} (hk : k < l.length) (h : MaxIs (l.take k) m) (hc : cT l[k] m ≤ 0) : MaxIs (l.take (k + 1)) m := by
  rw [List.take_succ_eq_append_getElem hk]
  refine ⟨List.mem_append.2 (Or.inl h.1), fun x hx => ?_⟩
  rcases List.mem_append.1 hx with hx | hx
  · exact h.2 x hx
  · have : x = l[k] := by simpa using hx
    subst this
    have := cT_anti l[k] m; omega
theorem max_step_new {l : List Tg} {m : Tg} {k : Nat} (hk : k < l.length) (h : MaxIs (l.take k) m) (hc : 0 < cT l[k] m) : MaxIs (l.take (k + 1)) l[k] := by
  rw [List.take_succ_eq_append_getElem hk]
  refine ⟨List.mem_append.2 (Or.inr (by simp)), fun x hx => ?_⟩
  rcases List.mem_append.1 hx with hx | hx
  · exact cT_trans (by omega) (h.2 x hx)
  · have : x = l[k] := by simpa using hx
    subst this
    rw [cT_self]; omega
/-- A row of tags, its cells one behind the other. -/
abbrev tgsC (ts : List Tg) : List Value := ts.flatMap tgC
theorem tgsC_len (ts : List Tg) : (tgsC ts).length = ts.length * 3 := by
  induction ts with
  | nil => rfl
  | cons p ts ih => simp only [tgsC, List.flatMap_cons, List.length_append, tgC, List.length_cons, List.length_nil]; have := ih; unfold tgsC at this; omega
theorem tgsC_at (ts : List Tg) (i : Nat) (h : i < ts.length) (j : Nat) (hj : j < 3) : (tgsC ts)[i * 3 + j]? = (tgC ts[i])[j]? := by
  induction ts generalizing i with
  | nil => simp at h
  | cons p ts ih =>
    have hc : tgsC (p :: ts) = tgC p ++ tgsC ts := rfl
    rw [hc]
    have hl : (tgC p).length = 3 := rfl
    rcases i with _ | i
    · rw [List.getElem?_append_left (by omega), Nat.zero_mul, Nat.zero_add]; rfl
    · rw [List.getElem?_append_right (by omega), hl, show (i + 1) * 3 + j - 3 = i * 3 + j by omega, ih i (by simpa using h)]
      rfl
theorem rowT_open {w : World} {B : Nat} {A : Option Addr} {ts : List Tg} (h : Row w B A (tgsC ts)) (hn : 0 < ts.length) :
    ∃ b o, A = some ⟨b, o, none⟩ ∧ b < B ∧ ∀ i (hi : i < ts.length), w.cell? ⟨b, o + i * 3, none⟩ = some (.int .i64 ts[i].1) ∧ w.cell? ⟨b, o + i * 3 + 1, none⟩ = some (.int .i64 ts[i].2.1) ∧ w.cell? ⟨b, o + i * 3 + 2, none⟩ = some (.int .i64 ts[i].2.2) := by
  obtain ⟨b, o, hA, hb, hc⟩ := h.open_ (by rw [tgsC_len]; omega)
  refine ⟨b, o, hA, hb, fun i hi => ?_⟩
  have key : ∀ j, j < 3 → w.cell? ⟨b, o + i * 3 + j, none⟩ = (tgC ts[i])[j]? := fun j hj => by
    have hlt : i * 3 + j < (tgsC ts).length := by rw [tgsC_len]; omega
    rw [show o + i * 3 + j = o + (i * 3 + j) by omega, hc (i * 3 + j) hlt, ← tgsC_at ts i hi j hj, List.getElem?_eq_getElem hlt]
  exact ⟨key 0 (by omega), key 1 (by omega), key 2 (by omega)⟩
end Go.Proofs.Ytmbcdakfnckcmaa
