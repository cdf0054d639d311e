/- LnV: Whether two values are the same; the place of a value among some that were met; its number. -/
import Derived.Test.YtlecbhnopokmnaaLnQ
import Derived.Test.YtlecbhnopokmnaaAppS
import Derived.Test.YtlecbhnopokmnaaSames
namespace Go.Proofs.Ytlecbhnopokmnaa
open Go.RowKit Mem
set_option maxRecDepth 10000
set_option maxHeartbeats 2000000
set_option linter.unusedVariables false
set_option linter.unusedSimpArgs false
open Ln
abbrev vaV (h : Bool) (A : Option Addr) (n c : Nat) : Value := .agg #[.bool h, .slice A n c]
theorem equal18 (B B' c c' n n' : Nat) (A A' : Option Addr) (xs ys : List UInt8) (w : World) (h : Row w B A (xs.map byteV)) (h' : Row w B' A' (ys.map byteV)) (hn : n = xs.length) (hn' : n' = ys.length) :
    Calls Try.prog 68 #[.slice A n c, .slice A' n' c'] w fun e w' => e = .returned (.bool (xs == ys)) ∧ w = w' := by
  subst hn; subst hn'
  have h1 := conv_row (P := Try.prog) c 43 9 5 Try.underlying43 Try.underlying5 Try.underlying9 h
  have h2 := conv_row (P := Try.prog) c' 43 9 5 Try.underlying43 Try.underlying5 Try.underlying9 h'
  clear h h'
  go_enter Try.func68, Try.ntmps68
  go_wp2
  go_ret
  exact ⟨rfl, rfl⟩
theorem equalv18 (b : Bool) {B B' c c' n n' : Nat} {A A' : Option Addr} {xs ys : List UInt8} {w : World} (hb : Hid ((xs == ys) = b)) (h : Row w B A (xs.map byteV)) (h' : Row w B' A' (ys.map byteV)) (hn : n = xs.length) (hn' : n' = ys.length) :
    Calls Try.prog 68 #[.slice A n c, .slice A' n' c'] w fun e w' => e = .returned (.bool b) ∧ w = w' := by
  have := equal18 B B' c c' n n' A A' xs ys w h h' hn hn'
  rw [hb.out] at this; exact this
def IsB18 (b : Bool) (w : World) (e : Ending) (w' : World) : Prop := e = .returned (.bool b) ∧ Below w.heap.size w w'
theorem normV_eq (h1 h2 : Bool) (xs ys : List UInt8) : decide (normV h1 xs = normV h2 ys) = (h1 == h2 && (!h1 || xs == ys)) := by
  cases h1 <;> cases h2 <;> simp [normV]
  by_cases h : xs = ys
  · subst h; simp
  · rw [decide_eq_false h]; exact (beq_eq_false_iff_ne.2 h).symm
theorem sameval18 (h1 h2 : Bool) (A A' : Option Addr) (xs ys : List UInt8) (c c' n n' : Nat) (hn : n = xs.length) (hn' : n' = ys.length) (w : World) (h : Row w w.heap.size A (xs.map byteV)) (h' : Row w w.heap.size A' (ys.map byteV)) :
    Calls Try.prog 46 #[vaV h1 A n c, vaV h2 A' n' c'] w (IsB18 (decide (normV h1 xs = normV h2 ys)) w) := by
  subst hn; subst hn'
  rw [normV_eq]
  have HB : Hid (Below w.heap.size w ((w.alloc (.cells #[.bool h1, .slice A xs.length c] 45)).alloc (.cells #[.bool h2, .slice A' ys.length c'] 45))) := Lib.hid (((Below.refl _ _).alloc (Nat.le_refl _) _).alloc (by simp) _)
  have HR := Lib.hid (h.below HB.out)
  have HR' := Lib.hid (h'.below HB.out)
  clear h h'
  cases h1 <;> cases h2
  · go_enter Try.func46, Try.ntmps46
    go_wp2
    go_ret
    exact ⟨rfl, HB.out⟩
  · go_enter Try.func46, Try.ntmps46
    go_wp2
    go_ret
    exact ⟨rfl, HB.out⟩
  · go_enter Try.func46, Try.ntmps46
    go_wp2
    go_ret
    exact ⟨rfl, HB.out⟩
  · obtain ⟨b, hb⟩ : ∃ b, (xs == ys) = b := ⟨_, rfl⟩
    have HE := Lib.hid hb
    rw [hb]
    clear hb
    cases b
    all_goals
      go_enter Try.func46, Try.ntmps46
      go_wp2_with (go_at_call 68; refine (equalv18 _ HE HR.out HR'.out rfl rfl).mono ?_; rintro e w' ⟨rfl, rfl⟩)
      go_ret
      exact ⟨rfl, HB.out⟩
/-- A value as it lies. -/
structure VaL where
  has : Bool
  A : Option Addr
  b : List UInt8
  c : Nat
def VaL.va (x : VaL) : Va := normV x.has x.b
abbrev VaL.v (x : VaL) : Value := vaV x.has x.A x.b.length x.c
def vaC (x : VaL) : List Value := [.bool x.has, .slice x.A x.b.length x.c]
abbrev vasC (l : List VaL) : List Value := l.flatMap vaC
theorem vasC_len (rs : List VaL) : (vasC rs).length = rs.length * 2 := by
  induction rs with
  | nil => rfl
  | cons p rs ih => simp only [vasC, List.flatMap_cons, List.length_append, vaC, List.length_cons, List.length_nil]; have := ih; unfold vasC at this; omega
theorem vasC_at (rs : List VaL) (i : Nat) (h : i < rs.length) (j : Nat) (hj : j < 2) : (vasC rs)[i * 2 + j]? = (vaC rs[i])[j]? := by
  induction rs generalizing i with
  | nil => simp at h
  | cons p rs ih =>
    have hc : vasC (p :: rs) = vaC p ++ vasC rs := rfl
    rw [hc]
    have hl : (vaC p).length = 2 := rfl
    rcases i with _ | i
    · rw [List.getElem?_append_left (by omega), Nat.zero_mul, Nat.zero_add]; rfl
    · rw [List.getElem?_append_right (by omega), hl, show (i + 1) * 2 + j - 2 = i * 2 + j by omega, ih i (by simpa using h)]
      rfl
theorem vas_open {w : World} {B : Nat} {A : Option Addr} {rs : List VaL} (h : Row w B A (vasC rs)) (hn : 0 < rs.length) :
    ∃ b o, A = some ⟨b, o, none⟩ ∧ b < B ∧ ∀ i (hi : i < rs.length), w.cell? ⟨b, o + i * 2, none⟩ = some (.bool rs[i].has) ∧ w.cell? ⟨b, o + i * 2 + 1, none⟩ = some (.slice rs[i].A rs[i].b.length rs[i].c) := by
  obtain ⟨b, o, hA, hb, hc⟩ := h.open_ (by rw [vasC_len]; omega)
  refine ⟨b, o, hA, hb, fun i hi => ?_⟩
  have key : ∀ j, j < 2 → w.cell? ⟨b, o + i * 2 + j, none⟩ = (vaC rs[i])[j]? := fun j hj => by
    have hlt : i * 2 + j < (vasC rs).length := by rw [vasC_len]; omega
    rw [show o + i * 2 + j = o + (i * 2 + j) by omega, hc (i * 2 + j) hlt, ← vasC_at rs i hi j hj, List.getElem?_eq_getElem hlt]
  exact ⟨key 0 (by omega), key 1 (by omega)⟩
/-- Their bytes lie below B. -/
def Vas_ (w : World) (B : Nat) (l : List VaL) : Prop := ∀ x ∈ l, Row w B x.A (x.b.map byteV)
/-- The closure that compares with a value in a box. -/
theorem isval_any (x y : VaL) (gv : Nat) (w : World) (hk : Blk w gv 45 #[.bool x.has, .slice x.A x.b.length x.c]) (hx : Row w w.heap.size x.A (x.b.map byteV)) (hy : Row w w.heap.size y.A (y.b.map byteV)) :
    Calls Try.prog 61 #[y.v, .pointer (some ⟨gv, 0, none⟩)] w (IsB18 (decide (y.va = x.va)) w) := by
  have HB := Lib.hid ((Below.refl w.heap.size w).alloc (Nat.le_refl _) (.cells #[.bool y.has, .slice y.A y.b.length y.c] 45))
  have HX := Lib.hid ((hx.below HB.out).more HB.out.size)
  have HY := Lib.hid ((hy.below HB.out).more HB.out.size)
  have k0 := hk.cell 0
  have k1 := hk.cell 1
  have hl := hk.lt
  clear hx hy hk
  go_enter Try.func61, Try.ntmps61
  go_wp2_with fail
  refine (sameval18 y.has x.has y.A x.A y.b x.b y.c x.c _ _ rfl rfl _ HY.out HX.out).mono ?_
  rintro e w2 ⟨rfl, hb⟩
  have HB2 := Lib.hid (HB.out.trans (hb.mono HB.out.size))
  clear hb
  go_wp2
  go_ret
  exact ⟨rfl, HB2.out⟩
end Go.Proofs.Ytlecbhnopokmnaa
