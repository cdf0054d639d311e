/- Sums of floating-point words: what a sum of any list comes to, and when it is none; what Go's '+' gives where it is none. No dump is imported here. -/
import Derived.Test.YtkfapcigfgfeaaaFlo2
import Derived.Deep.Draws
namespace Go.Proofs.Ytkfapcigfgfeaaa
namespace Flo
open Ieee
theorem read_word (b : Nat) : (b % 9223372036854775808 < 9218868437227405312 ∧ double.read b = .number (b / 9223372036854775808 % 2 == 1) (mg (b % 9223372036854775808)) (-1074 + (pl (b % 9223372036854775808) : Int))) ∨
    (b % 9223372036854775808 = 9218868437227405312 ∧ double.read b = .infinity (b / 9223372036854775808 % 2 == 1)) ∨
    (9218868437227405312 < b % 9223372036854775808 ∧ double.read b = .nan (b / 9223372036854775808 % 2 == 1) (b % 9223372036854775808 - 9218868437227405312)) := by
  rcases Nat.lt_trichotomy (b % 9223372036854775808) 9218868437227405312 with h | h | h
  · exact Or.inl ⟨h, read_num h⟩
  · exact Or.inr (Or.inl ⟨h, read_inf h⟩)
  · exact Or.inr (Or.inr ⟨h, read_nan h⟩)
theorem word_ok (neg : Bool) (r : Nat) (hr : r ≤ 9218868437227405312) : double.word neg r < 18446744073709551616 ∧ double.word neg r % 9223372036854775808 ≤ 9218868437227405312 := by
  have e1 : double.signWeight = 9223372036854775808 := by decide +kernel
  unfold Format.word
  rw [e1]
  split <;> omega
theorem nearest_ok (neg : Bool) (m : Nat) (p : Int) : double.nearest neg m p < 18446744073709551616 ∧ double.nearest neg m p % 9223372036854775808 ≤ 9218868437227405312 := by
  have e3 : double.infRung = 9218868437227405312 := by decide +kernel
  unfold Format.nearest
  dsimp only
  split
  · exact word_ok _ _ (by omega)
  · refine word_ok _ _ ?_
    rw [e3]; exact Nat.min_le_right _ _
theorem inf_bits {b : Nat} (hb : b < 18446744073709551616) (h : b % 9223372036854775808 = 9218868437227405312) : double.word (b / 9223372036854775808 % 2 == 1) 9218868437227405312 = b := by
  have := word_bits hb
  rw [h] at this; exact this
/-- What a sum is, where it is one: a word that is no NaN. -/
theorem add_ok {a b r : Nat} (h : double.add a b = some r) : r < 18446744073709551616 ∧ r % 9223372036854775808 ≤ 9218868437227405312 := by
  unfold Format.add at h
  rcases read_word a with ⟨_, ea⟩ | ⟨_, ea⟩ | ⟨_, ea⟩ <;> rcases read_word b with ⟨_, eb⟩ | ⟨_, eb⟩ | ⟨_, eb⟩ <;> rw [ea, eb] at h <;> simp only [Datum.sum] at h
  · simp only [Option.map_some, Option.some.injEq, Format.write] at h; subst h; exact nearest_ok _ _ _
  · simp only [Option.map_some, Option.some.injEq, write_inf] at h; subst h; exact word_ok _ _ (by omega)
  · cases h
  · simp only [Option.map_some, Option.some.injEq, write_inf] at h; subst h; exact word_ok _ _ (by omega)
  · split at h
    · simp only [Option.map_some, Option.some.injEq, write_inf] at h; subst h; exact word_ok _ _ (by omega)
    · cases h
  · cases h
  · cases h
  · cases h
  · cases h
theorem add_nan {a : Nat} (b : Nat) (h : 9218868437227405312 < a % 9223372036854775808) : double.add a b = none := by
  unfold Format.add; rw [read_nan h]; rfl
theorem add_nan' (a : Nat) {b : Nat} (h : 9218868437227405312 < b % 9223372036854775808) : double.add a b = none := by
  unfold Format.add; rw [read_nan h]
  rcases read_word a with ⟨_, ea⟩ | ⟨_, ea⟩ | ⟨_, ea⟩ <;> rw [ea] <;> rfl
/-- An infinity, and whatever: that infinity, or none. -/
theorem add_inf {a : Nat} (b : Nat) (ha : a < 18446744073709551616) (h : a % 9223372036854775808 = 9218868437227405312) : double.add a b = none ∨ double.add a b = some a := by
  have e := inf_bits ha h
  unfold Format.add
  rw [read_inf h]
  rcases read_word b with ⟨_, eb⟩ | ⟨_, eb⟩ | ⟨_, eb⟩ <;> rw [eb] <;> simp only [Datum.sum]
  · right; simp only [Option.map_some, write_inf, e]
  · split
    · right; simp only [Option.map_some, write_inf, e]
    · left; rfl
  · left; rfl
theorem add_inf' (a : Nat) {b : Nat} (hb : b < 18446744073709551616) (h : b % 9223372036854775808 = 9218868437227405312) : double.add a b = none ∨ double.add a b = some b := by
  have e := inf_bits hb h
  unfold Format.add
  rw [read_inf h]
  rcases read_word a with ⟨_, ea⟩ | ⟨_, ea⟩ | ⟨_, ea⟩ <;> rw [ea] <;> simp only [Datum.sum]
  · right; simp only [Option.map_some, write_inf, e]
  · split
    · rename_i hs; right; simp only [Option.map_some, write_inf, hs, e]
    · left; rfl
  · left; rfl

/-- The sum so far, or that it is none any more. -/
def addO (s : Option Int) (x : Int) : Option Int :=
  match s with
  | none => none
  | some t => match double.add (fnat t) (fnat x) with
    | none => none
    | some r => some (Int.ofNat r)
theorem addO_none (x : Int) : addO none x = none := rfl
theorem addO_some {t x : Int} {r : Nat} (h : double.add (fnat t) (fnat x) = some r) : addO (some t) x = some (r : Int) := by simp only [addO, h]; rfl
theorem addO_no {t x : Int} (h : double.add (fnat t) (fnat x) = none) : addO (some t) x = none := by simp only [addO, h]
def sumO (xs : List Int) : Option Int := xs.foldl addO (some 0)
theorem sum_snoc (xs : List Int) (k : Nat) (h : k < xs.length) : sumO (xs.take (k + 1)) = addO (sumO (xs.take k)) xs[k] := by
  rw [List.take_succ_eq_append_getElem h]; unfold sumO; rw [List.foldl_append]; rfl
theorem kind_of_nat {r : Nat} (h1 : r < 18446744073709551616) (h2 : r % 9223372036854775808 ≤ 9218868437227405312) : Word (r : Int) ∧ kindZ (r : Int) ≠ 3 := by
  have hw : Word (r : Int) := by unfold Word; omega
  refine ⟨hw, ?_⟩
  have := kind_cases hw
  omega
theorem sum_word (xs : List Int) : ∀ s, sumO xs = some s → Word s ∧ kindZ s ≠ 3 := by
  have gen : ∀ (xs : List Int) (o : Option Int), (∀ t, o = some t → Word t ∧ kindZ t ≠ 3) → ∀ s, xs.foldl addO o = some s → Word s ∧ kindZ s ≠ 3 := by
    intro xs
    induction xs with
    | nil => intro o ho s h; exact ho s h
    | cons x xs ih =>
      intro o ho s h
      refine ih (addO o x) (fun t ht => ?_) s h
      rcases o with _ | u
      · cases ht
      · cases hr : double.add (fnat u) (fnat x) with
        | none => rw [addO_no hr] at ht; cases ht
        | some r =>
          rw [addO_some hr] at ht
          injection ht with ht
          subst ht
          obtain ⟨h1, h2⟩ := add_ok hr
          exact kind_of_nat h1 h2
  exact gen xs (some 0) (fun t ht => by injection ht with ht; subst ht; exact ⟨word_zero, by decide⟩)
/-- The word of a sum: the sum itself, or some NaN. -/
def isSum (o : Option Int) (s : Int) : Prop := Word s ∧ ((o = some s ∧ kindZ s ≠ 3) ∨ (o = none ∧ kindZ s = 3))
/-- The bits that Go's '+' gives where the sum is none, as the tape has them. -/
def nanW (w : World) (x y : Nat) : Nat := Question.cut (.nanBits .f64 x y) (w.tape w.drawn (.nanBits .f64 x y))
theorem nanW_nan (w : World) (x y : Nat) : nanW w x y < 18446744073709551616 ∧ 9218868437227405312 < nanW w x y % 9223372036854775808 := by
  unfold nanW Question.cut
  generalize w.tape w.drawn (.nanBits .f64 x y) = t
  dsimp only
  have h := Nat.mod_lt (t / 2) (show 0 < 2 ^ 52 - 1 by decide)
  have e : 2 ^ 52 - 1 = 4503599627370495 := by decide
  have e2 : (2 : Nat) ^ 63 = 9223372036854775808 := by decide
  rw [e] at h
  rw [e, e2]
  generalize t / 2 % 4503599627370495 = m at *
  rcases Nat.mod_two_eq_zero_or_one t with h2 | h2 <;> rw [h2] <;> omega
theorem run_add_none {P : Program} (w : World) (t : TypeId) (x y : Nat) (h : double.add x y = none) : (binOp .add t (.float .f64 x) (.float .f64 y)).run P w = .ok (.float .f64 (nanW w x y)) w.drew := by
  have h' : FloatKind.f64.format.add x y = none := h
  simp [binOp, Op.floatArith, h', choose, Sem.run, Question.forced]
  rfl
theorem run_add_some {P : Program} (w : World) (t : TypeId) (x y r : Nat) (h : double.add x y = some r) : (binOp .add t (.float .f64 x) (.float .f64 y)).run P w = .ok (.float .f64 r) w :=
  run_float_arith (P := P) w .add t .f64 x y r h
/-- One step of a sum, whatever the word so far: its run, and what it is the word of. -/
theorem sum_step {P : Program} (t : TypeId) (o : Option Int) (s x : Int) (hs : isSum o s) (w : World) :
    ∃ (r : Int) (q : Nat), (binOp .add t (.float .f64 (fnat s)) (.float .f64 (fnat x))).run P w = .ok (.float .f64 (fnat r)) (w.drewN q) ∧ isSum (addO o x) r := by
  obtain ⟨ws, ⟨ho, hk⟩ | ⟨ho, hk⟩⟩ := hs
  · subst ho
    cases hr : double.add (fnat s) (fnat x) with
    | some r =>
      obtain ⟨h1, h2⟩ := add_ok hr
      obtain ⟨h3, h4⟩ := kind_of_nat h1 h2
      refine ⟨(r : Int), 0, run_add_some w t _ _ _ hr, h3, Or.inl ⟨?_, h4⟩⟩
      exact addO_some hr
    | none =>
      obtain ⟨h1, h2⟩ := nanW_nan w (fnat s) (fnat x)
      have hw : Word (nanW w (fnat s) (fnat x) : Int) := by unfold Word; omega
      refine ⟨(nanW w (fnat s) (fnat x) : Int), 1, run_add_none w t _ _ hr, hw, Or.inr ⟨?_, ?_⟩⟩
      · exact addO_no hr
      · have := kind_cases hw; omega
  · subst ho
    have hr : double.add (fnat s) (fnat x) = none := add_nan _ (rung_nan ws hk)
    obtain ⟨h1, h2⟩ := nanW_nan w (fnat s) (fnat x)
    have hw : Word (nanW w (fnat s) (fnat x) : Int) := by unfold Word; omega
    refine ⟨(nanW w (fnat s) (fnat x) : Int), 1, run_add_none w t _ _ hr, hw, Or.inr ⟨rfl, ?_⟩⟩
    have := kind_cases hw; omega
theorem isSum_zero : isSum (sumO []) 0 := ⟨word_zero, Or.inl ⟨rfl, by decide⟩⟩

/-! When the document says that there is none: a NaN is among them, or both infinities are. -/
theorem sum_nan (xs : List Int) (x : Int) (hx : x ∈ xs) (hw : Word x) (hk : kindZ x = 3) : sumO xs = none := by
  have none_stays : ∀ (ys : List Int), ys.foldl addO none = none := by
    intro ys; induction ys with
    | nil => rfl
    | cons y ys ih => exact ih
  obtain ⟨l, r, rfl⟩ := List.append_of_mem hx
  unfold sumO
  rw [List.foldl_append, List.foldl_cons]
  have : addO (l.foldl addO (some 0)) x = none := by
    rcases l.foldl addO (some 0) with _ | t
    · rfl
    · exact addO_no (add_nan' _ (rung_nan hw hk))
  rw [this, none_stays]
theorem sum_inf (xs : List Int) (x : Int) (hx : x ∈ xs) (hw : Word x) (hk : kindZ x = 2) : sumO xs = none ∨ sumO xs = some x := by
  have hr : fnat x % 9223372036854775808 = 9218868437227405312 := by
    have := fnat_mod hw; have := kind_cases hw; omega
  have stays : ∀ (ys : List Int) (o : Option Int), (o = none ∨ o = some x) → (ys.foldl addO o = none ∨ ys.foldl addO o = some x) := by
    intro ys; induction ys with
    | nil => intro o h; exact h
    | cons y ys ih =>
      intro o h
      refine ih _ ?_
      rcases h with rfl | rfl
      · exact Or.inl rfl
      · rcases add_inf (fnat y) (fnat_lt hw) hr with e | e
        · left; exact addO_no e
        · right; rw [addO_some e, fnat_cast hw]
  obtain ⟨l, r, rfl⟩ := List.append_of_mem hx
  unfold sumO
  rw [List.foldl_append, List.foldl_cons]
  refine stays r _ ?_
  rcases l.foldl addO (some 0) with _ | t
  · exact Or.inl rfl
  · rcases add_inf' (fnat t) (fnat_lt hw) hr with e | e
    · left; exact addO_no e
    · right; rw [addO_some e, fnat_cast hw]
theorem sum_both (xs : List Int) (x y : Int) (hx : x ∈ xs) (hwx : Word x) (hkx : kindZ x = 2) (hy : y ∈ xs) (hwy : Word y) (hky : kindZ y = 2) (hne : x ≠ y) : sumO xs = none := by
  rcases sum_inf xs x hx hwx hkx with h | h
  · exact h
  · rcases sum_inf xs y hy hwy hky with h' | h'
    · exact h'
    · rw [h] at h'; injection h' with h'; exact absurd h' hne
/-- A count as a float, up to 200: a number above nought. -/
theorem count_float (n : Nat) (h0 : 0 < n) (h1 : n ≤ 200) : ∃ c : Int, floatOfInt .f64 (n : Int) = fnat c ∧ Word c ∧ kindZ c = 1 := by
  have h : ∀ n : Nat, n ≤ 200 → 0 < n → floatOfInt .f64 (n : Int) < 9218868437227405312 ∧ 0 < floatOfInt .f64 (n : Int) := by decide +kernel
  obtain ⟨h2, h3⟩ := h n h1 h0
  have hw : Word ((floatOfInt .f64 (n : Int) : Nat) : Int) := by unfold Word; omega
  refine ⟨((floatOfInt .f64 (n : Int) : Nat) : Int), rfl, hw, ?_⟩
  have := kind_cases hw; omega
end Flo
end Go.Proofs.Ytkfapcigfgfeaaa
