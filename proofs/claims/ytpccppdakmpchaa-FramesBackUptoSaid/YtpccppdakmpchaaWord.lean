/- Words of 64 bits: one step of the sum by a byte, stirring and its turning back, sums of bytes, and how one byte that is another one makes another sum. No dump is imported here. -/
import Derived.Test.YtpccppdakmpchaaBe
import Derived.Laws.Bits64
import Derived.Laws.BitsAllLaws
namespace Go.Proofs.Ytpccppdakmpchaa
open Go.RowKit Mem Be
namespace Word
def M : Nat := 18446744073709551616
def U64 (x : Nat) : Prop := x < 18446744073709551616
def stepN (h c : Nat) : Nat := (h ^^^ c) * 1099511628211 % 18446744073709551616
def foldN (h : Nat) : Nat := h ^^^ h / 8589934592
def stirN (h : Nat) : Nat := foldN (foldN (foldN h * 18397679294719823053 % 18446744073709551616) * 14181476777654086739 % 18446744073709551616)
def unstirN (h : Nat) : Nat := foldN (foldN (foldN h * 11291846944257947611 % 18446744073709551616) * 5725274745694666757 % 18446744073709551616)
def basisN : Nat := 14695981039346656037
def sumN (h : Nat) (bs : List UInt8) : Nat := bs.foldl (fun h b => stepN h b.toNat) h
def checkN (h : Nat) : Nat := h / 4294967296 ^^^ h % 4294967296
theorem xor_lt (a b : Nat) (ha : U64 a) (hb : U64 b) : U64 (a ^^^ b) := by
  unfold U64 at *
  have := Nat.xor_lt_two_pow (n := 64) (x := a) (y := b) (by omega) (by omega)
  omega
theorem step_lt (h c : Nat) : U64 (stepN h c) := by unfold U64 stepN; exact Nat.mod_lt _ (by decide)
theorem fold_lt (h : Nat) (hh : U64 h) : U64 (foldN h) := xor_lt h _ hh (by unfold U64 at *; have := Nat.div_le_self h 8589934592; omega)
theorem mod_lt (x : Nat) : U64 (x % 18446744073709551616) := by unfold U64; exact Nat.mod_lt _ (by decide)
theorem stir_lt (h : Nat) : U64 (stirN h) := fold_lt _ (mod_lt _)
theorem unstir_lt (h : Nat) : U64 (unstirN h) := fold_lt _ (mod_lt _)
theorem basis_lt : U64 basisN := by unfold U64 basisN; decide
theorem sum_one (h : Nat) (b : UInt8) : sumN h [b] = stepN h b.toNat := by unfold sumN; rw [List.foldl_cons, List.foldl_nil]
theorem sum_cons (h : Nat) (b : UInt8) (bs : List UInt8) : sumN h (b :: bs) = sumN (stepN h b.toNat) bs := by unfold sumN; rw [List.foldl_cons]
theorem sum_lt (h : Nat) (hh : U64 h) (bs : List UInt8) : U64 (sumN h bs) := by
  induction bs generalizing h with
  | nil => exact hh
  | cons b bs ih => rw [sum_cons]; exact ih _ (step_lt _ _)
theorem sum_app (h : Nat) (xs ys : List UInt8) : sumN h (xs ++ ys) = sumN (sumN h xs) ys := List.foldl_append
theorem sum_snoc (h : Nat) (bs : List UInt8) (k : Nat) (hk : k < bs.length) : sumN h (bs.take (k + 1)) = stepN (sumN h (bs.take k)) bs[k].toNat := by
  rw [List.take_succ_eq_append_getElem hk, sum_app, sum_one]
theorem fold_fold (h : Nat) (hh : U64 h) : foldN (foldN h) = h := by
  unfold foldN U64 at *
  have e : (h ^^^ h / 8589934592) / 8589934592 = h / 8589934592 := by
    have := Nat.shiftRight_xor_distrib (a := h) (b := h / 8589934592) (i := 33)
    rw [Nat.shiftRight_eq_div_pow, Nat.shiftRight_eq_div_pow, Nat.shiftRight_eq_div_pow] at this
    have p : (2 : Nat) ^ 33 = 8589934592 := by decide
    rw [p] at this
    rw [this, Nat.div_div_eq_div_mul, Nat.div_eq_of_lt (b := 8589934592 * 8589934592) (by omega), Nat.xor_zero]
  rw [e, Nat.xor_assoc, Nat.xor_self, Nat.xor_zero]
theorem mul_back (x a b : Nat) (hx : U64 x) (hab : a * b % 18446744073709551616 = 1) : x * a % 18446744073709551616 * b % 18446744073709551616 = x := by
  unfold U64 at hx
  rw [Nat.mod_mul_mod, Nat.mul_assoc, Nat.mul_mod, hab, Nat.mul_one, Nat.mod_mod, Nat.mod_eq_of_lt hx]
theorem unstir_stir (h : Nat) (hh : U64 h) : unstirN (stirN h) = h := by
  unfold unstirN stirN
  rw [fold_fold _ (mod_lt _), mul_back _ _ _ (fold_lt _ (mod_lt _)) (by decide), fold_fold _ (mod_lt _), mul_back _ _ _ (fold_lt _ hh) (by decide), fold_fold _ hh]
theorem stir_unstir (h : Nat) (hh : U64 h) : stirN (unstirN h) = h := by
  unfold unstirN stirN
  rw [fold_fold _ (mod_lt _), mul_back _ _ _ (fold_lt _ (mod_lt _)) (by decide), fold_fold _ (mod_lt _), mul_back _ _ _ (fold_lt _ hh) (by decide), fold_fold _ hh]
theorem stir_inj (a b : Nat) (ha : U64 a) (hb : U64 b) (h : stirN a = stirN b) : a = b := by
  rw [← unstir_stir a ha, ← unstir_stir b hb, h]
theorem xor_inj (a b c : Nat) (h : a ^^^ c = b ^^^ c) : a = b := by
  have := congrArg (· ^^^ c) h
  simpa [Nat.xor_assoc] using this
theorem xor_inj' (a b c : Nat) (h : c ^^^ a = c ^^^ b) : a = b := xor_inj a b c (by rw [Nat.xor_comm a c, Nat.xor_comm b c]; exact h)
theorem step_xor (a b : Nat) (ha : U64 a) (hb : U64 b) (h : a * 1099511628211 % 18446744073709551616 = b * 1099511628211 % 18446744073709551616) : a = b := by
  rw [← mul_back a 1099511628211 14886173955864302971 ha (by decide), ← mul_back b 1099511628211 14886173955864302971 hb (by decide), h]
theorem byte_lt (b : Nat) (h : b < 256) : U64 b := by unfold U64; omega
theorem step_inj (a b c : Nat) (ha : U64 a) (hb : U64 b) (hc : c < 256) (h : stepN a c = stepN b c) : a = b :=
  xor_inj a b c (step_xor _ _ (xor_lt a c ha (byte_lt c hc)) (xor_lt b c hb (byte_lt c hc)) h)
theorem step_inj' (a c d : Nat) (ha : U64 a) (hc : c < 256) (hd : d < 256) (h : stepN a c = stepN a d) : c = d :=
  xor_inj' c d a (step_xor _ _ (xor_lt a c ha (byte_lt c hc)) (xor_lt a d ha (byte_lt d hd)) h)
theorem sum_inj (a b : Nat) (bs : List UInt8) (ha : U64 a) (hb : U64 b) (h : sumN a bs = sumN b bs) : a = b := by
  induction bs generalizing a b with
  | nil => exact h
  | cons x bs ih => rw [sum_cons, sum_cons] at h; exact step_inj a b _ ha hb x.toNat_lt (ih _ _ (step_lt _ _) (step_lt _ _) h)
/-- One byte is another one: another sum. -/
theorem sum_other (h : Nat) (xs ys : List UInt8) (a b : UInt8) (hh : U64 h) (hab : a ≠ b) : sumN h (xs ++ a :: ys) ≠ sumN h (xs ++ b :: ys) := by
  intro e
  rw [sum_app, sum_app] at e
  rw [sum_cons, sum_cons] at e
  have := sum_inj _ _ ys (step_lt _ _) (step_lt _ _) e
  have := step_inj' _ _ _ (sum_lt h hh xs) a.toNat_lt b.toNat_lt this
  exact hab (UInt8.toNat_inj.1 this)
/-- The document's step: by 2^40, and by 435. -/
theorem low_xor (h c : Nat) (hc : c < 256) : h ^^^ c = h - h % 256 + (h % 256 ^^^ c) := by
  have hx : h % 256 ^^^ c < 2 ^ 8 := Nat.xor_lt_two_pow (by omega) (by omega)
  have e : h = 2 ^ 8 * (h / 256) + h % 256 := by have : (2 : Nat) ^ 8 = 256 := by decide
                                                 omega
  have l := Nat.two_pow_add_eq_or_of_lt (i := 8) (b := h % 256) (by omega) (h / 256)
  have l2 := Nat.two_pow_add_eq_or_of_lt (i := 8) (b := h % 256 ^^^ c) hx (h / 256)
  have z : (2 ^ 8 * (h / 256)) &&& (h % 256) = 0 := by
    apply Nat.eq_of_testBit_eq
    intro i
    rw [Nat.testBit_and, Nat.testBit_two_pow_mul]
    by_cases hi : 8 ≤ i
    · have : (h % 256).testBit i = false := Nat.testBit_lt_two_pow (Nat.lt_of_lt_of_le (show h % 256 < 2 ^ 8 by omega) (Nat.pow_le_pow_right (by decide) hi))
      simp [this]
    · simp [hi]
  have key : h ^^^ c = 2 ^ 8 * (h / 256) + (h % 256 ^^^ c) := by
    rw [l2]
    apply Nat.eq_of_testBit_eq
    intro i
    rw [Nat.testBit_or, Nat.testBit_xor, Nat.testBit_xor, Nat.testBit_two_pow_mul]
    rw [show h % 256 = h % 2 ^ 8 by rfl, Nat.testBit_mod_two_pow, show h / 256 = h / 2 ^ 8 by rfl]
    by_cases hi : 8 ≤ i
    · have hci : c.testBit i = false := Nat.testBit_lt_two_pow (Nat.lt_of_lt_of_le (show c < 2 ^ 8 by omega) (Nat.pow_le_pow_right (by decide) hi))
      rw [← Nat.shiftRight_eq_div_pow, Nat.testBit_shiftRight]
      simp [hi, hci, show ¬ i < 8 by omega, show 8 + (i - 8) = i by omega]
    · simp [hi, show i < 8 by omega]
  rw [key]
  have : (2 : Nat) ^ 8 = 256 := by decide
  omega
theorem ref_step (h c : Nat) (hc : c < 256) (x : Nat) (hx : x = h - h % 256 + (h % 256 ^^^ c)) : (x * 1099511627776 % 18446744073709551616 + x * 435 % 18446744073709551616) % 18446744073709551616 = stepN h c := by
  unfold stepN
  rw [low_xor h c hc, ← hx, ← Nat.add_mod, ← Nat.mul_add]
end Word
end Go.Proofs.Ytpccppdakmpchaa
