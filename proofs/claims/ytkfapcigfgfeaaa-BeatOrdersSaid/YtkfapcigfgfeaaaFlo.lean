/- Binary floating-point words of 64 bits as data: how two of them stand to each other, said by their bits; and that a word which is read and written again is the same. No dump is imported here. -/
import Derived.Laws.FloatArith
namespace Go.Proofs.Ytkfapcigfgfeaaa
namespace Flo
open Ieee

def mg (r : Nat) : Nat := if r < 4503599627370496 then r else 4503599627370496 + r % 4503599627370496
def pl (r : Nat) : Nat := if r < 4503599627370496 then 0 else r / 4503599627370496 - 1
def V (r : Nat) : Nat := mg r * 2 ^ pl r

theorem V_succ (r : Nat) : V r < V (r + 1) := by
  unfold V mg pl
  by_cases h : r + 1 < 4503599627370496
  · rw [if_pos (by omega), if_pos h, if_pos (by omega), if_pos h]; simp
  · rw [if_neg h, if_neg h]
    by_cases h' : r < 4503599627370496
    · rw [if_pos h', if_pos h']
      have : r + 1 = 4503599627370496 := by omega
      rw [this]; simp; omega
    · rw [if_neg h', if_neg h']
      by_cases hm : r % 4503599627370496 + 1 < 4503599627370496
      · have e1 : (r + 1) % 4503599627370496 = r % 4503599627370496 + 1 := by omega
        have e2 : (r + 1) / 4503599627370496 = r / 4503599627370496 := by omega
        rw [e1, e2]
        exact Nat.mul_lt_mul_of_pos_right (by omega) (Nat.two_pow_pos _)
      · have e0 : r % 4503599627370496 = 4503599627370495 := by omega
        have e1 : (r + 1) % 4503599627370496 = 0 := by omega
        have e2 : (r + 1) / 4503599627370496 - 1 = r / 4503599627370496 - 1 + 1 := by omega
        rw [e0, e1, e2, Nat.pow_succ]
        have := Nat.two_pow_pos (r / 4503599627370496 - 1)
        omega

theorem V_lt {r s : Nat} (h : r < s) : V r < V s := by
  induction s with
  | zero => omega
  | succ s ih =>
    rcases Nat.lt_or_ge r s with h1 | h1
    · exact Nat.lt_trans (ih h1) (V_succ s)
    · obtain rfl : r = s := by omega
      exact V_succ r

theorem V_zero : V 0 = 0 := by simp [V, mg]
theorem V_pos {r : Nat} (h : 0 < r) : 0 < V r := by have := V_lt h; rw [V_zero] at this; exact this

theorem read_eq (w : Nat) : double.read w =
    (if w % 9223372036854775808 < 4503599627370496 then .number (w / 9223372036854775808 % 2 == 1) (w % 9223372036854775808) (-1074)
     else if w % 9223372036854775808 < 9218868437227405312 then .number (w / 9223372036854775808 % 2 == 1) (4503599627370496 + w % 9223372036854775808 % 4503599627370496) (-1074 + ((w % 9223372036854775808 / 4503599627370496 - 1 : Nat) : Int))
     else if w % 9223372036854775808 = 9218868437227405312 then .infinity (w / 9223372036854775808 % 2 == 1) else .nan (w / 9223372036854775808 % 2 == 1) (w % 9223372036854775808 - 9218868437227405312)) := by
  have e1 : double.signWeight = 9223372036854775808 := by decide +kernel
  have e2 : double.binade = 4503599627370496 := by decide +kernel
  have e3 : double.infRung = 9218868437227405312 := by decide +kernel
  have e4 : double.leastPlace = -1074 := by decide +kernel
  unfold Format.read
  rw [e1, e2, e3, e4]

theorem read_num {w : Nat} (h : w % 9223372036854775808 < 9218868437227405312) : double.read w = .number (w / 9223372036854775808 % 2 == 1) (mg (w % 9223372036854775808)) (-1074 + (pl (w % 9223372036854775808) : Int)) := by
  rw [read_eq]
  unfold mg pl
  by_cases h1 : w % 9223372036854775808 < 4503599627370496
  · rw [if_pos h1, if_pos h1, if_pos h1]; simp
  · rw [if_neg h1, if_pos h, if_neg h1, if_neg h1]
theorem read_inf {w : Nat} (h : w % 9223372036854775808 = 9218868437227405312) : double.read w = .infinity (w / 9223372036854775808 % 2 == 1) := by
  rw [read_eq, h]; rfl
theorem read_nan {w : Nat} (h : 9218868437227405312 < w % 9223372036854775808) : double.read w = .nan (w / 9223372036854775808 % 2 == 1) (w % 9223372036854775808 - 9218868437227405312) := by
  rw [read_eq, if_neg (by omega), if_neg (by omega), if_neg (by omega)]

/-- The number's place in the order, by its bits: both noughts are one. -/
def zk (w : Nat) : Int := if w / 9223372036854775808 % 2 = 1 then -(w % 9223372036854775808 : Nat) else (w % 9223372036854775808 : Nat)

theorem cmp_int (x y : Int) : compare x y = if x < y then .lt else if x = y then .eq else .gt := rfl
theorem cmp_scale (x y k : Int) (hk : 0 < k) : compare (x * k) (y * k) = compare x y := by
  rw [cmp_int, cmp_int]
  have e1 : x * k < y * k ↔ x < y := Int.mul_lt_mul_right hk
  have e2 : x * k = y * k ↔ x = y := Int.mul_eq_mul_right_iff (by omega)
  simp [e1, e2]

theorem signed_scale (s : Bool) (m p q : Nat) (h : q ≤ p) : signed s m (p - q) * ((2 ^ q : Nat) : Int) = if s then -((m * 2 ^ p : Nat) : Int) else ((m * 2 ^ p : Nat) : Int) := by
  have e : (m <<< (p - q)) * 2 ^ q = m * 2 ^ p := by
    rw [Nat.shiftLeft_eq, Nat.mul_assoc, ← Nat.pow_add]
    congr 2; omega
  unfold signed
  cases s
  · simp only [Bool.false_eq_true, if_false]; rw [← Int.natCast_mul, e]
  · simp only [if_true]; rw [Int.neg_mul, ← Int.natCast_mul, e]

theorem sgn_lt (s t : Bool) (r q : Nat) : ((if s then -(V r : Int) else (V r : Int)) < (if t then -(V q : Int) else (V q : Int))) ↔ ((if s then -(r : Int) else (r : Int)) < (if t then -(q : Int) else (q : Int))) := by
  have h1 := @V_lt r q
  have h2 := @V_lt q r
  have h3 : r = q → V r = V q := fun h => by rw [h]
  have h4 := @V_pos r
  have h5 := @V_pos q
  have h6 := V_zero
  have h7 : r = 0 → V r = 0 := fun h => by rw [h]; exact h6
  have h8 : q = 0 → V q = 0 := fun h => by rw [h]; exact h6
  generalize V r = a at *
  generalize V q = b at *
  cases s <;> cases t <;> simp only [Bool.false_eq_true, if_false, if_true] <;> omega
theorem sgn_eq (s t : Bool) (r q : Nat) : ((if s then -(V r : Int) else (V r : Int)) = (if t then -(V q : Int) else (V q : Int))) ↔ ((if s then -(r : Int) else (r : Int)) = (if t then -(q : Int) else (q : Int))) := by
  have h1 := @V_lt r q
  have h2 := @V_lt q r
  have h3 : r = q → V r = V q := fun h => by rw [h]
  have h4 := @V_pos r
  have h5 := @V_pos q
  have h6 := V_zero
  have h7 : r = 0 → V r = 0 := fun h => by rw [h]; exact h6
  have h8 : q = 0 → V q = 0 := fun h => by rw [h]; exact h6
  generalize V r = a at *
  generalize V q = b at *
  cases s <;> cases t <;> simp only [Bool.false_eq_true, if_false, if_true] <;> omega

theorem order_nums (s t : Bool) (r q : Nat) : Datum.order (.number s (mg r) (-1074 + (pl r : Int))) (.number t (mg q) (-1074 + (pl q : Int))) = some (compare (if s then -(r : Int) else (r : Int)) (if t then -(q : Int) else (q : Int))) := by
  simp only [Datum.order]
  have e1 : (-1074 + (pl r : Int) - min (-1074 + (pl r : Int)) (-1074 + (pl q : Int))).toNat = pl r - min (pl r) (pl q) := by omega
  have e2 : (-1074 + (pl q : Int) - min (-1074 + (pl r : Int)) (-1074 + (pl q : Int))).toNat = pl q - min (pl r) (pl q) := by omega
  rw [e1, e2, ← cmp_scale _ _ ((2 ^ min (pl r) (pl q) : Nat) : Int) (by have := Nat.two_pow_pos (min (pl r) (pl q)); omega), signed_scale _ _ _ _ (Nat.min_le_left _ _), signed_scale _ _ _ _ (Nat.min_le_right _ _)]
  have a := sgn_lt s t r q
  have b := sgn_eq s t r q
  unfold V at a b
  rw [cmp_int, cmp_int]
  simp only [a, b]

theorem zk_eq (w : Nat) : zk w = if (w / 9223372036854775808 % 2 == 1) then -((w % 9223372036854775808 : Nat) : Int) else ((w % 9223372036854775808 : Nat) : Int) := by
  unfold zk; simp

theorem order_key {a b : Nat} (ha : a % 9223372036854775808 ≤ 9218868437227405312) (hb : b % 9223372036854775808 ≤ 9218868437227405312) : double.order a b = some (compare (zk a) (zk b)) := by
  unfold Format.order
  rcases Nat.lt_or_ge (a % 9223372036854775808) 9218868437227405312 with h1 | h1 <;> rcases Nat.lt_or_ge (b % 9223372036854775808) 9218868437227405312 with h2 | h2
  · rw [read_num h1, read_num h2, order_nums, zk_eq, zk_eq]
  · have e2 : b % 9223372036854775808 = 9218868437227405312 := by omega
    rw [read_num h1, read_inf e2, zk_eq, zk_eq, e2, cmp_int]
    simp only [Datum.order]
    cases (a / 9223372036854775808 % 2 == 1) <;> cases (b / 9223372036854775808 % 2 == 1) <;> simp only [Bool.false_eq_true, if_false, if_true]
    all_goals first | (rw [if_pos (by omega)]) | (rw [if_neg (by omega), if_neg (by omega)])
  · have e1 : a % 9223372036854775808 = 9218868437227405312 := by omega
    rw [read_inf e1, read_num h2, zk_eq, zk_eq, e1, cmp_int]
    simp only [Datum.order]
    cases (a / 9223372036854775808 % 2 == 1) <;> cases (b / 9223372036854775808 % 2 == 1) <;> simp only [Bool.false_eq_true, if_false, if_true]
    all_goals first | (rw [if_pos (by omega)]) | (rw [if_neg (by omega), if_neg (by omega)])
  · have e1 : a % 9223372036854775808 = 9218868437227405312 := by omega
    have e2 : b % 9223372036854775808 = 9218868437227405312 := by omega
    rw [read_inf e1, read_inf e2, zk_eq, zk_eq, e1, e2]
    simp only [Datum.order]
    cases (a / 9223372036854775808 % 2 == 1) <;> cases (b / 9223372036854775808 % 2 == 1) <;> rfl

theorem order_nan_l {a : Nat} (b : Nat) (ha : 9218868437227405312 < a % 9223372036854775808) : double.order a b = none := by
  unfold Format.order; rw [read_nan ha]; rfl
theorem order_nan_r (a : Nat) {b : Nat} (hb : 9218868437227405312 < b % 9223372036854775808) : double.order a b = none := by
  unfold Format.order; rw [read_nan hb]
  cases double.read a <;> rfl
end Flo
end Go.Proofs.Ytkfapcigfgfeaaa
