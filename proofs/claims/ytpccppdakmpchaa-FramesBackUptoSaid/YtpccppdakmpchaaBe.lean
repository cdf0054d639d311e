/- Numbers as rows of bytes, the greatest byte first, no more bytes than are needed; what rows of bytes tell, read so. No dump is imported here. -/
import Derived.Test.YtpccppdakmpchaaMem
namespace Go.Proofs.Ytpccppdakmpchaa
open Go.RowKit Mem
namespace Be
def be : Nat → Int → List UInt8
  | 0, _ => []
  | k + 1, u => be k (u / 256) ++ [UInt8.ofNat (u % 256).toNat]
theorem be_len (k : Nat) (u : Int) : (be k u).length = k := by
  induction k generalizing u with
  | zero => rfl
  | succ k ih => simp [be, ih]
theorem pow_pos' (k : Nat) : 0 < (256 : Int) ^ k := Int.pow_pos (by decide)
theorem div_div (u : Int) (a b : Nat) : u / 256 ^ a / 256 ^ b = u / 256 ^ (a + b) := by
  rw [Int.ediv_ediv_of_nonneg (Int.le_of_lt (pow_pos' a)), ← Int.pow_add]
theorem be_cons (k : Nat) (u : Int) : be (k + 1) u = UInt8.ofNat ((u / 256 ^ k) % 256).toNat :: be k u := by
  induction k generalizing u with
  | zero => simp [be]
  | succ k ih =>
    rw [be, ih]
    have : u / 256 / 256 ^ k = u / 256 ^ (k + 1) := by
      have := div_div u 1 k
      rw [Nat.add_comm k 1]
      simpa using this
    rw [this]
    rfl
theorem be_take (k : Nat) (u : Int) (j : Nat) (h : j ≤ k) : (be k u).take j = be j (u / 256 ^ (k - j)) := by
  induction k generalizing u with
  | zero => obtain rfl : j = 0 := by omega
            rfl
  | succ k ih =>
    by_cases hj : j = k + 1
    · subst hj
      rw [List.take_of_length_le (by rw [be_len]; omega)]; simp
    · rw [be, List.take_append_of_le_length (by rw [be_len]; omega), ih (u / 256) (by omega)]
      congr 1
      have := div_div u 1 (k - j)
      rw [show k + 1 - j = 1 + (k - j) by omega]
      simpa using this
theorem be_get (k : Nat) (u : Int) (j : Nat) (h : j < k) : (be k u)[j]'(by rw [be_len]; exact h) = UInt8.ofNat ((u / 256 ^ (k - 1 - j)) % 256).toNat := by
  have e : be (j + 1) (u / 256 ^ (k - (j + 1))) = be j (u / 256 ^ (k - (j + 1)) / 256) ++ [UInt8.ofNat (u / 256 ^ (k - (j + 1)) % 256).toNat] := rfl
  have t := be_take k u (j + 1) (by omega)
  rw [List.take_succ_eq_append_getElem (by rw [be_len]; exact h)] at t
  have := (List.append_inj' (t.trans e) rfl).2
  rw [show k - 1 - j = k - (j + 1) by omega]
  simpa using this
theorem byte_back (x : Int) : ((UInt8.ofNat (x % 256).toNat).toNat : Int) = x % 256 := by
  rw [UInt8.toNat_ofNat']
  have := Int.emod_nonneg x (b := 256) (by decide)
  have := Int.emod_lt_of_pos x (b := 256) (by decide)
  omega
def rd (bs : List UInt8) : Int := bs.foldl (fun u b => u * 256 + (b.toNat : Int)) 0
theorem rd_app (xs : List UInt8) (b : UInt8) : rd (xs ++ [b]) = rd xs * 256 + (b.toNat : Int) := by
  unfold rd; rw [List.foldl_append]; rfl
theorem rd_snoc (bs : List UInt8) (k : Nat) (h : k < bs.length) : rd (bs.take (k + 1)) = rd (bs.take k) * 256 + (bs[k].toNat : Int) := by
  rw [List.take_succ_eq_append_getElem h, rd_app]
theorem rd_nonneg (bs : List UInt8) : 0 ≤ rd bs := by
  have : ∀ n, ∀ bs : List UInt8, bs.length = n → 0 ≤ rd bs := by
    intro n
    induction n with
    | zero => intro bs h; rw [List.length_eq_zero_iff.1 h]; simp [rd]
    | succ n ih =>
      intro bs h
      have := rd_snoc bs n (by omega)
      rw [List.take_of_length_le (by omega)] at this
      have := ih (bs.take n) (by simp; omega)
      omega
  exact this _ bs rfl
theorem rd_lt (bs : List UInt8) : rd bs < 256 ^ bs.length := by
  have : ∀ n, ∀ bs : List UInt8, bs.length = n → rd bs < 256 ^ n := by
    intro n
    induction n with
    | zero => intro bs h; rw [List.length_eq_zero_iff.1 h]; simp [rd]
    | succ n ih =>
      intro bs h
      have e := rd_snoc bs n (by omega)
      rw [List.take_of_length_le (by omega)] at e
      have := ih (bs.take n) (by simp; omega)
      have := bs[n].toNat_lt
      rw [Int.pow_succ]; omega
  exact this _ bs rfl
theorem rd_be (k : Nat) (u : Int) (h0 : 0 ≤ u) (h1 : u < 256 ^ k) : rd (be k u) = u := by
  induction k generalizing u with
  | zero => simp at h1; simp [be, rd]; omega
  | succ k ih =>
    rw [be, rd_app, byte_back, ih (u / 256) (by omega) (by rw [Int.pow_succ] at h1; omega)]
    omega
theorem be_rd (bs : List UInt8) : be bs.length (rd bs) = bs := by
  have : ∀ n, ∀ bs : List UInt8, bs.length = n → be n (rd bs) = bs := by
    intro n
    induction n with
    | zero => intro bs h; rw [List.length_eq_zero_iff.1 h]; rfl
    | succ n ih =>
      intro bs h
      have e := rd_snoc bs n (by omega)
      have e2 := List.take_succ_eq_append_getElem (l := bs) (i := n) (by omega)
      rw [List.take_of_length_le (by omega)] at e e2
      have hb := bs[n].toNat_lt
      have hi := ih (bs.take n) (by simp; omega)
      have e3 : rd bs / 256 = rd (bs.take n) := by omega
      have e4 : (rd bs % 256).toNat = bs[n].toNat := by omega
      rw [be, e3, hi, e4, UInt8.ofNat_toNat]
      exact e2.symm
  exact this _ bs rfl

/-- How many bytes a word needs. -/
def sizeN (u : Int) : Nat :=
  if u < 1 then 0 else if u < 256 then 1 else if u < 65536 then 2 else if u < 16777216 then 3 else if u < 4294967296 then 4
  else if u < 1099511627776 then 5 else if u < 281474976710656 then 6 else if u < 72057594037927936 then 7 else 8
theorem pows : (256 : Int) ^ 0 = 1 ∧ (256 : Int) ^ 1 = 256 ∧ (256 : Int) ^ 2 = 65536 ∧ (256 : Int) ^ 3 = 16777216 ∧ (256 : Int) ^ 4 = 4294967296 ∧ (256 : Int) ^ 5 = 1099511627776 ∧
    (256 : Int) ^ 6 = 281474976710656 ∧ (256 : Int) ^ 7 = 72057594037927936 ∧ (256 : Int) ^ 8 = 18446744073709551616 := by decide
theorem size_le (u : Int) : sizeN u ≤ 8 := by
  unfold sizeN
  repeat' (split; omega)
  omega
theorem size_lt (u : Int) (h : u < 18446744073709551616) : u < 256 ^ sizeN u := by
  obtain ⟨p0, p1, p2, p3, p4, p5, p6, p7, p8⟩ := pows
  unfold sizeN
  by_cases h0 : u < 1
  · rw [if_pos h0, p0]; exact h0
  rw [if_neg h0]
  by_cases h1 : u < 256
  · rw [if_pos h1, p1]; exact h1
  rw [if_neg h1]
  by_cases h2 : u < 65536
  · rw [if_pos h2, p2]; exact h2
  rw [if_neg h2]
  by_cases h3 : u < 16777216
  · rw [if_pos h3, p3]; exact h3
  rw [if_neg h3]
  by_cases h4 : u < 4294967296
  · rw [if_pos h4, p4]; exact h4
  rw [if_neg h4]
  by_cases h5 : u < 1099511627776
  · rw [if_pos h5, p5]; exact h5
  rw [if_neg h5]
  by_cases h6 : u < 281474976710656
  · rw [if_pos h6, p6]; exact h6
  rw [if_neg h6]
  by_cases h7 : u < 72057594037927936
  · rw [if_pos h7, p7]; exact h7
  rw [if_neg h7, p8]; exact h
theorem size_ge (u : Int) (k : Nat) (hk : sizeN u = k + 1) : 256 ^ k ≤ u := by
  obtain ⟨p0, p1, p2, p3, p4, p5, p6, p7, p8⟩ := pows
  unfold sizeN at hk
  by_cases h0 : u < 1
  · rw [if_pos h0] at hk; omega
  rw [if_neg h0] at hk
  by_cases h1 : u < 256
  · rw [if_pos h1] at hk; obtain rfl : k = 0 := by omega
    rw [p0]; omega
  rw [if_neg h1] at hk
  by_cases h2 : u < 65536
  · rw [if_pos h2] at hk; obtain rfl : k = 1 := by omega
    rw [p1]; omega
  rw [if_neg h2] at hk
  by_cases h3 : u < 16777216
  · rw [if_pos h3] at hk; obtain rfl : k = 2 := by omega
    rw [p2]; omega
  rw [if_neg h3] at hk
  by_cases h4 : u < 4294967296
  · rw [if_pos h4] at hk; obtain rfl : k = 3 := by omega
    rw [p3]; omega
  rw [if_neg h4] at hk
  by_cases h5 : u < 1099511627776
  · rw [if_pos h5] at hk; obtain rfl : k = 4 := by omega
    rw [p4]; omega
  rw [if_neg h5] at hk
  by_cases h6 : u < 281474976710656
  · rw [if_pos h6] at hk; obtain rfl : k = 5 := by omega
    rw [p5]; omega
  rw [if_neg h6] at hk
  by_cases h7 : u < 72057594037927936
  · rw [if_pos h7] at hk; obtain rfl : k = 6 := by omega
    rw [p6]; omega
  rw [if_neg h7] at hk
  obtain rfl : k = 7 := by omega
  rw [p7]; omega
theorem size_zero (u : Int) : sizeN u = 0 ↔ u < 1 := by
  constructor
  · intro h
    rcases Int.lt_or_le u 1 with h0 | h0
    · exact h0
    · exfalso
      unfold sizeN at h
      rw [if_neg (by omega)] at h
      revert h
      repeat' (split; omega)
      omega
  · intro h; unfold sizeN; rw [if_pos h]
theorem pow_mono {a b : Nat} (h : a ≤ b) : (256 : Int) ^ a ≤ 256 ^ b := by
  obtain ⟨c, rfl⟩ := Nat.exists_eq_add_of_le h
  rw [Int.pow_add]
  have h1 := pow_pos' a
  have h2 := pow_pos' c
  have := Int.mul_le_mul_of_nonneg_left (show (1 : Int) ≤ 256 ^ c by omega) (Int.le_of_lt h1)
  omega
/-- The size is told by its bounds alone. -/
theorem size_of (u : Int) (k : Nat) (hu : u < 18446744073709551616) (h1 : u < 256 ^ k) (h2 : ∀ j, k = j + 1 → 256 ^ j ≤ u) : sizeN u = k := by
  rcases Nat.lt_trichotomy (sizeN u) k with h | h | h
  · obtain ⟨j, rfl⟩ : ∃ j, k = j + 1 := ⟨k - 1, by omega⟩
    have := h2 j rfl
    have := size_lt u hu
    have := pow_mono (a := sizeN u) (b := j) (by omega)
    omega
  · exact h
  · obtain ⟨j, hj⟩ : ∃ j, sizeN u = j + 1 := ⟨sizeN u - 1, by omega⟩
    have := size_ge u j hj
    have := pow_mono (a := k) (b := j) (by omega)
    omega

/-- The word of a number of 64 bits, and back. -/
def uZ (n : Int) : Int := n % 18446744073709551616
def iZ (u : Int) : Int := (u + 9223372036854775808) % 18446744073709551616 - 9223372036854775808
def In64 (n : Int) : Prop := -9223372036854775808 ≤ n ∧ n ≤ 9223372036854775807
theorem u_range (n : Int) : 0 ≤ uZ n ∧ uZ n < 18446744073709551616 := by unfold uZ; omega
theorem iu (n : Int) (h : In64 n) : iZ (uZ n) = n := by unfold iZ uZ In64 at *; omega
theorem ui (u : Int) (h0 : 0 ≤ u) (h1 : u < 18446744073709551616) : uZ (iZ u) = u := by unfold iZ uZ; omega
theorem i_in (u : Int) : In64 (iZ u) := by unfold iZ In64; omega
theorem u_inj (a b : Int) (ha : In64 a) (hb : In64 b) (h : uZ a = uZ b) : a = b := by rw [← iu a ha, ← iu b hb, h]

/-- A number's bytes. -/
def numU (u : Int) : List UInt8 := UInt8.ofNat (sizeN u) :: be (sizeN u) u
def numB (n : Int) : List UInt8 := numU (uZ n)
theorem numB_len (n : Int) : (numB n).length = 1 + sizeN (uZ n) := by simp [numB, numU, be_len]; omega
theorem numB_le (n : Int) : (numB n).length ≤ 9 := by have := numB_len n; have := size_le (uZ n); omega
theorem numB_pos (n : Int) : 0 < (numB n).length := by have := numB_len n; omega
theorem size_byte (u : Int) : (UInt8.ofNat (sizeN u)).toNat = sizeN u := by
  rw [UInt8.toNat_ofNat']; have := size_le u; omega

/-- A number at the begin of bytes: it, how many bytes it takes, what is wrong. -/
def getN (bs : List UInt8) : Int × Nat × Int :=
  if bs.length = 0 then (0, 0, 12)
  else if 8 < (bs.headD 0).toNat then (0, 0, 11)
  else if bs.length < 1 + (bs.headD 0).toNat then (0, 0, 12)
  else if 0 < (bs.headD 0).toNat ∧ (bs.tail.headD 0).toNat = 0 then (0, 0, 11)
  else (iZ (rd (bs.tail.take (bs.headD 0).toNat)), 1 + (bs.headD 0).toNat, 0)
theorem getN_num (n : Int) (h : In64 n) (more : List UInt8) : getN (numB n ++ more) = (n, (numB n).length, 0) := by
  have hr := u_range n
  have hs := size_le (uZ n)
  have e : numB n ++ more = UInt8.ofNat (sizeN (uZ n)) :: (be (sizeN (uZ n)) (uZ n) ++ more) := rfl
  rw [numB_len, e]
  unfold getN
  simp only [List.headD_cons, List.tail_cons, size_byte, List.length_cons, List.length_append, be_len]
  rw [if_neg (by omega), if_neg (by omega), if_neg (by omega)]
  rw [if_neg]
  · rw [List.take_append_of_le_length (by rw [be_len]; omega), List.take_of_length_le (by rw [be_len]; omega), rd_be _ _ hr.1 (size_lt _ hr.2), iu n h]
  · rintro ⟨h1, h2⟩
    obtain ⟨k, hk⟩ : ∃ k, sizeN (uZ n) = k + 1 := ⟨sizeN (uZ n) - 1, by omega⟩
    have hge := size_ge _ k hk
    have hlt := size_lt (uZ n) hr.2
    rw [hk, be_cons] at h2
    rw [hk, Int.pow_succ] at hlt
    simp only [List.cons_append, List.headD_cons] at h2
    have hb := byte_back (uZ n / 256 ^ k)
    have hp := pow_pos' k
    have q1 : 1 ≤ uZ n / 256 ^ k := by rw [Int.le_ediv_iff_mul_le hp]; omega
    have q2 : uZ n / 256 ^ k < 256 := by rw [Int.ediv_lt_iff_lt_mul hp]; rw [Int.mul_comm]; exact hlt
    rw [h2, Int.emod_eq_of_lt (by omega) q2] at hb
    omega
/-- What is read well has just these bytes. -/
theorem getN_back (bs : List UInt8) (n : Int) (k : Nat) (h : getN bs = (n, k, 0)) : In64 n ∧ k ≤ bs.length ∧ bs.take k = numB n := by
  unfold getN at h
  by_cases h0 : bs.length = 0
  · rw [if_pos h0] at h; simp at h
  rw [if_neg h0] at h
  by_cases h1 : 8 < (bs.headD 0).toNat
  · rw [if_pos h1] at h; simp at h
  rw [if_neg h1] at h
  by_cases h2 : bs.length < 1 + (bs.headD 0).toNat
  · rw [if_pos h2] at h; simp at h
  rw [if_neg h2] at h
  by_cases h3 : 0 < (bs.headD 0).toNat ∧ (bs.tail.headD 0).toNat = 0
  · rw [if_pos h3] at h; simp at h
  rw [if_neg h3] at h
  match bs, h0 with
  | b :: rest, _ =>
    simp only [List.headD_cons, List.tail_cons, List.length_cons] at h h1 h2 h3
    simp only [Prod.mk.injEq] at h
    obtain ⟨hn, hk, _⟩ := h
    have hl : (rest.take b.toNat).length = b.toNat := by rw [List.length_take]; omega
    have r0 := rd_nonneg (rest.take b.toNat)
    have r1 := rd_lt (rest.take b.toNat)
    rw [hl] at r1
    have r2 := pow_mono (a := b.toNat) (b := 8) (by omega)
    have p8 := pows.2.2.2.2.2.2.2.2
    have hu : uZ n = rd (rest.take b.toNat) := by rw [← hn]; exact ui _ r0 (by omega)
    refine ⟨by rw [← hn]; exact i_in _, by simp only [List.length_cons]; omega, ?_⟩
    subst hk
    have hsz : sizeN (uZ n) = b.toNat := by
      refine size_of _ _ (u_range n).2 (by rw [hu]; exact r1) ?_
      intro j hj
      rw [hu]
      match hrest : rest, hj with
      | [], hj => simp at h2; omega
      | c :: more, hj =>
        simp only [List.headD_cons] at h3
        have hc : 1 ≤ c.toNat := by omega
        rw [hj, List.take_succ_cons]
        have : ∀ (l : List UInt8) (a : Int), 0 ≤ a → a * 256 ^ l.length ≤ l.foldl (fun u b => u * 256 + (b.toNat : Int)) a := by
          intro l
          induction l with
          | nil => intro a _; simp
          | cons d l ih =>
            intro a ha
            have := ih (a * 256 + (d.toNat : Int)) (by omega)
            simp only [List.length_cons, List.foldl_cons]
            refine Int.le_trans ?_ this
            rw [Int.pow_succ, Int.add_mul]
            have hd : 0 ≤ (d.toNat : Int) * 256 ^ l.length := Int.mul_nonneg (by omega) (Int.le_of_lt (pow_pos' _))
            rw [Int.mul_comm (256 ^ l.length) 256, ← Int.mul_assoc]
            omega
        have h5 := this (more.take j) (c.toNat : Int) (by omega)
        have hlj : (more.take j).length = j := by simp only [List.length_cons] at h2; rw [List.length_take]; omega
        rw [hlj] at h5
        have h6 : (1 : Int) * 256 ^ j ≤ (c.toNat : Int) * 256 ^ j := Int.mul_le_mul_of_nonneg_right (by omega) (Int.le_of_lt (pow_pos' j))
        show (256 : Int) ^ j ≤ List.foldl (fun u b => u * 256 + (b.toNat : Int)) (0 * 256 + (c.toNat : Int)) (more.take j)
        rw [Int.zero_mul, Int.zero_add]
        omega
    rw [Nat.add_comm 1, List.take_succ_cons]
    unfold numB numU
    rw [hsz, UInt8.ofNat_toNat, hu]
    have := be_rd (rest.take b.toNat)
    rw [hl] at this
    rw [this]
theorem getN_err (bs : List UInt8) : ((getN bs).2.2 = 0 ∧ 1 ≤ (getN bs).2.1 ∧ (getN bs).2.1 ≤ bs.length) ∨ ((getN bs).1 = 0 ∧ (getN bs).2.1 = 0 ∧ ((getN bs).2.2 = 11 ∨ (getN bs).2.2 = 12)) := by
  unfold getN
  by_cases h0 : bs.length = 0
  · rw [if_pos h0]; simp
  rw [if_neg h0]
  by_cases h1 : 8 < (bs.headD 0).toNat
  · rw [if_pos h1]; simp
  rw [if_neg h1]
  by_cases h2 : bs.length < 1 + (bs.headD 0).toNat
  · rw [if_pos h2]; simp
  rw [if_neg h2]
  by_cases h3 : 0 < (bs.headD 0).toNat ∧ (bs.tail.headD 0).toNat = 0
  · rw [if_pos h3]; simp
  rw [if_neg h3]
  left
  refine ⟨rfl, ?_, ?_⟩ <;> simp only <;> omega
theorem getN_in (bs : List UInt8) : In64 (getN bs).1 := by
  rcases getN_err bs with h | h
  · exact (getN_back bs (getN bs).1 (getN bs).2.1 (by rw [← h.1])).1
  · rw [h.1]; unfold In64; omega
end Be
end Go.Proofs.Ytpccppdakmpchaa
