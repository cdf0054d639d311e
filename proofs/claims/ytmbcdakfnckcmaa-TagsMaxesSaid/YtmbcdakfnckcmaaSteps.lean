/- What a reader's calls come to, on bytes that were laid so, and where it has failed before; small lemmas besides. -/
import Derived.Test.YtmbcdakfnckcmaaReader2
namespace Go.Proofs.Ytmbcdakfnckcmaa
open Go.RowKit Mem Be
set_option maxRecDepth 10000
set_option maxHeartbeats 2000000
theorem in_wf {a : Int} (h : (Lit.int .i64 a).wf = true) : In64 a := by
  have := bounds_i64 h
  unfold In64; omega
theorem own_below {w w' : World} {base : Nat} {e : TypeId} {v : Value} {n : Nat} {xs : List Value} (h : w.ownsRow base e 1 v n xs) (hb : Below w.heap.size w w') : w'.ownsRow base e 1 v n xs :=
  h.kept (grown_below hb (Nat.le_refl _) none) (by cases hv : v.ownBlock <;> simp)
theorem numB_inj (n m : Int) (hn : In64 n) (hm : In64 m) (h : numB n = numB m) : n = m := by
  have h1 := getN_num n hn []
  have h2 := getN_num m hm []
  rw [h, h2] at h1
  exact (Prod.mk.inj h1).1.symm
theorem num_eq (n m : Int) (hn : In64 n) (hm : In64 m) : (numB n == numB m) = (n == m) := by
  rw [Bool.eq_iff_iff]; simp only [beq_iff_eq]
  exact ⟨numB_inj n m hn hm, fun h => by rw [h]⟩
theorem step_num (n : Int) (hn : In64 n) (more : List UInt8) : stepN (numB n ++ more) 0 = (n, more, 0) := by
  unfold stepN; rw [if_pos rfl, getN_num n hn more]
  simp
theorem end_len (bs : List UInt8) : (endZ bs 0 == 0) = ((bs.length : Int) == 0) := by
  unfold endZ
  rw [if_pos rfl]
  by_cases h : bs.length = 0
  · rw [if_pos h, h]; rfl
  · rw [if_neg h, Bool.eq_iff_iff]; simp only [beq_iff_eq]; omega
theorem step_num_no (bs : List UInt8) (e : Int) (he : e ≠ 0) : stepN bs e = (0, bs, e) := if_neg he
theorem step_below_no (m : Int) (bs : List UInt8) (e : Int) (he : e ≠ 0) : stepB m bs e = (0, bs, e) := if_neg he
theorem step_row_no (bs : List UInt8) (e : Int) (he : e ≠ 0) : stepR bs e = ([], bs, e) := if_neg he
theorem step_truth_no (bs : List UInt8) (e : Int) (he : e ≠ 0) : stepT bs e = (false, bs, e) := if_neg he
theorem end_no (bs : List UInt8) (e : Int) (he : e ≠ 0) : endZ bs e = e := if_neg he
theorem getR_row (x rest : List UInt8) (h : x.length ≤ 65536) : getR (rowB x ++ rest) = (x, (rowB x).length, 0) := by
  have hin : In64 (x.length : Int) := by unfold In64; omega
  have hg := getN_num (x.length : Int) hin (x ++ rest)
  rw [← List.append_assoc] at hg
  have hb : numB (x.length : Int) ++ x = rowB x := rfl
  rw [hb] at hg
  unfold getR
  rw [hg]
  simp only
  rw [if_neg (by simp), if_neg (by omega), if_neg (by unfold rowB; simp only [List.length_append]; omega)]
  have e1 : (rowB x ++ rest).drop (numB (x.length : Int)).length = x ++ rest := by
    unfold rowB; rw [List.append_assoc, List.drop_left]
  have e2 : ((x.length : Int)).toNat = x.length := by omega
  rw [e1, e2, List.take_left]
  unfold rowB
  rw [List.length_append]
theorem step_row (x rest : List UInt8) (h : x.length ≤ 65536) : stepR (rowB x ++ rest) 0 = (x, rest, 0) := by
  unfold stepR; rw [if_pos rfl, getR_row x rest h]; simp
theorem step_truth (t : Bool) (rest : List UInt8) : stepT (truthB t ++ rest) 0 = (t, rest, 0) := by
  unfold stepT; rw [if_pos rfl]
  have e : getT (truthB t ++ rest) = (t, 1, 0) := by
    cases t <;> rfl
  rw [e]; rfl
theorem own_of {w : World} {B n : Nat} {v : Value} {xs : List Value} (bs : List UInt8) (ho : w.ownsRow B 5 1 v n xs) (hx : xs = bs.map byteV) : ∃ A c, v = .slice A bs.length c ∧ w.ownsRow B 5 1 (.slice A bs.length c) bs.length (bs.map byteV) := by
  obtain ⟨A, c, he, h, _⟩ := made_of ho hx (Below.refl B w)
  injection he with he
  exact ⟨A, c, he, h⟩
end Go.Proofs.Ytmbcdakfnckcmaa
