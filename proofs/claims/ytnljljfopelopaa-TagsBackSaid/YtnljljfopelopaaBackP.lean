/- An entry's bytes are read as it was; bytes that are one are its bytes; cut short, or with more behind, they are none. -/
import Derived.Test.YtnljljfopelopaaReadsLaw
namespace Go.Proofs.Ytnljljfopelopaa
open Go.RowKit Mem Be
set_option maxRecDepth 10000
set_option maxHeartbeats 4000000
def putE (x : EntP) : List UInt8 := entB x.k x.s x.u x.o x.has x.v
def okE (x : EntP) : Prop := rightE x.k.length x.v.length x.s x.u x.o x.has = 0
theorem okE_nums {x : EntP} (h : okE x) : 0 ≤ x.s ∧ x.s ≤ 1099511627775 ∧ 0 ≤ x.u ∧ x.u ≤ 1048575 ∧ 0 ≤ x.o ∧ x.o ≤ 1048575 := by
  have h1 := (rightE_yes h).2.2.2.2.1
  cases g1 : inR x.s 1099511627775
  · rw [checkT_1 g1] at h1; exact absurd h1 (by decide)
  cases g2 : inR x.u 1048575
  · rw [checkT_2 g2] at h1; exact absurd h1 (by decide)
  cases g3 : inR x.o 1048575
  · rw [checkT_3 g3] at h1; exact absurd h1 (by decide)
  have a := inR_yes g1
  have b := inR_yes g2
  have c := inR_yes g3
  omega
theorem getB_num (m n : Int) (h0 : 0 ≤ n) (h1 : n < m) (hm : m ≤ 1099511627776) (more : List UInt8) : getB m (numB n ++ more) = (n, (numB n).length, 0) := by
  have hi : In64 n := by unfold In64; omega
  unfold getB
  rw [getN_num n hi more]
  rw [if_neg (by simp; omega)]
theorem getT_truth (t : Bool) (more : List UInt8) : getT (truthB t ++ more) = (t, 1, 0) := by cases t <;> rfl
/-- What was laid is read, and what is behind it is left. -/
theorem refE_put (x : EntP) (h : okE x) (more : List UInt8) : refE (putE x ++ more) = (x, (putE x).length, 0) := by
  obtain ⟨k, s, u, o, has, v⟩ := x
  have hn := okE_nums h
  have hy := rightE_yes h
  simp only at hn hy
  have e : putE ⟨k, s, u, o, has, v⟩ ++ more = rowB k ++ (numB s ++ (numB u ++ (numB o ++ (truthB has ++ ((if has = true then rowB v else []) ++ more))))) := by
    unfold putE entB tagB; simp only [List.append_assoc]
  rw [e]
  have h1 := getR_row k (numB s ++ (numB u ++ (numB o ++ (truthB has ++ ((if has = true then rowB v else []) ++ more))))) (by omega)
  have h2 := getB_num 1099511627776 s (by omega) (by omega) (by omega) (numB u ++ (numB o ++ (truthB has ++ ((if has = true then rowB v else []) ++ more))))
  have h3 := getB_num 1048576 u (by omega) (by omega) (by omega) (numB o ++ (truthB has ++ ((if has = true then rowB v else []) ++ more)))
  have h4 := getB_num 1048576 o (by omega) (by omega) (by omega) (truthB has ++ ((if has = true then rowB v else []) ++ more))
  have h5 := getT_truth has ((if has = true then rowB v else []) ++ more)
  have d1 : (rowB k ++ (numB s ++ (numB u ++ (numB o ++ (truthB has ++ ((if has = true then rowB v else []) ++ more)))))).drop (rowB k).length = numB s ++ (numB u ++ (numB o ++ (truthB has ++ ((if has = true then rowB v else []) ++ more)))) := List.drop_left
  have d2 : (rowB k ++ (numB s ++ (numB u ++ (numB o ++ (truthB has ++ ((if has = true then rowB v else []) ++ more)))))).drop ((rowB k).length + (numB s).length) = numB u ++ (numB o ++ (truthB has ++ ((if has = true then rowB v else []) ++ more))) := by
    rw [← List.drop_drop, d1, List.drop_left]
  have d3 : (rowB k ++ (numB s ++ (numB u ++ (numB o ++ (truthB has ++ ((if has = true then rowB v else []) ++ more)))))).drop ((rowB k).length + (numB s).length + (numB u).length) = numB o ++ (truthB has ++ ((if has = true then rowB v else []) ++ more)) := by
    rw [← List.drop_drop, d2, List.drop_left]
  have d4 : (rowB k ++ (numB s ++ (numB u ++ (numB o ++ (truthB has ++ ((if has = true then rowB v else []) ++ more)))))).drop ((rowB k).length + (numB s).length + (numB u).length + (numB o).length) = truthB has ++ ((if has = true then rowB v else []) ++ more) := by
    rw [← List.drop_drop, d3, List.drop_left]
  have d5 : (rowB k ++ (numB s ++ (numB u ++ (numB o ++ (truthB has ++ ((if has = true then rowB v else []) ++ more)))))).drop ((rowB k).length + (numB s).length + (numB u).length + (numB o).length + 1) = (if has = true then rowB v else []) ++ more := by
    rw [← List.drop_drop, d4]; cases has <;> rfl
  unfold refE
  simp only [h1, d1, h2, d2, h3, d3, h4, d4, h5, d5]
  have hr : rightE k.length v.length s u o has = 0 := h
  have hlen : (putE ⟨k, s, u, o, has, v⟩).length = (rowB k).length + (numB s).length + (numB u).length + (numB o).length + 1 + (if has = true then rowB v else []).length := by
    unfold putE entB tagB truthB; simp only [List.length_append, List.length_cons, List.length_nil]; omega
  rw [hlen]
  cases has
  · have hv : v = [] := by rcases hy.2.2.2.1 with h | h; exact absurd h (by decide); exact List.eq_nil_of_length_eq_zero h
    subst hv
    have hr2 : rightE k.length 0 s u o false = 0 := hr
    simp [hr2]
  · have h6 := getR_row v more (by omega)
    simp [h6, hr]
end Go.Proofs.Ytnljljfopelopaa
