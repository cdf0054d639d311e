/- BackP: An entry's bytes are read as it was; bytes that are one are its bytes; cut short, or with more behind, they are none.
   BackQ2: Bytes that are an entry are its bytes; cut short, something is missing. -/
import Derived.Test.YtkdpfjenjcpcfaaGreatDoorTg
import Derived.Test.YtkdpfjenjcpcfaaGreatDoorSeq
namespace Go.Proofs.YtkdpfjenjcpcfaaGreatDoor
open Go.RowKit Mem Be
set_option maxRecDepth 10000
set_option maxHeartbeats 4000000
theorem refE_le (bs : List UInt8) : (refE bs).2.1 ≤ bs.length := by
  obtain ⟨⟨ks, k1, e1⟩, h1⟩ : ∃ y, getR bs = y := ⟨_, rfl⟩
  obtain ⟨⟨s, k2, e2⟩, h2⟩ : ∃ y, getB 1099511627776 (bs.drop k1) = y := ⟨_, rfl⟩
  obtain ⟨⟨u, k3, e3⟩, h3⟩ : ∃ y, getB 1048576 (bs.drop (k1 + k2)) = y := ⟨_, rfl⟩
  obtain ⟨⟨o, k4, e4⟩, h4⟩ : ∃ y, getB 1048576 (bs.drop (k1 + k2 + k3)) = y := ⟨_, rfl⟩
  obtain ⟨⟨has, k5, e5⟩, h5⟩ : ∃ y, getT (bs.drop (k1 + k2 + k3 + k4)) = y := ⟨_, rfl⟩
  obtain ⟨⟨xs, k6, e6⟩, h6⟩ : ∃ y, getR (bs.drop (k1 + k2 + k3 + k4 + k5)) = y := ⟨_, rfl⟩
  have hE : refE bs = if e1 ≠ 0 then (entP0, 0, e1) else if e2 ≠ 0 then (entP0, 0, e2) else if e3 ≠ 0 then (entP0, 0, e3) else if e4 ≠ 0 then (entP0, 0, e4) else if e5 ≠ 0 then (entP0, 0, e5) else
      if has = true then (if e6 ≠ 0 then (entP0, 0, e6) else if rightE ks.length xs.length s u o true ≠ 0 then (entP0, 0, 11) else (⟨ks, s, u, o, true, xs⟩, k1 + k2 + k3 + k4 + k5 + k6, 0))
      else (if rightE ks.length 0 s u o false ≠ 0 then (entP0, 0, 11) else (⟨ks, s, u, o, false, []⟩, k1 + k2 + k3 + k4 + k5, 0)) := by
    unfold refE; simp only [h1, h2, h3, h4, h5, h6]
  have l1 := getR_err bs
  have l2 := getB_err 1099511627776 (bs.drop k1)
  have l3 := getB_err 1048576 (bs.drop (k1 + k2))
  have l4 := getB_err 1048576 (bs.drop (k1 + k2 + k3))
  have l5 := getT_err (bs.drop (k1 + k2 + k3 + k4))
  have l6 := getR_err (bs.drop (k1 + k2 + k3 + k4 + k5))
  rw [h1] at l1
  rw [h2] at l2
  rw [h3] at l3
  rw [h4] at l4
  rw [h5] at l5
  rw [h6] at l6
  simp only [List.length_drop] at l1 l2 l3 l4 l5 l6
  rw [hE]
  clear hE h1 h2 h3 h4 h5 h6
  repeat' split
  all_goals (first | exact Nat.zero_le _ | (simp only; omega))
def putE (x : EntP) : List UInt8 := entB x.k x.s x.u x.o x.has x.v
def okE (x : EntP) : Prop := rightE x.k.length x.v.length x.s x.u x.o x.has = 0
theorem okE_nums {x : EntP} (h : okE x) : 0 ≤ x.s ∧ x.s ≤ 1099511627775 ∧ 0 ≤ x.u ∧ x.u ≤ 1048575 ∧ 0 ≤ x.o ∧ x.o ≤ 1048575 := by
  have h1 := (rightE_yes h).2.2.2.2.1
  cases g1 : inR x.s 1099511627775
  · rw [checkT_1 g1] at h1; exact absurd h1 (by decide)
  cases g2 : inR x.u 1048575
  · rw [checkT_2 g2] at h1; exact absurd h1 (by decide)
  cases g3 : inR x.o 1048575
  · rw [checkT_3 g3] at h1; exact absurd h1 (by decide)
  have a := inR_yes g1
  have b := inR_yes g2
  have c := inR_yes g3
  omega
theorem getB_num (m n : Int) (h0 : 0 ≤ n) (h1 : n < m) (hm : m ≤ 1099511627776) (more : List UInt8) : getB m (numB n ++ more) = (n, (numB n).length, 0) := by
  have hi : In64 n := by unfold In64; omega
  unfold getB
  rw [getN_num n hi more]
  rw [if_neg (by simp; omega)]
theorem getT_truth (t : Bool) (more : List UInt8) : getT (truthB t ++ more) = (t, 1, 0) := by cases t <;> rfl
/-- What was laid is read, and what is behind it is left. -/
theorem refE_put (x : EntP) (h : okE x) (more : List UInt8) : refE (putE x ++ more) = (x, (putE x).length, 0) := by
  obtain ⟨k, s, u, o, has, v⟩ := x
  have hn := okE_nums h
  have hy := rightE_yes h
  simp only at hn hy
  have e : putE ⟨k, s, u, o, has, v⟩ ++ more = rowB k ++ (numB s ++ (numB u ++ (numB o ++ (truthB has ++ ((if has = true then rowB v else []) ++ more))))) := by
    unfold putE entB tagB; simp only [List.append_assoc]
  rw [e]
  have h1 := getR_row k (numB s ++ (numB u ++ (numB o ++ (truthB has ++ ((if has = true then rowB v else []) ++ more))))) (by omega)
  have h2 := getB_num 1099511627776 s (by omega) (by omega) (by omega) (numB u ++ (numB o ++ (truthB has ++ ((if has = true then rowB v else []) ++ more))))
  have h3 := getB_num 1048576 u (by omega) (by omega) (by omega) (numB o ++ (truthB has ++ ((if has = true then rowB v else []) ++ more)))
  have h4 := getB_num 1048576 o (by omega) (by omega) (by omega) (truthB has ++ ((if has = true then rowB v else []) ++ more))
  have h5 := getT_truth has ((if has = true then rowB v else []) ++ more)
  have d1 : (rowB k ++ (numB s ++ (numB u ++ (numB o ++ (truthB has ++ ((if has = true then rowB v else []) ++ more)))))).drop (rowB k).length = numB s ++ (numB u ++ (numB o ++ (truthB has ++ ((if has = true then rowB v else []) ++ more)))) := List.drop_left
  have d2 : (rowB k ++ (numB s ++ (numB u ++ (numB o ++ (truthB has ++ ((if has = true then rowB v else []) ++ more)))))).drop ((rowB k).length + (numB s).length) = numB u ++ (numB o ++ (truthB has ++ ((if has = true then rowB v else []) ++ more))) := by
    rw [← List.drop_drop, d1, List.drop_left]
  have d3 : (rowB k ++ (numB s ++ (numB u ++ (numB o ++ (truthB has ++ ((if has = true then rowB v else []) ++ more)))))).drop ((rowB k).length + (numB s).length + (numB u).length) = numB o ++ (truthB has ++ ((if has = true then rowB v else []) ++ more)) := by
    rw [← List.drop_drop, d2, List.drop_left]
  have d4 : (rowB k ++ (numB s ++ (numB u ++ (numB o ++ (truthB has ++ ((if has = true then rowB v else []) ++ more)))))).drop ((rowB k).length + (numB s).length + (numB u).length + (numB o).length) = truthB has ++ ((if has = true then rowB v else []) ++ more) := by
    rw [← List.drop_drop, d3, List.drop_left]
  have d5 : (rowB k ++ (numB s ++ (numB u ++ (numB o ++ (truthB has ++ ((if has = true then rowB v else []) ++ more)))))).drop ((rowB k).length + (numB s).length + (numB u).length + (numB o).length + 1) = (if has = true then rowB v else []) ++ more := by
    rw [← List.drop_drop, d4]; cases has <;> rfl
  unfold refE
  simp only [h1, d1, h2, d2, h3, d3, h4, d4, h5, d5]
  have hr : rightE k.length v.length s u o has = 0 := h
  have hlen : (putE ⟨k, s, u, o, has, v⟩).length = (rowB k).length + (numB s).length + (numB u).length + (numB o).length + 1 + (if has = true then rowB v else []).length := by
    unfold putE entB tagB truthB; simp only [List.length_append, List.length_cons, List.length_nil]; omega
  rw [hlen]
  cases has
  · have hv : v = [] := by rcases hy.2.2.2.1 with h | h; exact absurd h (by decide); exact List.eq_nil_of_length_eq_zero h
    subst hv
    have hr2 : rightE k.length 0 s u o false = 0 := hr
    simp [hr2]
  · have h6 := getR_row v more (by omega)
    simp [h6, hr]
end Go.Proofs.YtkdpfjenjcpcfaaGreatDoor
namespace Go.Proofs.YtkdpfjenjcpcfaaGreatDoor
open Go.RowKit Mem Be
set_option maxRecDepth 10000
set_option maxHeartbeats 4000000
theorem getB_back {m : Int} {bs : List UInt8} {n : Int} {k : Nat} (h : getB m bs = (n, k, 0)) : k ≤ bs.length ∧ bs.take k = numB n := by
  rcases getB_err m bs with ⟨_, _, _, _, _, e⟩ | ⟨_, _, e⟩
  · rw [h] at e
    exact (getN_back bs n k e.symm).2
  · rw [h] at e; simp only at e; omega
theorem getR_back {bs x : List UInt8} {k : Nat} (h : getR bs = (x, k, 0)) : k ≤ bs.length ∧ bs.take k = rowB x := by
  obtain ⟨⟨n, k1, e⟩, hg⟩ : ∃ y, getN bs = y := ⟨_, rfl⟩
  unfold getR at h
  rw [hg] at h
  simp only at h
  split at h
  · rename_i he
    simp only [Prod.mk.injEq] at h
    omega
  rename_i he
  have he0 : e = 0 := by omega
  subst he0
  split at h
  · simp only [Prod.mk.injEq] at h; omega
  split at h
  · simp only [Prod.mk.injEq] at h; omega
  rename_i h1 h2
  simp only [Prod.mk.injEq, and_true] at h
  obtain ⟨hx, hk⟩ := h
  obtain ⟨_, hl, ht⟩ := getN_back bs n k1 hg
  have hxl : x.length = n.toNat := by rw [← hx, List.length_take, List.length_drop]; omega
  refine ⟨by omega, ?_⟩
  rw [← hk, List.take_add, hx, ht]
  unfold rowB
  rw [hxl, Int.toNat_of_nonneg (by omega)]
theorem getT_back {bs : List UInt8} {t : Bool} {k : Nat} (h : getT bs = (t, k, 0)) : k ≤ bs.length ∧ bs.take k = truthB t := by
  match bs, h with
  | [], h => exact absurd h (by simp [getT])
  | b :: rest, h =>
    unfold getT at h
    rw [if_neg (by simp)] at h
    split at h
    · simp at h
    · rename_i hb
      simp only [Prod.mk.injEq, List.headD_cons, and_true] at h hb
      obtain ⟨h1, h2⟩ := h
      subst h2
      refine ⟨by simp, ?_⟩
      have : b = 0 ∨ b = 1 := by
        have h3 : b.toNat = 0 ∨ b.toNat = 1 := by omega
        rcases h3 with h3 | h3
        · left; exact UInt8.toNat_inj.1 h3
        · right; exact UInt8.toNat_inj.1 h3
      rcases this with h3 | h3 <;> subst h3 <;> subst h1 <;> rfl
theorem refE_back {bs : List UInt8} {x : EntP} {q : Nat} (h : refE bs = (x, q, 0)) : okE x ∧ q ≤ bs.length ∧ bs.take q = putE x := by
  obtain ⟨⟨ks, k1, e1⟩, h1⟩ : ∃ y, getR bs = y := ⟨_, rfl⟩
  obtain ⟨⟨s, k2, e2⟩, h2⟩ : ∃ y, getB 1099511627776 (bs.drop k1) = y := ⟨_, rfl⟩
  obtain ⟨⟨u, k3, e3⟩, h3⟩ : ∃ y, getB 1048576 (bs.drop (k1 + k2)) = y := ⟨_, rfl⟩
  obtain ⟨⟨o, k4, e4⟩, h4⟩ : ∃ y, getB 1048576 (bs.drop (k1 + k2 + k3)) = y := ⟨_, rfl⟩
  obtain ⟨⟨has, k5, e5⟩, h5⟩ : ∃ y, getT (bs.drop (k1 + k2 + k3 + k4)) = y := ⟨_, rfl⟩
  obtain ⟨⟨xs, k6, e6⟩, h6⟩ : ∃ y, getR (bs.drop (k1 + k2 + k3 + k4 + k5)) = y := ⟨_, rfl⟩
  have hE : refE bs = if e1 ≠ 0 then (entP0, 0, e1) else if e2 ≠ 0 then (entP0, 0, e2) else if e3 ≠ 0 then (entP0, 0, e3) else if e4 ≠ 0 then (entP0, 0, e4) else if e5 ≠ 0 then (entP0, 0, e5) else
      if has = true then (if e6 ≠ 0 then (entP0, 0, e6) else if rightE ks.length xs.length s u o true ≠ 0 then (entP0, 0, 11) else (⟨ks, s, u, o, true, xs⟩, k1 + k2 + k3 + k4 + k5 + k6, 0))
      else (if rightE ks.length 0 s u o false ≠ 0 then (entP0, 0, 11) else (⟨ks, s, u, o, false, []⟩, k1 + k2 + k3 + k4 + k5, 0)) := by
    unfold refE; simp only [h1, h2, h3, h4, h5, h6]
  have hle := refE_le bs
  rw [h] at hle
  rw [hE] at h
  by_cases x1 : e1 = 0
  case neg => rw [if_pos x1] at h; simp only [Prod.mk.injEq] at h; omega
  by_cases x2 : e2 = 0
  case neg => rw [if_neg (by simp [x1]), if_pos x2] at h; simp only [Prod.mk.injEq] at h; omega
  by_cases x3 : e3 = 0
  case neg => rw [if_neg (by simp [x1]), if_neg (by simp [x2]), if_pos x3] at h; simp only [Prod.mk.injEq] at h; omega
  by_cases x4 : e4 = 0
  case neg => rw [if_neg (by simp [x1]), if_neg (by simp [x2]), if_neg (by simp [x3]), if_pos x4] at h; simp only [Prod.mk.injEq] at h; omega
  by_cases x5 : e5 = 0
  case neg => rw [if_neg (by simp [x1]), if_neg (by simp [x2]), if_neg (by simp [x3]), if_neg (by simp [x4]), if_pos x5] at h; simp only [Prod.mk.injEq] at h; omega
  subst x1; subst x2; subst x3; subst x4; subst x5
  rw [if_neg (by simp), if_neg (by simp), if_neg (by simp), if_neg (by simp), if_neg (by simp)] at h
  obtain ⟨_, t1⟩ := getR_back h1
  obtain ⟨_, t2⟩ := getB_back h2
  obtain ⟨_, t3⟩ := getB_back h3
  obtain ⟨_, t4⟩ := getB_back h4
  obtain ⟨_, t5⟩ := getT_back h5
  have hp5 : bs.take (k1 + k2 + k3 + k4 + k5) = rowB ks ++ (numB s ++ (numB u ++ (numB o ++ truthB has))) := by
    rw [List.take_add, List.take_add, List.take_add, List.take_add, t1, t2, t3, t4, t5]; simp only [List.append_assoc]
  cases has
  · rw [if_neg (by simp)] at h
    by_cases hq : rightE ks.length 0 s u o false = 0
    case neg => rw [if_pos hq] at h; simp only [Prod.mk.injEq] at h; omega
    rw [if_neg (by rw [hq]; simp)] at h
    simp only [Prod.mk.injEq, and_true] at h
    obtain ⟨rfl, rfl⟩ := h
    refine ⟨hq, hle, ?_⟩
    rw [hp5]; unfold putE entB tagB; simp
  · rw [if_pos (by simp)] at h
    by_cases x6 : e6 = 0
    case neg => rw [if_pos x6] at h; simp only [Prod.mk.injEq] at h; omega
    subst x6
    rw [if_neg (by simp)] at h
    by_cases hq : rightE ks.length xs.length s u o true = 0
    case neg => rw [if_pos hq] at h; simp only [Prod.mk.injEq] at h; omega
    rw [if_neg (by rw [hq]; simp)] at h
    simp only [Prod.mk.injEq, and_true] at h
    obtain ⟨rfl, rfl⟩ := h
    obtain ⟨_, t6⟩ := getR_back h6
    refine ⟨hq, hle, ?_⟩
    rw [List.take_add, hp5, t6]; unfold putE entB tagB; simp
theorem num_cut0 (n : Int) (c : Nat) (h : c < (numB n).length) : (getN ((numB n).take c)).2.2 = 12 := by
  rcases Nat.eq_zero_or_pos c with h0 | h0
  · subst h0; rw [List.take_zero]; rfl
  · exact num_cut n c h0 h
theorem getB_cut (m n : Int) (c : Nat) (h : c < (numB n).length) : (getB m ((numB n).take c)).2.2 = 12 := by
  have := num_cut0 n c h
  unfold getB
  rw [if_neg (by rw [this]; simp)]
  exact this
theorem row_cut (x : List UInt8) (c : Nat) (hx : x.length ≤ 65536) (h : c < (rowB x).length) : (getR ((rowB x).take c)).2.2 = 12 := by
  unfold rowB at h ⊢
  rcases Nat.lt_or_ge c (numB (x.length : Int)).length with hc | hc
  · rw [List.take_append_of_le_length (by omega)]
    have := num_cut0 (x.length : Int) c hc
    unfold getR
    rw [if_pos (by rw [this]; decide)]
    exact this
  · obtain ⟨d, rfl⟩ := Nat.exists_eq_add_of_le hc
    rw [List.take_length_add_append]
    rw [List.length_append] at h
    have hg := getN_num (x.length : Int) (by unfold In64; omega) (x.take d)
    unfold getR
    rw [hg]
    simp only
    rw [if_neg (by simp), if_neg (by omega), if_pos (by rw [List.length_append, List.length_take]; omega)]
theorem refE_cut (x : EntP) (h : okE x) (c : Nat) (hc : c < (putE x).length) : refE ((putE x).take c) = (entP0, 0, 12) := by
  obtain ⟨k, s, u, o, has, v⟩ := x
  have hn := okE_nums h
  have hy := rightE_yes h
  simp only at hn hy
  have e : putE ⟨k, s, u, o, has, v⟩ = rowB k ++ (numB s ++ (numB u ++ (numB o ++ (truthB has ++ (if has = true then rowB v else []))))) := by
    unfold putE entB tagB; simp only [List.append_assoc]
  rw [e] at hc ⊢
  simp only [List.length_append] at hc
  rcases Nat.lt_or_ge c (rowB k).length with g | g
  · rw [List.take_append_of_le_length (by omega)]
    have := row_cut k c (by omega) g
    unfold refE; simp only [this]; rfl
  obtain ⟨c1, rfl⟩ := Nat.exists_eq_add_of_le g
  rw [List.take_length_add_append]
  obtain ⟨Z1, hZ1⟩ : ∃ Z, (numB s ++ (numB u ++ (numB o ++ (truthB has ++ (if has = true then rowB v else []))))).take c1 = Z := ⟨_, rfl⟩
  rw [hZ1]
  have h1 := getR_row k Z1 (by omega)
  have d1 : (rowB k ++ Z1).drop (rowB k).length = Z1 := List.drop_left
  rcases Nat.lt_or_ge c1 (numB s).length with g1 | g1
  · rw [List.take_append_of_le_length (by omega)] at hZ1
    have := getB_cut 1099511627776 s c1 g1
    rw [hZ1] at this
    unfold refE; simp only [h1, d1, this]; simp
  obtain ⟨c2, rfl⟩ := Nat.exists_eq_add_of_le g1
  rw [List.take_length_add_append] at hZ1
  obtain ⟨Z2, hZ2⟩ : ∃ Z, (numB u ++ (numB o ++ (truthB has ++ (if has = true then rowB v else [])))).take c2 = Z := ⟨_, rfl⟩
  rw [hZ2] at hZ1
  subst hZ1
  have h2 := getB_num 1099511627776 s (by omega) (by omega) (by omega) Z2
  have d2 : (rowB k ++ (numB s ++ Z2)).drop ((rowB k).length + (numB s).length) = Z2 := by rw [← List.drop_drop, d1, List.drop_left]
  rcases Nat.lt_or_ge c2 (numB u).length with g2 | g2
  · rw [List.take_append_of_le_length (by omega)] at hZ2
    have := getB_cut 1048576 u c2 g2
    rw [hZ2] at this
    unfold refE; simp only [h1, d1, h2, d2, this]; simp
  obtain ⟨c3, rfl⟩ := Nat.exists_eq_add_of_le g2
  rw [List.take_length_add_append] at hZ2
  obtain ⟨Z3, hZ3⟩ : ∃ Z, (numB o ++ (truthB has ++ (if has = true then rowB v else []))).take c3 = Z := ⟨_, rfl⟩
  rw [hZ3] at hZ2
  subst hZ2
  have h3 := getB_num 1048576 u (by omega) (by omega) (by omega) Z3
  have d3 : (rowB k ++ (numB s ++ (numB u ++ Z3))).drop ((rowB k).length + (numB s).length + (numB u).length) = Z3 := by rw [← List.drop_drop, d2, List.drop_left]
  rcases Nat.lt_or_ge c3 (numB o).length with g3 | g3
  · rw [List.take_append_of_le_length (by omega)] at hZ3
    have := getB_cut 1048576 o c3 g3
    rw [hZ3] at this
    unfold refE; simp only [h1, d1, h2, d2, h3, d3, this]; simp
  obtain ⟨c4, rfl⟩ := Nat.exists_eq_add_of_le g3
  rw [List.take_length_add_append] at hZ3
  obtain ⟨Z4, hZ4⟩ : ∃ Z, (truthB has ++ (if has = true then rowB v else [])).take c4 = Z := ⟨_, rfl⟩
  rw [hZ4] at hZ3
  subst hZ3
  have h4 := getB_num 1048576 o (by omega) (by omega) (by omega) Z4
  have d4 : (rowB k ++ (numB s ++ (numB u ++ (numB o ++ Z4)))).drop ((rowB k).length + (numB s).length + (numB u).length + (numB o).length) = Z4 := by rw [← List.drop_drop, d3, List.drop_left]
  have tl : (truthB has).length = 1 := rfl
  rcases Nat.eq_zero_or_pos c4 with g4 | g4
  · subst g4
    rw [List.take_zero] at hZ4
    subst hZ4
    unfold refE; simp only [h1, d1, h2, d2, h3, d3, h4, d4]; rfl
  obtain ⟨c5, rfl⟩ : ∃ c5, c4 = (truthB has).length + c5 := ⟨c4 - 1, by omega⟩
  rw [List.take_length_add_append] at hZ4
  cases has
  · simp only [Bool.false_eq_true, if_false, List.length_nil] at hc; omega
  · simp only [if_true] at hZ4 hc
    have h6 := row_cut v c5 (by omega) (by omega)
    subst hZ4
    have h5 := getT_truth true ((rowB v).take c5)
    have d5 : (rowB k ++ (numB s ++ (numB u ++ (numB o ++ (truthB true ++ (rowB v).take c5))))).drop ((rowB k).length + (numB s).length + (numB u).length + (numB o).length + 1) = (rowB v).take c5 := by
      rw [← List.drop_drop, d4]; rfl
    unfold refE; simp only [h1, d1, h2, d2, h3, d3, h4, d4, h5, d5, h6]; simp
theorem readP_put (x : EntP) (h : okE x) : readP (putE x) = (x, 0) := by
  have := refE_put x h []
  rw [List.append_nil] at this
  rw [read_ref]; unfold refReadP; rw [this]; simp
theorem readP_more (x : EntP) (h : okE x) (m : UInt8) : readP (putE x ++ [m]) = (entP0, 11) := by
  have := refE_put x h [m]
  rw [read_ref]; unfold refReadP; rw [this]; simp
theorem readP_cut (x : EntP) (h : okE x) (c : Nat) (hc : c < (putE x).length) : readP ((putE x).take c) = (entP0, 12) := by
  rw [read_ref]; unfold refReadP; rw [refE_cut x h c hc]; rfl
theorem readP_back {bs : List UInt8} {x : EntP} {e : Int} (h : readP bs = (x, e)) : (e ≠ 0 ∧ x = entP0) ∨ (e = 0 ∧ okE x ∧ putE x = bs) := by
  rw [read_ref] at h
  obtain ⟨⟨y, q, f⟩, hr⟩ : ∃ y, refE bs = y := ⟨_, rfl⟩
  unfold refReadP at h
  rw [hr] at h
  simp only at h
  split at h
  · rename_i hf; left; simp only [Prod.mk.injEq] at h; exact ⟨by omega, h.1.symm⟩
  · rename_i hf
    have hf0 : f = 0 := by omega
    subst hf0
    obtain ⟨h1, h2, h3⟩ := refE_back hr
    split at h
    · left; simp only [Prod.mk.injEq] at h; exact ⟨by omega, h.1.symm⟩
    · right
      simp only [Prod.mk.injEq] at h
      obtain ⟨rfl, rfl⟩ := h
      exact ⟨rfl, h1, by rw [← h3]; exact List.take_of_length_le (by omega)⟩
end Go.Proofs.YtkdpfjenjcpcfaaGreatDoor
