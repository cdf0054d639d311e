/- Frames as lists of bytes: what a frame is, what the first one is, all that are found. No dump is imported here. -/
import Derived.Test.YtkdpfjenjcpcfaaGreatDoorCore
namespace Go.Proofs.YtkdpfjenjcpcfaaGreatDoor
open Mem Be Word
set_option linter.unusedVariables false
namespace Frm
/-- A record: its kind, its bytes. -/
abbrev Rc := UInt8 × List UInt8
def chk (bs : List UInt8) : Nat := checkN (sumN basisN bs)
theorem chk_lt (bs : List UInt8) : chk bs < 4294967296 := by
  have hh := sum_lt _ basis_lt bs
  unfold U64 at hh
  unfold chk checkN
  have := Nat.xor_lt_two_pow (n := 32) (x := sumN basisN bs / 4294967296) (y := sumN basisN bs % 4294967296) (by omega) (by omega)
  omega
def b4 (n : Nat) : List UInt8 := be 4 (n : Int)
theorem b4_len (n : Nat) : (b4 n).length = 4 := be_len _ _
def headB (k : UInt8) (n : Nat) : List UInt8 := 165 :: k :: b4 n
theorem head_len (k : UInt8) (n : Nat) : (headB k n).length = 6 := by simp [headB, b4_len]
def bodyB (r : Rc) : List UInt8 := headB r.1 r.2.length ++ r.2
theorem body_len (r : Rc) : (bodyB r).length = r.2.length + 6 := by simp [bodyB, head_len]; omega
def frB (r : Rc) : List UInt8 := bodyB r ++ b4 (chk (bodyB r))
theorem fr_len (r : Rc) : (frB r).length = r.2.length + 10 := by simp [frB, body_len, b4_len]
theorem rd_b4 (n : Nat) (h : n < 4294967296) : rd (b4 n) = (n : Int) := by
  have p := pows.2.2.2.2.1
  exact rd_be 4 _ (by omega) (by rw [p]; omega)
/-- What the head of the first frame says. -/
def lenS (bs : List UInt8) : Int × Int :=
  if bs.length = 0 then (0, 4) else if bs.getD 0 0 ≠ 165 then (0, 11) else if bs.length < 6 then (0, 12) else
  if 65536 < rd ((bs.drop 2).take 4) then (0, 11) else (rd ((bs.drop 2).take 4), 0)
inductive Nx where
  | bad (e : Int)
  | ok (r : Rc)
/-- The first frame. -/
def nextS (bs : List UInt8) : Nx :=
  if (lenS bs).2 ≠ 0 then .bad (lenS bs).2 else
  if bs.length < (lenS bs).1.toNat + 10 then .bad 12 else
  if rd ((bs.drop ((lenS bs).1.toNat + 6)).take 4) ≠ (chk (bs.take ((lenS bs).1.toNat + 6)) : Int) then .bad 20 else .ok (bs.getD 1 0, (bs.drop 6).take (lenS bs).1.toNat)
theorem len_range (bs : List UInt8) : 0 ≤ (lenS bs).1 ∧ (lenS bs).1 ≤ 65536 := by
  unfold lenS
  repeat' split
  all_goals first | exact ⟨by decide, by decide⟩ | exact ⟨rd_nonneg _, by show rd _ ≤ _; omega⟩
theorem len_laid (k : UInt8) (n : Nat) (hn : n ≤ 65536) (more : List UInt8) : lenS (headB k n ++ more) = ((n : Int), 0) := by
  have h1 : (headB k n ++ more).length = 6 + more.length := by rw [List.length_append, head_len]
  have h2 : (headB k n ++ more).getD 0 0 = 165 := rfl
  have h3 : ((headB k n ++ more).drop 2).take 4 = b4 n := by
    show (b4 n ++ more).take 4 = _
    rw [List.take_append_of_le_length (by rw [b4_len]; omega), List.take_of_length_le (by rw [b4_len]; omega)]
  unfold lenS
  rw [if_neg (by omega), if_neg (by rw [h2]; decide), if_neg (by omega), h3, rd_b4 n (by omega), if_neg (by omega)]
theorem next_frame (r : Rc) (hr : r.2.length ≤ 65536) (more : List UInt8) : nextS (frB r ++ more) = .ok r := by
  have hl : lenS (frB r ++ more) = ((r.2.length : Int), 0) := by
    have : frB r ++ more = headB r.1 r.2.length ++ (r.2 ++ (b4 (chk (bodyB r)) ++ more)) := by simp [frB, bodyB]
    rw [this]; exact len_laid _ _ hr _
  have h1 : (frB r ++ more).length = r.2.length + 10 + more.length := by rw [List.length_append, fr_len]
  have e : frB r ++ more = bodyB r ++ (b4 (chk (bodyB r)) ++ more) := by simp [frB]
  unfold nextS
  rw [hl]
  simp only [Int.toNat_natCast, ne_eq, not_true_eq_false, if_false]
  rw [if_neg (by omega), if_neg]
  · congr 1
    refine Prod.ext rfl ?_
    show ((frB r ++ more).drop 6).take r.2.length = r.2
    have : frB r ++ more = headB r.1 r.2.length ++ (r.2 ++ (b4 (chk (bodyB r)) ++ more)) := by simp [frB, bodyB]
    rw [this, List.drop_left' (head_len _ _), List.take_left' rfl]
  · rw [e, List.drop_left' (body_len r), List.take_left' (body_len r), List.take_left' (b4_len _), rd_b4 _ (chk_lt _)]
    simp
theorem take_parts (bs : List UInt8) (n : Nat) (h : n + 10 ≤ bs.length) : bs.take (n + 6) = bs.take 2 ++ ((bs.drop 2).take 4 ++ (bs.drop 6).take n) := by
  have h1 : bs.take (n + 6) = bs.take 2 ++ (bs.drop 2).take (n + 4) := by
    rw [show n + 6 = 2 + (n + 4) by omega, List.take_add]
  have h2 : (bs.drop 2).take (n + 4) = (bs.drop 2).take 4 ++ (bs.drop 6).take n := by
    rw [show n + 4 = 4 + n by omega, List.take_add, List.drop_drop]
  rw [h1, h2]
theorem b4_rd (xs : List UInt8) (h : xs.length = 4) : b4 (rd xs).toNat = xs := by
  have h0 := rd_nonneg xs
  unfold b4
  rw [Int.toNat_of_nonneg h0]
  have := be_rd xs
  rw [h] at this
  exact this
theorem two_head (bs : List UInt8) (h : 6 ≤ bs.length) (h0 : bs.getD 0 0 = 165) : bs.take 2 = [165, bs.getD 1 0] := by
  match bs, h with
  | a :: b :: l, _ => simp at h0; simp [h0]
theorem next_ok {bs : List UInt8} {r : Rc} (h : nextS bs = .ok r) : r.2.length ≤ 65536 ∧ r.2.length + 10 ≤ bs.length ∧ bs.take (r.2.length + 10) = frB r := by
  have hr := len_range bs
  unfold nextS at h
  split at h
  · cases h
  · rename_i he
    split at h
    · cases h
    · rename_i hlen
      split at h
      · cases h
      · rename_i hc
        injection h with h
        obtain ⟨n, hn⟩ : ∃ n, (lenS bs).1.toNat = n := ⟨_, rfl⟩
        rw [hn] at h hlen hc
        have hnl : ((bs.drop 6).take n).length = n := by rw [List.length_take, List.length_drop]; omega
        subst h
        simp only [hnl]
        refine ⟨by omega, by omega, ?_⟩
        have hz : (lenS bs).2 = 0 := by simpa using he
        have hh : bs.getD 0 0 = 165 ∧ (lenS bs).1 = rd ((bs.drop 2).take 4) := by
          unfold lenS at hz ⊢
          by_cases a1 : bs.length = 0
          · rw [if_pos a1] at hz; cases hz
          · rw [if_neg a1] at hz ⊢
            by_cases a2 : bs.getD 0 0 ≠ 165
            · rw [if_pos a2] at hz; cases hz
            · rw [if_neg a2] at hz ⊢
              by_cases a3 : bs.length < 6
              · rw [if_pos a3] at hz; cases hz
              · rw [if_neg a3] at hz ⊢
                by_cases a4 : 65536 < rd ((bs.drop 2).take 4)
                · rw [if_pos a4] at hz; cases hz
                · rw [if_neg a4]
                  exact ⟨by simpa using a2, rfl⟩
        have hn4 : ((bs.drop 2).take 4).length = 4 := by rw [List.length_take, List.length_drop]; omega
        have hb4 : b4 n = (bs.drop 2).take 4 := by rw [← hn, hh.2]; exact b4_rd _ hn4
        have hbody : bodyB (bs.getD 1 0, (bs.drop 6).take n) = bs.take (n + 6) := by
          rw [take_parts bs n (by omega), two_head bs (by omega) hh.1]
          simp only [bodyB, headB, hnl, hb4]
          simp
        have hc' : rd ((bs.drop (n + 6)).take 4) = (chk (bs.take (n + 6)) : Int) := by simpa using hc
        have hl4 : ((bs.drop (n + 6)).take 4).length = 4 := by rw [List.length_take, List.length_drop]; omega
        have ht := b4_rd _ hl4
        rw [hc', Int.toNat_natCast] at ht
        unfold frB
        rw [hbody, ht, show n + 10 = n + 6 + 4 by omega, List.take_add]
theorem next_bad {bs : List UInt8} {e : Int} (h : nextS bs = .bad e) : (e = 4 ∧ bs = []) ∨ ((e = 11 ∨ e = 12 ∨ e = 20) ∧ bs ≠ []) := by
  by_cases hb : bs = []
  · subst hb
    refine Or.inl ⟨?_, rfl⟩
    injection h with h
    exact h.symm
  · refine Or.inr ⟨?_, hb⟩
    have hl : bs.length ≠ 0 := fun h0 => hb (List.eq_nil_of_length_eq_zero h0)
    have h3 : (lenS bs).2 = 11 ∨ (lenS bs).2 = 12 ∨ (lenS bs).2 = 0 := by
      unfold lenS
      rw [if_neg hl]
      repeat' split
      all_goals simp
    unfold nextS at h
    split at h
    · injection h with h
      subst h
      rename_i hz
      rcases h3 with h3 | h3 | h3
      · exact Or.inl h3
      · exact Or.inr (Or.inl h3)
      · exact absurd h3 hz
    · split at h
      · injection h with h; exact Or.inr (Or.inl h.symm)
      · split at h
        · injection h with h; exact Or.inr (Or.inr h.symm)
        · cases h
theorem len_ok {bs : List UInt8} {l0 : Int} (h : lenS bs = (l0, 0)) : 6 ≤ bs.length ∧ bs.getD 0 0 = 165 ∧ l0 = rd ((bs.drop 2).take 4) := by
  unfold lenS at h
  by_cases a1 : bs.length = 0
  · rw [if_pos a1] at h; cases h
  · rw [if_neg a1] at h
    by_cases a2 : bs.getD 0 0 ≠ 165
    · rw [if_pos a2] at h; cases h
    · rw [if_neg a2] at h
      by_cases a3 : bs.length < 6
      · rw [if_pos a3] at h; cases h
      · rw [if_neg a3] at h
        by_cases a4 : 65536 < rd ((bs.drop 2).take 4)
        · rw [if_pos a4] at h; cases h
        · rw [if_neg a4] at h
          injection h with h
          exact ⟨by omega, by simpa using a2, h.symm⟩
theorem body_eq {bs : List UInt8} {L : Nat} (h : lenS bs = ((L : Int), 0)) (hl : L + 10 ≤ bs.length) : bodyB (bs.getD 1 0, (bs.drop 6).take L) = bs.take (L + 6) := by
  obtain ⟨h6, h0, hr⟩ := len_ok h
  have hnl : ((bs.drop 6).take L).length = L := by rw [List.length_take, List.length_drop]; omega
  have hn4 : ((bs.drop 2).take 4).length = 4 := by rw [List.length_take, List.length_drop]; omega
  have hb4 : b4 L = (bs.drop 2).take 4 := by
    have := b4_rd _ hn4
    rw [← hr, Int.toNat_natCast] at this
    exact this
  rw [take_parts bs L hl, two_head bs h6 h0]
  simp only [bodyB, headB, hnl, hb4]
  simp
/-- The frame of what is there is there just if the sum is right. -/
theorem fr_there {bs : List UInt8} {L : Nat} (h : lenS bs = ((L : Int), 0)) (hl : L + 10 ≤ bs.length) :
    frB (bs.getD 1 0, (bs.drop 6).take L) = bs.take (L + 10) ↔ rd ((bs.drop (L + 6)).take 4) = (chk (bs.take (L + 6)) : Int) := by
  have hb := body_eq h hl
  have hl4 : ((bs.drop (L + 6)).take 4).length = 4 := by rw [List.length_take, List.length_drop]; omega
  have e : bs.take (L + 10) = bs.take (L + 6) ++ (bs.drop (L + 6)).take 4 := by rw [show L + 10 = L + 6 + 4 by omega, List.take_add]
  unfold frB
  rw [hb, e]
  constructor
  · intro h1
    have h2 := List.append_cancel_left h1
    rw [← h2, rd_b4 _ (chk_lt _)]
  · intro h1
    congr 1
    have := b4_rd _ hl4
    rw [h1, Int.toNat_natCast] at this
    exact this
theorem next_nil : nextS [] = .bad 4 := rfl
theorem next_cut (r : Rc) (hr : r.2.length ≤ 65536) (j : Nat) (h0 : 0 < j) (hj : j < r.2.length + 10) : nextS ((frB r).take j) = .bad 12 := by
  have hl : ((frB r).take j).length = j := by rw [List.length_take, fr_len]; omega
  have hg : ((frB r).take j).getD 0 0 = 165 := by
    obtain ⟨i, rfl⟩ : ∃ i, j = i + 1 := ⟨j - 1, by omega⟩
    rfl
  by_cases h6 : j < 6
  · have : lenS ((frB r).take j) = (0, 12) := by
      unfold lenS
      rw [if_neg (by omega), if_neg (by rw [hg]; decide), if_pos (by omega)]
    unfold nextS
    rw [this]
    rfl
  · have e : (frB r).take j = headB r.1 r.2.length ++ (r.2 ++ b4 (chk (bodyB r))).take (j - 6) := by
      have : frB r = headB r.1 r.2.length ++ (r.2 ++ b4 (chk (bodyB r))) := by simp [frB, bodyB]
      rw [this, List.take_append, head_len, List.take_of_length_le (by rw [head_len]; omega)]
    have h3 : lenS ((frB r).take j) = ((r.2.length : Int), 0) := by rw [e]; exact len_laid _ _ hr _
    unfold nextS
    rw [h3]
    simp only [Int.toNat_natCast, ne_eq, not_true_eq_false, if_false]
    rw [if_pos (by omega)]
/-- All that are found. -/
def scanF : Nat → List UInt8 → List Rc × Nat × Int
  | 0, _ => ([], 0, 0)
  | f + 1, bs => match nextS bs with
    | .bad e => ([], 0, if e = 4 then 0 else e)
    | .ok r => (r :: (scanF f (bs.drop (r.2.length + 10))).1, r.2.length + 10 + (scanF f (bs.drop (r.2.length + 10))).2.1, (scanF f (bs.drop (r.2.length + 10))).2.2)
def scanS (bs : List UInt8) : List Rc × Nat × Int := scanF (bs.length + 1) bs
theorem scan_fuel : ∀ (f g : Nat) (bs : List UInt8), bs.length < f → bs.length < g → scanF f bs = scanF g bs
  | 0, _, _, h, _ => absurd h (by omega)
  | _, 0, _, _, h => absurd h (by omega)
  | f + 1, g + 1, bs, hf, hg => by
    unfold scanF
    cases hn : nextS bs with
    | bad e => rfl
    | ok r =>
      have := next_ok hn
      simp only
      rw [scan_fuel f g (bs.drop (r.2.length + 10)) (by rw [List.length_drop]; omega) (by rw [List.length_drop]; omega)]
theorem scan_bad {bs : List UInt8} {e : Int} (h : nextS bs = .bad e) : scanS bs = ([], 0, if e = 4 then 0 else e) := by
  unfold scanS scanF
  rw [h]
theorem scan_ok {bs : List UInt8} {r : Rc} (h : nextS bs = .ok r) :
    scanS bs = (r :: (scanS (bs.drop (r.2.length + 10))).1, r.2.length + 10 + (scanS (bs.drop (r.2.length + 10))).2.1, (scanS (bs.drop (r.2.length + 10))).2.2) := by
  have := next_ok h
  unfold scanS
  rw [scanF, h]
  simp only
  rw [scan_fuel bs.length ((bs.drop (r.2.length + 10)).length + 1) _ (by rw [List.length_drop]; omega) (by omega)]
theorem scan_nil : scanS [] = ([], 0, 0) := scan_bad next_nil
def allB (rs : List Rc) : List UInt8 := rs.flatMap frB
theorem all_cons (r : Rc) (rs : List Rc) : allB (r :: rs) = frB r ++ allB rs := rfl
theorem all_app (a b : List Rc) : allB (a ++ b) = allB a ++ allB b := by unfold allB; rw [List.flatMap_append]
theorem all_snoc (rs : List Rc) (k : Nat) (h : k < rs.length) : allB (rs.take (k + 1)) = allB (rs.take k) ++ frB rs[k] := by
  rw [List.take_succ_eq_append_getElem h, all_app]; simp [allB]
def Short (rs : List Rc) : Prop := ∀ r ∈ rs, r.2.length ≤ 65536
theorem scan_laid : ∀ (rs : List Rc) (_ : Short rs) (more : List UInt8), scanS (allB rs ++ more) = (rs ++ (scanS more).1, (allB rs).length + (scanS more).2.1, (scanS more).2.2)
  | [], _, more => by simp [allB]
  | r :: rs, h, more => by
    have hr := h r (by simp)
    have e : allB (r :: rs) ++ more = frB r ++ (allB rs ++ more) := by rw [all_cons, List.append_assoc]
    have hn := next_frame r hr (allB rs ++ more)
    rw [e, scan_ok hn, List.drop_left' (fr_len r), scan_laid rs (fun x hx => h x (by simp [hx])) more]
    simp only [all_cons, List.length_append, fr_len, List.cons_append]
    refine Prod.ext rfl (Prod.ext ?_ rfl)
    simp only
    omega
theorem scan_all (rs : List Rc) (h : Short rs) : scanS (allB rs) = (rs, (allB rs).length, 0) := by
  have := scan_laid rs h []
  rw [List.append_nil, scan_nil] at this
  simpa using this
theorem all_inj {a b : List Rc} (ha : Short a) (hb : Short b) (h : allB a = allB b) : a = b := by
  have h1 := scan_all a ha
  rw [h, scan_all b hb] at h1
  exact (congrArg Prod.fst h1).symm
theorem scan_back : ∀ (n : Nat) (bs : List UInt8), bs.length ≤ n → Short (scanS bs).1 ∧ (scanS bs).2.1 = (allB (scanS bs).1).length ∧ (scanS bs).2.1 ≤ bs.length ∧ allB (scanS bs).1 = bs.take (scanS bs).2.1
  | n, bs, hn => by
    cases h : nextS bs with
    | bad e =>
      rw [scan_bad h]
      refine ⟨?_, rfl, Nat.zero_le _, rfl⟩
      intro r hr
      exact absurd hr List.not_mem_nil
    | ok r =>
      have hk := next_ok h
      obtain ⟨m, rfl⟩ : ∃ m, n = m + 1 := ⟨n - 1, by omega⟩
      have ih := scan_back m (bs.drop (r.2.length + 10)) (by rw [List.length_drop]; omega)
      rw [scan_ok h]
      simp only
      obtain ⟨i1, i2, i3, i4⟩ := ih
      rw [List.length_drop] at i3
      refine ⟨?_, ?_, by omega, ?_⟩
      · intro x hx
        rcases List.mem_cons.1 hx with rfl | hx
        · exact hk.1
        · exact i1 x hx
      · rw [all_cons, List.length_append, fr_len, ← i2]
      · rw [all_cons, i4, List.take_add, ← hk.2.2]
theorem scan_short (bs : List UInt8) : Short (scanS bs).1 := (scan_back _ bs (Nat.le_refl _)).1
theorem scan_at (bs : List UInt8) : (scanS bs).2.1 ≤ bs.length := (scan_back _ bs (Nat.le_refl _)).2.2.1
theorem scan_again (bs : List UInt8) : allB (scanS bs).1 = bs.take (scanS bs).2.1 := (scan_back _ bs (Nat.le_refl _)).2.2.2
theorem all_drop (rs : List Rc) (n : Nat) : allB rs = allB (rs.take n) ++ allB (rs.drop n) := by rw [← all_app, List.take_append_drop]
/-- Cut anywhere, those that are whole are found. -/
theorem scan_cut (rs : List Rc) (h : Short rs) (k n : Nat) (hn : n ≤ rs.length) (h1 : (allB (rs.take n)).length ≤ k) (h2 : k ≤ (allB rs).length) (h3 : ∀ (hl : n < rs.length), k < (allB (rs.take n)).length + (rs[n].2.length + 10)) :
    scanS ((allB rs).take k) = (rs.take n, (allB (rs.take n)).length, if (allB (rs.take n)).length = k then 0 else 12) := by
  have hs : Short (rs.take n) := fun r hr => h r (List.mem_of_mem_take hr)
  have e : (allB rs).take k = allB (rs.take n) ++ (allB (rs.drop n)).take (k - (allB (rs.take n)).length) := by
    conv => lhs; rw [all_drop rs n]
    rw [List.take_append, List.take_of_length_le h1]
  rw [e, scan_laid _ hs]
  by_cases hk : (allB (rs.take n)).length = k
  · rw [if_pos hk, show k - (allB (rs.take n)).length = 0 by omega, List.take_zero, scan_nil]
    simp
  · rw [if_neg hk]
    rcases Nat.lt_or_ge n rs.length with hl | hl
    · have h3' := h3 hl
      have ed : rs.drop n = rs[n] :: rs.drop (n + 1) := List.drop_eq_getElem_cons hl
      have hc := next_cut rs[n] (h rs[n] (List.getElem_mem hl)) (k - (allB (rs.take n)).length) (by omega) (by omega)
      rw [ed, all_cons, List.take_append_of_le_length (by rw [fr_len]; omega), scan_bad hc]
      simp
    · rw [List.take_of_length_le hl] at h1 hk ⊢
      omega
/-- What a row of records takes. -/
def longN (rs : List Rc) : Nat := (allB rs).length
theorem long_nil : longN [] = 0 := rfl
theorem long_snoc (rs : List Rc) (k : Nat) (h : k < rs.length) : longN (rs.take (k + 1)) = longN (rs.take k) + 10 + rs[k].2.length := by
  unfold longN
  rw [all_snoc rs k h, List.length_append, fr_len]; omega
theorem long_le (rs : List Rc) (k : Nat) : longN (rs.take k) ≤ longN rs := by
  unfold longN
  conv => rhs; rw [all_drop rs k]
  rw [List.length_append]; omega
theorem long_each {rs : List Rc} {r : Rc} (h : r ∈ rs) : r.2.length + 10 ≤ longN rs := by
  obtain ⟨k, hk, rfl⟩ := List.mem_iff_getElem.1 h
  have := long_snoc rs k hk
  have := long_le rs (k + 1)
  omega
theorem long_many (rs : List Rc) : rs.length * 10 ≤ longN rs := by
  induction rs with
  | nil => simp
  | cons r rs ih => unfold longN at *; rw [all_cons, List.length_append, fr_len, List.length_cons]; omega
end Frm
end Go.Proofs.YtkdpfjenjcpcfaaGreatDoor
