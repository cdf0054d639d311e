/- LnS: Deeds as they lie; a row of at most twenty indexes is sorted by their deeds' ends (slices.SortStableFunc). -/
import Derived.Test.YtlecbhnopokmnaaLnW
import Derived.Deep.QuietTactic
import Derived.Deep.RegionLaw
namespace Go.Proofs.Ytlecbhnopokmnaa
open Go.RowKit Mem
set_option maxRecDepth 100000
set_option maxHeartbeats 1000000
set_option linter.unusedVariables false
open Ln
def cmpI18 (a b : Int) : Int := if a < b then -1 else if b < a then 1 else 0
theorem cmpI18_lt (a b : Int) : cmpI18 a b < 0 ↔ a < b := by
  unfold cmpI18
  by_cases h : a < b
  · rw [if_pos h]; omega
  · rw [if_neg h]; split <;> omega
theorem isnan18 (a : Int) (w : World) : Calls Try.prog 84 #[.int .i64 a] w fun e w' => e = .returned (.bool false) ∧ w = w' := by
  go_enter Try.func84, Try.ntmps84
  go_wp2
  go_ret
  exact ⟨rfl, rfl⟩
theorem cmpint18 (a b : Int) (w : World) : Calls Try.prog 65 #[.int .i64 a, .int .i64 b] w fun e w' => e = .returned (.int .i64 (cmpI18 a b)) ∧ w = w' := by
  by_cases h : a < b
  · have e : cmpI18 a b = -1 := if_pos h
    rw [e]; clear e
    go_enter Try.func65, Try.ntmps65
    go_wp2_with (go_at_call 84; refine (isnan18 _ _).mono ?_; rintro e w' ⟨rfl, rfl⟩)
    go_ret
    exact ⟨rfl, rfl⟩
  by_cases h2 : b < a
  · have e : cmpI18 a b = 1 := (if_neg h).trans (if_pos h2)
    have h3 : b ≤ a := by omega
    rw [e]; clear e h
    go_enter Try.func65, Try.ntmps65
    go_wp2_with (go_at_call 84; refine (isnan18 _ _).mono ?_; rintro e w' ⟨rfl, rfl⟩)
    go_ret
    exact ⟨rfl, rfl⟩
  · have e : cmpI18 a b = 0 := (if_neg h).trans (if_neg h2)
    have hab : a = b := by omega
    subst hab
    rw [e]; clear e h h2
    go_enter Try.func65, Try.ntmps65
    go_wp2_with (go_at_call 84; refine (isnan18 _ _).mono ?_; rintro e w' ⟨rfl, rfl⟩)
    go_ret
    exact ⟨rfl, rfl⟩
/-! Orders. -/
/-- Where one is laid, of k that are there already: behind those from the begin on that p does not hold of. -/
def atE (p : Nat → Bool) : Nat → Nat
  | 0 => 0
  | k + 1 => if p k then atE p k else k + 1
theorem atE_le (p : Nat → Bool) (k : Nat) : atE p k ≤ k := by
  induction k with
  | zero => exact Nat.le_refl _
  | succ k ih => unfold atE; split <;> omega
theorem atE_hi (p : Nat → Bool) (k j : Nat) (h1 : atE p k ≤ j) (h2 : j < k) : p j = true := by
  induction k with
  | zero => omega
  | succ k ih =>
    unfold atE at h1
    split at h1
    · rename_i hp
      rcases Nat.lt_or_ge j k with h | h
      · exact ih h1 h
      · rw [show j = k by omega]; exact hp
    · omega
theorem atE_lo (p : Nat → Bool) (k : Nat) (h : 0 < atE p k) : p (atE p k - 1) = false := by
  induction k with
  | zero => exact absurd h (by simp [atE])
  | succ k ih =>
    by_cases hp : p k = true
    · have e : atE p (k + 1) = atE p k := by show (if p k then atE p k else k + 1) = _; rw [if_pos hp]
      rw [e] at h ⊢; exact ih h
    · have e : atE p (k + 1) = k + 1 := by show (if p k then atE p k else k + 1) = _; rw [if_neg hp]
      rw [e, Nat.add_sub_cancel]; simpa using hp
/-- Does e end ahead of x? -/
def lessS (sc : Nat → Int) (x e : Nat) : Bool := decide (cmpI18 (sc e) (sc x) < 0)
def placeS (sc : Nat → Int) (l : List Nat) (e : Nat) : Nat := atE (fun k => lessS sc (l.getD k 0) e) l.length
def insS (sc : Nat → Int) (l : List Nat) (e : Nat) : List Nat := l.take (placeS sc l e) ++ e :: l.drop (placeS sc l e)
def ordS (sc : Nat → Int) : Nat → List Nat
  | 0 => []
  | k + 1 => insS sc (ordS sc k) k
theorem insS_len (sc : Nat → Int) (l : List Nat) (e : Nat) : (insS sc l e).length = l.length + 1 := by
  have := atE_le (fun k => lessS sc (l.getD k 0) e) l.length
  unfold insS placeS
  rw [List.length_append, List.length_cons, List.length_take, List.length_drop]; omega
theorem ordS_len (sc : Nat → Int) (k : Nat) : (ordS sc k).length = k := by
  induction k with
  | zero => rfl
  | succ k ih => show (insS sc (ordS sc k) k).length = _; rw [insS_len, ih]
theorem ordS_mem (sc : Nat → Int) (k : Nat) : ∀ x ∈ ordS sc k, x < k := by
  induction k with
  | zero => intro x hx; cases hx
  | succ k ih =>
    intro x hx
    have hx' : x ∈ insS sc (ordS sc k) k := hx
    unfold insS at hx'
    rcases List.mem_append.1 hx' with h | h
    · have := ih x (List.mem_of_mem_take h); omega
    · rcases List.mem_cons.1 h with h | h
      · omega
      · have := ih x (List.mem_of_mem_drop h); omega
/-- No end is greater than the next one. -/
def Asc (sc : Nat → Int) (l : List Nat) : Prop := l.Pairwise fun x y => sc x ≤ sc y
theorem ins_asc {sc : Nat → Int} {l : List Nat} {e : Nat} (h : Asc sc l) : Asc sc (insS sc l e) := by
  unfold insS
  obtain ⟨m, hm⟩ : ∃ m, placeS sc l e = m := ⟨_, rfl⟩
  rw [hm]
  have hle : m ≤ l.length := by rw [← hm]; exact atE_le _ _
  have hi : ∀ x ∈ l.drop m, sc e < sc x := by
    intro x hx
    obtain ⟨j, hj, rfl⟩ := List.mem_iff_getElem.1 hx
    rw [List.length_drop] at hj
    have := atE_hi (fun k => lessS sc (l.getD k 0) e) l.length (m + j) (by show placeS sc l e ≤ _; omega) (by omega)
    simp only [lessS, decide_eq_true_eq] at this
    rw [List.getElem_drop]
    rw [List.getD_eq_getElem?_getD, List.getElem?_eq_getElem (by omega)] at this
    exact (cmpI18_lt _ _).1 this
  have lo : ∀ x ∈ l.take m, sc x ≤ sc e := by
    intro x hx
    rcases Nat.eq_zero_or_pos m with h0 | h0
    · subst h0; simp at hx
    have hl := atE_lo (fun k => lessS sc (l.getD k 0) e) l.length (by show 0 < placeS sc l e; omega)
    have hpm : atE (fun k => lessS sc (l.getD k 0) e) l.length = m := hm
    rw [hpm] at hl
    simp only [lessS, decide_eq_false_iff_not] at hl
    rw [List.getD_eq_getElem?_getD, List.getElem?_eq_getElem (show m - 1 < l.length by omega)] at hl
    simp only [Option.getD_some] at hl
    rw [cmpI18_lt] at hl
    obtain ⟨j, hj, rfl⟩ := List.mem_iff_getElem.1 hx
    rw [List.length_take] at hj
    rw [List.getElem_take]
    rcases Nat.lt_or_ge j (m - 1) with hjm | hjm
    · have := List.pairwise_iff_getElem.1 h j (m - 1) (by omega) (by omega) hjm
      omega
    · have e : j = m - 1 := by omega
      subst e; omega
  have h1 : (l.take m ++ l.drop m).Pairwise fun x y => sc x ≤ sc y := by rw [List.take_append_drop]; exact h
  rw [List.pairwise_append] at h1
  unfold Asc
  rw [List.pairwise_append, List.pairwise_cons]
  refine ⟨h1.1, ⟨fun y hy => Int.le_of_lt (hi y hy), h1.2.1⟩, fun x hx y hy => ?_⟩
  rcases List.mem_cons.1 hy with rfl | hy
  · exact lo x hx
  · exact h1.2.2 x hx y hy
theorem ord_asc (sc : Nat → Int) (k : Nat) : Asc sc (ordS sc k) := by
  induction k with
  | zero => exact List.Pairwise.nil
  | succ k ih => exact ins_asc ih
theorem ord_has (sc : Nat → Int) (k : Nat) : ∀ i, i < k → i ∈ ordS sc k := by
  induction k with
  | zero => intro i hi; omega
  | succ k ih =>
    intro i hi
    show i ∈ insS sc (ordS sc k) k
    unfold insS
    rcases Nat.lt_or_ge i k with h | h
    · have := ih i h
      rw [← List.take_append_drop (placeS sc (ordS sc k) k) (ordS sc k)] at this
      rcases List.mem_append.1 this with h | h
      · exact List.mem_append_left _ h
      · exact List.mem_append_right _ (List.mem_cons_of_mem _ h)
    · obtain rfl : i = k := by omega
      exact List.mem_append_right _ List.mem_cons_self
def iN (k : Nat) : Value := .int .i64 (k : Int)
def rowN15 (l : List Nat) : Array Value := (l.map iN).toArray
theorem rowN_get {l : List Nat} {j x : Nat} (h : l[j]? = some x) : (rowN15 l)[j]? = some (iN x) := by
  unfold rowN15; rw [List.getElem?_toArray, List.getElem?_map, h]; rfl
theorem rowN_set (l : List Nat) (j x : Nat) : (rowN15 l).setIfInBounds j (iN x) = rowN15 (l.set j x) := by
  unfold rowN15; rw [List.setIfInBounds_toArray, List.map_set]
theorem cmp18_any (x y n gs bs os cs : Nat) (a b : Int) (hx : x < n) (hy : y < n) (hn : n ≤ 20) (w : World) (h : Blk w gs 28 #[.slice (some ⟨bs, os, none⟩) n cs]) (h1 : w.cell? ⟨bs, os + x * 7 + 3, none⟩ = some (.int .i64 a)) (h2 : w.cell? ⟨bs, os + y * 7 + 3, none⟩ = some (.int .i64 b)) :
    Calls Try.prog 64 #[.int .i64 (x : Int), .int .i64 (y : Int), .pointer (some ⟨gs, 0, none⟩)] w (Quiet (.int .i64 (cmpI18 a b)) w) := by
  have c0 : w.cell? ⟨gs, 0, none⟩ = some (.slice (some ⟨bs, os, none⟩) n cs) := h.cell 0
  have hx0 : (0 : Int) ≤ (x : Int) := by omega
  have hy0 : (0 : Int) ≤ (y : Int) := by omega
  have hx1 : (x : Int) < (n : Int) := by omega
  have hy1 : (y : Int) < (n : Int) := by omega
  have hn2 : (n : Int) ≤ 20 := by omega
  clear h hx hy hn
  go_enter Try.func64, Try.ntmps64
  go_wp2
  go_quiet ((go_at_call 65; exact Calls.quiet_of_same ((cmpint18 _ _ _).mono fun _ _ ⟨h1, h2⟩ => ⟨h1, h2.symm⟩)))
  go_wp2
  go_ret
  exact ⟨rfl, _, rfl⟩
/-- A row while one of its indexes moves ahead. -/
def moveD (l : List Nat) (e j : Nat) (tl : List Nat) : List Nat := l.take j ++ e :: (l.drop j ++ tl)
theorem move_len {l : List Nat} {e j : Nat} {tl : List Nat} (h : j ≤ l.length) : (moveD l e j tl).length = l.length + 1 + tl.length := by
  unfold moveD; rw [List.length_append, List.length_cons, List.length_append, List.length_take, List.length_drop]; omega
theorem move_at {l : List Nat} {e j : Nat} {tl : List Nat} (h : j ≤ l.length) : (moveD l e j tl)[j]? = some e := by
  unfold moveD
  rw [List.getElem?_append_right (by rw [List.length_take]; omega), List.length_take, show j - min j l.length = 0 by omega]; rfl
theorem move_pre {l : List Nat} {e k : Nat} {tl : List Nat} (h : k < l.length) : (moveD l e (k + 1) tl)[k]? = some (l.getD k 0) := by
  unfold moveD
  rw [List.getElem?_append_left (by rw [List.length_take]; omega), List.getElem?_take, if_pos (by omega), List.getElem?_eq_getElem h, List.getD_eq_getElem?_getD, List.getElem?_eq_getElem h]; rfl
theorem move_swap {l : List Nat} {e k : Nat} {tl : List Nat} (h : k < l.length) : ((moveD l e (k + 1) tl).set (k + 1) (l.getD k 0)).set k e = moveD l e k tl := by
  have e1 : l.take (k + 1) = l.take k ++ [l.getD k 0] := by
    rw [List.take_succ_eq_append_getElem h, List.getD_eq_getElem?_getD, List.getElem?_eq_getElem h]; rfl
  have e2 : l.drop k = l.getD k 0 :: l.drop (k + 1) := by
    rw [List.drop_eq_getElem_cons h, List.getD_eq_getElem?_getD, List.getElem?_eq_getElem h]; rfl
  have hl : (l.take k).length = k := by rw [List.length_take]; omega
  unfold moveD
  rw [e1, e2, List.append_assoc, List.set_append, if_neg (by omega), hl, show k + 1 - k = 1 by omega, List.set_append, if_neg (by omega), hl, Nat.sub_self]
  rfl
theorem move_swap' {l : List Nat} {e k : Nat} {tl : List Nat} (h : k < l.length) : ((moveD l e (k + 1) tl).set k e).set (k + 1) (l.getD k 0) = moveD l e k tl := by
  rw [List.set_comm _ _ (by omega)]; exact move_swap h
theorem blk_swap {W : World} {g e y k : Nat} {l tl : List Nat} (h : Blk W g 3 (rowN15 (moveD l e (k + 1) tl))) (hk : k < l.length) (hy : l.getD k 0 = y) : Blk ((W.setCell ⟨g, k + 1, none⟩ (.int .i64 (y : Int))).setCell ⟨g, k, none⟩ (.int .i64 (e : Int))) g 3 (rowN15 (moveD l e k tl)) := by
  have h1 := (h.set_ (k + 1) (iN y)).set_ k (iN e)
  rw [rowN_set, rowN_set, ← hy, move_swap hk, hy] at h1
  exact h1
theorem blk_swap' {W : World} {g e y k : Nat} {l tl : List Nat} (h : Blk W g 3 (rowN15 (moveD l e (k + 1) tl))) (hk : k < l.length) (hy : l.getD k 0 = y) : Blk ((W.setCell ⟨g, k, none⟩ (.int .i64 (e : Int))).setCell ⟨g, k + 1, none⟩ (.int .i64 (y : Int))) g 3 (rowN15 (moveD l e k tl)) := by
  have h1 := (h.set_ k (iN e)).set_ (k + 1) (iN y)
  rw [rowN_set, rowN_set, ← hy, move_swap' hk, hy] at h1
  exact h1
/-- The rest that is not sorted yet. -/
def restN (i n : Nat) : List Nat := List.range' i (n - i)
theorem rest_cons {i n : Nat} (h : i < n) : restN i n = i :: restN (i + 1) n := by
  unfold restN
  rw [show n - i = (n - (i + 1)) + 1 by omega, List.range'_succ]
theorem rest_nil {i n : Nat} (h : n ≤ i) : restN i n = [] := by unfold restN; rw [show n - i = 0 by omega]; rfl
theorem rest_len (i n : Nat) : (restN i n).length = n - i := by unfold restN; rw [List.length_range']
theorem drewN_grown (w : World) (q : Nat) (g : Option Nat) : w.grownBy (w.drewN q) g := grown_below (below_drew' w q w.heap.size) (Nat.le_refl _) g
theorem quiet_grown {w w1 w2 : World} {g : Option Nat} (h : w.grownBy w1 g) (hq : ∃ q, w2 = w1.drewN q) : w.grownBy w2 g := by
  obtain ⟨q, rfl⟩ := hq; exact grown_trans h (drewN_grown w1 q g)
/-- The ends as they lie: the deeds in the variable gs, the row at bs. -/
structure ScA (w : World) (gd gs bs os n cs : Nat) (sc : Nat → Int) : Prop where
  hk : Blk w gs 28 #[.slice (some ⟨bs, os, none⟩) n cs]
  hc : ∀ y, y < n → w.cell? ⟨bs, os + y * 7 + 3, none⟩ = some (.int .i64 (sc y))
  hg : gs ≠ gd
  hb : bs ≠ gd
  hl : bs < w.heap.size
theorem ScA.grown {w w' : World} {gd gs bs os n cs : Nat} {sc : Nat → Int} (S : ScA w gd gs bs os n cs sc) (h : w.grownBy w' (some gd)) : ScA w' gd gs bs os n cs sc :=
  ⟨S.hk.grown h (fun e => S.hg (by injection e)), fun y hy => (World.cell?_of_block (a := ⟨bs, os + y * 7 + 3, none⟩) (h.block bs S.hl (fun e => S.hb (by injection e)))).trans (S.hc y hy), S.hg, S.hb, Nat.lt_of_lt_of_le S.hl h.size⟩
theorem isort_any (gd gs bs os n cs cd : Nat) (sc : Nat → Int) (hn : 0 < n) (hn2 : n ≤ 20) (w : World) (S : ScA w gd gs bs os n cs sc) (hd : Blk w gd 3 (rowN15 (restN 0 n))) :
    Calls Try.prog 93 #[.slice (some ⟨gd, 0, none⟩) n cd, .int .i64 0, .int .i64 (n : Int), .func (.func 64) #[] #[.pointer (some ⟨gs, 0, none⟩)]] w fun e w' =>
      e = .returned (.tuple #[]) ∧ Blk w' gd 3 (rowN15 (ordS sc n)) ∧ w.grownBy w' (some gd) := by
  have HS := Lib.hid S
  have HD : Hid (Blk w gd 3 (rowN15 (ordS sc 1 ++ restN 1 n))) := Lib.hid (by
    have e : restN 0 n = ordS sc 1 ++ restN 1 n := by rw [rest_cons hn]; rfl
    rw [← e]; exact hd)
  have hn3 : (n : Int) ≤ 20 := by omega
  have hn4 : (0 : Int) < (n : Int) := by omega
  clear S hd
  go_enter Try.func93, Try.ntmps93
  go_wp2
  go_loopw [8] (fun iv wr => ∃ i : Nat, 1 ≤ i ∧ i ≤ n ∧ iv = .int .i64 (i : Int) ∧ Hid (Blk wr gd 3 (rowN15 (ordS sc i ++ restN i n))) ∧ Hid (w.grownBy wr (some gd))) (fun iv _ => n - (intOf iv).toNat)
  case atStart => exact ⟨1, by omega, by omega, rfl, HD, Lib.hid (grown_refl _ _)⟩
  case round =>
    obtain ⟨i, hi1, hi2, rfl, HK, HG⟩ := hrel
    by_cases hlt : i < n
    · have hlt2 : (i : Int) < (n : Int) := by omega
      have hi0 : (0 : Int) ≤ (i : Int) := by omega
      obtain ⟨l, hl⟩ : ∃ l, ordS sc i = l := ⟨_, rfl⟩
      have hll : l.length = i := by rw [← hl]; exact ordS_len sc i
      have HM : Hid (∀ x ∈ l, x < i) := Lib.hid (by rw [← hl]; exact ordS_mem sc i)
      obtain ⟨tl, htl⟩ : ∃ tl, restN (i + 1) n = tl := ⟨_, rfl⟩
      have HTL : Hid (tl.length = n - (i + 1)) := Lib.hid (by rw [← htl]; exact rest_len _ _)
      have HK1 : Hid (Blk wr gd 3 (rowN15 (moveD l i i tl))) := Lib.hid (by
        have := HK.out
        rw [hl, rest_cons hlt, htl] at this
        have e : moveD l i i tl = l ++ i :: tl := by unfold moveD; rw [List.take_of_length_le (by omega), List.drop_of_length_le (by omega)]; rfl
        rw [e]; exact this)
      have HEND : Hid (∀ W, Blk W gd 3 (rowN15 (moveD l i (placeS sc l i) tl)) → Blk W gd 3 (rowN15 (ordS sc (i + 1) ++ restN (i + 1) n))) := Lib.hid fun W h => by
        have e : moveD l i (placeS sc l i) tl = ordS sc (i + 1) ++ restN (i + 1) n := by
          show _ = insS sc (ordS sc i) i ++ _
          rw [hl, htl]; unfold moveD insS; simp
        rw [← e]; exact h
      obtain ⟨p, hp⟩ : ∃ p : Nat → Bool, (fun k => lessS sc (l.getD k 0) i) = p := ⟨_, rfl⟩
      have HPL : Hid (placeS sc l i = atE p i) := Lib.hid (by unfold placeS; rw [hp, hll])
      have HPK : Hid (∀ k, p k = decide (cmpI18 (sc i) (sc (l.getD k 0)) < 0)) := Lib.hid fun k => by rw [← hp]; rfl
      rw [HPL.out] at HEND
      obtain ⟨m, hm⟩ : ∃ m, atE p i = m := ⟨_, rfl⟩
      rw [hm] at HEND
      have HMM := Lib.hid hm
      have HLL := Lib.hid hll
      clear hl htl hp hm hll HK
      go_wp2
      go_loopw [9] (fun jv w2 => ∃ j : Nat, j ≤ i ∧ jv = .int .i64 (j : Int) ∧ Hid (atE p j = m) ∧ Hid (Blk w2 gd 3 (rowN15 (moveD l i j tl))) ∧ Hid (w.grownBy w2 (some gd))) (fun jv _ => (intOf jv).toNat)
      case atStart => exact ⟨i, by omega, rfl, HMM, HK1, HG⟩
      case round =>
        obtain ⟨j, hj, rfl, HAT, HK2, HG2⟩ := hrel
        rcases Nat.eq_zero_or_pos j with h0 | h0
        · subst h0
          have HF : Hid (Blk wr gd 3 (rowN15 (ordS sc (i + 1) ++ restN (i + 1) n))) := Lib.hid (HEND.out _ (by have e : m = 0 := HAT.out.symm; rw [e]; exact HK2.out))
          go_wp2
          go_quiet (fail)
          go_wp2
          go_roundw
          case rel => exact ⟨i + 1, by omega, by omega, by go_num, Lib.hid (HF.out.drewN _), Lib.hid (grown_trans HG2.out (drewN_grown _ _ _))⟩
          case measure => simp [intOf]; omega
        · obtain ⟨k, rfl⟩ : ∃ k, j = k + 1 := ⟨j - 1, by omega⟩
          have hkl : k < l.length := by have := HLL.out; omega
          obtain ⟨y, hy⟩ : ∃ y, l.getD k 0 = y := ⟨_, rfl⟩
          have hym : y < i := by
            rw [← hy, List.getD_eq_getElem?_getD, List.getElem?_eq_getElem hkl]
            exact HM.out _ (List.getElem_mem hkl)
          have HSW := Lib.hid (HS.out.grown HG2.out)
          have HPY := HPK.out k
          rw [hy] at HPY
          have d1 : wr.cell? ⟨gd, k + 1, none⟩ = some (.int .i64 (i : Int)) := (HK2.out.cell _).trans (rowN_get (move_at (by have := HLL.out; omega)))
          have d0 : wr.cell? ⟨gd, k, none⟩ = some (.int .i64 (y : Int)) := (HK2.out.cell _).trans (rowN_get (by rw [move_pre hkl, hy]))
          have f1 := HK2.out.frozen (k + 1)
          have f0 := HK2.out.frozen k
          have HCMP : Hid (∀ q, Calls Try.prog 64 #[.int .i64 (i : Int), .int .i64 (y : Int), .pointer (some ⟨gs, 0, none⟩)] (wr.drewN q) (Quiet (.int .i64 (cmpI18 (sc i) (sc y))) (wr.drewN q))) := Lib.hid fun q =>
            cmp18_any i y n gs bs os cs (sc i) (sc y) hlt (by omega) (by omega) _ (HSW.out.hk.drewN q) (HSW.out.hc i hlt) (HSW.out.hc y (by omega))
          have ek : ((k + 1 : Nat) : Int) = (k : Int) + 1 := by omega
          rw [ek]
          have hk0 : (0 : Int) ≤ (k : Int) := by omega
          have hk1 : (k : Int) + 1 < (n : Int) := by omega
          generalize cmpI18 (sc i) (sc y) = cm at *
          by_cases hcm : cm < 0
          · have hpk : p k = true := by rw [HPY]; exact decide_eq_true hcm
            have HAT2 : Hid (atE p k = m) := Lib.hid (by have h := HAT.out; have e : atE p (k + 1) = atE p k := (by show (if p k then atE p k else k + 1) = _; rw [if_pos hpk]); rw [e] at h; exact h)
            have hd1 : decide (cm < 0) = true := decide_eq_true hcm
            have HKL := Lib.hid hkl
            have HY := Lib.hid hy
            clear HPY hpk hkl hy
            go_wp2
            go_quiet ((go_at_call 64; exact Calls.quiet_of ((HCMP.out _).mono fun _ _ h => h)))
            go_wp2_with fail
            have HKD : Hid (Blk (wr.drewN nq).drew gd 3 (rowN15 (moveD l i (k + 1) tl))) := Lib.hid (HK2.out.drewN nq).drew
            have HGD : Hid (w.grownBy (wr.drewN nq).drew (some gd)) := Lib.hid (grown_trans HG2.out (drewN_grown wr (nq + 1) _))
            have hwr : IntKind.i64.wrap (k : Int) = (k : Int) := by rw [IntKind.wrap_i64]; omega
            have hk2 : (k : Int) < (n : Int) := by omega
            have hk3 : (0 : Int) ≤ (k : Int) + 1 := by omega
            go_region_law (fail)
            all_goals
              go_wp2
              go_roundw
              case rel =>
                first
                  | exact ⟨k, by omega, rfl, HAT2, Lib.hid (blk_swap HKD.out HKL.out HY.out), Lib.hid (grown_trans (grown_trans HGD.out (grown_set _ gd (k + 1) _)) (grown_set _ gd k _))⟩
                  | exact ⟨k, by omega, rfl, HAT2, Lib.hid (blk_swap' HKD.out HKL.out HY.out), Lib.hid (grown_trans (grown_trans HGD.out (grown_set _ gd k _)) (grown_set _ gd (k + 1) _))⟩
              case measure => simp [intOf]
          · have hpk : p k = false := by rw [HPY]; exact decide_eq_false hcm
            have hme : m = k + 1 := by have h := HAT.out; have e : atE p (k + 1) = k + 1 := (by show (if p k then atE p k else k + 1) = _; rw [if_neg (by rw [hpk]; decide)]); omega
            have HF : Hid (Blk wr gd 3 (rowN15 (ordS sc (i + 1) ++ restN (i + 1) n))) := Lib.hid (HEND.out _ (by rw [hme]; exact HK2.out))
            have hd1 : decide (cm < 0) = false := decide_eq_false hcm
            clear HPY hpk hkl hme
            go_wp2
            go_quiet ((go_at_call 64; exact Calls.quiet_of ((HCMP.out _).mono fun _ _ h => h)))
            go_wp2
            go_roundw
            case rel => exact ⟨i + 1, by omega, by omega, by go_num, Lib.hid (HF.out.drewN _), Lib.hid (grown_trans HG2.out (drewN_grown _ _ _))⟩
            case measure => simp [intOf]; omega
    · obtain rfl : i = n := by omega
      have HF : Hid (Blk wr gd 3 (rowN15 (ordS sc i))) := Lib.hid (by have := HK.out; rw [rest_nil (Nat.le_refl _), List.append_nil] at this; exact this)
      go_wp2
      go_end0
      exact ⟨rfl, HF.out, HG.out⟩
def SrtP (gd n : Nat) (sc : Nat → Int) (w : World) (e : Ending) (w' : World) : Prop := e = .returned (.tuple #[]) ∧ Blk w' gd 3 (rowN15 (ordS sc n)) ∧ w.grownBy w' (some gd)
/-- From behind the last on, nothing is sorted. -/
theorem isort_none (gd gs n cd k : Nat) (hk : k ≤ 20) (w : World) :
    Calls Try.prog 93 #[.slice (some ⟨gd, 0, none⟩) n cd, .int .i64 (k : Int), .int .i64 (k : Int), .func (.func 64) #[] #[.pointer (some ⟨gs, 0, none⟩)]] w fun e w' => e = .returned (.tuple #[]) ∧ w = w' := by
  have hk2 : (k : Int) ≤ 20 := by omega
  have hk3 : (0 : Int) ≤ (k : Int) := by omega
  go_enter Try.func93, Try.ntmps93
  go_wp2
  go_loopw [8] (fun iv wr => iv = .int .i64 ((k : Int) + 1) ∧ wr = w) (fun iv _ => 0)
  case atStart => exact ⟨rfl, rfl⟩
  case round =>
    obtain ⟨rfl, rfl⟩ := hrel
    go_wp2
    go_end0
    exact ⟨rfl, rfl⟩
theorem stable_any (gd gs bs os n cs cd : Nat) (sc : Nat → Int) (hn : 0 < n) (hn2 : n ≤ 20) (w : World) (S : ScA w gd gs bs os n cs sc) (hd : Blk w gd 3 (rowN15 (restN 0 n))) :
    Calls Try.prog 83 #[.slice (some ⟨gd, 0, none⟩) n cd, .int .i64 (n : Int), .func (.func 64) #[] #[.pointer (some ⟨gs, 0, none⟩)]] w (SrtP gd n sc w) := by
  have HI := Lib.hid (isort_any gd gs bs os n cs cd sc hn hn2 w S hd)
  have hn3 : (n : Int) ≤ 20 := by omega
  clear S hd
  by_cases h20 : n = 20
  · subst h20
    have HN := Lib.hid (fun W => isort_none gd gs 20 cd 20 (by omega) W)
    have ee : ((20 : Nat) : Int) = 20 := rfl
    rw [ee] at HI HN ⊢
    clear ee
    go_enter Try.func83, Try.ntmps83
    go_wp2
    go_loopw [7, 8] (fun a b wr => ∃ t : Nat, t ≤ 1 ∧ a = .int .i64 (20 * (t : Int)) ∧ b = .int .i64 (20 * (t : Int) + 20) ∧ Hid (t = 0 → wr = w) ∧ Hid (t = 1 → Blk wr gd 3 (rowN15 (ordS sc 20)) ∧ w.grownBy wr (some gd))) (fun _ b _ => 40 - (intOf b).toNat)
    case atStart => exact ⟨0, by omega, rfl, rfl, Lib.hid (fun _ => rfl), Lib.hid (fun h => by omega)⟩
    case round =>
      obtain ⟨t, ht, rfl, rfl, H0, H1⟩ := hrel
      rcases (show t = 0 ∨ t = 1 by omega) with rfl | rfl
      · have hw := H0.out rfl
        subst hw
        have e0 : (20 * ((0 : Nat) : Int)) = 0 := rfl
        have e1 : (20 * ((0 : Nat) : Int) + 20) = 20 := rfl
        rw [e0] at *
        go_wp2_with fail
        refine (HI.out).mono ?_
        rintro e w2 ⟨rfl, h1, h2⟩
        have H2 := Lib.hid (And.intro h1 h2)
        clear h1 h2
        go_wp2
        go_roundw
        case rel => exact ⟨1, by omega, by go_num, by go_num, Lib.hid (fun h => by omega), Lib.hid (fun _ => H2.out)⟩
        case measure => simp [intOf]
      · have HR := Lib.hid (H1.out rfl)
        have e0 : (20 * ((1 : Nat) : Int)) = 20 := rfl
        have e1 : ((20 : Int) + 20) = 40 := rfl
        rw [e0, e1]
        go_wp2_with fail
        refine (HN.out _).mono ?_
        rintro e w2 ⟨rfl, rfl⟩
        go_wp2
        go_loopw [6] (fun z wr2 => z = .int .i64 20 ∧ wr2 = wr) (fun _ _ => 0)
        case atStart => exact ⟨rfl, rfl⟩
        case round =>
          obtain ⟨rfl, rfl⟩ := hrel
          go_wp2
          go_end0
          exact ⟨rfl, HR.out.1, HR.out.2⟩
  · have hlt : (n : Int) < 20 := by omega
    have hn4 : ¬ ((20 : Int) ≤ (n : Int)) := by omega
    go_enter Try.func83, Try.ntmps83
    go_wp2
    go_loopw [7, 8] (fun a b wr => a = .int .i64 0 ∧ b = .int .i64 20 ∧ wr = w) (fun _ _ _ => 0)
    case atStart => exact ⟨rfl, rfl, rfl⟩
    case round =>
      obtain ⟨rfl, rfl, rfl⟩ := hrel
      go_wp2_with fail
      refine (HI.out).mono ?_
      rintro e w2 ⟨rfl, h1, h2⟩
      have H2 := Lib.hid (And.intro h1 h2)
      clear h1 h2
      go_wp2
      go_loopw [6] (fun z wr2 => z = .int .i64 20 ∧ wr2 = w2) (fun _ _ => 0)
      case atStart => exact ⟨rfl, rfl⟩
      case round =>
        obtain ⟨rfl, rfl⟩ := hrel
        go_wp2
        go_end0
        exact ⟨rfl, H2.out.1, H2.out.2⟩
theorem sort_any18 (gd gs bs os n cs cd : Nat) (sc : Nat → Int) (hn : 0 < n) (hn2 : n ≤ 20) (w : World) (S : ScA w gd gs bs os n cs sc) (hd : Blk w gd 3 (rowN15 (restN 0 n))) :
    Calls Try.prog 63 #[.slice (some ⟨gd, 0, none⟩) n cd, .func (.func 64) #[] #[.pointer (some ⟨gs, 0, none⟩)]] w (SrtP gd n sc w) := by
  have HI := Lib.hid (stable_any gd gs bs os n cs cd sc hn hn2 w S hd)
  clear S hd
  go_enter Try.func63, Try.ntmps63
  go_wp2_with fail
  refine (HI.out).mono ?_
  rintro e w2 ⟨rfl, h1, h2⟩
  go_wp2
  go_end0
  exact ⟨rfl, h1, h2⟩
theorem sort_none18 (gd gs cd : Nat) (w : World) :
    Calls Try.prog 63 #[.slice (some ⟨gd, 0, none⟩) 0 cd, .func (.func 64) #[] #[.pointer (some ⟨gs, 0, none⟩)]] w fun e w' => e = .returned (.tuple #[]) ∧ w = w' := by
  have HN : Hid (∀ W, Calls Try.prog 93 #[.slice (some ⟨gd, 0, none⟩) 0 cd, .int .i64 0, .int .i64 0, .func (.func 64) #[] #[.pointer (some ⟨gs, 0, none⟩)]] W fun e w' => e = .returned (.tuple #[]) ∧ W = w') := Lib.hid (fun W => isort_none gd gs 0 cd 0 (by omega) W)
  have HST : Hid (∀ W, Calls Try.prog 83 #[.slice (some ⟨gd, 0, none⟩) 0 cd, .int .i64 0, .func (.func 64) #[] #[.pointer (some ⟨gs, 0, none⟩)]] W fun e w' => e = .returned (.tuple #[]) ∧ W = w') := Lib.hid (fun W => by
    go_enter Try.func83, Try.ntmps83
    go_wp2
    go_loopw [7, 8] (fun a b wr => a = .int .i64 0 ∧ b = .int .i64 20 ∧ wr = W) (fun _ _ _ => 0)
    case atStart => exact ⟨rfl, rfl, rfl⟩
    case round =>
      obtain ⟨rfl, rfl, rfl⟩ := hrel
      go_wp2_with fail
      refine (HN.out _).mono ?_
      rintro e w2 ⟨rfl, rfl⟩
      go_wp2
      go_loopw [6] (fun z wr2 => z = .int .i64 20 ∧ wr2 = wr) (fun _ _ => 0)
      case atStart => exact ⟨rfl, rfl⟩
      case round =>
        obtain ⟨rfl, rfl⟩ := hrel
        go_wp2
        go_end0
        exact ⟨rfl, rfl⟩)
  go_enter Try.func63, Try.ntmps63
  go_wp2_with fail
  refine (HST.out _).mono ?_
  rintro e w2 ⟨rfl, rfl⟩
  go_wp2
  go_end0
  exact ⟨rfl, rfl⟩
end Go.Proofs.Ytlecbhnopokmnaa
