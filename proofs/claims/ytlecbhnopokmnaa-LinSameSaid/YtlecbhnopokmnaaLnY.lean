/- LnY: How a search is made of deeds: pure parts, and how its rows lie. -/
import Derived.Test.YtlecbhnopokmnaaLnF
import Derived.Test.YtlecbhnopokmnaaLnS
import Derived.Test.YtlecbhnopokmnaaLnX
namespace Go.Proofs.Ytlecbhnopokmnaa
open Go.RowKit Mem
set_option maxRecDepth 100000
set_option maxHeartbeats 2000000
set_option linter.unusedVariables false
set_option linter.unusedSimpArgs false
open Ln
/-- The set of the first q that p holds of. -/
def mOf (p : Nat → Bool) : Nat → Nat
  | 0 => 0
  | q + 1 => if p q then ins (mOf p q) q else mOf p q
theorem mOf_bit (p : Nat → Bool) (q j : Nat) : (mOf p q).testBit j = true ↔ j < q ∧ p j = true := by
  induction q with
  | zero => simp [mOf]
  | succ q ih =>
    unfold mOf
    by_cases h : p q = true
    · rw [if_pos h, ins_bit]
      by_cases e : q = j
      · subst e; simp [h]
      · rw [decide_eq_false e, Bool.or_false, ih]
        constructor
        · intro h; exact ⟨by omega, h.2⟩
        · intro h; exact ⟨by omega, h.2⟩
    · rw [if_neg h, ih]
      constructor
      · intro h; exact ⟨by omega, h.2⟩
      · intro h2
        refine ⟨?_, h2.2⟩
        have : j ≠ q := fun e => by subst e; exact h h2.2
        omega
theorem mOf_lt (p : Nat → Bool) (q m : Nat) (h : q ≤ m) : mOf p q < 2 ^ m := by
  induction q with
  | zero => exact Nat.pos_of_ne_zero (by simp)
  | succ q ih =>
    unfold mOf
    split
    · exact ins_lt (ih (by omega)) (by omega)
    · exact ih (by omega)
theorem mOf_yes {p : Nat → Bool} {q : Nat} (h : p q = true) : mOf p (q + 1) = ins (mOf p q) q := if_pos h
theorem mOf_no {p : Nat → Bool} {q : Nat} (h : p q = false) : mOf p (q + 1) = mOf p q := if_neg (by rw [h]; decide)
/-- Rows of four cells. -/
def spC (f : Nat → List Value) (n : Nat) : List Value := (List.range n).flatMap f
theorem spC_succ (f : Nat → List Value) (n : Nat) : spC f (n + 1) = spC f n ++ f n := by
  unfold spC; rw [List.range_succ, List.flatMap_append]; simp
theorem spC_len {f : Nat → List Value} (hf : ∀ i, (f i).length = 4) (n : Nat) : (spC f n).length = n * 4 := by
  induction n with
  | zero => rfl
  | succ n ih => rw [spC_succ, List.length_append, ih, hf]; omega
theorem spC_at {f : Nat → List Value} (hf : ∀ i, (f i).length = 4) (n i j : Nat) (hi : i < n) (hj : j < 4) : (spC f n)[i * 4 + j]? = (f i)[j]? := by
  induction n with
  | zero => omega
  | succ n ih =>
    rw [spC_succ]
    have hl := spC_len hf n
    rcases Nat.lt_or_ge i n with h | h
    · rw [List.getElem?_append_left (by omega)]; exact ih h
    · obtain rfl : i = n := by omega
      rw [List.getElem?_append_right (by omega), hl, show i * 4 + j - i * 4 = j by omega]
theorem spC_ext {l : List Value} {f : Nat → List Value} (hf : ∀ i, (f i).length = 4) {n : Nat} (hl : l.length = n * 4) (h : ∀ i j, i < n → j < 4 → l[i * 4 + j]? = (f i)[j]?) : l = spC f n := by
  apply List.ext_getElem?
  intro k
  rcases Nat.lt_or_ge k (n * 4) with hk | hk
  · have := h (k / 4) (k % 4) (by omega) (by omega)
    rw [show k / 4 * 4 + k % 4 = k by omega] at this
    rw [this]
    have h2 := spC_at hf n (k / 4) (k % 4) (by omega) (by omega)
    rw [show k / 4 * 4 + k % 4 = k by omega] at h2
    exact h2.symm
  · rw [List.getElem?_eq_none (by omega), List.getElem?_eq_none (by rw [spC_len hf]; omega)]
theorem spC_set {f : Nat → List Value} (hf : ∀ i, (f i).length = 4) (n i j : Nat) (x : Value) (hi : i < n) (hj : j < 4) : (spC f n).set (i * 4 + j) x = spC (fun k => if k = i then (f i).set j x else f k) n := by
  have hf' : ∀ k, ((fun k => if k = i then (f i).set j x else f k) k).length = 4 := fun k => by
    show (if k = i then (f i).set j x else f k).length = 4
    split
    · rw [List.length_set]; exact hf i
    · exact hf k
  refine spC_ext hf' (by rw [List.length_set, spC_len hf]) fun i' j' hi' hj' => ?_
  rw [List.getElem?_set, spC_len hf, spC_at hf n i' j' hi' hj']
  by_cases e : i' = i
  · subst e
    rw [if_pos rfl, List.getElem?_set, hf]
    by_cases e2 : j = j'
    · subst e2; rw [if_pos rfl, if_pos (by omega), if_pos rfl, if_pos hj]
    · rw [if_neg (by omega), if_neg e2]
  · rw [if_neg (by omega), if_neg e]
/-- A step's cells. -/
def stC (g : Nat → Bool) (v b t : Nat → Nat) (i : Nat) : List Value := [.bool (g i), .int .i64 (v i : Int), .int .u32 (b i : Int), .int .u32 (t i : Int)]
theorem stC_len (g : Nat → Bool) (v b t : Nat → Nat) (i : Nat) : (stC g v b t i).length = 4 := rfl
def upd {α : Type} (f : Nat → α) (i : Nat) (x : α) : Nat → α := fun k => if k = i then x else f k
theorem upd_same {α : Type} (f : Nat → α) (i : Nat) (x : α) : upd f i x i = x := if_pos rfl
theorem upd_ne {α : Type} (f : Nat → α) {i k : Nat} (x : α) (h : k ≠ i) : upd f i x k = f k := if_neg h
theorem made_steps (n : Nat) : madeCells #[.bool false, .int .i64 0, .int .u32 0, .int .u32 0] (n * 4) = (spC (stC (fun _ => false) (fun _ => 0) (fun _ => 0) (fun _ => 0)) n).toArray := by
  have h : (madeCells #[.bool false, .int .i64 0, .int .u32 0, .int .u32 0] (n * 4)).toList = spC (stC (fun _ => false) (fun _ => 0) (fun _ => 0) (fun _ => 0)) n := by
    refine spC_ext (stC_len _ _ _ _) (by simp [madeCells]) fun i j hi hj => ?_
    have hk : i * 4 + j < n * 4 := by omega
    simp only [madeCells, Array.toList_map, Array.toList_range, List.getElem?_map, List.getElem?_range hk, Option.map_some]
    have e : (i * 4 + j) % 4 = j := by omega
    show some (#[Value.bool false, .int .i64 0, .int .u32 0, .int .u32 0][(i * 4 + j) % 4]!) = _
    rw [e]
    match j, hj with
    | 0, _ => rfl
    | 1, _ => rfl
    | 2, _ => rfl
    | 3, _ => rfl
  rw [← h]
/-- The row of indexes while it is filled. -/
def endL (n q : Nat) : List Nat := List.range q ++ List.replicate (n - q) 0
theorem endL_all (n : Nat) : endL n n = restN 0 n := by
  unfold endL restN
  rw [Nat.sub_self, Nat.sub_zero, List.range_eq_range']; simp
theorem endL_set {n q : Nat} (h : q < n) : (endL n q).set q q = endL n (q + 1) := by
  unfold endL
  rw [show n - q = (n - (q + 1)) + 1 by omega, List.replicate_succ, List.set_append, if_neg (by rw [List.length_range]; omega), List.length_range, Nat.sub_self, List.range_succ, List.append_assoc]
  rfl
theorem made_ends (n : Nat) : madeCells #[.int .i64 0] (n * 1) = rowN15 (endL n 0) := by
  unfold madeCells rowN15 endL
  apply Array.ext'
  rw [Array.toList_map, Array.toList_range]
  simp only [List.range_zero, List.nil_append, Nat.sub_zero, List.map_replicate]
  apply List.ext_getElem?
  intro k
  rw [List.getElem?_map, List.getElem?_replicate]
  rcases Nat.lt_or_ge k n with h | h
  · rw [List.getElem?_range (by omega), if_pos h]
    simp [Nat.mod_one, iN]
  · rw [List.getElem?_eq_none (by simp; omega), if_neg (by omega)]; rfl
/-- A search under way, as it lies. -/
structure StA (w : World) (gs hb sb eb n must : Nat) (g : Nat → Bool) (v b t : Nat → Nat) (bl : List Nat) : Prop where
  blk : Blk w gs 89 #[.slice (some ⟨sb, 0, none⟩) n n, .slice (some ⟨eb, 0, none⟩) n n, .int .u32 (must : Int), .map (some hb)]
  sp : Blk w sb 116 (spC (stC g v b t) n).toArray
  ep : Blk w eb 3 (rowN15 bl)
  mp : w.heap[hb]? = some (.map #[] 0)
theorem StA.below {w w' : World} {gs hb sb eb n must B : Nat} {g : Nat → Bool} {v b t : Nat → Nat} {bl : List Nat} (S : StA w gs hb sb eb n must g v b t bl) (hb' : Below B w w') (h1 : gs < B) (h2 : hb < B) (h3 : sb < B) (h4 : eb < B) : StA w' gs hb sb eb n must g v b t bl :=
  ⟨S.blk.below hb' h1, S.sp.below hb' h3, S.ep.below hb' h4, (hb'.block hb h2).trans S.mp⟩
theorem StA.cell {w : World} {gs hb sb eb n must : Nat} {g : Nat → Bool} {v b t : Nat → Nat} {bl : List Nat} (S : StA w gs hb sb eb n must g v b t bl) (i : Nat) (hi : i < n) :
    w.cell? ⟨sb, i * 4, none⟩ = some (.bool (g i)) ∧ w.cell? ⟨sb, i * 4 + 1, none⟩ = some (.int .i64 (v i : Int)) ∧ w.cell? ⟨sb, i * 4 + 2, none⟩ = some (.int .u32 (b i : Int)) ∧ w.cell? ⟨sb, i * 4 + 3, none⟩ = some (.int .u32 (t i : Int)) := by
  have k : ∀ j, j < 4 → w.cell? ⟨sb, i * 4 + j, none⟩ = (stC g v b t i)[j]? := fun j hj => by
    rw [S.sp.cell, List.getElem?_toArray]; exact spC_at (stC_len g v b t) n i j hi hj
  exact ⟨k 0 (by omega), k 1 (by omega), k 2 (by omega), k 3 (by omega)⟩
end Go.Proofs.Ytlecbhnopokmnaa
