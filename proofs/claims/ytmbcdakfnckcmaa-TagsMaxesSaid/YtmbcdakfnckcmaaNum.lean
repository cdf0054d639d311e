/- What layer 2 makes of a number, the program and the document: one contract each. -/
import Derived.Test.YtmbcdakfnckcmaaBe
import Derived.Test.YtmbcdakfnckcmaaClone
import Derived.Test.YtmbcdakfnckcmaaRows
import Derived.Lib.BitFns
import Derived.Deep.OwnRows
import Derived.Lib.Small
import Derived.Lib.Strings
import Derived.Lib.Slices
import Derived.Lib.Walk
namespace Go.Proofs.Ytmbcdakfnckcmaa
open Go.RowKit Mem Be
set_option maxRecDepth 10000
set_option maxHeartbeats 1000000
theorem ret_int {k : IntKind} {a b : Int} (h : a = b) : Ending.returned (.int k a) = .returned (.int k b) := by rw [h]
theorem tab_size : Lib.len8tab.size = 256 := by decide +kernel
theorem tab_le : (256 : Int) ≤ (Lib.len8tab.size : Int) := by rw [tab_size]; decide
theorem tab_all : ∀ i : Fin 256, (Lib.len8tab.data.toList.getD i.val 0).toNat ≤ 8 ∧ (1 ≤ i.val → 1 ≤ (Lib.len8tab.data.toList.getD i.val 0).toNat) ∧ (i.val = 0 → (Lib.len8tab.data.toList.getD i.val 0).toNat = 0) := by decide +kernel
theorem tab_of (y : Int) (h : y.toNat < Lib.len8tab.size) : (Lib.len8tab[y.toNat]'h).toNat ≤ 8 ∧ (1 ≤ y → 1 ≤ (Lib.len8tab[y.toNat]'h).toNat) ∧ (y ≤ 0 → (Lib.len8tab[y.toNat]'h).toNat = 0) := by
  have h' : y.toNat < 256 := by rw [tab_size] at h; exact h
  have := tab_all ⟨y.toNat, h'⟩
  have e : Lib.len8tab[y.toNat]'h = Lib.len8tab.data.toList.getD y.toNat 0 := by
    rw [List.getD_eq_getElem?_getD, Array.getElem?_toList, Array.getElem?_eq_getElem (by exact h)]
    rfl
  rw [e]
  refine ⟨this.1, fun h1 => this.2.1 (by show 1 ≤ y.toNat; omega), fun h1 => this.2.2 (by show y.toNat = 0; omega)⟩
def Len64 (x : Int) (w : World) (e : Ending) (w' : World) : Prop := (∃ L : Int, e = .returned (.int .i64 L) ∧ 0 ≤ L ∧ L ≤ 64 ∧ (L + 7) / 8 = (sizeN x : Int)) ∧ w = w'
theorem wrap_small (n : Nat) (b : Int) (h : n ≤ 255) (h0 : 0 ≤ b) (h1 : b ≤ 100) : wrap64 (b + wrap64 (n : Int)) = b + (n : Int) := by
  have e1 : wrap64 (n : Int) = (n : Int) := by unfold wrap64; omega
  rw [e1]; unfold wrap64; omega
theorem len_end (k : Nat) (p q : Int) (hk : k ≤ 7) (hp : (256 : Int) ^ k = p) (hq : (256 : Int) ^ (k + 1) = q) (x y V : Int) (w : World) (h : y.toNat < Lib.len8tab.size) (hx : p ≤ x ∨ k = 0) (hlt : x < q) (hy : y = x / p) (h0 : 0 ≤ x)
    (hV : V = wrap64 (8 * (k : Int) + wrap64 ((Lib.len8tab[y.toNat]'h).toNat : Int))) :
    Len64 x w (.returned (.int .i64 V)) w := by
  obtain ⟨t1, t2, t3⟩ := tab_of y h
  rw [wrap_small _ _ (by omega) (by omega) (by omega)] at hV
  have hpp := pow_pos' k
  have hm := pow_mono (a := k + 1) (b := 8) (by omega)
  have p8 := pows.2.2.2.2.2.2.2.2
  subst hp; subst hq
  refine ⟨⟨V, rfl, by omega, by omega, ?_⟩, rfl⟩
  by_cases h1 : 256 ^ k ≤ x
  · have hy1 : 1 ≤ y := by rw [hy, Int.le_ediv_iff_mul_le hpp]; omega
    have := t2 hy1
    have e : sizeN x = k + 1 := size_of x (k + 1) (by omega) hlt fun j hj => by
      obtain rfl : j = k := by omega
      exact h1
    rw [e]
    omega
  · obtain rfl : k = 0 := by
      rcases hx with hx | hx
      · exact absurd hx h1
      · exact hx
    have : x < 1 := by simpa using h1
    have hy0 : y = x := by rw [hy]; simp
    have := t3 (by omega)
    have e := (size_zero x).2 (by omega)
    rw [e]
    omega
/-- One cell for the size and s for the bytes, of which the last i are written. -/
def cellA (u : Int) (s i j : Nat) : Value := if j = 0 then .int .u8 (s : Int) else if j + i ≤ s then .int .u8 0 else .int .u8 (u / 256 ^ (s - j) % 256)
def CA (u : Int) (s i : Nat) : Array Value := ((List.range (s + 1)).map (cellA u s i)).toArray
def C0 (s : Nat) : Array Value := madeCells #[.int .u8 0] (s + 1)
theorem size_CA (u : Int) (s i : Nat) : (CA u s i).size = s + 1 := by simp [CA]
theorem C0_list (s : Nat) : (C0 s).toList = List.replicate (s + 1) (.int .u8 0) := toList_madeCells_one _ _
theorem size_C0 (s : Nat) : (C0 s).size = s + 1 := by rw [← Array.length_toList, C0_list]; simp
theorem set_C0 (u : Int) (s : Nat) : (C0 s).setIfInBounds 0 (.int .u8 (s : Int)) = CA u s 0 := by
  apply Array.ext
  · simp [size_CA, size_C0]
  · intro j h1 h2
    rw [size_CA] at h2
    rw [Array.getElem_setIfInBounds (by rw [size_C0]; exact h2)]
    simp only [CA, List.getElem_toArray, List.getElem_map, List.getElem_range, cellA]
    by_cases h : 0 = j
    · subst h; rw [if_pos rfl, if_pos rfl]
    · rw [if_neg h, if_neg (by omega), if_pos (by omega)]
      rw [← Array.getElem_toList]
      simp only [C0_list, List.getElem_replicate]
theorem set_CA (u : Int) (s i : Nat) (hi : i < s) (x : Int) (hx : x = u / 2 ^ (8 * i) % 256) : (CA u s i).setIfInBounds (s - i) (.int .u8 x) = CA u s (i + 1) := by
  apply Array.ext
  · simp [size_CA]
  · intro j h1 h2
    rw [size_CA] at h2
    rw [Array.getElem_setIfInBounds (by rw [size_CA]; exact h2)]
    simp only [CA, List.getElem_toArray, List.getElem_map, List.getElem_range, cellA]
    by_cases h : s - i = j
    · rw [if_pos h, if_neg (by omega), if_neg (by omega), hx]
      have : s - j = i := by omega
      rw [this, show (256 : Int) = 2 ^ 8 by decide, ← Int.pow_mul]
    · rw [if_neg h]
      by_cases h0 : j = 0
      · rw [if_pos h0, if_pos h0]
      · rw [if_neg h0, if_neg h0]
        by_cases h' : j + i ≤ s
        · rw [if_pos h', if_pos (by omega)]
        · rw [if_neg h', if_neg (by omega)]
theorem CA_bytes (u : Int) : (CA u (sizeN u) (sizeN u)).toList = (numU u).map byteV := by
  apply List.ext_getElem
  · simp [CA, numU, be_len]
  · intro j h2 h3
    simp only [CA, List.getElem_map, List.getElem_range, cellA]
    unfold numU
    rcases j with _ | j
    · rw [if_pos rfl, List.getElem_cons_zero]
      unfold byteV
      rw [size_byte]
    · have hj : j < sizeN u := by simpa [numU, be_len] using h3
      rw [if_neg (by omega), if_neg (by omega), List.getElem_cons_succ, be_get _ _ _ hj]
      unfold byteV
      rw [byte_back, show sizeN u - (j + 1) = sizeN u - 1 - j by omega]

theorem make_num (s : Nat) (hs : s ≤ 8) (W : World) : (Instr.makeSlice 34 (.int .i64 (1 + (s : Int))) (.int .i64 (1 + (s : Int)))).run Try.prog W = .ok (.slice (some ⟨W.heap.size, 0, none⟩) (s + 1) (s + 1)) (W.alloc (.cells (C0 s) 5)) := by
  have := run_make_row' (P := Try.prog) 34 5 (.int .u8 0) 1 Try.underlying34 info_b rfl .i64 .i64 (s + 1) (by omega) (by omega) W
  rw [show (1 + (s : Int)) = ((s + 1 : Nat) : Int) by omega]
  exact this
/-- The row that the block is. -/
theorem own_CA {w : World} (u : Int) :
    (w.alloc (.cells (CA u (sizeN u) (sizeN u)) 5)).ownsRow w.heap.size 5 1 (.slice (some ⟨w.heap.size, 0, none⟩) (sizeN u + 1) (sizeN u + 1)) (numU u).length ((numU u).map byteV) := by
  have hl : (numU u).length = sizeN u + 1 := by simp [numU, be_len]
  refine ⟨by simp, Or.inr ⟨w.heap.size, sizeN u + 1, _, by rw [hl], Nat.le_refl _, heap_alloc_new w _, by omega, ?_, by rw [size_CA]; omega, ?_⟩⟩
  · have := size_le u; unfold maxLen; omega
  · rw [CA_bytes u, List.take_of_length_le (by simp)]
theorem num_end (u n : Int) (w : World) (h1 : uZ n = u) :
    Made w.heap.size (numB n) w (.returned (.slice (some ⟨w.heap.size, 0, none⟩) (sizeN u + 1) (sizeN u + 1))) (w.alloc (.cells (CA u (sizeN u) (sizeN u)) 5)) := by
  have hl : (numU u).length = sizeN u + 1 := by simp [numU, be_len]
  unfold numB
  rw [h1]
  have ho := own_CA (w := w) u
  refine ⟨some ⟨w.heap.size, 0, none⟩, sizeN u + 1, by rw [hl], ?_, (Below.refl _ _).alloc (Nat.le_refl _) _⟩
  rw [hl] at ho ⊢
  exact ho
end Go.Proofs.Ytmbcdakfnckcmaa
