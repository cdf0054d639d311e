/- The eight bytes of a number, the greatest first, by the program and by the document: one contract each. -/
import Derived.Test.YtmiihakfpldeiaaSumW
import Derived.Deep.OwnRows
import Derived.Lib.Small
import Derived.Lib.Strings
import Derived.Lib.Slices
import Derived.Lib.Walk
namespace Go.Proofs.Ytmiihakfpldeiaa
open Go.RowKit Mem Be Word
set_option maxRecDepth 10000
set_option maxHeartbeats 1000000
def w8 (n : Int) : List UInt8 := be 8 (uZ n)
theorem w8_len (n : Int) : (w8 n).length = 8 := be_len _ _
/-- Eight cells, of which those from lo up to hi are written. -/
def CW (u : Int) (lo hi : Nat) : Array Value := ((List.range 8).map fun j => if lo ≤ j ∧ j < hi then Value.int .u8 (u / 256 ^ (7 - j) % 256) else .int .u8 0).toArray
theorem size_CW (u : Int) (lo hi : Nat) : (CW u lo hi).size = 8 := by simp [CW]
theorem CW_at (u : Int) (lo hi j : Nat) (h : j < 8) : (CW u lo hi)[j]'(by rw [size_CW]; exact h) = if lo ≤ j ∧ j < hi then Value.int .u8 (u / 256 ^ (7 - j) % 256) else .int .u8 0 := by
  simp [CW]
theorem CW_none (u : Int) (lo : Nat) : madeCells #[.int .u8 0] 8 = CW u lo lo := by
  apply Array.ext
  · rw [size_CW, ← Array.length_toList, toList_madeCells_one]; simp
  · intro j h1 h2
    have h8 : j < 8 := by rw [size_CW] at h2; exact h2
    rw [CW_at u lo lo j h8, if_neg (by omega), ← Array.getElem_toList]
    simp only [toList_madeCells_one, List.getElem_replicate]
theorem set_CW (u : Int) (lo hi lo' hi' p : Nat) (x : Int) (hx : x = u / 256 ^ (7 - p) % 256) (hi1 : lo' ≤ p ∧ p < hi') (hi2 : ∀ j, j ≠ p → ((lo' ≤ j ∧ j < hi') ↔ (lo ≤ j ∧ j < hi))) :
    (CW u lo hi).setIfInBounds p (.int .u8 x) = CW u lo' hi' := by
  apply Array.ext
  · simp [size_CW]
  · intro j h1 h2
    have h8 : j < 8 := by rw [size_CW] at h2; exact h2
    rw [Array.getElem_setIfInBounds (by rw [size_CW]; exact h8), CW_at u lo' hi' j h8]
    by_cases h : p = j
    · subst h; rw [if_pos rfl, if_pos hi1, hx]
    · rw [if_neg h, CW_at u lo hi j h8]
      have := hi2 j (fun e => h e.symm)
      by_cases hj : lo ≤ j ∧ j < hi
      · rw [if_pos hj, if_pos (this.2 hj)]
      · rw [if_neg hj, if_neg (fun e => hj (this.1 e))]
theorem CW_bytes (u : Int) : (CW u 0 8).toList = (be 8 u).map byteV := by
  apply List.ext_getElem
  · simp [CW, be_len]
  · intro j h2 h3
    have h8 : j < 8 := by simpa [be_len] using h3
    rw [Array.getElem_toList, CW_at u 0 8 j h8, if_pos (by omega), List.getElem_map, be_get _ _ _ h8]
    unfold byteV
    rw [byte_back]
theorem own_CW {w : World} (u : Int) : (w.alloc (.cells (CW u 0 8) 5)).ownsRow w.heap.size 5 1 (.slice (some ⟨w.heap.size, 0, none⟩) 8 8) 8 ((be 8 u).map byteV) := by
  refine ⟨by simp [be_len], Or.inr ⟨w.heap.size, 8, _, rfl, Nat.le_refl _, heap_alloc_new w _, by omega, by decide, by rw [size_CW], ?_⟩⟩
  rw [CW_bytes u, List.take_of_length_le (by simp [be_len])]
theorem make_8 (W : World) : (Instr.makeSlice 23 (.int .i64 8) (.int .i64 8)).run Try.prog W = .ok (.slice (some ⟨W.heap.size, 0, none⟩) 8 8) (W.alloc (.cells (madeCells #[.int .u8 0] 8) 5)) :=
  run_make_row' (P := Try.prog) 23 5 (.int .u8 0) 1 Try.underlying23 info_b rfl .i64 .i64 8 (by omega) (by omega) W
theorem word_end (n : Int) (w : World) : Made w.heap.size (w8 n) w (.returned (.slice (some ⟨w.heap.size, 0, none⟩) 8 8)) (w.alloc (.cells (CW (uZ n) 0 8) 5)) := by
  have hl := w8_len n
  have ho := own_CW (w := w) (uZ n)
  refine ⟨some ⟨w.heap.size, 0, none⟩, 8, by rw [hl], ?_, (Below.refl _ _).alloc (Nat.le_refl _) _⟩
  rw [hl]
  exact ho
theorem word_any (n : Int) (w : World) : Calls Try.prog 29 #[.int .i64 n] w (Made w.heap.size (w8 n) w) := by
  obtain ⟨u, hu⟩ : ∃ u, IntKind.u64.wrap n = u := ⟨_, rfl⟩
  have hr := u_range n
  have hun : uZ n = u := by rw [← hu]; unfold uZ; rw [IntKind.wrap_u64]
  rw [hun] at hr
  have hr0 := hr.1
  have hr1 : u ≤ 18446744073709551615 := by omega
  have HN : Hid (uZ n = u) := Lib.hid hun
  have hmk := make_8
  clear hr hun
  go_enter Try.func29, Try.ntmps29
  go_wp2
  rw [CW_none u 0]
  clear hmk
  go_loopw [6] (fun i wr => ∃ k : Nat, k ≤ 8 ∧ i = .int .i64 k ∧ wr = w.alloc (.cells (CW u 0 k) 5)) (fun i _ => 8 - (intOf i).toNat)
  case atStart => exact ⟨0, by omega, rfl, rfl⟩
  case round =>
    obtain ⟨k, hk, rfl, rfl⟩ := hrel
    by_cases hlt : k < 8
    · obtain ⟨m, hm⟩ : ∃ m : Nat, m = 7 - k := ⟨_, rfl⟩
      have hm1 : (7 : Int) - (k : Int) = (m : Int) := by omega
      have hm2 : m ≤ 7 := by omega
      have HM := Lib.hid hm
      clear hm
      obtain ⟨old, hold⟩ : ∃ old, (CW u 0 k)[k]? = some old := ⟨_, Array.getElem?_eq_getElem (by rw [size_CW]; omega)⟩
      go_wp2
      go_roundw
      case rel => exact ⟨k + 1, by omega, by go_num, by rw [set_CW u 0 k 0 (k + 1) k _ (by rw [show (256 : Int) = 2 ^ 8 by decide, ← Int.pow_mul, ← HM.out]) (by omega) (by omega)]⟩
      case measure => simp [intOf]; omega
    · obtain rfl : k = 8 := by omega
      go_wp2
      go_ret
      rw [← HN.out]
      exact word_end n w
theorem refbytes8_any (n : Int) (w : World) : Calls Try.prog 30 #[.int .i64 n] w (Made w.heap.size (w8 n) w) := by
  obtain ⟨u, hu⟩ : ∃ u, IntKind.u64.wrap n = u := ⟨_, rfl⟩
  have hr := u_range n
  have hun : uZ n = u := by rw [← hu]; unfold uZ; rw [IntKind.wrap_u64]
  rw [hun] at hr
  have HN : Hid (uZ n = u) := Lib.hid hun
  have HR := Lib.hid hr
  have hmk := make_8
  clear hr hun
  go_enter Try.func30, Try.ntmps30
  go_wp2
  rw [CW_none u 8]
  clear hmk
  go_loopw [3, 5] (fun v i wr => ∃ (q : Nat) (x : Int), q ≤ 8 ∧ i = .int .i64 ((q : Int) - 1) ∧ v = .int .u64 x ∧ 0 ≤ x ∧ x ≤ 18446744073709551615 ∧ Hid (x = u / 256 ^ (8 - q)) ∧ wr = w.alloc (.cells (CW u q 8) 5)) (fun _ i _ => (intOf i + 1).toNat)
  case atStart => exact ⟨8, u, by omega, by go_num, rfl, HR.out.1, by have := HR.out.2; omega, Lib.hid (by simp), rfl⟩
  case round =>
    obtain ⟨q, x, hq, rfl, rfl, hx0, hx1, HX, rfl⟩ := hrel
    rcases q with _ | q
    · go_wp2
      go_ret
      rw [← HN.out]
      exact word_end n w
    · obtain ⟨old, hold⟩ : ∃ old, (CW u (q + 1) 8)[q]? = some old := ⟨_, Array.getElem?_eq_getElem (by rw [size_CW]; omega)⟩
      have hx' : Hid (x % 256 = u / 256 ^ (7 - q) % 256 ∧ x / 256 = u / 256 ^ (8 - q)) := Lib.hid (by
        rw [HX.out, show 8 - (q + 1) = 7 - q by omega, show 8 - q = 7 - q + 1 by omega]
        have := div_div u (7 - q) 1
        rw [Int.pow_one] at this
        exact ⟨rfl, this⟩)
      go_wp2
      go_roundw
      case rel => exact ⟨q, _, by omega, by go_num, rfl, by omega, by omega, Lib.hid hx'.out.2, by rw [set_CW u (q + 1) 8 q 8 q _ (by rw [← hx'.out.1]) (by omega) (by omega)]⟩
      case measure => simp [intOf]
end Go.Proofs.Ytmiihakfpldeiaa
