/- What layer 1's Bytes and Read answer, the program's and the document's, one contract each; and whether two rows of bytes are the same. -/
import Derived.Test.YtbklpnpgmhnggaaKnown
import Derived.Test.YtbklpnpgmhnggaaFlo2
import Derived.Test.YtbklpnpgmhnggaaMem
namespace Go.Proofs.Ytbklpnpgmhnggaa
open Go.RowKit Flo Mem
set_option maxRecDepth 10000
set_option maxHeartbeats 400000
def byteI (a : Int) (j : Nat) : Int := a / 2 ^ (8 * (7 - j)) % 256
def bytesZ (a : Int) : List UInt8 := (List.range 8).map fun j => UInt8.ofNat (byteI a j).toNat
/-- Eight cells of which the first k are written, from the front; from the back. -/
def BA (a : Int) (k : Nat) : Array Value := ((List.range 8).map fun j => if j < k then Value.int .u8 (byteI a j) else .int .u8 0).toArray
def BR (a : Int) (n : Nat) : Array Value := ((List.range 8).map fun j => if n ≤ j then Value.int .u8 (byteI a j) else .int .u8 0).toArray
theorem size_BA (a : Int) (k : Nat) : (BA a k).size = 8 := by simp [BA]
theorem size_BR (a : Int) (k : Nat) : (BR a k).size = 8 := by simp [BR]
theorem set_BA (a : Int) (k : Nat) (x : Int) (hx : x = byteI a k) : (BA a k).setIfInBounds k (.int .u8 x) = BA a (k + 1) := by
  apply Array.ext
  · simp [BA]
  · intro i h1 h2
    simp only [Array.size_setIfInBounds, size_BA] at h1
    rw [Array.getElem_setIfInBounds (by simpa [size_BA] using h1)]
    simp only [BA, List.getElem_toArray, List.getElem_map, List.getElem_range]
    by_cases h : k = i
    · subst h; rw [if_pos rfl, if_pos (by omega), hx]
    · rw [if_neg h]
      by_cases h' : i < k
      · rw [if_pos h', if_pos (by omega)]
      · rw [if_neg h', if_neg (by omega)]
theorem set_BR (a : Int) (n : Nat) (x : Int) (hx : x = byteI a n) : (BR a (n + 1)).setIfInBounds n (.int .u8 x) = BR a n := by
  apply Array.ext
  · simp [BR]
  · intro i h1 h2
    simp only [Array.size_setIfInBounds, size_BR] at h1
    rw [Array.getElem_setIfInBounds (by simpa [size_BR] using h1)]
    simp only [BR, List.getElem_toArray, List.getElem_map, List.getElem_range]
    by_cases h : n = i
    · subst h; rw [if_pos rfl, if_pos (by omega), hx]
    · rw [if_neg h]
      by_cases h' : n ≤ i
      · rw [if_pos (by omega), if_pos h']
      · rw [if_neg (by omega), if_neg h']
theorem BR_BA (a : Int) : BR a 0 = BA a 8 := by
  apply Array.ext
  · simp [BA, BR]
  · intro i h1 h2
    rw [size_BR] at h1
    simp only [BA, BR, List.getElem_toArray, List.getElem_map, List.getElem_range]
    rw [if_pos (by omega), if_pos (by omega)]
theorem byteI_range (a : Int) (j : Nat) : 0 ≤ byteI a j ∧ byteI a j ≤ 255 := by
  unfold byteI
  have := Int.emod_nonneg (a / 2 ^ (8 * (7 - j))) (b := 256) (by decide)
  have := Int.emod_lt_of_pos (a / 2 ^ (8 * (7 - j))) (b := 256) (by decide)
  omega
theorem bytesZ_len (a : Int) : (bytesZ a).length = 8 := by simp [bytesZ]
theorem BA_bytes (a : Int) : (BA a 8).toList = (bytesZ a).map byteV := by
  unfold BA bytesZ
  rw [List.map_map]
  apply List.map_congr_left
  intro j hj
  rw [if_pos (List.mem_range.1 hj)]
  have := byteI_range a j
  show _ = Value.int .u8 ((UInt8.ofNat (byteI a j).toNat).toNat : Int)
  congr 1
  rw [UInt8.toNat_ofNat']
  omega
/-- The block that Bytes lays, read as a row. -/
theorem row_BA {w : World} {g : Nat} {t : TypeId} (a : Int) (h : w.heap[g]? = some (.cells (BA a 8) t (0, 0))) {B : Nat} (hB : g < B) : Row w B (some ⟨g, 0, none⟩) ((bytesZ a).map byteV) := by
  refine Or.inr ⟨g, 0, rfl, hB, fun j hj => ?_⟩
  have := cell_of_row w g j (BA a 8) t (0, 0) h
  rw [Nat.zero_add, this, ← Array.getElem?_toList, BA_bytes, List.getElem?_eq_getElem hj]

theorem mk8 (w : World) : (Instr.makeSlice 47 (.int .i64 8) (.int .i64 8)).run Try.prog w = .ok (.slice (some ⟨w.heap.size, 0, none⟩) 8 8) (w.alloc (.cells #[.int .u8 0, .int .u8 0, .int .u8 0, .int .u8 0, .int .u8 0, .int .u8 0, .int .u8 0, .int .u8 0] 5)) := by kernel_rfl
theorem bytes_any (a : Int) (h : Word a) (w : World) :
    Calls Try.prog 36 #[.float .f64 (fnat a)] w fun e w' => e = .returned (.slice (some ⟨w.heap.size, 0, none⟩) 8 8) ∧ w.alloc (.cells (BA a 8) 5) = w' := by
  have hmk := mk8
  have hb := run_bits a h
  clear h
  go_enter Try.func36, Try.ntmps36
  go_wp2
  go_loopw [11] (fun i wr => ∃ k : Nat, k ≤ 8 ∧ i = .int .i64 k ∧ wr = w.alloc (.cells (BA a k) 5)) (fun i _ => 8 - (intOf i).toNat)
  case atStart => exact ⟨0, by omega, rfl, rfl⟩
  case round =>
    obtain ⟨k, hk, rfl, rfl⟩ := hrel
    by_cases hlt : k < 8
    · have hs := size_BA a k
      go_wp2
      go_roundw
      case rel => exact ⟨k + 1, by omega, by go_num, by rw [set_BA a k _ (show a / 2 ^ (8 * (7 - k)) % 256 = byteI a k from rfl)]⟩
      case measure => simp [intOf]; omega
    · go_wp2
      have e8 : k = 8 := by omega
      go_ret
      exact ⟨rfl, by rw [e8]⟩
def qZ (a : Int) (n : Nat) : Int := a / 256 ^ (8 - n)
theorem q_step (a : Int) (n : Nat) (hn : n + 1 ≤ 8) : qZ a (n + 1) % 256 = byteI a n ∧ qZ a (n + 1) / 256 = qZ a n := by
  have e1 : (256 : Int) ^ (8 - (n + 1)) = 2 ^ (8 * (7 - n)) := by
    rw [show (256 : Int) = 2 ^ 8 by decide, ← Int.pow_mul]
    congr 1; omega
  have e2 : (256 : Int) ^ (8 - n) = 256 ^ (8 - (n + 1)) * 256 := by
    rw [← Int.pow_succ]; congr 1; omega
  unfold qZ
  refine ⟨by rw [e1]; rfl, ?_⟩
  rw [e2, Int.ediv_ediv_of_nonneg (by exact Int.le_of_lt (Int.pow_pos (by decide)))]
theorem q_eight (a : Int) : qZ a 8 = a := by simp [qZ]
theorem q_nonneg (a : Int) (h : Word a) (n : Nat) : 0 ≤ qZ a n := Int.ediv_nonneg h.1 (Int.le_of_lt (Int.pow_pos (by decide)))
theorem q_le (a : Int) (h : Word a) (n : Nat) : qZ a n ≤ 18446744073709551615 := by
  have h1 : 0 < (256 : Int) ^ (8 - n) := Int.pow_pos (by decide)
  have h2 := h.1; have h3 := h.2
  exact Int.le_trans (Int.ediv_le_self _ h2) h3
theorem refbytes_any (a : Int) (h : Word a) (w : World) :
    Calls Try.prog 37 #[.int .u64 a] w fun e w' => e = .returned (.slice (some ⟨w.heap.size, 0, none⟩) 8 8) ∧ w.alloc (.cells (BA a 8) 5) = w' := by
  have hmk := mk8
  have H := Lib.hid h; clear h
  go_enter Try.func37, Try.ntmps37
  go_wp2
  go_loopw [0, 4] (fun u i wr => ∃ n : Nat, n ≤ 8 ∧ i = .int .i64 ((n : Int) - 1) ∧ u = .int .u64 (qZ a n) ∧ wr = w.alloc (.cells (BR a n) 5)) (fun _ i _ => (intOf i + 1).toNat)
  case atStart => exact ⟨8, by omega, rfl, by rw [q_eight], rfl⟩
  case round =>
    obtain ⟨n, hn, rfl, rfl, rfl⟩ := hrel
    rcases n with _ | n
    · go_wp2
      go_ret
      exact ⟨rfl, by rw [BR_BA]⟩
    · have hs := size_BR a (n + 1)
      have hlt : n < 8 := by omega
      have h0 := q_nonneg a H.out (n + 1)
      have h1 := q_le a H.out (n + 1)
      have hst := Lib.hid (q_step a n (by omega))
      go_wp2
      go_roundw
      case rel => exact ⟨n, by omega, by go_num, by rw [hst.out.2], by rw [set_BR a n _ (by have := hst.out.1; omega)]⟩
      case measure => simp [intOf]
end Go.Proofs.Ytbklpnpgmhnggaa
