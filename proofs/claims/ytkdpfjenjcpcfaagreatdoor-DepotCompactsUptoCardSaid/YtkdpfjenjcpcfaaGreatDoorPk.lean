/- Num: What layer 2 makes of a number, the program and the document: one contract each.
   Dec: What layer 2 reads of a number, the program and the document: one contract each.
   Dec2: What layer 2 reads of a number below a bound, of a row and of a truth; what the document reads of a number and of a row.
   Puts: What layer 2 makes of a row and of a truth, the program and the document: one contract each; the law PackPuts.
   Reader: A reader: what it holds, and what each of its calls answers and leaves.
   Reader2: A reader, continued: rows, truths, and being told that something is wrong.
   Get: What the document reads of a number and of a row, at a place in bytes.
   Steps: What a reader's calls come to, on bytes that were laid so, and where it has failed before; small lemmas besides. -/
import Derived.Test.YtkdpfjenjcpcfaaGreatDoorCore
import Derived.Test.YtkdpfjenjcpcfaaGreatDoorRows
import Derived.Lib.BitFns
import Derived.Deep.OwnRows
import Derived.Lib.Small
import Derived.Lib.Strings
import Derived.Lib.Slices
import Derived.Lib.Walk
import Derived.Laws.BitsAllLaws
import Derived.Deep.QuietTactic
import Derived.BigQuiet
namespace Go.Proofs.YtkdpfjenjcpcfaaGreatDoor
open Go.RowKit Mem Be
set_option maxRecDepth 10000
set_option maxHeartbeats 1000000
theorem ret_intN {k : IntKind} {a b : Int} (h : a = b) : Ending.returned (.int k a) = .returned (.int k b) := by rw [h]
theorem tab_size : Lib.len8tab.size = 256 := by decide +kernel
theorem tab_le : (256 : Int) ≤ (Lib.len8tab.size : Int) := by rw [tab_size]; decide
theorem tab_all : ∀ i : Fin 256, (Lib.len8tab.data.toList.getD i.val 0).toNat ≤ 8 ∧ (1 ≤ i.val → 1 ≤ (Lib.len8tab.data.toList.getD i.val 0).toNat) ∧ (i.val = 0 → (Lib.len8tab.data.toList.getD i.val 0).toNat = 0) := by decide +kernel
theorem tab_of (y : Int) (h : y.toNat < Lib.len8tab.size) : (Lib.len8tab[y.toNat]'h).toNat ≤ 8 ∧ (1 ≤ y → 1 ≤ (Lib.len8tab[y.toNat]'h).toNat) ∧ (y ≤ 0 → (Lib.len8tab[y.toNat]'h).toNat = 0) := by
  have h' : y.toNat < 256 := by rw [tab_size] at h; exact h
  have := tab_all ⟨y.toNat, h'⟩
  have e : Lib.len8tab[y.toNat]'h = Lib.len8tab.data.toList.getD y.toNat 0 := by
    rw [List.getD_eq_getElem?_getD, Array.getElem?_toList, Array.getElem?_eq_getElem (by exact h)]
    rfl
  rw [e]
  refine ⟨this.1, fun h1 => this.2.1 (by show 1 ≤ y.toNat; omega), fun h1 => this.2.2 (by show y.toNat = 0; omega)⟩
def Len64 (x : Int) (w : World) (e : Ending) (w' : World) : Prop := (∃ L : Int, e = .returned (.int .i64 L) ∧ 0 ≤ L ∧ L ≤ 64 ∧ (L + 7) / 8 = (sizeN x : Int)) ∧ w = w'
theorem wrap_small (n : Nat) (b : Int) (h : n ≤ 255) (h0 : 0 ≤ b) (h1 : b ≤ 100) : wrap64 (b + wrap64 (n : Int)) = b + (n : Int) := by
  have e1 : wrap64 (n : Int) = (n : Int) := by unfold wrap64; omega
  rw [e1]; unfold wrap64; omega
theorem len_end (k : Nat) (p q : Int) (hk : k ≤ 7) (hp : (256 : Int) ^ k = p) (hq : (256 : Int) ^ (k + 1) = q) (x y V : Int) (w : World) (h : y.toNat < Lib.len8tab.size) (hx : p ≤ x ∨ k = 0) (hlt : x < q) (hy : y = x / p) (h0 : 0 ≤ x)
    (hV : V = wrap64 (8 * (k : Int) + wrap64 ((Lib.len8tab[y.toNat]'h).toNat : Int))) :
    Len64 x w (.returned (.int .i64 V)) w := by
  obtain ⟨t1, t2, t3⟩ := tab_of y h
  rw [wrap_small _ _ (by omega) (by omega) (by omega)] at hV
  have hpp := pow_pos' k
  have hm := pow_mono (a := k + 1) (b := 8) (by omega)
  have p8 := pows.2.2.2.2.2.2.2.2
  subst hp; subst hq
  refine ⟨⟨V, rfl, by omega, by omega, ?_⟩, rfl⟩
  by_cases h1 : 256 ^ k ≤ x
  · have hy1 : 1 ≤ y := by rw [hy, Int.le_ediv_iff_mul_le hpp]; omega
    have := t2 hy1
    have e : sizeN x = k + 1 := size_of x (k + 1) (by omega) hlt fun j hj => by
      obtain rfl : j = k := by omega
      exact h1
    rw [e]
    omega
  · obtain rfl : k = 0 := by
      rcases hx with hx | hx
      · exact absurd hx h1
      · exact hx
    have : x < 1 := by simpa using h1
    have hy0 : y = x := by rw [hy]; simp
    have := t3 (by omega)
    have e := (size_zero x).2 (by omega)
    rw [e]
    omega
theorem len64_any (x : Int) (w : World) (h0 : 0 ≤ x) (h1 : x ≤ 18446744073709551615) : Calls Tryz.prog 173 #[.int .u64 x] w (Len64 x w) := by
  have hs := tab_le
  go_enter Tryz.func173, Tryz.ntmps173
  go_wp2
  all_goals first | (exfalso; omega) | skip
  all_goals go_ret
  all_goals first
    | exact len_end 7 72057594037927936 18446744073709551616 (by decide) pows.2.2.2.2.2.2.2.1 pows.2.2.2.2.2.2.2.2 x (x / 4294967296 / 65536 / 256) _ w (by omega) (by omega) (by omega) (by omega) h0 rfl
    | exact len_end 6 281474976710656 72057594037927936 (by decide) pows.2.2.2.2.2.2.1 pows.2.2.2.2.2.2.2.1 x (x / 4294967296 / 65536) _ w (by omega) (by omega) (by omega) (by omega) h0 rfl
    | exact len_end 5 1099511627776 281474976710656 (by decide) pows.2.2.2.2.2.1 pows.2.2.2.2.2.2.1 x (x / 4294967296 / 256) _ w (by omega) (by omega) (by omega) (by omega) h0 rfl
    | exact len_end 4 4294967296 1099511627776 (by decide) pows.2.2.2.2.1 pows.2.2.2.2.2.1 x (x / 4294967296) _ w (by omega) (by omega) (by omega) (by omega) h0 rfl
    | exact len_end 3 16777216 4294967296 (by decide) pows.2.2.2.1 pows.2.2.2.2.1 x (x / 65536 / 256) _ w (by omega) (by omega) (by omega) (by omega) h0 rfl
    | exact len_end 2 65536 16777216 (by decide) pows.2.2.1 pows.2.2.2.1 x (x / 65536) _ w (by omega) (by omega) (by omega) (by omega) h0 rfl
    | exact len_end 1 256 65536 (by decide) pows.2.1 pows.2.2.1 x (x / 256) _ w (by omega) (by omega) (by omega) (by omega) h0 rfl
    | exact len_end 0 1 256 (by decide) pows.1 pows.2.1 x x _ w (by omega) (by omega) (by omega) (by omega) h0 (by simp)
/-- One cell for the size and s for the bytes, of which the last i are written. -/
def cellA (u : Int) (s i j : Nat) : Value := if j = 0 then .int .u8 (s : Int) else if j + i ≤ s then .int .u8 0 else .int .u8 (u / 256 ^ (s - j) % 256)
def CA (u : Int) (s i : Nat) : Array Value := ((List.range (s + 1)).map (cellA u s i)).toArray
def C0 (s : Nat) : Array Value := madeCells #[.int .u8 0] (s + 1)
theorem size_CA (u : Int) (s i : Nat) : (CA u s i).size = s + 1 := by simp [CA]
theorem C0_list (s : Nat) : (C0 s).toList = List.replicate (s + 1) (.int .u8 0) := toList_madeCells_one _ _
theorem size_C0 (s : Nat) : (C0 s).size = s + 1 := by rw [← Array.length_toList, C0_list]; simp
theorem set_C0 (u : Int) (s : Nat) : (C0 s).setIfInBounds 0 (.int .u8 (s : Int)) = CA u s 0 := by
  apply Array.ext
  · simp [size_CA, size_C0]
  · intro j h1 h2
    rw [size_CA] at h2
    rw [Array.getElem_setIfInBounds (by rw [size_C0]; exact h2)]
    simp only [CA, List.getElem_toArray, List.getElem_map, List.getElem_range, cellA]
    by_cases h : 0 = j
    · subst h; rw [if_pos rfl, if_pos rfl]
    · rw [if_neg h, if_neg (by omega), if_pos (by omega)]
      rw [← Array.getElem_toList]
      simp only [C0_list, List.getElem_replicate]
theorem set_CA (u : Int) (s i : Nat) (hi : i < s) (x : Int) (hx : x = u / 2 ^ (8 * i) % 256) : (CA u s i).setIfInBounds (s - i) (.int .u8 x) = CA u s (i + 1) := by
  apply Array.ext
  · simp [size_CA]
  · intro j h1 h2
    rw [size_CA] at h2
    rw [Array.getElem_setIfInBounds (by rw [size_CA]; exact h2)]
    simp only [CA, List.getElem_toArray, List.getElem_map, List.getElem_range, cellA]
    by_cases h : s - i = j
    · rw [if_pos h, if_neg (by omega), if_neg (by omega), hx]
      have : s - j = i := by omega
      rw [this, show (256 : Int) = 2 ^ 8 by decide, ← Int.pow_mul]
    · rw [if_neg h]
      by_cases h0 : j = 0
      · rw [if_pos h0, if_pos h0]
      · rw [if_neg h0, if_neg h0]
        by_cases h' : j + i ≤ s
        · rw [if_pos h', if_pos (by omega)]
        · rw [if_neg h', if_neg (by omega)]
theorem CA_bytes (u : Int) : (CA u (sizeN u) (sizeN u)).toList = (numU u).map byteV := by
  apply List.ext_getElem
  · simp [CA, numU, be_len]
  · intro j h2 h3
    simp only [CA, List.getElem_map, List.getElem_range, cellA]
    unfold numU
    rcases j with _ | j
    · rw [if_pos rfl, List.getElem_cons_zero]
      unfold byteV
      rw [size_byte]
    · have hj : j < sizeN u := by simpa [numU, be_len] using h3
      rw [if_neg (by omega), if_neg (by omega), List.getElem_cons_succ, be_get _ _ _ hj]
      unfold byteV
      rw [byte_back, show sizeN u - (j + 1) = sizeN u - 1 - j by omega]

theorem make_num (s : Nat) (hs : s ≤ 8) (W : World) : (Instr.makeSlice 27 (.int .i64 (1 + (s : Int))) (.int .i64 (1 + (s : Int)))).run Tryz.prog W = .ok (.slice (some ⟨W.heap.size, 0, none⟩) (s + 1) (s + 1)) (W.alloc (.cells (C0 s) 5)) := by
  have := run_make_row' (P := Tryz.prog) 27 5 (.int .u8 0) 1 Tryz.underlying27 info_b rfl .i64 .i64 (s + 1) (by omega) (by omega) W
  rw [show (1 + (s : Int)) = ((s + 1 : Nat) : Int) by omega]
  exact this
/-- The row that the block is. -/
theorem own_CA {w : World} (u : Int) :
    (w.alloc (.cells (CA u (sizeN u) (sizeN u)) 5)).ownsRow w.heap.size 5 1 (.slice (some ⟨w.heap.size, 0, none⟩) (sizeN u + 1) (sizeN u + 1)) (numU u).length ((numU u).map byteV) := by
  have hl : (numU u).length = sizeN u + 1 := by simp [numU, be_len]
  refine ⟨by simp, Or.inr ⟨w.heap.size, sizeN u + 1, _, by rw [hl], Nat.le_refl _, heap_alloc_new w _, by omega, ?_, by rw [size_CA]; omega, ?_⟩⟩
  · have := size_le u; unfold maxLen; omega
  · rw [CA_bytes u, List.take_of_length_le (by simp)]
theorem num_end (u n : Int) (w : World) (h1 : uZ n = u) :
    Made w.heap.size (numB n) w (.returned (.slice (some ⟨w.heap.size, 0, none⟩) (sizeN u + 1) (sizeN u + 1))) (w.alloc (.cells (CA u (sizeN u) (sizeN u)) 5)) := by
  have hl : (numU u).length = sizeN u + 1 := by simp [numU, be_len]
  unfold numB
  rw [h1]
  have ho := own_CA (w := w) u
  refine ⟨some ⟨w.heap.size, 0, none⟩, sizeN u + 1, by rw [hl], ?_, (Below.refl _ _).alloc (Nat.le_refl _) _⟩
  rw [hl] at ho ⊢
  exact ho
theorem num_any (n : Int) (w : World) : Calls Tryz.prog 149 #[.int .i64 n] w (Made w.heap.size (numB n) w) := by
  obtain ⟨u, hu⟩ : ∃ u, IntKind.u64.wrap n = u := ⟨_, rfl⟩
  have hr := u_range n
  have hun : uZ n = u := by rw [← hu]; unfold uZ; rw [IntKind.wrap_u64]
  rw [hun] at hr
  have hr0 := hr.1
  have hr1 : u ≤ 18446744073709551615 := by omega
  have HN : Hid (uZ n = u) := Lib.hid hun
  have hs8 := size_le u
  obtain ⟨s, hsz⟩ : ∃ s, sizeN u = s := ⟨_, rfl⟩
  rw [hsz] at hs8
  have HS := Lib.hid hsz
  have hmk := make_num s hs8
  clear hr hun hsz
  have hc := size_C0 s
  go_enter Tryz.func149, Tryz.ntmps149
  go_wp2_with (go_at_call 173; refine (len64_any u _ hr0 hr1).mono ?_; rintro e w' ⟨⟨L, rfl, hL0, hL1, hL⟩, rfl⟩; (have hL' : (L + 8 - 1) / 8 = (s : Int) := by rw [← HS.out]; omega); clear hL)
  rw [set_C0 u s]
  clear hc hmk
  go_loopw [22] (fun i wr => ∃ k : Nat, k ≤ s ∧ i = .int .i64 k ∧ wr = w.alloc (.cells (CA u s k) 5)) (fun i _ => s - (intOf i).toNat)
  case atStart => exact ⟨0, by omega, rfl, rfl⟩
  case round =>
    obtain ⟨k, hk, rfl, rfl⟩ := hrel
    by_cases hlt : k < s
    · obtain ⟨old, hold⟩ : ∃ old, (CA u s k)[s - k]? = some old := ⟨_, Array.getElem?_eq_getElem (by rw [size_CA]; omega)⟩
      go_wp2
      go_roundw
      case rel => exact ⟨k + 1, by omega, by go_num, by rw [set_CA u s k hlt _ rfl]⟩
      case measure => simp [intOf]; omega
    · go_wp2
      have e8 : k = s := by omega
      go_ret
      have hs' := HS.out
      have h1 := HN.out
      subst hs'
      subst e8
      exact num_end u n w h1

theorem shr_pos (u : Int) (k : Nat) (h1 : u < 18446744073709551616) : 0 < u / 2 ^ (8 * k) ↔ k < sizeN u := by
  have e : (2 : Int) ^ (8 * k) = 256 ^ k := by rw [show (256 : Int) = 2 ^ 8 by decide, ← Int.pow_mul]
  have hp := pow_pos' k
  rw [e]
  constructor
  · intro h
    rcases Nat.lt_or_ge k (sizeN u) with hk | hk
    · exact hk
    · have := size_lt u h1
      have := pow_mono hk
      have : u / 256 ^ k < 1 := by rw [Int.ediv_lt_iff_lt_mul hp]; omega
      omega
  · intro hk
    obtain ⟨s, hs⟩ : ∃ s, sizeN u = s + 1 := ⟨sizeN u - 1, by omega⟩
    have := size_ge u s hs
    have := pow_mono (a := k) (b := s) (by omega)
    have : 1 ≤ u / 256 ^ k := by rw [Int.le_ediv_iff_mul_le hp]; omega
    omega
theorem num_step (u : Int) (q : Nat) (hq : q < sizeN u) (x : Int) (hx : x = u / 2 ^ (8 * q) % 256) :
    ((numU u).take (sizeN u - (q + 1) + 1)).map byteV ++ [.int .u8 x] = ((numU u).take (sizeN u - q + 1)).map byteV := by
  have e : (2 : Int) ^ (8 * q) = 256 ^ q := by rw [show (256 : Int) = 2 ^ 8 by decide, ← Int.pow_mul]
  have hl : (numU u).length = sizeN u + 1 := by simp [numU, be_len]
  rw [show sizeN u - q + 1 = sizeN u - (q + 1) + 1 + 1 by omega, List.take_succ_eq_append_getElem (i := sizeN u - (q + 1) + 1) (by omega), List.map_append]
  congr 1
  simp only [List.map_cons, List.map_nil]
  congr 1
  unfold numU
  rw [List.getElem_cons_succ, be_get _ _ _ (by omega)]
  unfold byteV
  rw [byte_back, hx, e]
  congr 5
  omega
def MadeN (B : Nat) (s q : Nat) (u : Int) (w wr : World) (v : Value) : Prop := wr.ownsRow B 5 1 v (s - q + 1) (((numU u).take (s - q + 1)).map byteV) ∧ Below B w wr
theorem made_start (u : Int) (k : Nat) (hk : sizeN u = k) (w : World) : MadeN w.heap.size k k u w (w.alloc (.cells #[.int .u8 (k : Int)] 5)) (.slice (some ⟨w.heap.size, 0, none⟩) 1 1) := by
  have hb := size_byte u
  have hx : ((numU u).take 1).map byteV = [.int .u8 (k : Int)] := by
    show [byteV (UInt8.ofNat (sizeN u))] = _
    unfold byteV; rw [hb, hk]
  refine ⟨?_, (Below.refl _ _).alloc (Nat.le_refl _) _⟩
  rw [Nat.sub_self, hx]
  exact ⟨rfl, Or.inr ⟨w.heap.size, 1, _, rfl, Nat.le_refl _, heap_alloc_new w _, by omega, by decide, rfl, rfl⟩⟩
theorem shr_byte (u : Int) (q : Nat) (h : 0 ≤ u) : (u / 2 ^ (8 * q)).tmod 256 % 256 = u / 2 ^ (8 * q) % 256 := by
  rw [Int.tmod_eq_emod_of_nonneg (Int.ediv_nonneg h (Int.le_of_lt (Int.pow_pos (by decide))))]
  omega
theorem made_end (n u : Int) (s : Nat) (w wr : World) (v : Value) (hu : uZ n = u) (hs : sizeN u = s) (h : MadeN w.heap.size s 0 u w wr v) : Made w.heap.size (numB n) w (.returned v) wr := by
  have hl : (numU u).length = s + 1 := by rw [← hs]; simp [numU, be_len]
  obtain ⟨ho, hb⟩ := h
  unfold numB
  rw [hu]
  rw [Nat.sub_zero, List.take_of_length_le (by omega), ← hl] at ho
  rcases ho.2 with ⟨rfl, hn⟩ | ⟨g, cap, cur, rfl, _⟩
  · omega
  · exact ⟨_, _, rfl, ho, hb⟩
theorem made_step (u : Int) (k q : Nat) (hs : sizeN u = k) (hq : q < k) (w wr w1 : World) (v v' : Value) (o : Obj) (hm : MadeN w.heap.size k (q + 1) u w wr v)
    (hown : w1.ownsRow w.heap.size 5 1 v' (k - (q + 1) + 1 + 1) (((numU u).map byteV).take (k - (q + 1) + 1) ++ [.int .u8 ((u / 2 ^ (8 * q)).tmod 256 % 256)])) (hu : 0 ≤ u) (hg : (wr.alloc o).grownBy w1 v.ownBlock) : MadeN w.heap.size k q u w w1 v' := by
  subst hs
  refine ⟨?_, (hm.2.alloc hm.2.size _).grown hg (by have := hm.2.size; simp; omega) fun g h => (hm.1.lt g h).1⟩
  rw [← List.map_take, num_step u q hq _ (shr_byte u q hu), show sizeN u - (q + 1) + 1 + 1 = sizeN u - q + 1 by omega] at hown
  exact hown
theorem refnum_any (n : Int) (w : World) : Calls Tryz.prog 99 #[.int .i64 n] w (Made w.heap.size (numB n) w) := by
  obtain ⟨i0, hi0, hz0, hz1, hz2⟩ := info_parts info_b
  obtain ⟨u, hu⟩ : ∃ u, IntKind.u64.wrap n = u := ⟨_, rfl⟩
  have hr := u_range n
  have hun : uZ n = u := by rw [← hu]; unfold uZ; rw [IntKind.wrap_u64]
  rw [hun] at hr
  have hr0 := hr.1
  have hr1 : u ≤ 18446744073709551615 := by omega
  have HN : Hid (uZ n = u) := Lib.hid hun
  have hs8 := size_le u
  obtain ⟨s, hsz⟩ : ∃ s, sizeN u = s := ⟨_, rfl⟩
  rw [hsz] at hs8
  have HS := Lib.hid hsz
  clear hr hun hsz
  go_enter Tryz.func99, Tryz.ntmps99
  go_wp2
  go_loop [4] (fun i => ∃ k : Nat, k ≤ s ∧ i = .int .i64 k) (fun i => s - (intOf i).toNat)
  case atStart => exact ⟨0, by omega, rfl⟩
  case round =>
    obtain ⟨k, hk, rfl⟩ := hrel
    by_cases hlt : k < s
    · have hp := (shr_pos u k (by omega)).2 (by rw [HS.out]; exact hlt)
      have hk8 : k < 8 := by omega
      go_wp2
      go_round
      case rel => exact ⟨k + 1, by omega, by go_num⟩
      case measure => simp [intOf]; omega
    · obtain rfl : k = s := by omega
      have hp : ¬ 0 < u / 2 ^ (8 * k) := fun h => hlt (by have := (shr_pos u k (by omega)).1 h; rw [HS.out] at this; exact this)
      have hst : (numU u).length = k + 1 := by rw [← HS.out]; simp [numU, be_len]
      have HL := Lib.hid hst
      clear hst hlt
      by_cases hk8 : k < 8
      all_goals
        go_wp2
        go_loopw [5, 6] (fun v i wr => ∃ q : Nat, q ≤ k ∧ i = .int .i64 ((q : Int) - 1) ∧ MadeN w.heap.size k q u w wr v) (fun _ i _ => (intOf i + 1).toNat)
        case atStart => exact ⟨k, Nat.le_refl _, by go_num, made_start u k HS.out w⟩
        case round =>
          obtain ⟨q, hq, rfl, hm⟩ := hrel
          have HM := Lib.hid hm
          clear hm
          rcases q with _ | q
          · go_wp2
            go_ret
            exact made_end n u k w _ _ HN.out HS.out HM.out
          · go_wp2_with (at_builtin; refine wpList_append_own _ rfl _ _ 27 rfl w.heap.size 5 i0 (.int .u8 0) 1 1 Tryz.underlying27 hi0 hz0 hz1 hz2 rfl (by decide) _ _ _ rfl (HM.out.1.alloc _) ⟨_, 0, none⟩ 1 1 [.int .u8 ((u / 2 ^ (8 * q)).tmod 256 % 256)] rfl rfl (by intro j u hj; match j, hj with | 0, hj => simp at hj; subst hj; simp [Addr.add]) (by intro u hu; simp at hu; subst hu; rfl) (by unfold maxLen; omega) (by omega) (by have := HM.out.2.size; simp; omega) ?_)
            intro v' w1 hown' hgrow _
            have R := Lib.hid (made_step u k q HS.out (by omega) w wr w1 _ v' _ HM.out hown' hr0 hgrow)
            clear hown' hgrow
            go_wp2
            go_roundw
            case rel => exact ⟨q, by omega, by go_num, R.out⟩
            case measure => simp [intOf]
end Go.Proofs.YtkdpfjenjcpcfaaGreatDoor
namespace Go.Proofs.YtkdpfjenjcpcfaaGreatDoor
open Go.RowKit Mem Be
set_option maxRecDepth 10000
set_option maxHeartbeats 1000000
def three (x k e : Int) : Ending := .returned (.tuple #[.int .i64 x, .int .i64 k, .int .i64 e])
def Num3 (r : Int × Nat × Int) (w : World) (e : Ending) (w' : World) : Prop := e = three r.1 r.2.1 r.2.2 ∧ ∃ n, w' = w.drewN n
theorem shl_or (u : Int) (b : UInt8) (h0 : 0 ≤ u) (h1 : u ≤ 72057594037927935) : bits .or .u64 (IntKind.u64.wrap (u * 256)) (IntKind.u64.wrap (b.toNat : Int)) = u * 256 + (b.toNat : Int) := by
  have hb := b.toNat_lt
  have e1 : IntKind.u64.wrap (u * 256) = u * 256 := by rw [IntKind.wrap_u64]; omega
  have e2 : IntKind.u64.wrap (b.toNat : Int) = (b.toNat : Int) := by rw [IntKind.wrap_u64]; omega
  rw [e1, e2, u64_or _ _ (by omega) (by omega) (by omega) (by omega)]
  have : (u * 256).toNat ||| ((b.toNat : Int)).toNat = (u * 256).toNat + b.toNat := by
    rw [show ((b.toNat : Int)).toNat = b.toNat by omega]
    exact nat_join 8 _ _ (by omega) (by omega)
  rw [this]; omega
theorem number_none (c : Nat) (A : Option Addr) (w : World) : Calls Tryz.prog 222 #[.slice A 0 c] w (Num3 (getN []) w) := by
  go_enter Tryz.func222, Tryz.ntmps222
  go_wp2
  go_ret3
  exact ⟨rfl, 0, rfl⟩
theorem three_eq {x k e x' k' e' : Int} (h1 : x = x') (h2 : k = k') (h3 : e = e') : Ending.returned (.tuple #[.int .i64 x, .int .i64 k, .int .i64 e]) = three x' k' e' := by rw [h1, h2, h3]; rfl
theorem num3_end {r : Int × Nat × Int} {x : Int} {k : Nat} {e : Int} (hr : r = (x, k, e)) {x' k' : Int} (h1 : x' = x) (h2 : k' = k) (w : World) (n : Nat) :
    Num3 r w (.returned (.tuple #[.int .i64 x', .int .i64 k', .int .i64 e])) (w.drewN n) := by
  subst hr
  exact ⟨three_eq h1 h2 rfl, n, rfl⟩
theorem getN_1 (b0 : UInt8) (rest : List UInt8) (h : 8 < b0.toNat) : getN (b0 :: rest) = (0, 0, 11) := by
  unfold getN; rw [if_neg (by simp), if_pos (by simpa using h)]
theorem getN_2 (b0 : UInt8) (rest : List UInt8) (h : ¬ 8 < b0.toNat) (h2 : rest.length < b0.toNat) : getN (b0 :: rest) = (0, 0, 12) := by
  unfold getN; rw [if_neg (by simp), if_neg (by simpa using h), if_pos (by simp; omega)]
theorem getN_3 (b0 r0 : UInt8) (more : List UInt8) (h : ¬ 8 < b0.toNat) (h2 : ¬ (r0 :: more).length < b0.toNat) (h3 : 0 < b0.toNat) (h4 : r0.toNat = 0) : getN (b0 :: r0 :: more) = (0, 0, 11) := by
  unfold getN; rw [if_neg (by simp), if_neg (by simpa using h), if_neg (by simp at h2 ⊢; omega), if_pos ⟨by simpa using h3, by simpa using h4⟩]
theorem getN_4 (b0 : UInt8) (rest : List UInt8) (h : ¬ 8 < b0.toNat) (h2 : ¬ rest.length < b0.toNat) (h3 : ¬ (0 < b0.toNat ∧ (rest.headD 0).toNat = 0)) : getN (b0 :: rest) = (iZ (rd (rest.take b0.toNat)), 1 + b0.toNat, 0) := by
  unfold getN
  have e1 : (b0 :: rest).headD 0 = b0 := rfl
  have e2 : (b0 :: rest).tail = rest := rfl
  rw [e1, e2, if_neg (by simp), if_neg h, if_neg (by simp; omega), if_neg h3]
theorem wrap_i (u : Int) : IntKind.i64.wrap u = iZ u := by rw [IntKind.wrap_i64]; rfl
theorem wrap_iZ (u : Int) : wrap64 u = iZ u := by unfold wrap64 iZ; omega
theorem rd_small (bs : List UInt8) (k : Nat) (h : k ≤ 7) : rd (bs.take k) ≤ 72057594037927935 := by
  have h1 := rd_lt (bs.take k)
  have h2 := pow_mono (a := (bs.take k).length) (b := 7) (by rw [List.length_take]; omega)
  have := pows.2.2.2.2.2.2.2.1
  omega
theorem number_some (c : Nat) (b o : Nat) (b0 : UInt8) (rest : List UInt8) (w : World) (h : ∀ j (h : j < ((b0 :: rest).map byteV).length), w.cell? ⟨b, o + j, none⟩ = some ((b0 :: rest).map byteV)[j]) (hc : rest.length + 1 ≤ c) (hm : c ≤ maxLen) :
    Calls Tryz.prog 222 #[.slice (some ⟨b, o, none⟩) (rest.length + 1) c] w (Num3 (getN (b0 :: rest)) w) := by
  have h0 : w.cell? ⟨b, o, none⟩ = some (.int .u8 (b0.toNat : Int)) := h 0 (by simp)
  have hb := b0.toNat_lt
  have hcut : ∀ W, (Instr.slice 27 (.slice (some ⟨b, o, none⟩) (rest.length + 1) c) (some (.int .i64 1)) none none).run Tryz.prog W = .ok (.slice (cutA (some ⟨b, o, none⟩) 1 c) rest.length (c - 1)) W := fun W => by
    have := run_cut_l (P := Tryz.prog) (w := W) 27 5 _ _ Tryz.underlying27 info_b (some ⟨b, o, none⟩) (rest.length + 1) c 1 (by omega)
    rw [Nat.add_sub_cancel] at this
    exact this
  unfold maxLen at hm
  by_cases h8 : 8 < b0.toNat
  · have hl8 : (8 : Int) < (b0.toNat : Int) := by omega
    have HG := Lib.hid (getN_1 b0 rest h8)
    clear h
    go_enter Tryz.func222, Tryz.ntmps222
    go_wp2
    go_quiet (fail)
    go_wp2
    go_ret3
    exact num3_end HG.out rfl rfl w _
  have hl8 : (b0.toNat : Int) ≤ 8 := by omega
  by_cases h2 : rest.length < b0.toNat
  · have hl2 : (rest.length : Int) < (b0.toNat : Int) := by omega
    have HG := Lib.hid (getN_2 b0 rest h8 h2)
    clear h
    go_enter Tryz.func222, Tryz.ntmps222
    go_wp2
    go_quiet (fail)
    go_wp2
    go_ret3
    exact num3_end HG.out rfl rfl w _
  have hl2 : (b0.toNat : Int) ≤ (rest.length : Int) := by omega
  by_cases hz : b0.toNat = 0
  · have HG := Lib.hid (getN_4 b0 rest h8 h2 (by omega))
    have hcut2 : ∀ W, (Instr.slice 27 (.slice (cutA (some ⟨b, o, none⟩) 1 c) rest.length (c - 1)) none (some (.int .i64 0)) none).run Tryz.prog W = .ok (.slice (cutA (some ⟨b, o, none⟩) 1 c) 0 (c - 1)) W := fun W =>
      run_cut_h (P := Tryz.prog) (w := W) 27 5 _ _ Tryz.underlying27 info_b _ rest.length (c - 1) 0 (by omega)
    rw [hz] at h0 hl8 hl2 HG
    have h0' : w.cell? ⟨b, o, none⟩ = some (.int .u8 0) := h0
    clear h h0 hz h8 h2
    go_enter Tryz.func222, Tryz.ntmps222
    go_wp2
    go_quiet (fail)
    go_wp2
    go_loop [7, 40] (fun u i => u = .int .u64 0 ∧ i = .int .i64 0) (fun _ _ => 0)
    case atStart => exact ⟨rfl, rfl⟩
    case round =>
      obtain ⟨rfl, rfl⟩ := hrel
      go_wp2
      go_ret3
      exact num3_end HG.out rfl rfl w _
  · match rest, h, hc, hcut, h2, hl2 with
    | [], _, _, _, h2, _ => simp at h2; omega
    | r0 :: more, h, hc, hcut, h2, hl2 =>
      have h1 : w.cell? ⟨b, o + 1, none⟩ = some (.int .u8 (r0.toNat : Int)) := h 1 (by simp)
      rw [cutA_some b o 1 c (by simp at hc; omega)] at hcut
      have hz0 : (0 : Int) < (b0.toNat : Int) := by omega
      by_cases hr : r0.toNat = 0
      · have HG := Lib.hid (getN_3 b0 r0 more h8 h2 (by omega) hr)
        rw [hr] at h1
        have hl3 : (b0.toNat : Int) ≤ (more.length : Int) + 1 := by simp at hl2; omega
        have h1' : w.cell? ⟨b, o + 1, none⟩ = some (.int .u8 0) := h1
        clear h h1 hr hz h8 h2
        go_enter Tryz.func222, Tryz.ntmps222
        go_wp2
        go_quiet (fail)
        go_wp2
        go_ret3
        exact num3_end HG.out rfl rfl w _
      · have HG := Lib.hid (getN_4 b0 (r0 :: more) h8 h2 (by rintro ⟨_, h⟩; exact hr h))
        have hbn : ((r0.toNat : Int) == 0) = false := by simp; omega
        obtain ⟨rest, hre⟩ : ∃ rest, r0 :: more = rest := ⟨_, rfl⟩
        have hcut2 : ∀ W, (Instr.slice 27 (.slice (some ⟨b, o + 1, none⟩) (r0 :: more).length (c - 1)) none (some (.int .i64 (b0.toNat : Int))) none).run Tryz.prog W = .ok (.slice (some ⟨b, o + 1, none⟩) b0.toNat (c - 1)) W := fun W =>
          run_cut_h (P := Tryz.prog) (w := W) 27 5 _ _ Tryz.underlying27 info_b _ (r0 :: more).length (c - 1) b0.toNat (by omega)
        have HC : Hid (∀ j (h : j < rest.length), w.cell? ⟨b, o + 1 + j, none⟩ = some (.int .u8 (rest[j].toNat : Int))) := Lib.hid (by
          intro j hj
          subst hre
          have := h (j + 1) (by simpa using hj)
          rw [show o + 1 + j = o + (j + 1) by omega, this]
          simp only [List.map_cons, List.getElem_cons_succ]
          exact congrArg some (byteV_list (r0 :: more) j hj))
        have hlr : b0.toNat ≤ rest.length := by rw [← hre]; omega
        rw [hre] at HG hcut hcut2 hl2 hc ⊢
        clear h hr hz h8 h2 hre
        go_enter Tryz.func222, Tryz.ntmps222
        go_wp2
        go_quiet (fail)
        go_wp2
        go_loop [7, 40] (fun u i => ∃ k : Nat, k ≤ b0.toNat ∧ i = .int .i64 k ∧ u = .int .u64 (rd (rest.take k))) (fun _ i => b0.toNat - (intOf i).toNat)
        case atStart => exact ⟨0, by omega, rfl, rfl⟩
        case round =>
          obtain ⟨k, hk, rfl, rfl⟩ := hrel
          by_cases hlt : k < b0.toNat
          · have hcell := HC.out k (by omega)
            go_wp2
            go_round
            case rel => exact ⟨k + 1, by omega, by go_num, by rw [shl_or _ _ (rd_nonneg _) (rd_small _ _ (by omega)), rd_snoc rest k (by omega)]⟩
            case measure => simp [intOf]; omega
          · have e8 : k = b0.toNat := by omega
            go_wp2
            go_ret3
            exact num3_end HG.out (wrap_iZ _) (by omega) w _
theorem number_any (B c : Nat) (A : Option Addr) (bs : List UInt8) (w : World) (h : Row w B A (bs.map byteV)) (hc : bs.length ≤ c) (hm : c ≤ maxLen) :
    Calls Tryz.prog 222 #[.slice A bs.length c] w (Num3 (getN bs) w) := by
  match bs, h, hc with
  | [], _, _ => exact number_none c A w
  | b0 :: rest, h, hc =>
    obtain ⟨b, o, rfl, _, hcell⟩ := h.open_ (by simp)
    exact number_some c b o b0 rest w hcell hc hm
end Go.Proofs.YtkdpfjenjcpcfaaGreatDoor
namespace Go.Proofs.YtkdpfjenjcpcfaaGreatDoor
open Go.RowKit Mem Be
set_option maxRecDepth 10000
set_option maxHeartbeats 1000000
namespace Be
def getB (m : Int) (bs : List UInt8) : Int × Nat × Int := if (getN bs).2.2 = 0 ∧ ((getN bs).1 < 0 ∨ m ≤ (getN bs).1) then (0, 0, 11) else getN bs
def getR (bs : List UInt8) : List UInt8 × Nat × Int :=
  if ¬ (getN bs).2.2 = 0 then ([], 0, (getN bs).2.2)
  else if (getN bs).1 < 0 ∨ 65537 ≤ (getN bs).1 then ([], 0, 11)
  else if (bs.length : Int) - (getN bs).2.1 < (getN bs).1 then ([], 0, 12)
  else ((bs.drop (getN bs).2.1).take (getN bs).1.toNat, (getN bs).2.1 + (getN bs).1.toNat, 0)
def getT (bs : List UInt8) : Bool × Nat × Int :=
  if bs.length = 0 then (false, 0, 12) else if 1 < (bs.headD 0).toNat then (false, 0, 11) else ((bs.headD 0).toNat == 1, 1, 0)
theorem getB_err (m : Int) (bs : List UInt8) : ((getB m bs).2.2 = 0 ∧ 1 ≤ (getB m bs).2.1 ∧ (getB m bs).2.1 ≤ bs.length ∧ 0 ≤ (getB m bs).1 ∧ (getB m bs).1 < m ∧ getB m bs = getN bs) ∨ ((getB m bs).1 = 0 ∧ (getB m bs).2.1 = 0 ∧ ((getB m bs).2.2 = 11 ∨ (getB m bs).2.2 = 12)) := by
  unfold getB
  by_cases h : (getN bs).2.2 = 0 ∧ ((getN bs).1 < 0 ∨ m ≤ (getN bs).1)
  · rw [if_pos h]; right; simp
  · rw [if_neg h]
    rcases getN_err bs with h1 | h1
    · left; refine ⟨h1.1, h1.2.1, h1.2.2, ?_, ?_, rfl⟩ <;> omega
    · right; exact h1
theorem getR_err (bs : List UInt8) : ((getR bs).2.2 = 0 ∧ 1 ≤ (getR bs).2.1 ∧ (getR bs).2.1 ≤ bs.length) ∨ ((getR bs).1 = [] ∧ (getR bs).2.1 = 0 ∧ ((getR bs).2.2 = 11 ∨ (getR bs).2.2 = 12)) := by
  have hn := getN_err bs
  unfold getR
  by_cases h : (getN bs).2.2 = 0
  · rw [if_neg (by simpa using h)]
    by_cases h2 : (getN bs).1 < 0 ∨ 65537 ≤ (getN bs).1
    · rw [if_pos h2]; simp
    · rw [if_neg h2]
      by_cases h3 : (bs.length : Int) - (getN bs).2.1 < (getN bs).1
      · rw [if_pos h3]; simp
      · rw [if_neg h3]; left; refine ⟨rfl, ?_, ?_⟩ <;> simp only <;> omega
  · rw [if_pos h]; right; simp only; exact ⟨trivial, trivial, by omega⟩
theorem getT_err (bs : List UInt8) : ((getT bs).2.2 = 0 ∧ (getT bs).2.1 = 1 ∧ 1 ≤ bs.length) ∨ ((getT bs).1 = false ∧ (getT bs).2.1 = 0 ∧ ((getT bs).2.2 = 11 ∨ (getT bs).2.2 = 12)) := by
  unfold getT
  by_cases h : bs.length = 0
  · rw [if_pos h]; simp
  · rw [if_neg h]
    by_cases h2 : 1 < (bs.headD 0).toNat
    · rw [if_pos h2]; simp
    · rw [if_neg h2]; left; exact ⟨rfl, rfl, by omega⟩
end Be
theorem num3_same {r : Int × Nat × Int} {w w1 : World} {n : Nat} (h : w1 = w.drewN n) : Num3 r w (three r.1 r.2.1 r.2.2) w1 := ⟨rfl, n, h⟩
theorem below_any (B c : Nat) (A : Option Addr) (bs : List UInt8) (m : Int) (w : World) (h : Row w B A (bs.map byteV)) (hc : bs.length ≤ c) (hm : c ≤ maxLen) :
    Calls Tryz.prog 219 #[.slice A bs.length c, .int .i64 m] w (Num3 (getB m bs) w) := by
  have HR := Lib.hid h
  have he := getN_err bs
  obtain ⟨x, k, e, hg⟩ : ∃ x k e, getN bs = (x, k, e) := ⟨_, _, _, rfl⟩
  have hB : getB m bs = if e = 0 ∧ (x < 0 ∨ m ≤ x) then (0, 0, 11) else (x, k, e) := by unfold getB; rw [hg]
  have HG := Lib.hid hg
  have HB := Lib.hid hB
  rw [hg] at he
  have HE := Lib.hid he
  clear h hg hB he
  have hcall : ∀ W, W = w → Calls Tryz.prog 222 #[.slice A bs.length c] W (Num3 (x, k, e) w) := fun W hW => by
    rw [hW, ← HG.out]; exact number_any B c A bs w HR.out hc hm
  have HC := Lib.hid hcall
  clear hcall hc hm
  by_cases h0 : e = 0
  · subst h0
    have HB1 := HB.out
    by_cases hx : x < 0
    · rw [if_pos ⟨rfl, Or.inl hx⟩] at HB1
      have HB2 := Lib.hid HB1; clear HB1
      go_enter Tryz.func219, Tryz.ntmps219
      go_wp2_with (go_at_call 222; refine (HC.out _ rfl).mono ?_; rintro e w' ⟨rfl, nq, rfl⟩; unfold three)
      go_ret3
      exact num3_end HB2.out rfl rfl w _
    · by_cases hx2 : m ≤ x
      · rw [if_pos ⟨rfl, Or.inr hx2⟩] at HB1
        have HB2 := Lib.hid HB1; clear HB1
        go_enter Tryz.func219, Tryz.ntmps219
        go_wp2_with (go_at_call 222; refine (HC.out _ rfl).mono ?_; rintro e w' ⟨rfl, nq, rfl⟩; unfold three)
        go_ret3
        exact num3_end HB2.out rfl rfl w _
      · rw [if_neg (by rintro ⟨_, h | h⟩; exact hx h; exact hx2 h)] at HB1
        have HB2 := Lib.hid HB1; clear HB1
        go_enter Tryz.func219, Tryz.ntmps219
        go_wp2_with (go_at_call 222; refine (HC.out _ rfl).mono ?_; rintro e w' ⟨rfl, nq, rfl⟩; unfold three)
        go_ret3
        exact num3_end HB2.out rfl rfl w _
  · have HB1 := HB.out
    rw [if_neg (by rintro ⟨h, _⟩; exact h0 h)] at HB1
    have HB2 := Lib.hid HB1; clear HB1
    have hne : (e == 0) = false := by simpa using h0
    have HN := Lib.hid h0
    clear h0
    go_enter Tryz.func219, Tryz.ntmps219
    go_wp2_with (go_at_call 222; refine (HC.out _ rfl).mono ?_; rintro e w' ⟨rfl, nq, rfl⟩; unfold three)
    go_ret3
    exact num3_end HB2.out rfl rfl w _

def Bool3 (r : Bool × Nat × Int) : Ending := .returned (.tuple #[.bool r.1, .int .i64 r.2.1, .int .i64 r.2.2])
theorem truth_any (B c : Nat) (A : Option Addr) (bs : List UInt8) (w : World) (h : Row w B A (bs.map byteV)) :
    Calls Tryz.prog 226 #[.slice A bs.length c] w fun e w' => e = Bool3 (getT bs) ∧ w = w' := by
  match bs, h with
  | [], _ =>
    go_enter Tryz.func226, Tryz.ntmps226
    go_wp2
    go_ret3
    exact ⟨rfl, rfl⟩
  | b0 :: rest, h =>
    obtain ⟨b, o, rfl, _, hcell⟩ := h.open_ (by simp)
    have h0 : w.cell? ⟨b, o, none⟩ = some (.int .u8 (b0.toNat : Int)) := hcell 0 (by simp)
    have hb := b0.toNat_lt
    clear hcell h
    by_cases h1 : 1 < b0.toNat
    · have HG : Hid (getT (b0 :: rest) = (false, 0, 11)) := Lib.hid (by unfold getT; rw [if_neg (by simp), if_pos (by simpa using h1)])
      have hl : (1 : Int) < (b0.toNat : Int) := by omega
      go_enter Tryz.func226, Tryz.ntmps226
      go_wp2
      go_ret3
      exact ⟨by rw [HG.out]; rfl, rfl⟩
    · have HG : Hid (getT (b0 :: rest) = (b0.toNat == 1, 1, 0)) := Lib.hid (by unfold getT; rw [if_neg (by simp), if_neg (by simpa using h1)]; rfl)
      have hl : (b0.toNat : Int) ≤ 1 := by omega
      go_enter Tryz.func226, Tryz.ntmps226
      go_wp2
      go_ret3
      refine ⟨?_, rfl⟩
      rw [HG.out]
      have e : (((b0.toNat : Int)) == 1) = (b0.toNat == 1) := by rw [Bool.eq_iff_iff]; simp; omega
      unfold Bool3
      simp [e]
end Go.Proofs.YtkdpfjenjcpcfaaGreatDoor
namespace Go.Proofs.YtkdpfjenjcpcfaaGreatDoor
open Go.RowKit Mem Be
set_option maxRecDepth 10000
set_option maxHeartbeats 1000000
def rowB (bs : List UInt8) : List UInt8 := numB (bs.length : Int) ++ bs
/-- A new slice of these bytes, and a number. -/
def Made2 (B : Nat) (bs : List UInt8) (k : Int) (w : World) (e : Ending) (w' : World) : Prop := ∃ A c, e = .returned (.tuple #[.slice A bs.length c, .int .i64 k]) ∧ w'.ownsRow B 5 1 (.slice A bs.length c) bs.length (bs.map byteV) ∧ Below B w w'
theorem made2_of {B : Nat} {bs : List UInt8} {n : Nat} {k : Int} {w w1 : World} {v : Value} {xs : List Value} (ho : w1.ownsRow B 5 1 v n xs) (hx : xs = bs.map byteV) (hb : Below B w w1) : Made2 B bs k w (.returned (.tuple #[v, .int .i64 k])) w1 := by
  obtain ⟨A, c, he, h1, h2⟩ := made_of ho hx hb
  injection he with he
  subst he
  exact ⟨A, c, rfl, h1, h2⟩
theorem row_any (B c n : Nat) (A : Option Addr) (bs : List UInt8) (hn : n = bs.length) (w : World) (h : Row w B A (bs.map byteV)) (hB : B ≤ w.heap.size) (hl : bs.length ≤ 65536) :
    Calls Tryz.prog 122 #[.slice A n c] w (Made2 w.heap.size (rowB bs) 0 w) := by
  subst hn
  obtain ⟨i0, hi0, hz0, hz1, hz2⟩ := info_parts info_b
  have HR := Lib.hid h
  have h9 := numB_le (bs.length : Int)
  have HX : Hid ((numB (bs.length : Int)).map byteV ++ bs.map byteV = (rowB bs).map byteV) := Lib.hid (by unfold rowB; rw [List.map_append])
  have hg : (bs.length : Int) ≤ 65536 := by omega
  clear h
  go_enter Tryz.func122, Tryz.ntmps122
  go_wp2_with (first
    | (go_at_call 149; refine (num_any _ _).mono ?_; rintro e w1 ⟨A1, c1, rfl, ho, hb⟩; have HO := Lib.hid ho; have HB := Lib.hid hb; clear ho hb)
    | (at_builtin; refine wpList_app _ rfl _ _ 27 rfl w.heap.size 5 i0 (.int .u8 0) 1 Tryz.underlying27 hi0 hz0 hz1 hz2 rfl _ _ _ rfl HO.out B _ bs.length c (bs.map byteV) rfl (by simp) (HR.out.below (HB.out.mono hB)) (byte_one bs) (by unfold maxLen; omega) (by omega) HB.out.size ?_))
  intro v' w2 hown hgr _
  have HW := Lib.hid hown
  have HB2 : Hid (Below w.heap.size w w2) := Lib.hid (HB.out.grown hgr HB.out.size (fun g hg => (HO.out.lt g hg).1))
  clear hown hgr
  go_wp2
  go_ret2
  exact made2_of HW.out HX.out HB2.out
theorem refrow_any (B c n : Nat) (A : Option Addr) (bs : List UInt8) (hn : n = bs.length) (w : World) (h : Row w B A (bs.map byteV)) (hB : B ≤ w.heap.size) (hl : bs.length ≤ 65536) :
    Calls Tryz.prog 67 #[.slice A n c] w (Made2 w.heap.size (rowB bs) 0 w) := by
  subst hn
  obtain ⟨i0, hi0, hz0, hz1, hz2⟩ := info_parts info_b
  have HR := Lib.hid h
  have h9 := numB_le (bs.length : Int)
  have HX : Hid ((numB (bs.length : Int)).map byteV ++ bs.map byteV = (rowB bs).map byteV) := Lib.hid (by unfold rowB; rw [List.map_append])
  have hg : (bs.length : Int) ≤ 65536 := by omega
  clear h
  go_enter Tryz.func67, Tryz.ntmps67
  go_wp2_with (first
    | (go_at_call 99; refine (refnum_any _ _).mono ?_; rintro e w1 ⟨A1, c1, rfl, ho, hb⟩; have HO := Lib.hid ho; have HB := Lib.hid hb; clear ho hb)
    | (at_builtin; refine wpList_app _ rfl _ _ 27 rfl w.heap.size 5 i0 (.int .u8 0) 1 Tryz.underlying27 hi0 hz0 hz1 hz2 rfl _ _ _ rfl HO.out B _ bs.length c (bs.map byteV) rfl (by simp) (HR.out.below (HB.out.mono hB)) (byte_one bs) (by unfold maxLen; omega) (by omega) HB.out.size ?_))
  intro v' w2 hown hgr _
  have HW := Lib.hid hown
  have HB2 : Hid (Below w.heap.size w w2) := Lib.hid (HB.out.grown hgr HB.out.size (fun g hg => (HO.out.lt g hg).1))
  clear hown hgr
  go_wp2
  go_ret2
  exact made2_of HW.out HX.out HB2.out
def truthB (t : Bool) : List UInt8 := [if t then 1 else 0]
theorem one_own (w : World) (b : UInt8) : (w.alloc (.cells #[byteV b] 5)).ownsRow w.heap.size 5 1 (.slice (some ⟨w.heap.size, 0, none⟩) 1 1) 1 [byteV b] :=
  ⟨rfl, Or.inr ⟨w.heap.size, 1, _, rfl, Nat.le_refl _, heap_alloc_new w _, by omega, by decide, rfl, rfl⟩⟩
theorem puttruth_any (t : Bool) (w : World) : Calls Tryz.prog 150 #[.bool t] w (Made w.heap.size (truthB t) w) := by
  cases t
  · go_enter Tryz.func150, Tryz.ntmps150
    go_wp2
    go_ret
    exact made_of (one_own w 0) rfl ((Below.refl _ _).alloc (Nat.le_refl _) _)
  · go_enter Tryz.func150, Tryz.ntmps150
    go_wp2
    go_ret
    exact made_of (one_own w 1) rfl ((Below.refl _ _).alloc (Nat.le_refl _) _)
theorem same_true (B B' c c' n n' : Nat) (A A' : Option Addr) (xs ys : List UInt8) (hxy : xs = ys) (w : World) (h : Row w B A (xs.map byteV)) (h' : Row w B' A' (ys.map byteV)) (hn : n = xs.length) (hn' : n' = ys.length) :
    Calls Tryz.prog 29 #[.slice A n c, .slice A' n' c'] w fun e w' => e = .returned (.bool true) ∧ w = w' :=
  (same_any B B' c c' n n' A A' xs ys w h h' hn hn').mono fun _ _ ⟨h1, h2⟩ => ⟨by rw [h1, hxy]; simp, h2⟩
theorem row_new (w : World) (g : Nat) (hg : g = w.heap.size) (t : TypeId) (bs : List UInt8) (cs : Array Value) (h : cs.toList = bs.map byteV) : Row (w.alloc (.cells cs t)) (g + 1) (some ⟨g, 0, none⟩) (bs.map byteV) := by
  subst hg
  refine Or.inr ⟨w.heap.size, 0, rfl, by omega, fun j hj => ?_⟩
  have := cell_of_row (w.alloc (.cells cs t)) w.heap.size j cs t (0, 0) (heap_alloc_new w _)
  rw [Nat.zero_add, this, ← Array.getElem?_toList, h, List.getElem?_eq_getElem hj]
theorem end_nil (w : World) : Calls Tryz.prog 203 #[.pointer none] w fun e w' => e = .returned (.int .i64 1) ∧ w = w' := by
  go_enter Tryz.func203, Tryz.ntmps203
  go_wp2
  go_ret
  exact ⟨rfl, rfl⟩
end Go.Proofs.YtkdpfjenjcpcfaaGreatDoor
namespace Go.Proofs.YtkdpfjenjcpcfaaGreatDoor
open Go.RowKit Mem Be
set_option maxRecDepth 10000
set_option maxHeartbeats 1000000
/-- Bytes that lie below block g, in a block of bytes. -/
structure RowB (w : World) (g : Nat) (A : Option Addr) (bs : List UInt8) : Prop where
  row : Row w g A (bs.map byteV)
  typ : ∀ ad, A = some ad → ad.block < g ∧ ∃ cur fr, w.heap[ad.block]? = some (.cells cur 5 fr)
section
variable {w w' : World} {g : Nat} {A : Option Addr} {bs : List UInt8}
theorem RowB.keep_ (h : RowB w g A bs) (hk : ∀ k, k < g → w'.heap[k]? = w.heap[k]?) : RowB w' g A bs :=
  ⟨h.row.keep fun p hp => World.cell?_of_block (hk p.block hp), fun ad e => by
    obtain ⟨h1, cur, fr, h2⟩ := h.typ ad e
    exact ⟨h1, cur, fr, (hk _ h1).trans h2⟩⟩
theorem RowB.drewN (h : RowB w g A bs) (n : Nat) : RowB (w.drewN n) g A bs := ⟨h.row.drewN n, h.typ⟩
theorem RowB.alloc (h : RowB w g A bs) (hB : g ≤ w.heap.size) (o : Obj) : RowB (w.alloc o) g A bs := h.keep_ fun k hk => Below.heap_alloc w o k (by omega)
theorem RowB.below (h : RowB w g A bs) (hb : Below g w w') : RowB w' g A bs := h.keep_ fun k hk => hb.block k hk
theorem RowB.grownBy {row : Option Nat} (h : RowB w g A bs) (hg : w.grownBy w' row) (hs : g ≤ w.heap.size) (hr : ∀ k, row = some k → g ≤ k) : RowB w' g A bs :=
  h.keep_ fun k hk => hg.block k (by omega) (fun e => by have := hr k e.symm; omega)
theorem RowB.set_ (h : RowB w g A bs) (i : Nat) (u : Value) : RowB (w.setCell ⟨g, i, none⟩ u) g A bs := h.keep_ fun k hk => Below.heap_setCell w _ u k (by show k ≠ g; omega)
/-- A block of another type is written. -/
theorem RowB.low {L : Nat} {t : TypeId} {cs : Array Value} (h : RowB w g A bs) (hL : Blk w L t cs) (ht : 5 ≠ t) (i : Nat) (u : Value) : RowB (w.setCell ⟨L, i, none⟩ u) g A bs := by
  have hne : ∀ ad, A = some ad → ad.block ≠ L := by
    intro ad e heq
    obtain ⟨_, cur, fr, h2⟩ := h.typ ad e
    unfold Blk at hL
    rw [heq, hL] at h2
    injection h2 with h2
    injection h2 with _ h3
    exact ht h3.symm
  refine ⟨?_, fun ad e => ?_⟩
  · rcases h.row with hn | ⟨b, o, e, hb, hc⟩
    · exact Or.inl hn
    · refine Or.inr ⟨b, o, e, hb, fun j hj => ?_⟩
      rw [World.cell?_setCell_other _ _ _ _ (fun e2 => hne _ e (by injection e2 with e2; exact e2.symm))]
      exact hc j hj
  · obtain ⟨h1, cur, fr, h2⟩ := h.typ ad e
    exact ⟨h1, cur, fr, (Below.heap_setCell w _ u _ (hne ad e)).trans h2⟩
theorem RowB.cut (h : RowB w g A bs) (k c : Nat) (hc : bs.length ≤ c) : RowB w g (cutA A k c) (bs.drop k) := by
  refine ⟨by rw [List.map_drop]; exact cut_row h.row k c (by simpa using hc), fun ad e => ?_⟩
  unfold cutA at e
  by_cases hk : c = k
  · rw [if_pos hk] at e; exact h.typ ad e
  · rw [if_neg hk] at e
    cases A with
    | none => cases e
    | some a =>
      injection e with e
      have hb : (a.add k).block = a.block := by unfold Addr.add; split <;> rfl
      rw [← e, hb]
      exact h.typ a rfl
theorem RowB.new {B n c : Nat} (ho : w.ownsRow B 5 1 (.slice A n c) n (bs.map byteV)) : RowB w w.heap.size A bs := by
  refine ⟨Row.of_own ho, fun ad e => ?_⟩
  subst e
  rcases ho.2 with ⟨hv, _⟩ | ⟨g, cap, cur, hv, _, hh, _⟩
  · cases hv
  · injection hv with hv
    injection hv with hv
    subst hv
    exact ⟨(Array.getElem?_eq_some_iff.1 hh).1, cur, (0, 0), hh⟩
end
/-- Block g is a reader that has bs left, and whose first error is e. -/
def Rd (w : World) (g : Nat) (bs : List UInt8) (e : Int) : Prop := ∃ A c, Blk w g 280 #[.slice A bs.length c, .int .i64 e] ∧ bs.length ≤ c ∧ c ≤ maxLen ∧ RowB w g A bs ∧ bs.length ≤ 1073741824
def Newed (w : World) (bs : List UInt8) (e : Ending) (w' : World) : Prop := ∃ g, e = .returned (.pointer (some ⟨g, 0, none⟩)) ∧ w.heap.size ≤ g ∧ Rd w' g bs 0 ∧ Below w.heap.size w w'
theorem new_any (B c n : Nat) (A : Option Addr) (bs : List UInt8) (hn : n = bs.length) (w : World) (h : Row w B A (bs.map byteV)) (hB : B ≤ w.heap.size) (hl : bs.length ≤ 1073741824) :
    Calls Tryz.prog 199 #[.slice A n c] w (Newed w bs) := by
  subst hn
  have HR := Lib.hid h
  clear h
  go_enter Tryz.func199, Tryz.ntmps199
  go_wp2_with fail
  refine (clone_any B c A bs bs.length rfl _ HR.out hB (by omega)).mono ?_
  rintro e w1 ⟨A1, c1, rfl, ho, hb⟩
  have HO := Lib.hid ho
  have HB := Lib.hid hb
  clear ho hb
  go_wp2
  go_ret
  refine ⟨w1.heap.size, rfl, HB.out.size, ⟨A1, c1, Blk.new w1 _ _, (own_cap HO.out).1, (own_cap HO.out).2, (RowB.new HO.out).alloc (Nat.le_refl _) _, hl⟩, HB.out.alloc HB.out.size _⟩
theorem failed_any (g : Nat) (bs : List UInt8) (e : Int) (w : World) (h : Rd w g bs e) : Calls Tryz.prog 202 #[.pointer (some ⟨g, 0, none⟩)] w fun E w' => E = .returned (.bool (e != 0)) ∧ w = w' := by
  obtain ⟨A, c, hb, _⟩ := h
  have h1 : w.cell? ⟨g, 1, none⟩ = some (.int .i64 e) := hb.cell 1
  clear hb
  go_enter Tryz.func202, Tryz.ntmps202
  go_wp2
  go_ret
  exact ⟨rfl, rfl⟩
theorem left_any (g : Nat) (bs : List UInt8) (e : Int) (w : World) (h : Rd w g bs e) : Calls Tryz.prog 200 #[.pointer (some ⟨g, 0, none⟩)] w fun E w' => E = .returned (.int .i64 bs.length) ∧ w = w' := by
  obtain ⟨A, c, hb, _⟩ := h
  have h1 : w.cell? ⟨g, 0, none⟩ = some (.slice A bs.length c) := hb.cell 0
  clear hb
  go_enter Tryz.func200, Tryz.ntmps200
  go_wp2
  go_ret
  exact ⟨rfl, rfl⟩
def endZ (bs : List UInt8) (e : Int) : Int := if e = 0 then (if bs.length = 0 then 0 else 11) else e
theorem end_any (g : Nat) (bs : List UInt8) (e : Int) (w : World) (h : Rd w g bs e) : Calls Tryz.prog 203 #[.pointer (some ⟨g, 0, none⟩)] w fun E w' => E = .returned (.int .i64 (endZ bs e)) ∧ w = w' := by
  obtain ⟨A, c, hb, _⟩ := h
  have h0 : w.cell? ⟨g, 0, none⟩ = some (.slice A bs.length c) := hb.cell 0
  have h1 : w.cell? ⟨g, 1, none⟩ = some (.int .i64 e) := hb.cell 1
  have HE : Hid (endZ bs e = if e = 0 then (if bs.length = 0 then 0 else 11) else e) := Lib.hid rfl
  clear hb
  by_cases he : e = 0
  · subst he
    by_cases hl : bs.length = 0
    · have HV : Hid (endZ bs 0 = 0) := Lib.hid (by rw [HE.out, if_pos rfl, if_pos hl])
      rw [hl] at h0
      go_enter Tryz.func203, Tryz.ntmps203
      go_wp2
      go_ret
      exact ⟨ret_intN HV.out.symm, rfl⟩
    · have HV : Hid (endZ bs 0 = 11) := Lib.hid (by rw [HE.out, if_pos rfl, if_neg hl])
      have hp : (0 : Int) < (bs.length : Int) := by omega
      go_enter Tryz.func203, Tryz.ntmps203
      go_wp2
      go_ret
      exact ⟨ret_intN HV.out.symm, rfl⟩
  · have HV : Hid (endZ bs e = e) := Lib.hid (by rw [HE.out, if_neg he])
    have hn : (e != 0) = true := by simpa using he
    clear he
    go_enter Tryz.func203, Tryz.ntmps203
    go_wp2
    go_ret
    exact ⟨ret_intN HV.out.symm, rfl⟩
theorem failed_no (g : Nat) (bs : List UInt8) (w : World) (h : Rd w g bs 0) : Calls Tryz.prog 202 #[.pointer (some ⟨g, 0, none⟩)] w fun E w' => E = .returned (.bool false) ∧ w = w' := failed_any g bs 0 w h
theorem failed_yes (g : Nat) (bs : List UInt8) (e : Int) (he : e ≠ 0) (w : World) (h : Rd w g bs e) : Calls Tryz.prog 202 #[.pointer (some ⟨g, 0, none⟩)] w fun E w' => E = .returned (.bool true) ∧ w = w' :=
  (failed_any g bs e w h).mono fun _ _ ⟨h1, h2⟩ => ⟨by rw [h1]; simp [he], h2⟩
theorem rd_set {w : World} {g : Nat} {bs : List UInt8} {A : Option Addr} {c : Nat} {e0 : Int} (hb : Blk w g 280 #[.slice A bs.length c, .int .i64 e0]) (hc : bs.length ≤ c) (hm : c ≤ maxLen) (hr : RowB w g A bs) (hl : bs.length ≤ 1073741824) (k : Nat) (er : Int) :
    Rd ((w.setCell ⟨g, 0, none⟩ (.slice (cutA A k c) (bs.length - k) (c - k))).setCell ⟨g, 1, none⟩ (.int .i64 er)) g (bs.drop k) er := by
  refine ⟨cutA A k c, c - k, ?_, by rw [List.length_drop]; omega, by omega, ?_, by rw [List.length_drop]; omega⟩
  · have := (hb.set_ 0 (.slice (cutA A k c) (bs.length - k) (c - k))).set_ 1 (.int .i64 er)
    rw [List.length_drop]
    exact this
  · exact ((hr.cut k c hc).set_ 0 _).set_ 1 _
theorem rd_grown (w : World) (g : Nat) (u v : Value) : w.grownBy ((w.setCell ⟨g, 0, none⟩ u).setCell ⟨g, 1, none⟩ v) (some g) := grown_trans (grown_set w g 0 u) (grown_set _ g 1 v)
theorem drew_grown (w : World) (n : Nat) (g : Option Nat) : w.grownBy (w.drewN n) g := ⟨rfl, rfl, rfl, Nat.le_refl _, fun _ _ _ => rfl⟩
/-- A call that reads: its answer, and the reader behind it; nothing else that was there is changed. -/
def Reads (g : Nat) (v : Value) (bs : List UInt8) (e : Int) (w : World) (E : Ending) (w' : World) : Prop := E = .returned v ∧ Rd w' g bs e ∧ w.grownBy w' (some g)
theorem reads_set {w w1 : World} {g : Nat} {bs : List UInt8} {A : Option Addr} {c : Nat} {e0 : Int} {v v' : Value} (hv : v = v') (hb : Blk w1 g 280 #[.slice A bs.length c, .int .i64 e0]) (hc : bs.length ≤ c) (hm : c ≤ maxLen) (hr : RowB w1 g A bs) (hl : bs.length ≤ 1073741824) (k : Nat) (er : Int) (hg : w.grownBy w1 (some g)) :
    Reads g v' (bs.drop k) er w (.returned v) ((w1.setCell ⟨g, 0, none⟩ (.slice (cutA A k c) (bs.length - k) (c - k))).setCell ⟨g, 1, none⟩ (.int .i64 er)) := by
  subst hv
  exact ⟨rfl, rd_set hb hc hm hr hl k er, grown_trans hg (rd_grown _ _ _ _)⟩
theorem readint_yes (g : Nat) (bs : List UInt8) (w : World) (h : Rd w g bs 0) : Calls Tryz.prog 223 #[.pointer (some ⟨g, 0, none⟩), .func (.func 222) #[] #[]] w
    (Reads g (.int .i64 (getN bs).1) (bs.drop (getN bs).2.1) (getN bs).2.2 w) := by
  have HF := Lib.hid h
  obtain ⟨A, c, hb, hc, hm, hr, hl⟩ := h
  have h0 : w.cell? ⟨g, 0, none⟩ = some (.slice A bs.length c) := hb.cell 0
  have h1 : w.cell? ⟨g, 1, none⟩ = some (.int .i64 0) := hb.cell 1
  have hz0 := hb.frozen 0
  have hz1 := hb.frozen 1
  have hle : (getN bs).2.1 ≤ bs.length := by rcases getN_err bs with h | h <;> omega
  obtain ⟨x, k, er, hg⟩ : ∃ x k er, getN bs = (x, k, er) := ⟨_, _, _, rfl⟩
  rw [hg] at hle
  have hcut := fun W => run_cut_l (P := Tryz.prog) (w := W) 27 5 _ _ Tryz.underlying27 info_b A bs.length c k hle
  have HG := Lib.hid hg
  have HB := Lib.hid hb
  have HR := Lib.hid hr
  have HC := Lib.hid hc
  have HM := Lib.hid hm
  clear hb hr hg hc hm
  go_enter Tryz.func223, Tryz.ntmps223
  go_wp2_with (first
    | (go_at_call 202; refine (failed_no g bs _ HF.out).mono ?_; rintro e w' ⟨rfl, rfl⟩)
    | (go_at_call 222; refine (number_any g c A bs _ HR.out.row HC.out HM.out).mono ?_; rw [HG.out]; rintro e w' ⟨rfl, nq, rfl⟩; unfold three))
  go_ret
  rw [HG.out]
  exact reads_set rfl (HB.out.drewN nq) HC.out HM.out (HR.out.drewN nq) hl k er (drew_grown w nq _)
theorem readint_no (g : Nat) (bs : List UInt8) (e0 : Int) (he : e0 ≠ 0) (F : Value) (w : World) (h : Rd w g bs e0) : Calls Tryz.prog 223 #[.pointer (some ⟨g, 0, none⟩), F] w (fun E w' => E = .returned (.int .i64 0) ∧ w = w') := by
  have HF := Lib.hid h
  have HE := Lib.hid he
  clear h he
  go_enter Tryz.func223, Tryz.ntmps223
  go_wp2_with (go_at_call 202; refine (failed_yes g bs e0 HE.out _ HF.out).mono ?_; rintro e w' ⟨rfl, rfl⟩)
  go_ret
  exact ⟨rfl, rfl⟩
/-- What a reader's number call answers: the number, what is left, what is wrong first. -/
def stepN (bs : List UInt8) (e : Int) : Int × List UInt8 × Int := if e = 0 then ((getN bs).1, bs.drop (getN bs).2.1, (getN bs).2.2) else (0, bs, e)
theorem below_fn (B c p : Nat) (A : Option Addr) (bs : List UInt8) (m : Int) (w : World) (hp : w.cell? ⟨p, 0, none⟩ = some (.int .i64 m)) (h : Row w B A (bs.map byteV)) (hc : bs.length ≤ c) (hm : c ≤ maxLen) :
    Calls Tryz.prog 224 #[.slice A bs.length c, .pointer (some ⟨p, 0, none⟩)] w (Num3 (getB m bs) w) := by
  obtain ⟨x, k, er, hg⟩ : ∃ x k er, getB m bs = (x, k, er) := ⟨_, _, _, rfl⟩
  have HR := Lib.hid h
  have HG := Lib.hid hg
  clear hg h
  go_enter Tryz.func224, Tryz.ntmps224
  go_wp2_with (go_at_call 219; refine (below_any B c A bs m _ HR.out hc hm).mono ?_; rw [HG.out]; rintro e w' ⟨rfl, nq, rfl⟩; unfold three)
  go_ret3
  rw [HG.out]
  exact num3_end rfl rfl rfl w _
theorem readbelow_yes (g p : Nat) (bs : List UInt8) (m : Int) (w : World) (h : Rd w g bs 0) (hp : w.cell? ⟨p, 0, none⟩ = some (.int .i64 m)) : Calls Tryz.prog 223 #[.pointer (some ⟨g, 0, none⟩), .func (.func 224) #[] #[.pointer (some ⟨p, 0, none⟩)]] w
    (Reads g (.int .i64 (getB m bs).1) (bs.drop (getB m bs).2.1) (getB m bs).2.2 w) := by
  have HF := Lib.hid h
  obtain ⟨A, c, hb, hc, hm, hr, hl⟩ := h
  have h0 : w.cell? ⟨g, 0, none⟩ = some (.slice A bs.length c) := hb.cell 0
  have h1 : w.cell? ⟨g, 1, none⟩ = some (.int .i64 0) := hb.cell 1
  have hz0 := hb.frozen 0
  have hz1 := hb.frozen 1
  have hle : (getB m bs).2.1 ≤ bs.length := by rcases getB_err m bs with h | h <;> omega
  obtain ⟨x, k, er, hg⟩ : ∃ x k er, getB m bs = (x, k, er) := ⟨_, _, _, rfl⟩
  rw [hg] at hle
  have hcut := fun W => run_cut_l (P := Tryz.prog) (w := W) 27 5 _ _ Tryz.underlying27 info_b A bs.length c k hle
  have HG := Lib.hid hg
  have HB := Lib.hid hb
  have HR := Lib.hid hr
  have HC := Lib.hid hc
  have HM := Lib.hid hm
  have HP := Lib.hid hp
  clear hb hr hg hc hm hp
  go_enter Tryz.func223, Tryz.ntmps223
  go_wp2_with (first
    | (go_at_call 202; refine (failed_no g bs _ HF.out).mono ?_; rintro e w' ⟨rfl, rfl⟩)
    | (go_at_call 224; refine (below_fn g c p A bs m _ HP.out HR.out.row HC.out HM.out).mono ?_; rw [HG.out]; rintro e w' ⟨rfl, nq, rfl⟩; unfold three))
  go_ret
  rw [HG.out]
  exact reads_set rfl (HB.out.drewN nq) HC.out HM.out (HR.out.drewN nq) hl k er (drew_grown w nq _)
def stepB (m : Int) (bs : List UInt8) (e : Int) : Int × List UInt8 × Int := if e = 0 then ((getB m bs).1, bs.drop (getB m bs).2.1, (getB m bs).2.2) else (0, bs, e)
theorem rd_alloc {w : World} {g : Nat} {bs : List UInt8} {e : Int} (h : Rd w g bs e) (o : Obj) : Rd (w.alloc o) g bs e := by
  obtain ⟨A, c, hb, hc, hm, hr, hl⟩ := h
  exact ⟨A, c, hb.alloc o, hc, hm, hr.alloc (Nat.le_of_lt hb.lt) o, hl⟩
theorem rd_lt {w : World} {g : Nat} {bs : List UInt8} {e : Int} (h : Rd w g bs e) : g < w.heap.size := by
  obtain ⟨A, c, hb, _⟩ := h
  exact hb.lt
theorem below_call (g : Nat) (bs : List UInt8) (m e0 : Int) (w : World) (h : Rd w g bs e0) : Calls Tryz.prog 220 #[.pointer (some ⟨g, 0, none⟩), .int .i64 m] w (Reads g (.int .i64 (stepB m bs e0).1) (stepB m bs e0).2.1 (stepB m bs e0).2.2 w) := by
  have HF := Lib.hid (rd_alloc h (.cells #[.int .i64 m] 3))
  clear h
  have HP : Hid ((w.alloc (.cells #[.int .i64 m] 3)).cell? ⟨w.heap.size, 0, none⟩ = some (.int .i64 m)) := Lib.hid ((Blk.new w 3 #[.int .i64 m]).cell 0)
  have HA := Lib.hid (World.grownBy_alloc w (.cells #[.int .i64 m] 3) (some g))
  have hmf : ∀ (fn : Fn) (first cap : Array Value) (w : World), (Instr.makeFunc fn first cap).run Tryz.prog w = .ok (.func fn first cap) w := fun _ _ _ _ => rfl
  by_cases he : e0 = 0
  · subst he
    have HS : Hid (stepB m bs 0 = ((getB m bs).1, bs.drop (getB m bs).2.1, (getB m bs).2.2)) := Lib.hid (if_pos rfl)
    rw [HS.out]
    go_enter Tryz.func220, Tryz.ntmps220
    go_wp2_with (go_at_call 223; refine (readbelow_yes g w.heap.size bs m _ HF.out HP.out).mono ?_; rintro e w1 ⟨rfl, hr, hg⟩; have HR := Lib.hid hr; have HG := Lib.hid hg; clear hr hg)
    go_ret
    exact ⟨rfl, HR.out, grown_trans HA.out HG.out⟩
  · have HS : Hid (stepB m bs e0 = (0, bs, e0)) := Lib.hid (if_neg he)
    rw [HS.out]
    have HE := Lib.hid he
    clear he
    go_enter Tryz.func220, Tryz.ntmps220
    go_wp2_with (go_at_call 223; refine (readint_no g bs e0 HE.out _ _ HF.out).mono ?_; rintro e w1 ⟨rfl, rfl⟩)
    go_ret
    exact ⟨rfl, HF.out, HA.out⟩
/-- What a row's read answers, in new memory. -/
def Row3 (r : List UInt8 × Nat × Int) (w : World) (e : Ending) (w' : World) : Prop := ∃ A c, e = .returned (.tuple #[.slice A r.1.length c, .int .i64 r.2.1, .int .i64 r.2.2]) ∧ w'.ownsRow w.heap.size 5 1 (.slice A r.1.length c) r.1.length (r.1.map byteV) ∧ Below w.heap.size w w'
theorem row3_nil (k : Nat) (er : Int) (w : World) (n : Nat) (r : List UInt8 × Nat × Int) (hr : r = ([], k, er)) : Row3 r w (.returned (.tuple #[.slice none 0 0, .int .i64 (k : Int), .int .i64 er])) (w.drewN n) := by
  subst hr
  exact ⟨none, 0, rfl, World.ownsRow_nil _ _ _ _, ⟨rfl, rfl, rfl, Nat.le_refl _, fun _ _ => rfl⟩⟩
theorem below_drew (w : World) (n B : Nat) : Below B w (w.drewN n) := ⟨rfl, rfl, rfl, Nat.le_refl _, fun _ _ => rfl⟩
theorem getR_of (bs : List UInt8) (x : Int) (k : Nat) (e : Int) (hg : getB 65537 bs = (x, k, e)) :
    getR bs = if ¬ e = 0 then ([], 0, e) else if (bs.length : Int) - k < x then ([], 0, 12) else ((bs.drop k).take x.toNat, k + x.toNat, 0) := by
  unfold getB at hg
  by_cases h : (getN bs).2.2 = 0 ∧ ((getN bs).1 < 0 ∨ 65537 ≤ (getN bs).1)
  · rw [if_pos h] at hg
    simp only [Prod.mk.injEq] at hg
    obtain ⟨rfl, rfl, rfl⟩ := hg
    unfold getR
    rw [if_neg (by simpa using h.1), if_pos h.2, if_pos (by decide)]
  · rw [if_neg h] at hg
    unfold getR
    rw [hg] at h ⊢
    simp only at h ⊢
    by_cases h1 : e = 0
    · rw [if_neg (fun h3 => h3 h1), if_neg (fun h2 => h ⟨h1, h2⟩)]
      exact (if_neg (fun h3 => h3 h1)).symm
    · rw [if_pos h1, if_pos h1]
set_option maxRecDepth 100000 in
theorem rowread_any (B c : Nat) (A : Option Addr) (bs : List UInt8) (w : World) (h : Row w B A (bs.map byteV)) (hB : B ≤ w.heap.size) (hc : bs.length ≤ c) (hm : c ≤ maxLen) (hln : bs.length ≤ 1073741824) :
    Calls Tryz.prog 214 #[.slice A bs.length c] w (Row3 (getR bs) w) := by
  have HR := Lib.hid h
  have he := getB_err 65537 bs
  obtain ⟨x, k, e, hg⟩ : ∃ x k e, getB 65537 bs = (x, k, e) := ⟨_, _, _, rfl⟩
  have hRB := getR_of bs x k e hg
  rw [hg] at he
  have HG := Lib.hid hg
  have HC : Hid (Calls Tryz.prog 219 #[.slice A bs.length c, .int .i64 65537] w (Num3 (x, k, e) w)) := Lib.hid (by rw [← HG.out]; exact below_any B c A bs 65537 w HR.out hc hm)
  clear h hg hm
  simp only at he
  by_cases h0 : e = 0
  · subst h0
    rw [if_neg (by simp)] at hRB
    have hb : 1 ≤ k ∧ k ≤ bs.length ∧ 0 ≤ x ∧ x < 65537 := by rcases he with ⟨_, h1, h2, h3, h4, _⟩ | ⟨_, _, h⟩ <;> omega
    obtain ⟨b1, b2, b3, b4⟩ := hb
    clear he
    by_cases h2 : (bs.length : Int) - k < x
    · rw [if_pos h2] at hRB
      have HX := Lib.hid hRB
      clear hRB
      go_enter Tryz.func214, Tryz.ntmps214
      go_wp2_with (go_at_call 219; refine HC.out.mono ?_; rintro e w' ⟨rfl, nq, rfl⟩; unfold three)
      go_ret3
      exact row3_nil 0 12 w _ _ HX.out
    · rw [if_neg h2] at hRB
      have hx := Int.toNat_of_nonneg b3
      obtain ⟨m, hm'⟩ : ∃ m, x.toNat = m := ⟨_, rfl⟩
      rw [hm'] at hx hRB
      subst hx
      obtain ⟨ys, hys⟩ : ∃ ys, (bs.drop k).take m = ys := ⟨_, rfl⟩
      rw [hys] at hRB
      have HX := Lib.hid hRB
      have hcut := fun W => run_cut_lh (P := Tryz.prog) (w := W) 27 5 _ _ Tryz.underlying27 info_b A bs.length c k (k + m) (by omega) (by omega)
      rw [Nat.add_sub_cancel_left, Int.natCast_add] at hcut
      have hle : (m : Int) ≤ (bs.length : Int) - k := by omega
      have hl : (bs.length : Int) ≤ 1073741824 := by omega
      have HY : Hid (Row w B (cutA A k c) (ys.map byteV)) := Lib.hid (by
        rw [← hys]
        have := take_row (cut_row HR.out k c (by simpa using hc)) m
        rw [List.map_take, List.map_drop]; exact this)
      have hlm : ys.length = m := by rw [← hys, List.length_take, List.length_drop]; omega
      have HL := Lib.hid hlm
      clear hRB hm' h2 hlm b4 hys
      go_enter Tryz.func214, Tryz.ntmps214
      go_wp2_with (first
        | (go_at_call 219; refine HC.out.mono ?_; rintro e w' ⟨rfl, nq, rfl⟩; unfold three)
        | (go_at_call 71; refine (clone_any B (c - k) (cutA A k c) ys m HL.out.symm _ (HY.out.drewN _) (by exact hB) (by rw [HL.out]; omega)).mono ?_; rintro e w1 ⟨A1, c1, rfl, ho, hb⟩; have HO := Lib.hid ho; have HB := Lib.hid hb; clear ho hb))
      go_ret3
      rw [HX.out]
      exact ⟨A1, c1, rfl, HO.out, (below_drew w nq _).trans HB.out⟩
  · rw [if_pos h0] at hRB
    have HX := Lib.hid hRB
    have hne : (e != 0) = true := by simpa using h0
    clear hRB he h0
    go_enter Tryz.func214, Tryz.ntmps214
    go_wp2_with (go_at_call 219; refine HC.out.mono ?_; rintro e w' ⟨rfl, nq, rfl⟩; unfold three)
    go_ret3
    exact row3_nil 0 e w _ _ HX.out
end Go.Proofs.YtkdpfjenjcpcfaaGreatDoor
namespace Go.Proofs.YtkdpfjenjcpcfaaGreatDoor
open Go.RowKit Mem Be
set_option maxRecDepth 10000
set_option maxHeartbeats 1000000
/-- A row that a reader hands out: new memory; the reader behind it. -/
def ReadsRow (g : Nat) (ys bs : List UInt8) (e : Int) (w : World) (E : Ending) (w' : World) : Prop :=
  ∃ A c, E = .returned (.slice A ys.length c) ∧ w'.ownsRow w.heap.size 5 1 (.slice A ys.length c) ys.length (ys.map byteV) ∧ Rd w' g bs e ∧ w.grownBy w' (some g)
theorem own_set {w : World} {B g i : Nat} {e : TypeId} {v : Value} {n : Nat} {xs : List Value} (h : w.ownsRow B e 1 v n xs) (hg : g < B) (u : Value) : (w.setCell ⟨g, i, none⟩ u).ownsRow B e 1 v n xs := by
  refine h.kept (grown_set w g i u) ?_
  cases hv : v.ownBlock with
  | none => exact Or.inl rfl
  | some k => exact Or.inr (fun e => by injection e with e; have := (h.lt k hv).1; omega)
theorem readsrow_set {w w1 : World} {g : Nat} {ys bs : List UInt8} {A A1 : Option Addr} {c c1 : Nat} {e0 : Int} (hgw : g < w.heap.size) (ho : w1.ownsRow w.heap.size 5 1 (.slice A1 ys.length c1) ys.length (ys.map byteV)) (hb : Blk w1 g 280 #[.slice A bs.length c, .int .i64 e0]) (hc : bs.length ≤ c) (hm : c ≤ maxLen) (hr : RowB w1 g A bs) (hl : bs.length ≤ 1073741824) (k : Nat) (er : Int) (hg : w.grownBy w1 (some g)) :
    ReadsRow g ys (bs.drop k) er w (.returned (.slice A1 ys.length c1)) ((w1.setCell ⟨g, 0, none⟩ (.slice (cutA A k c) (bs.length - k) (c - k))).setCell ⟨g, 1, none⟩ (.int .i64 er)) :=
  ⟨A1, c1, rfl, own_set (own_set ho hgw _) hgw _, rd_set hb hc hm hr hl k er, grown_trans hg (rd_grown _ _ _ _)⟩
theorem readrow_yes (g : Nat) (bs : List UInt8) (w : World) (h : Rd w g bs 0) : Calls Tryz.prog 213 #[.pointer (some ⟨g, 0, none⟩), .func (.func 214) #[] #[]] w
    (ReadsRow g (getR bs).1 (bs.drop (getR bs).2.1) (getR bs).2.2 w) := by
  have HF := Lib.hid h
  have HG := Lib.hid (rd_lt h)
  obtain ⟨A, c, hb, hc, hm, hr, hl⟩ := h
  have h0 : w.cell? ⟨g, 0, none⟩ = some (.slice A bs.length c) := hb.cell 0
  have hle : (getR bs).2.1 ≤ bs.length := by rcases getR_err bs with h | h <;> omega
  obtain ⟨ys, k, er, hg⟩ : ∃ x k er, getR bs = (x, k, er) := ⟨_, _, _, rfl⟩
  rw [hg] at hle
  have hcut := fun W => run_cut_l (P := Tryz.prog) (w := W) 27 5 _ _ Tryz.underlying27 info_b A bs.length c k hle
  have HR3 : Hid (Calls Tryz.prog 214 #[.slice A bs.length c] w (Row3 (ys, k, er) w)) := Lib.hid (by rw [← hg]; exact rowread_any g c A bs w hr.row (Nat.le_of_lt hb.lt) hc hm hl)
  have HE := Lib.hid hg
  have HB := Lib.hid hb
  have HR := Lib.hid hr
  have HC := Lib.hid hc
  have HM := Lib.hid hm
  clear hb hr hg hc hm
  go_enter Tryz.func213, Tryz.ntmps213
  go_wp2_with (first
    | (go_at_call 202; refine (failed_no g bs _ HF.out).mono ?_; rintro e w' ⟨rfl, rfl⟩)
    | (go_at_call 214; refine HR3.out.mono ?_; rintro e w1 ⟨A1, c1, rfl, ho, hbl⟩; have HO := Lib.hid ho; have HBL := Lib.hid hbl; (have HB1 := Lib.hid (HB.out.below hbl HG.out)); (have h01 := HB1.out.cell 0); (have h11 := HB1.out.cell 1); (have hz01 := HB1.out.frozen 0); (have hz11 := HB1.out.frozen 1); simp only [List.getElem?_toArray, List.getElem?_cons_zero, List.getElem?_cons_succ] at h01 h11; clear ho hbl))
  go_ret
  rw [HE.out]
  exact readsrow_set HG.out HO.out HB1.out HC.out HM.out (HR.out.below (HBL.out.mono (Nat.le_of_lt HG.out))) hl k er (grown_below HBL.out (Nat.le_refl _) _)
theorem readrow_no (g : Nat) (bs : List UInt8) (e0 : Int) (he : e0 ≠ 0) (F : Value) (w : World) (h : Rd w g bs e0) : Calls Tryz.prog 213 #[.pointer (some ⟨g, 0, none⟩), F] w (fun E w' => E = .returned (.slice none 0 0) ∧ w = w') := by
  have HF := Lib.hid h
  have HE := Lib.hid he
  clear h he
  go_enter Tryz.func213, Tryz.ntmps213
  go_wp2_with (go_at_call 202; refine (failed_yes g bs e0 HE.out _ HF.out).mono ?_; rintro e w' ⟨rfl, rfl⟩)
  go_ret
  exact ⟨rfl, rfl⟩
def stepR (bs : List UInt8) (e : Int) : List UInt8 × List UInt8 × Int := if e = 0 then ((getR bs).1, bs.drop (getR bs).2.1, (getR bs).2.2) else ([], bs, e)
theorem row_call (g : Nat) (bs : List UInt8) (e0 : Int) (w : World) (h : Rd w g bs e0) : Calls Tryz.prog 201 #[.pointer (some ⟨g, 0, none⟩)] w (ReadsRow g (stepR bs e0).1 (stepR bs e0).2.1 (stepR bs e0).2.2 w) := by
  have HF := Lib.hid h
  clear h
  by_cases he : e0 = 0
  · subst he
    have HS : Hid (stepR bs 0 = ((getR bs).1, bs.drop (getR bs).2.1, (getR bs).2.2)) := Lib.hid (if_pos rfl)
    rw [HS.out]
    go_enter Tryz.func201, Tryz.ntmps201
    go_wp2_with (go_at_call 213; refine (readrow_yes g bs _ HF.out).mono ?_; rintro e w1 ⟨A1, c1, rfl, ho, hr, hg⟩; have HO := Lib.hid ho; have HR := Lib.hid hr; have HG := Lib.hid hg; clear hr hg ho)
    go_ret
    exact ⟨A1, c1, rfl, HO.out, HR.out, HG.out⟩
  · have HS : Hid (stepR bs e0 = ([], bs, e0)) := Lib.hid (if_neg he)
    rw [HS.out]
    have HE := Lib.hid he
    clear he
    go_enter Tryz.func201, Tryz.ntmps201
    go_wp2_with (go_at_call 213; refine (readrow_no g bs e0 HE.out _ _ HF.out).mono ?_; rintro e w1 ⟨rfl, rfl⟩)
    go_ret
    exact ⟨none, 0, rfl, World.ownsRow_nil _ _ _ _, HF.out, grown_refl _ _⟩
theorem readtruth_yes (g : Nat) (bs : List UInt8) (w : World) (h : Rd w g bs 0) : Calls Tryz.prog 225 #[.pointer (some ⟨g, 0, none⟩), .func (.func 226) #[] #[]] w
    (Reads g (.bool (getT bs).1) (bs.drop (getT bs).2.1) (getT bs).2.2 w) := by
  have HF := Lib.hid h
  obtain ⟨A, c, hb, hc, hm, hr, hl⟩ := h
  have h0 : w.cell? ⟨g, 0, none⟩ = some (.slice A bs.length c) := hb.cell 0
  have h1 : w.cell? ⟨g, 1, none⟩ = some (.int .i64 0) := hb.cell 1
  have hz0 := hb.frozen 0
  have hz1 := hb.frozen 1
  have hle : (getT bs).2.1 ≤ bs.length := by rcases getT_err bs with h | h <;> omega
  obtain ⟨x, k, er, hg⟩ : ∃ x k er, getT bs = (x, k, er) := ⟨_, _, _, rfl⟩
  rw [hg] at hle
  have hcut := fun W => run_cut_l (P := Tryz.prog) (w := W) 27 5 _ _ Tryz.underlying27 info_b A bs.length c k hle
  have HG := Lib.hid hg
  have HB := Lib.hid hb
  have HR := Lib.hid hr
  have HC := Lib.hid hc
  have HM := Lib.hid hm
  clear hb hr hg hc hm
  go_enter Tryz.func225, Tryz.ntmps225
  go_wp2_with (first
    | (go_at_call 202; refine (failed_no g bs _ HF.out).mono ?_; rintro e w' ⟨rfl, rfl⟩)
    | (go_at_call 226; refine (truth_any g c A bs _ HR.out.row).mono ?_; rw [HG.out]; rintro e w' ⟨rfl, rfl⟩; unfold Bool3))
  go_ret
  rw [HG.out]
  exact reads_set rfl HB.out HC.out HM.out HR.out hl k er (grown_refl w _)
theorem readtruth_no (g : Nat) (bs : List UInt8) (e0 : Int) (he : e0 ≠ 0) (F : Value) (w : World) (h : Rd w g bs e0) : Calls Tryz.prog 225 #[.pointer (some ⟨g, 0, none⟩), F] w (fun E w' => E = .returned (.bool false) ∧ w = w') := by
  have HF := Lib.hid h
  have HE := Lib.hid he
  clear h he
  go_enter Tryz.func225, Tryz.ntmps225
  go_wp2_with (go_at_call 202; refine (failed_yes g bs e0 HE.out _ HF.out).mono ?_; rintro e w' ⟨rfl, rfl⟩)
  go_ret
  exact ⟨rfl, rfl⟩
def stepT (bs : List UInt8) (e : Int) : Bool × List UInt8 × Int := if e = 0 then ((getT bs).1, bs.drop (getT bs).2.1, (getT bs).2.2) else (false, bs, e)
theorem truth_call (g : Nat) (bs : List UInt8) (e0 : Int) (w : World) (h : Rd w g bs e0) : Calls Tryz.prog 221 #[.pointer (some ⟨g, 0, none⟩)] w (Reads g (.bool (stepT bs e0).1) (stepT bs e0).2.1 (stepT bs e0).2.2 w) := by
  have HF := Lib.hid h
  clear h
  by_cases he : e0 = 0
  · subst he
    have HS : Hid (stepT bs 0 = ((getT bs).1, bs.drop (getT bs).2.1, (getT bs).2.2)) := Lib.hid (if_pos rfl)
    rw [HS.out]
    go_enter Tryz.func221, Tryz.ntmps221
    go_wp2_with (go_at_call 225; refine (readtruth_yes g bs _ HF.out).mono ?_; rintro e w1 ⟨rfl, hr, hg⟩; have HR := Lib.hid hr; have HG := Lib.hid hg; clear hr hg)
    go_ret
    exact ⟨rfl, HR.out, HG.out⟩
  · have HS : Hid (stepT bs e0 = (false, bs, e0)) := Lib.hid (if_neg he)
    rw [HS.out]
    have HE := Lib.hid he
    clear he
    go_enter Tryz.func221, Tryz.ntmps221
    go_wp2_with (go_at_call 225; refine (readtruth_no g bs e0 HE.out _ _ HF.out).mono ?_; rintro e w1 ⟨rfl, rfl⟩)
    go_ret
    exact ⟨rfl, HF.out, grown_refl _ _⟩
/-- Told that something is wrong, a reader has that as its first error, if it had none. -/
theorem fail_call (g : Nat) (bs : List UInt8) (e0 : Int) (w : World) (h : Rd w g bs e0) : Calls Tryz.prog 217 #[.pointer (some ⟨g, 0, none⟩)] w (fun E w' => E = .returned (.tuple #[]) ∧ Rd w' g bs (if e0 = 0 then 11 else e0) ∧ w.grownBy w' (some g)) := by
  have HF := Lib.hid h
  obtain ⟨A, c, hb, hc, hm, hr, hl⟩ := h
  by_cases he : e0 = 0
  · subst he
    have h1 : w.cell? ⟨g, 1, none⟩ = some (.int .i64 0) := hb.cell 1
    have hz1 := hb.frozen 1
    have HB := Lib.hid hb
    have HR : Hid (Rd (w.setCell ⟨g, 1, none⟩ (.int .i64 11)) g bs 11) := Lib.hid ⟨A, c, hb.set_ 1 _, hc, hm, hr.set_ 1 _, hl⟩
    rw [if_pos rfl]
    clear hb hr hc hm
    go_enter Tryz.func217, Tryz.ntmps217
    go_wp2_with (go_at_call 202; refine (failed_no g bs _ HF.out).mono ?_; rintro e w' ⟨rfl, rfl⟩)
    first | go_end0 | refine bodyPost_ret (results_none rfl _ _ _) rfl ?_
    exact ⟨rfl, HR.out, grown_set w g 1 _⟩
  · rw [if_neg he]
    have HE := Lib.hid he
    clear hb hr hc hm he
    go_enter Tryz.func217, Tryz.ntmps217
    go_wp2_with (go_at_call 202; refine (failed_yes g bs e0 HE.out _ HF.out).mono ?_; rintro e w' ⟨rfl, rfl⟩)
    first | go_end0 | refine bodyPost_ret (results_none rfl _ _ _) rfl ?_
    exact ⟨rfl, HF.out, grown_refl _ _⟩
theorem rd_below {w w' : World} {g : Nat} {bs : List UInt8} {e : Int} (h : Rd w g bs e) (hb : Below w.heap.size w w') : Rd w' g bs e := by
  obtain ⟨A, c, hk, hc, hm, hr, hl⟩ := h
  exact ⟨A, c, hk.below hb hk.lt, hc, hm, hr.below (hb.mono (Nat.le_of_lt hk.lt)), hl⟩
/-- A reader is as it was where another block alone is written. -/
theorem rd_other {w w' : World} {g g2 : Nat} {bs : List UInt8} {e : Int} (h : Rd w g bs e) (hg : w.grownBy w' (some g2)) (hgt : g < g2) : Rd w' g bs e := by
  obtain ⟨A, c, hk, hc, hm, hr, hl⟩ := h
  exact ⟨A, c, hk.grown hg (fun e => by injection e with e; omega), hc, hm, hr.grownBy hg (Nat.le_of_lt hk.lt) (fun k e => by injection e with e; omega), hl⟩
theorem rd_grownBy {w w' : World} {g : Nat} {bs : List UInt8} {e : Int} {row : Option Nat} (h : Rd w g bs e) (hg : w.grownBy w' row) (hr : ∀ k, row = some k → g < k) : Rd w' g bs e := by
  obtain ⟨A, c, hk, hc, hm, hrow, hl⟩ := h
  exact ⟨A, c, hk.grown hg (fun e => Nat.lt_irrefl _ (hr g e.symm)), hc, hm, hrow.grownBy hg (Nat.le_of_lt hk.lt) (fun k e => Nat.le_of_lt (hr k e)), hl⟩
/-- A block of another type is written. -/
theorem rd_low {w : World} {g L : Nat} {bs : List UInt8} {e : Int} {t : TypeId} {cs : Array Value} (h : Rd w g bs e) (hL : Blk w L t cs) (h1 : 5 ≠ t) (h2 : g ≠ L) (i : Nat) (u : Value) : Rd (w.setCell ⟨L, i, none⟩ u) g bs e := by
  obtain ⟨A, c, hk, hc, hm, hrow, hl⟩ := h
  exact ⟨A, c, hk.far (p := ⟨L, i, none⟩) h2 u, hc, hm, hrow.low hL h1 i u, hl⟩
theorem rd_drew {w : World} {g : Nat} {bs : List UInt8} {e : Int} (h : Rd w g bs e) : Rd w.drew g bs e := by
  obtain ⟨A, c, hk, hc, hm, hrow, hl⟩ := h
  exact ⟨A, c, hk.drew, hc, hm, hrow.drewN 1, hl⟩
end Go.Proofs.YtkdpfjenjcpcfaaGreatDoor
namespace Go.Proofs.YtkdpfjenjcpcfaaGreatDoor
open Go.RowKit Mem Be
set_option maxRecDepth 10000
set_option maxHeartbeats 1000000
def At3 (r : Int × Nat × Int) (at_ : Nat) (w : World) (e : Ending) (w' : World) : Prop := e = three r.1 ((at_ + r.2.1 : Nat) : Int) r.2.2 ∧ w = w'
theorem at3_end {r : Int × Nat × Int} {x : Int} {k : Nat} {e : Int} (hr : r = (x, k, e)) {at_ : Nat} {x' k' : Int} (h1 : x' = x) (h2 : k' = ((at_ + k : Nat) : Int)) (w : World) :
    At3 r at_ w (.returned (.tuple #[.int .i64 x', .int .i64 k', .int .i64 e])) w := by
  subst hr
  exact ⟨three_eq h1 h2 rfl, rfl⟩
theorem refget_none (c n at_ : Nat) (A : Option Addr) (hn : n ≤ at_) (w : World) : Calls Tryz.prog 161 #[.slice A n c, .int .i64 at_] w (At3 (getN []) at_ w) := by
  have h : (n : Int) ≤ (at_ : Int) := by omega
  go_enter Tryz.func161, Tryz.ntmps161
  go_wp2
  go_ret3
  exact at3_end (show getN [] = (0, 0, 12) from rfl) rfl (by omega) w
theorem refget_some (c n at_ : Nat) (b o : Nat) (b0 : UInt8) (rest : List UInt8) (hn : n = at_ + (rest.length + 1)) (hl : n ≤ 1073741824) (w : World) (h : ∀ j (h : j < (b0 :: rest).length), w.cell? ⟨b, o + (at_ + j), none⟩ = some (byteV (b0 :: rest)[j])) :
    Calls Tryz.prog 161 #[.slice (some ⟨b, o, none⟩) n c, .int .i64 at_] w (At3 (getN (b0 :: rest)) at_ w) := by
  have h0 : w.cell? ⟨b, o + at_, none⟩ = some (.int .u8 (b0.toNat : Int)) := h 0 (by simp)
  have hb := b0.toNat_lt
  have ha : (at_ : Int) < (n : Int) := by omega
  have ha2 : at_ < n := by omega
  have hnl : (n : Int) ≤ 1073741824 := by omega
  have HN := Lib.hid hn
  by_cases h8 : 8 < b0.toNat
  · have hl8 : (8 : Int) < (b0.toNat : Int) := by omega
    have HG := Lib.hid (getN_1 b0 rest h8)
    clear h hn
    go_enter Tryz.func161, Tryz.ntmps161
    go_wp2
    go_ret3
    exact at3_end HG.out rfl (by omega) w
  have hl8 : (b0.toNat : Int) ≤ 8 := by omega
  by_cases h2 : rest.length < b0.toNat
  · have hl2 : (n : Int) < (at_ : Int) + 1 + (b0.toNat : Int) := by omega
    have HG := Lib.hid (getN_2 b0 rest h8 h2)
    clear h hn
    go_enter Tryz.func161, Tryz.ntmps161
    go_wp2
    go_ret3
    exact at3_end HG.out rfl (by omega) w
  have hl2 : (at_ : Int) + 1 + (b0.toNat : Int) ≤ (n : Int) := by omega
  have HC : Hid (∀ j (h : j < rest.length), w.cell? ⟨b, o + (at_ + 1 + j), none⟩ = some (.int .u8 (rest[j].toNat : Int))) := Lib.hid (fun j hj => by
    have := h (j + 1) (by simpa using hj)
    rw [show at_ + 1 + j = at_ + (j + 1) by omega, this, List.getElem_cons_succ]; rfl)
  have hlr : b0.toNat ≤ rest.length := by omega
  have HH : Hid (getN (b0 :: rest) = if 0 < b0.toNat ∧ (rest.headD 0).toNat = 0 then (0, 0, 11) else (iZ (rd (rest.take b0.toNat)), 1 + b0.toNat, 0)) := Lib.hid (by
    by_cases h3 : 0 < b0.toNat ∧ (rest.headD 0).toNat = 0
    · rw [if_pos h3]
      match rest, h2, h3 with
      | [], h2, h3 => exact absurd h3.1 (by simp at h2; omega)
      | r0 :: more, h2, h3 => exact getN_3 b0 r0 more h8 h2 h3.1 h3.2
    · rw [if_neg h3]; exact getN_4 b0 rest h8 h2 h3)
  have H1 : Hid (0 < rest.length → w.cell? ⟨b, o + (at_ + 1), none⟩ = some (.int .u8 ((rest.headD 0).toNat : Int))) := Lib.hid (fun hp => by
    have := HC.out 0 hp
    rw [Nat.add_zero] at this
    rw [this]
    match rest, hp with
    | r0 :: more, _ => rfl)
  clear h h8 h2 hn
  go_enter Tryz.func161, Tryz.ntmps161
  go_wp2
  go_loop [8, 9] (fun u i => ∃ k : Nat, k ≤ b0.toNat ∧ i = .int .i64 k ∧ u = .int .u64 (rd (rest.take k))) (fun _ i => b0.toNat - (intOf i).toNat)
  case atStart => exact ⟨0, by omega, rfl, rfl⟩
  case round =>
    obtain ⟨k, hk, rfl, rfl⟩ := hrel
    by_cases hlt : k < b0.toNat
    · have hcell := HC.out k (by omega)
      have r0 := rd_nonneg (rest.take k)
      have r1 := rd_small rest k (by omega)
      have r2 := (rest[k]'(by omega)).toNat_lt
      have hidx : at_ + 1 + k < n := by omega
      go_wp2
      go_round
      case rel => exact ⟨k + 1, by omega, by go_num, by rw [rd_snoc rest k (by omega)]⟩
      case measure => simp [intOf]; omega
    · have e8 : k = b0.toNat := by omega
      subst e8
      have HG := HH.out
      by_cases hz : b0.toNat = 0
      · rw [if_neg (by omega)] at HG
        have HG2 := Lib.hid HG
        have hz1 : (b0.toNat : Int) ≤ 0 := by omega
        clear HG hlt hz
        go_wp2
        go_ret3
        exact at3_end HG2.out (wrap_iZ _) (by omega) w
      · have hz1 : (0 : Int) < (b0.toNat : Int) := by omega
        have h1 := H1.out (by omega)
        have hidx : at_ + 1 < n := by omega
        by_cases hr : (rest.headD 0).toNat = 0
        · rw [if_pos ⟨by omega, hr⟩] at HG
          have HG2 := Lib.hid HG
          rw [hr] at h1
          have h1' : w.cell? ⟨b, o + (at_ + 1), none⟩ = some (.int .u8 0) := h1
          clear HG hlt h1 hr hz
          go_wp2
          go_ret3
          exact at3_end HG2.out rfl (by omega) w
        · rw [if_neg (fun h => hr h.2)] at HG
          have HG2 := Lib.hid HG
          obtain ⟨r, hrr⟩ : ∃ r, (rest.headD 0).toNat = r := ⟨_, rfl⟩
          rw [hrr] at h1 hr
          have hrn : ((r : Int) == 0) = false := by simpa using hr
          clear HG hlt hr hz hrr
          go_wp2
          go_ret3
          exact at3_end HG2.out (wrap_iZ _) (by omega) w
theorem refget_any (B c n at_ : Nat) (A : Option Addr) (bs : List UInt8) (w : World) (h : Row w B A (bs.map byteV)) (hn : n = bs.length) (hl : n ≤ 1073741824) :
    Calls Tryz.prog 161 #[.slice A n c, .int .i64 at_] w (At3 (getN (bs.drop at_)) at_ w) := by
  subst hn
  rcases Nat.lt_or_ge at_ bs.length with ha | ha
  · obtain ⟨b, o, rfl, _, hcell⟩ := h.open_ (by simp; omega)
    obtain ⟨b0, rest, hd⟩ : ∃ b0 rest, bs.drop at_ = b0 :: rest := ⟨_, _, List.drop_eq_getElem_cons ha⟩
    rw [hd]
    have hlen : (bs.drop at_).length = rest.length + 1 := by rw [hd]; rfl
    rw [List.length_drop] at hlen
    refine refget_some c _ at_ b o b0 rest (by omega) hl w fun j hj => ?_
    have hj' : j < (bs.drop at_).length := by rw [hd]; exact hj
    have hlt : at_ + j < bs.length := by rw [List.length_drop] at hj'; omega
    have := hcell (at_ + j) (by simpa using hlt)
    rw [this, List.getElem_map]
    congr 2
    have : (bs.drop at_)[j]'hj' = bs[at_ + j] := List.getElem_drop ..
    rw [← this]
    congr 1
  · rw [List.drop_of_length_le ha]
    exact refget_none c _ at_ A ha w
/-- A row at a place: where its bytes lie is not said but that they lie below B. -/
def AtRow (B : Nat) (r : List UInt8 × Nat × Int) (at_ : Nat) (w : World) (e : Ending) (w' : World) : Prop :=
  ∃ A c, e = .returned (.tuple #[.slice A r.1.length c, .int .i64 ((at_ + r.2.1 : Nat) : Int), .int .i64 r.2.2]) ∧ Row w B A (r.1.map byteV) ∧ w = w'
theorem atrow_nil {B : Nat} {r : List UInt8 × Nat × Int} {k : Nat} {e : Int} (hr : r = ([], k, e)) {at_ : Nat} {k' : Int} (h2 : k' = ((at_ + k : Nat) : Int)) (w : World) :
    AtRow B r at_ w (.returned (.tuple #[.slice none 0 0, .int .i64 k', .int .i64 e])) w := by
  subst hr
  exact ⟨none, 0, by rw [h2]; rfl, Row.nil _ _ _, rfl⟩
set_option maxRecDepth 100000 in
theorem refgetrow_any (B c n at_ : Nat) (A : Option Addr) (bs : List UInt8) (w : World) (h : Row w B A (bs.map byteV)) (hn : n = bs.length) (hl : n ≤ 1073741824) (hc : n ≤ c) (ha : at_ ≤ n) :
    Calls Tryz.prog 134 #[.slice A n c, .int .i64 at_] w (AtRow B (getR (bs.drop at_)) at_ w) := by
  have HR := Lib.hid h
  have HNN := Lib.hid hn
  have he := getB_err 65537 (bs.drop at_)
  have hen := getN_err (bs.drop at_)
  obtain ⟨x, k, e, hg⟩ : ∃ x k e, getN (bs.drop at_) = (x, k, e) := ⟨_, _, _, rfl⟩
  have hdef : getR (bs.drop at_) = if ¬ e = 0 then ([], 0, e) else if x < 0 ∨ 65537 ≤ x then ([], 0, 11) else if ((bs.drop at_).length : Int) - k < x then ([], 0, 12) else (((bs.drop at_).drop k).take x.toNat, k + x.toNat, 0) := by
    unfold getR; rw [hg]
  have hdl : (bs.drop at_).length = n - at_ := by rw [List.length_drop, hn]
  rw [hdl] at hdef
  rw [hg, hdl] at hen
  have HC : Hid (Calls Tryz.prog 161 #[.slice A n c, .int .i64 at_] w (At3 (x, k, e) at_ w)) := Lib.hid (by rw [← hg]; exact refget_any B c n at_ A bs w h hn hl)
  simp only at hen
  clear h hg hn hdl he
  by_cases h0 : e = 0
  · subst h0
    rw [if_neg (by simp)] at hdef
    obtain ⟨b1, b2⟩ : 1 ≤ k ∧ k ≤ n - at_ := by rcases hen with ⟨_, h1, h2⟩ | ⟨_, _, h⟩ <;> omega
    clear hen
    by_cases hx : x < 0
    · rw [if_pos (Or.inl hx)] at hdef
      have HX := Lib.hid hdef
      clear hdef
      go_enter Tryz.func134, Tryz.ntmps134
      go_wp2_with (go_at_call 161; refine HC.out.mono ?_; rintro e w' ⟨rfl, rfl⟩; unfold three)
      go_ret3
      exact atrow_nil HX.out (by omega) w
    by_cases hx2 : 65537 ≤ x
    · rw [if_pos (Or.inr hx2)] at hdef
      have HX := Lib.hid hdef
      have hx3 : 65536 < x := by omega
      clear hdef hx2
      go_enter Tryz.func134, Tryz.ntmps134
      go_wp2_with (go_at_call 161; refine HC.out.mono ?_; rintro e w' ⟨rfl, rfl⟩; unfold three)
      go_ret3
      exact atrow_nil HX.out (by omega) w
    have hx3 : ¬ 65536 < x := by omega
    have hx0 : 0 ≤ x := by omega
    rw [if_neg (by omega)] at hdef
    have hnl : (n : Int) ≤ 1073741824 := by omega
    have hs : ((n - at_ : Nat) : Int) - k = (n : Int) - (at_ + k : Nat) := by omega
    rw [hs] at hdef
    by_cases h2 : (n : Int) - (at_ + k : Nat) < x
    · rw [if_pos h2] at hdef
      have HX := Lib.hid hdef
      have h2' : (n : Int) - ((at_ : Int) + (k : Int)) < x := by omega
      clear hdef hx2 hs h2
      go_enter Tryz.func134, Tryz.ntmps134
      go_wp2_with (go_at_call 161; refine HC.out.mono ?_; rintro e w' ⟨rfl, rfl⟩; unfold three)
      go_ret3
      exact atrow_nil HX.out (by omega) w
    · rw [if_neg h2] at hdef
      have hxx := Int.toNat_of_nonneg hx0
      obtain ⟨m, hm'⟩ : ∃ m, x.toNat = m := ⟨_, rfl⟩
      rw [hm'] at hxx hdef
      subst hxx
      obtain ⟨to, hto⟩ : ∃ to, at_ + k = to := ⟨_, rfl⟩
      rw [hto] at h2
      obtain ⟨ys, hys⟩ : ∃ ys, ((bs.drop at_).drop k).take m = ys := ⟨_, rfl⟩
      rw [hys] at hdef
      have HX := Lib.hid hdef
      have hle : to + m ≤ n := by omega
      have hle2 : (m : Int) ≤ (n : Int) - (to : Int) := by omega
      have hcut := fun W => run_cut_lh (P := Tryz.prog) (w := W) 27 5 _ _ Tryz.underlying27 info_b A n c to (to + m) (by omega) (by omega)
      rw [Nat.add_sub_cancel_left, Int.natCast_add] at hcut
      have HY : Hid (Row w B (cutA A to c) (ys.map byteV)) := Lib.hid (by
        rw [← hys, List.drop_drop, hto]
        have := take_row (cut_row HR.out to c (by rw [List.length_map, ← HNN.out]; exact hc)) m
        rw [List.map_take, List.map_drop]; exact this)
      have HL : Hid (ys.length = m) := Lib.hid (by rw [← hys, List.length_take, List.length_drop, List.length_drop, ← HNN.out]; omega)
      have HTO := Lib.hid hto
      have HC2 : Hid (Calls Tryz.prog 161 #[.slice A n c, .int .i64 at_] w (fun e w' => e = three (m : Int) (to : Int) 0 ∧ w = w')) := Lib.hid (HC.out.mono fun _ _ ⟨h1, h2⟩ => ⟨by rw [h1, ← hto], h2⟩)
      have hmx : (m : Int) ≤ 65536 := by omega
      clear hdef hx2 hs h2 hx hx0 hx3 hm' hys hto HC hle
      go_enter Tryz.func134, Tryz.ntmps134
      go_wp2_with (go_at_call 161; refine HC2.out.mono ?_; rintro e w' ⟨rfl, rfl⟩; unfold three)
      go_ret3
      rw [HX.out]
      refine ⟨cutA A to c, c - to, ?_, HY.out, rfl⟩
      have e1 : ((at_ + (k + m) : Nat) : Int) = (to : Int) + (m : Int) := by have := HTO.out; omega
      simp only [HL.out, e1]
      rfl
  · rw [if_pos h0] at hdef
    have HX := Lib.hid hdef
    have hne : (e != 0) = true := by simpa using h0
    have hk0 : k = 0 := by omega
    subst hk0
    clear hdef hen h0
    go_enter Tryz.func134, Tryz.ntmps134
    go_wp2_with (go_at_call 161; refine HC.out.mono ?_; rintro e w' ⟨rfl, rfl⟩; unfold three)
    go_ret3
    exact atrow_nil HX.out (by omega) w
end Go.Proofs.YtkdpfjenjcpcfaaGreatDoor
namespace Go.Proofs.YtkdpfjenjcpcfaaGreatDoor
open Go.RowKit Mem Be
set_option maxRecDepth 10000
set_option maxHeartbeats 2000000
theorem in_wf {a : Int} (h : (Lit.int .i64 a).wf = true) : In64 a := by
  have := bounds_i64 h
  unfold In64; omega
theorem own_below {w w' : World} {base : Nat} {e : TypeId} {v : Value} {n : Nat} {xs : List Value} (h : w.ownsRow base e 1 v n xs) (hb : Below w.heap.size w w') : w'.ownsRow base e 1 v n xs :=
  h.kept (grown_below hb (Nat.le_refl _) none) (by cases hv : v.ownBlock <;> simp)
theorem numB_inj (n m : Int) (hn : In64 n) (hm : In64 m) (h : numB n = numB m) : n = m := by
  have h1 := getN_num n hn []
  have h2 := getN_num m hm []
  rw [h, h2] at h1
  exact (Prod.mk.inj h1).1.symm
theorem same_false (B B' c c' n n' : Nat) (A A' : Option Addr) (xs ys : List UInt8) (hxy : xs ≠ ys) (w : World) (h : Row w B A (xs.map byteV)) (h' : Row w B' A' (ys.map byteV)) (hn : n = xs.length) (hn' : n' = ys.length) :
    Calls Tryz.prog 29 #[.slice A n c, .slice A' n' c'] w fun e w' => e = .returned (.bool false) ∧ w = w' :=
  (same_any B B' c c' n n' A A' xs ys w h h' hn hn').mono fun _ _ ⟨h1, h2⟩ => ⟨by rw [h1]; simp [hxy], h2⟩
theorem same_val (B B' c c' n n' : Nat) (A A' : Option Addr) (xs ys : List UInt8) (b : Bool) (hxy : (xs == ys) = b) (w : World) (h : Row w B A (xs.map byteV)) (h' : Row w B' A' (ys.map byteV)) (hn : n = xs.length) (hn' : n' = ys.length) :
    Calls Tryz.prog 29 #[.slice A n c, .slice A' n' c'] w fun e w' => e = .returned (.bool b) ∧ w = w' :=
  (same_any B B' c c' n n' A A' xs ys w h h' hn hn').mono fun _ _ ⟨h1, h2⟩ => ⟨by rw [h1, hxy], h2⟩
theorem num_eq (n m : Int) (hn : In64 n) (hm : In64 m) : (numB n == numB m) = (n == m) := by
  rw [Bool.eq_iff_iff]; simp only [beq_iff_eq]
  exact ⟨numB_inj n m hn hm, fun h => by rw [h]⟩
theorem step_num (n : Int) (hn : In64 n) (more : List UInt8) : stepN (numB n ++ more) 0 = (n, more, 0) := by
  unfold stepN; rw [if_pos rfl, getN_num n hn more]
  simp
theorem end_len (bs : List UInt8) : (endZ bs 0 == 0) = ((bs.length : Int) == 0) := by
  unfold endZ
  rw [if_pos rfl]
  by_cases h : bs.length = 0
  · rw [if_pos h, h]; rfl
  · rw [if_neg h, Bool.eq_iff_iff]; simp only [beq_iff_eq]; omega
theorem step_num_no (bs : List UInt8) (e : Int) (he : e ≠ 0) : stepN bs e = (0, bs, e) := if_neg he
theorem step_below_no (m : Int) (bs : List UInt8) (e : Int) (he : e ≠ 0) : stepB m bs e = (0, bs, e) := if_neg he
theorem step_row_no (bs : List UInt8) (e : Int) (he : e ≠ 0) : stepR bs e = ([], bs, e) := if_neg he
theorem step_truth_no (bs : List UInt8) (e : Int) (he : e ≠ 0) : stepT bs e = (false, bs, e) := if_neg he
theorem end_no (bs : List UInt8) (e : Int) (he : e ≠ 0) : endZ bs e = e := if_neg he
theorem getR_row (x rest : List UInt8) (h : x.length ≤ 65536) : getR (rowB x ++ rest) = (x, (rowB x).length, 0) := by
  have hin : In64 (x.length : Int) := by unfold In64; omega
  have hg := getN_num (x.length : Int) hin (x ++ rest)
  rw [← List.append_assoc] at hg
  have hb : numB (x.length : Int) ++ x = rowB x := rfl
  rw [hb] at hg
  unfold getR
  rw [hg]
  simp only
  rw [if_neg (by simp), if_neg (by omega), if_neg (by unfold rowB; simp only [List.length_append]; omega)]
  have e1 : (rowB x ++ rest).drop (numB (x.length : Int)).length = x ++ rest := by
    unfold rowB; rw [List.append_assoc, List.drop_left]
  have e2 : ((x.length : Int)).toNat = x.length := by omega
  rw [e1, e2, List.take_left]
  unfold rowB
  rw [List.length_append]
theorem step_row (x rest : List UInt8) (h : x.length ≤ 65536) : stepR (rowB x ++ rest) 0 = (x, rest, 0) := by
  unfold stepR; rw [if_pos rfl, getR_row x rest h]; simp
theorem step_truth (t : Bool) (rest : List UInt8) : stepT (truthB t ++ rest) 0 = (t, rest, 0) := by
  unfold stepT; rw [if_pos rfl]
  have e : getT (truthB t ++ rest) = (t, 1, 0) := by
    cases t <;> rfl
  rw [e]; rfl
theorem own_of {w : World} {B n : Nat} {v : Value} {xs : List Value} (bs : List UInt8) (ho : w.ownsRow B 5 1 v n xs) (hx : xs = bs.map byteV) : ∃ A c, v = .slice A bs.length c ∧ w.ownsRow B 5 1 (.slice A bs.length c) bs.length (bs.map byteV) := by
  obtain ⟨A, c, he, h, _⟩ := made_of ho hx (Below.refl B w)
  injection he with he
  exact ⟨A, c, he, h⟩
end Go.Proofs.YtkdpfjenjcpcfaaGreatDoor
