/- What layer 2 makes of a number, the program and the document: one contract each. -/
import Derived.Test.YtnljljfopelopaaBe
import Derived.Test.YtnljljfopelopaaClone
import Derived.Test.YtnljljfopelopaaRows
import Derived.Lib.BitFns
import Derived.Deep.OwnRows
import Derived.Lib.Small
import Derived.Lib.Strings
import Derived.Lib.Slices
import Derived.Lib.Walk
namespace Go.Proofs.Ytnljljfopelopaa
open Go.RowKit Mem Be
set_option maxRecDepth 10000
set_option maxHeartbeats 1000000
theorem ret_int {k : IntKind} {a b : Int} (h : a = b) : Ending.returned (.int k a) = .returned (.int k b) := by rw [h]
theorem tab_size : Lib.len8tab.size = 256 := by decide +kernel
theorem tab_le : (256 : Int) ≤ (Lib.len8tab.size : Int) := by rw [tab_size]; decide
theorem tab_all : ∀ i : Fin 256, (Lib.len8tab.data.toList.getD i.val 0).toNat ≤ 8 ∧ (1 ≤ i.val → 1 ≤ (Lib.len8tab.data.toList.getD i.val 0).toNat) ∧ (i.val = 0 → (Lib.len8tab.data.toList.getD i.val 0).toNat = 0) := by decide +kernel
theorem tab_of (y : Int) (h : y.toNat < Lib.len8tab.size) : (Lib.len8tab[y.toNat]'h).toNat ≤ 8 ∧ (1 ≤ y → 1 ≤ (Lib.len8tab[y.toNat]'h).toNat) ∧ (y ≤ 0 → (Lib.len8tab[y.toNat]'h).toNat = 0) := by
  have h' : y.toNat < 256 := by rw [tab_size] at h; exact h
  have := tab_all ⟨y.toNat, h'⟩
  have e : Lib.len8tab[y.toNat]'h = Lib.len8tab.data.toList.getD y.toNat 0 := by
    rw [List.getD_eq_getElem?_getD, Array.getElem?_toList, Array.getElem?_eq_getElem (by exact h)]
    rfl
  rw [e]
  refine ⟨this.1, fun h1 => this.2.1 (by show 1 ≤ y.toNat; omega), fun h1 => this.2.2 (by show y.toNat = 0; omega)⟩
def Len64 (x : Int) (w : World) (e : Ending) (w' : World) : Prop := (∃ L : Int, e = .returned (.int .i64 L) ∧ 0 ≤ L ∧ L ≤ 64 ∧ (L + 7) / 8 = (sizeN x : Int)) ∧ w = w'
theorem wrap_small (n : Nat) (b : Int) (h : n ≤ 255) (h0 : 0 ≤ b) (h1 : b ≤ 100) : wrap64 (b + wrap64 (n : Int)) = b + (n : Int) := by
  have e1 : wrap64 (n : Int) = (n : Int) := by unfold wrap64; omega
  rw [e1]; unfold wrap64; omega
theorem len_end (k : Nat) (p q : Int) (hk : k ≤ 7) (hp : (256 : Int) ^ k = p) (hq : (256 : Int) ^ (k + 1) = q) (x y V : Int) (w : World) (h : y.toNat < Lib.len8tab.size) (hx : p ≤ x ∨ k = 0) (hlt : x < q) (hy : y = x / p) (h0 : 0 ≤ x)
    (hV : V = wrap64 (8 * (k : Int) + wrap64 ((Lib.len8tab[y.toNat]'h).toNat : Int))) :
    Len64 x w (.returned (.int .i64 V)) w := by
  obtain ⟨t1, t2, t3⟩ := tab_of y h
  rw [wrap_small _ _ (by omega) (by omega) (by omega)] at hV
  have hpp := pow_pos' k
  have hm := pow_mono (a := k + 1) (b := 8) (by omega)
  have p8 := pows.2.2.2.2.2.2.2.2
  subst hp; subst hq
  refine ⟨⟨V, rfl, by omega, by omega, ?_⟩, rfl⟩
  by_cases h1 : 256 ^ k ≤ x
  · have hy1 : 1 ≤ y := by rw [hy, Int.le_ediv_iff_mul_le hpp]; omega
    have := t2 hy1
    have e : sizeN x = k + 1 := size_of x (k + 1) (by omega) hlt fun j hj => by
      obtain rfl : j = k := by omega
      exact h1
    rw [e]
    omega
  · obtain rfl : k = 0 := by
      rcases hx with hx | hx
      · exact absurd hx h1
      · exact hx
    have : x < 1 := by simpa using h1
    have hy0 : y = x := by rw [hy]; simp
    have := t3 (by omega)
    have e := (size_zero x).2 (by omega)
    rw [e]
    omega
theorem len64_any (x : Int) (w : World) (h0 : 0 ≤ x) (h1 : x ≤ 18446744073709551615) : Calls Try.prog 67 #[.int .u64 x] w (Len64 x w) := by
  have hs := tab_le
  go_enter Try.func67, Try.ntmps67
  go_wp2
  all_goals first | (exfalso; omega) | skip
  all_goals go_ret
  all_goals first
    | exact len_end 7 72057594037927936 18446744073709551616 (by decide) pows.2.2.2.2.2.2.2.1 pows.2.2.2.2.2.2.2.2 x (x / 4294967296 / 65536 / 256) _ w (by omega) (by omega) (by omega) (by omega) h0 rfl
    | exact len_end 6 281474976710656 72057594037927936 (by decide) pows.2.2.2.2.2.2.1 pows.2.2.2.2.2.2.2.1 x (x / 4294967296 / 65536) _ w (by omega) (by omega) (by omega) (by omega) h0 rfl
    | exact len_end 5 1099511627776 281474976710656 (by decide) pows.2.2.2.2.2.1 pows.2.2.2.2.2.2.1 x (x / 4294967296 / 256) _ w (by omega) (by omega) (by omega) (by omega) h0 rfl
    | exact len_end 4 4294967296 1099511627776 (by decide) pows.2.2.2.2.1 pows.2.2.2.2.2.1 x (x / 4294967296) _ w (by omega) (by omega) (by omega) (by omega) h0 rfl
    | exact len_end 3 16777216 4294967296 (by decide) pows.2.2.2.1 pows.2.2.2.2.1 x (x / 65536 / 256) _ w (by omega) (by omega) (by omega) (by omega) h0 rfl
    | exact len_end 2 65536 16777216 (by decide) pows.2.2.1 pows.2.2.2.1 x (x / 65536) _ w (by omega) (by omega) (by omega) (by omega) h0 rfl
    | exact len_end 1 256 65536 (by decide) pows.2.1 pows.2.2.1 x (x / 256) _ w (by omega) (by omega) (by omega) (by omega) h0 rfl
    | exact len_end 0 1 256 (by decide) pows.1 pows.2.1 x x _ w (by omega) (by omega) (by omega) (by omega) h0 (by simp)
/-- One cell for the size and s for the bytes, of which the last i are written. -/
def cellA (u : Int) (s i j : Nat) : Value := if j = 0 then .int .u8 (s : Int) else if j + i ≤ s then .int .u8 0 else .int .u8 (u / 256 ^ (s - j) % 256)
def CA (u : Int) (s i : Nat) : Array Value := ((List.range (s + 1)).map (cellA u s i)).toArray
def C0 (s : Nat) : Array Value := madeCells #[.int .u8 0] (s + 1)
theorem size_CA (u : Int) (s i : Nat) : (CA u s i).size = s + 1 := by simp [CA]
theorem C0_list (s : Nat) : (C0 s).toList = List.replicate (s + 1) (.int .u8 0) := toList_madeCells_one _ _
theorem size_C0 (s : Nat) : (C0 s).size = s + 1 := by rw [← Array.length_toList, C0_list]; simp
theorem set_C0 (u : Int) (s : Nat) : (C0 s).setIfInBounds 0 (.int .u8 (s : Int)) = CA u s 0 := by
  apply Array.ext
  · simp [size_CA, size_C0]
  · intro j h1 h2
    rw [size_CA] at h2
    rw [Array.getElem_setIfInBounds (by rw [size_C0]; exact h2)]
    simp only [CA, List.getElem_toArray, List.getElem_map, List.getElem_range, cellA]
    by_cases h : 0 = j
    · subst h; rw [if_pos rfl, if_pos rfl]
    · rw [if_neg h, if_neg (by omega), if_pos (by omega)]
      rw [← Array.getElem_toList]
      simp only [C0_list, List.getElem_replicate]
theorem set_CA (u : Int) (s i : Nat) (hi : i < s) (x : Int) (hx : x = u / 2 ^ (8 * i) % 256) : (CA u s i).setIfInBounds (s - i) (.int .u8 x) = CA u s (i + 1) := by
  apply Array.ext
  · simp [size_CA]
  · intro j h1 h2
    rw [size_CA] at h2
    rw [Array.getElem_setIfInBounds (by rw [size_CA]; exact h2)]
    simp only [CA, List.getElem_toArray, List.getElem_map, List.getElem_range, cellA]
    by_cases h : s - i = j
    · rw [if_pos h, if_neg (by omega), if_neg (by omega), hx]
      have : s - j = i := by omega
      rw [this, show (256 : Int) = 2 ^ 8 by decide, ← Int.pow_mul]
    · rw [if_neg h]
      by_cases h0 : j = 0
      · rw [if_pos h0, if_pos h0]
      · rw [if_neg h0, if_neg h0]
        by_cases h' : j + i ≤ s
        · rw [if_pos h', if_pos (by omega)]
        · rw [if_neg h', if_neg (by omega)]
theorem CA_bytes (u : Int) : (CA u (sizeN u) (sizeN u)).toList = (numU u).map byteV := by
  apply List.ext_getElem
  · simp [CA, numU, be_len]
  · intro j h2 h3
    simp only [CA, List.getElem_map, List.getElem_range, cellA]
    unfold numU
    rcases j with _ | j
    · rw [if_pos rfl, List.getElem_cons_zero]
      unfold byteV
      rw [size_byte]
    · have hj : j < sizeN u := by simpa [numU, be_len] using h3
      rw [if_neg (by omega), if_neg (by omega), List.getElem_cons_succ, be_get _ _ _ hj]
      unfold byteV
      rw [byte_back, show sizeN u - (j + 1) = sizeN u - 1 - j by omega]

theorem make_num (s : Nat) (hs : s ≤ 8) (W : World) : (Instr.makeSlice 39 (.int .i64 (1 + (s : Int))) (.int .i64 (1 + (s : Int)))).run Try.prog W = .ok (.slice (some ⟨W.heap.size, 0, none⟩) (s + 1) (s + 1)) (W.alloc (.cells (C0 s) 5)) := by
  have := run_make_row' (P := Try.prog) 39 5 (.int .u8 0) 1 Try.underlying39 info_b rfl .i64 .i64 (s + 1) (by omega) (by omega) W
  rw [show (1 + (s : Int)) = ((s + 1 : Nat) : Int) by omega]
  exact this
/-- The row that the block is. -/
theorem own_CA {w : World} (u : Int) :
    (w.alloc (.cells (CA u (sizeN u) (sizeN u)) 5)).ownsRow w.heap.size 5 1 (.slice (some ⟨w.heap.size, 0, none⟩) (sizeN u + 1) (sizeN u + 1)) (numU u).length ((numU u).map byteV) := by
  have hl : (numU u).length = sizeN u + 1 := by simp [numU, be_len]
  refine ⟨by simp, Or.inr ⟨w.heap.size, sizeN u + 1, _, by rw [hl], Nat.le_refl _, heap_alloc_new w _, by omega, ?_, by rw [size_CA]; omega, ?_⟩⟩
  · have := size_le u; unfold maxLen; omega
  · rw [CA_bytes u, List.take_of_length_le (by simp)]
theorem num_end (u n : Int) (w : World) (h1 : uZ n = u) :
    Made w.heap.size (numB n) w (.returned (.slice (some ⟨w.heap.size, 0, none⟩) (sizeN u + 1) (sizeN u + 1))) (w.alloc (.cells (CA u (sizeN u) (sizeN u)) 5)) := by
  have hl : (numU u).length = sizeN u + 1 := by simp [numU, be_len]
  unfold numB
  rw [h1]
  have ho := own_CA (w := w) u
  refine ⟨some ⟨w.heap.size, 0, none⟩, sizeN u + 1, by rw [hl], ?_, (Below.refl _ _).alloc (Nat.le_refl _) _⟩
  rw [hl] at ho ⊢
  exact ho
theorem num_any (n : Int) (w : World) : Calls Try.prog 51 #[.int .i64 n] w (Made w.heap.size (numB n) w) := by
  obtain ⟨u, hu⟩ : ∃ u, IntKind.u64.wrap n = u := ⟨_, rfl⟩
  have hr := u_range n
  have hun : uZ n = u := by rw [← hu]; unfold uZ; rw [IntKind.wrap_u64]
  rw [hun] at hr
  have hr0 := hr.1
  have hr1 : u ≤ 18446744073709551615 := by omega
  have HN : Hid (uZ n = u) := Lib.hid hun
  have hs8 := size_le u
  obtain ⟨s, hsz⟩ : ∃ s, sizeN u = s := ⟨_, rfl⟩
  rw [hsz] at hs8
  have HS := Lib.hid hsz
  have hmk := make_num s hs8
  clear hr hun hsz
  have hc := size_C0 s
  go_enter Try.func51, Try.ntmps51
  go_wp2_with (go_at_call 67; refine (len64_any u _ hr0 hr1).mono ?_; rintro e w' ⟨⟨L, rfl, hL0, hL1, hL⟩, rfl⟩; (have hL' : (L + 8 - 1) / 8 = (s : Int) := by rw [← HS.out]; omega); clear hL)
  rw [set_C0 u s]
  clear hc hmk
  go_loopw [22] (fun i wr => ∃ k : Nat, k ≤ s ∧ i = .int .i64 k ∧ wr = w.alloc (.cells (CA u s k) 5)) (fun i _ => s - (intOf i).toNat)
  case atStart => exact ⟨0, by omega, rfl, rfl⟩
  case round =>
    obtain ⟨k, hk, rfl, rfl⟩ := hrel
    by_cases hlt : k < s
    · obtain ⟨old, hold⟩ : ∃ old, (CA u s k)[s - k]? = some old := ⟨_, Array.getElem?_eq_getElem (by rw [size_CA]; omega)⟩
      go_wp2
      go_roundw
      case rel => exact ⟨k + 1, by omega, by go_num, by rw [set_CA u s k hlt _ rfl]⟩
      case measure => simp [intOf]; omega
    · go_wp2
      have e8 : k = s := by omega
      go_ret
      have hs' := HS.out
      have h1 := HN.out
      subst hs'
      subst e8
      exact num_end u n w h1

theorem shr_pos (u : Int) (k : Nat) (h1 : u < 18446744073709551616) : 0 < u / 2 ^ (8 * k) ↔ k < sizeN u := by
  have e : (2 : Int) ^ (8 * k) = 256 ^ k := by rw [show (256 : Int) = 2 ^ 8 by decide, ← Int.pow_mul]
  have hp := pow_pos' k
  rw [e]
  constructor
  · intro h
    rcases Nat.lt_or_ge k (sizeN u) with hk | hk
    · exact hk
    · have := size_lt u h1
      have := pow_mono hk
      have : u / 256 ^ k < 1 := by rw [Int.ediv_lt_iff_lt_mul hp]; omega
      omega
  · intro hk
    obtain ⟨s, hs⟩ : ∃ s, sizeN u = s + 1 := ⟨sizeN u - 1, by omega⟩
    have := size_ge u s hs
    have := pow_mono (a := k) (b := s) (by omega)
    have : 1 ≤ u / 256 ^ k := by rw [Int.le_ediv_iff_mul_le hp]; omega
    omega
theorem num_step (u : Int) (q : Nat) (hq : q < sizeN u) (x : Int) (hx : x = u / 2 ^ (8 * q) % 256) :
    ((numU u).take (sizeN u - (q + 1) + 1)).map byteV ++ [.int .u8 x] = ((numU u).take (sizeN u - q + 1)).map byteV := by
  have e : (2 : Int) ^ (8 * q) = 256 ^ q := by rw [show (256 : Int) = 2 ^ 8 by decide, ← Int.pow_mul]
  have hl : (numU u).length = sizeN u + 1 := by simp [numU, be_len]
  rw [show sizeN u - q + 1 = sizeN u - (q + 1) + 1 + 1 by omega, List.take_succ_eq_append_getElem (i := sizeN u - (q + 1) + 1) (by omega), List.map_append]
  congr 1
  simp only [List.map_cons, List.map_nil]
  congr 1
  unfold numU
  rw [List.getElem_cons_succ, be_get _ _ _ (by omega)]
  unfold byteV
  rw [byte_back, hx, e]
  congr 5
  omega
def MadeN (B : Nat) (s q : Nat) (u : Int) (w wr : World) (v : Value) : Prop := wr.ownsRow B 5 1 v (s - q + 1) (((numU u).take (s - q + 1)).map byteV) ∧ Below B w wr
theorem made_start (u : Int) (k : Nat) (hk : sizeN u = k) (w : World) : MadeN w.heap.size k k u w (w.alloc (.cells #[.int .u8 (k : Int)] 5)) (.slice (some ⟨w.heap.size, 0, none⟩) 1 1) := by
  have hb := size_byte u
  have hx : ((numU u).take 1).map byteV = [.int .u8 (k : Int)] := by
    show [byteV (UInt8.ofNat (sizeN u))] = _
    unfold byteV; rw [hb, hk]
  refine ⟨?_, (Below.refl _ _).alloc (Nat.le_refl _) _⟩
  rw [Nat.sub_self, hx]
  exact ⟨rfl, Or.inr ⟨w.heap.size, 1, _, rfl, Nat.le_refl _, heap_alloc_new w _, by omega, by decide, rfl, rfl⟩⟩
theorem shr_byte (u : Int) (q : Nat) (h : 0 ≤ u) : (u / 2 ^ (8 * q)).tmod 256 % 256 = u / 2 ^ (8 * q) % 256 := by
  rw [Int.tmod_eq_emod_of_nonneg (Int.ediv_nonneg h (Int.le_of_lt (Int.pow_pos (by decide))))]
  omega
theorem made_end (n u : Int) (s : Nat) (w wr : World) (v : Value) (hu : uZ n = u) (hs : sizeN u = s) (h : MadeN w.heap.size s 0 u w wr v) : Made w.heap.size (numB n) w (.returned v) wr := by
  have hl : (numU u).length = s + 1 := by rw [← hs]; simp [numU, be_len]
  obtain ⟨ho, hb⟩ := h
  unfold numB
  rw [hu]
  rw [Nat.sub_zero, List.take_of_length_le (by omega), ← hl] at ho
  rcases ho.2 with ⟨rfl, hn⟩ | ⟨g, cap, cur, rfl, _⟩
  · omega
  · exact ⟨_, _, rfl, ho, hb⟩
theorem made_step (u : Int) (k q : Nat) (hs : sizeN u = k) (hq : q < k) (w wr w1 : World) (v v' : Value) (o : Obj) (hm : MadeN w.heap.size k (q + 1) u w wr v)
    (hown : w1.ownsRow w.heap.size 5 1 v' (k - (q + 1) + 1 + 1) (((numU u).map byteV).take (k - (q + 1) + 1) ++ [.int .u8 ((u / 2 ^ (8 * q)).tmod 256 % 256)])) (hu : 0 ≤ u) (hg : (wr.alloc o).grownBy w1 v.ownBlock) : MadeN w.heap.size k q u w w1 v' := by
  subst hs
  refine ⟨?_, (hm.2.alloc hm.2.size _).grown hg (by have := hm.2.size; simp; omega) fun g h => (hm.1.lt g h).1⟩
  rw [← List.map_take, num_step u q hq _ (shr_byte u q hu), show sizeN u - (q + 1) + 1 + 1 = sizeN u - q + 1 by omega] at hown
  exact hown
theorem refnum_any (n : Int) (w : World) : Calls Try.prog 54 #[.int .i64 n] w (Made w.heap.size (numB n) w) := by
  obtain ⟨i0, hi0, hz0, hz1, hz2⟩ := info_parts info_b
  obtain ⟨u, hu⟩ : ∃ u, IntKind.u64.wrap n = u := ⟨_, rfl⟩
  have hr := u_range n
  have hun : uZ n = u := by rw [← hu]; unfold uZ; rw [IntKind.wrap_u64]
  rw [hun] at hr
  have hr0 := hr.1
  have hr1 : u ≤ 18446744073709551615 := by omega
  have HN : Hid (uZ n = u) := Lib.hid hun
  have hs8 := size_le u
  obtain ⟨s, hsz⟩ : ∃ s, sizeN u = s := ⟨_, rfl⟩
  rw [hsz] at hs8
  have HS := Lib.hid hsz
  clear hr hun hsz
  go_enter Try.func54, Try.ntmps54
  go_wp2
  go_loop [4] (fun i => ∃ k : Nat, k ≤ s ∧ i = .int .i64 k) (fun i => s - (intOf i).toNat)
  case atStart => exact ⟨0, by omega, rfl⟩
  case round =>
    obtain ⟨k, hk, rfl⟩ := hrel
    by_cases hlt : k < s
    · have hp := (shr_pos u k (by omega)).2 (by rw [HS.out]; exact hlt)
      have hk8 : k < 8 := by omega
      go_wp2
      go_round
      case rel => exact ⟨k + 1, by omega, by go_num⟩
      case measure => simp [intOf]; omega
    · obtain rfl : k = s := by omega
      have hp : ¬ 0 < u / 2 ^ (8 * k) := fun h => hlt (by have := (shr_pos u k (by omega)).1 h; rw [HS.out] at this; exact this)
      have hst : (numU u).length = k + 1 := by rw [← HS.out]; simp [numU, be_len]
      have HL := Lib.hid hst
      clear hst hlt
      by_cases hk8 : k < 8
      all_goals
        go_wp2
        go_loopw [5, 6] (fun v i wr => ∃ q : Nat, q ≤ k ∧ i = .int .i64 ((q : Int) - 1) ∧ MadeN w.heap.size k q u w wr v) (fun _ i _ => (intOf i + 1).toNat)
        case atStart => exact ⟨k, Nat.le_refl _, by go_num, made_start u k HS.out w⟩
        case round =>
          obtain ⟨q, hq, rfl, hm⟩ := hrel
          have HM := Lib.hid hm
          clear hm
          rcases q with _ | q
          · go_wp2
            go_ret
            exact made_end n u k w _ _ HN.out HS.out HM.out
          · go_wp2_with (at_builtin; refine wpList_append_own _ rfl _ _ 39 rfl w.heap.size 5 i0 (.int .u8 0) 1 1 Try.underlying39 hi0 hz0 hz1 hz2 rfl (by decide) _ _ _ rfl (HM.out.1.alloc _) ⟨_, 0, none⟩ 1 1 [.int .u8 ((u / 2 ^ (8 * q)).tmod 256 % 256)] rfl rfl (by intro j u hj; match j, hj with | 0, hj => simp at hj; subst hj; simp [Addr.add]) (by intro u hu; simp at hu; subst hu; rfl) (by unfold maxLen; omega) (by omega) (by have := HM.out.2.size; simp; omega) ?_)
            intro v' w1 hown' hgrow _
            have R := Lib.hid (made_step u k q HS.out (by omega) w wr w1 _ v' _ HM.out hown' hr0 hgrow)
            clear hown' hgrow
            go_wp2
            go_roundw
            case rel => exact ⟨q, by omega, by go_num, R.out⟩
            case measure => simp [intOf]
end Go.Proofs.Ytnljljfopelopaa
