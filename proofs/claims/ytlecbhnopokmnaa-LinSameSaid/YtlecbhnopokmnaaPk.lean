/- Num: What layer 2 makes of a number, the program and the document: one contract each.
   Dec: What layer 2 reads of a number, the program and the document: one contract each.
   Dec2: What layer 2 reads of a number below a bound, of a row and of a truth; what the document reads of a number and of a row.
   Puts: What layer 2 makes of a row and of a truth, the program and the document: one contract each; the law PackPuts.
   Reader: A reader: what it holds, and what each of its calls answers and leaves.
   Reader2: A reader, continued: rows, truths, and being told that something is wrong.
   Get: What the document reads of a number and of a row, at a place in bytes.
   Steps: What a reader's calls come to, on bytes that were laid so, and where it has failed before; small lemmas besides. -/
import Derived.Test.YtlecbhnopokmnaaCore
import Derived.Test.YtlecbhnopokmnaaRows
import Derived.Lib.BitFns
import Derived.Deep.OwnRows
import Derived.Lib.Small
import Derived.Lib.Strings
import Derived.Lib.Slices
import Derived.Lib.Walk
import Derived.Laws.BitsAllLaws
import Derived.Deep.QuietTactic
import Derived.BigQuiet
namespace Go.Proofs.Ytlecbhnopokmnaa
open Go.RowKit Mem Be
set_option maxRecDepth 10000
set_option maxHeartbeats 1000000
theorem ret_intN {k : IntKind} {a b : Int} (h : a = b) : Ending.returned (.int k a) = .returned (.int k b) := by rw [h]
theorem tab_size : Lib.len8tab.size = 256 := by decide +kernel
theorem tab_le : (256 : Int) ≤ (Lib.len8tab.size : Int) := by rw [tab_size]; decide
theorem tab_all : ∀ i : Fin 256, (Lib.len8tab.data.toList.getD i.val 0).toNat ≤ 8 ∧ (1 ≤ i.val → 1 ≤ (Lib.len8tab.data.toList.getD i.val 0).toNat) ∧ (i.val = 0 → (Lib.len8tab.data.toList.getD i.val 0).toNat = 0) := by decide +kernel
theorem tab_of (y : Int) (h : y.toNat < Lib.len8tab.size) : (Lib.len8tab[y.toNat]'h).toNat ≤ 8 ∧ (1 ≤ y → 1 ≤ (Lib.len8tab[y.toNat]'h).toNat) ∧ (y ≤ 0 → (Lib.len8tab[y.toNat]'h).toNat = 0) := by
  have h' : y.toNat < 256 := by rw [tab_size] at h; exact h
  have := tab_all ⟨y.toNat, h'⟩
  have e : Lib.len8tab[y.toNat]'h = Lib.len8tab.data.toList.getD y.toNat 0 := by
    rw [List.getD_eq_getElem?_getD, Array.getElem?_toList, Array.getElem?_eq_getElem (by exact h)]
    rfl
  rw [e]
  refine ⟨this.1, fun h1 => this.2.1 (by show 1 ≤ y.toNat; omega), fun h1 => this.2.2 (by show y.toNat = 0; omega)⟩
def Len64 (x : Int) (w : World) (e : Ending) (w' : World) : Prop := (∃ L : Int, e = .returned (.int .i64 L) ∧ 0 ≤ L ∧ L ≤ 64 ∧ (L + 7) / 8 = (sizeN x : Int)) ∧ w = w'
theorem wrap_small (n : Nat) (b : Int) (h : n ≤ 255) (h0 : 0 ≤ b) (h1 : b ≤ 100) : wrap64 (b + wrap64 (n : Int)) = b + (n : Int) := by
  have e1 : wrap64 (n : Int) = (n : Int) := by unfold wrap64; omega
  rw [e1]; unfold wrap64; omega
theorem len_end (k : Nat) (p q : Int) (hk : k ≤ 7) (hp : (256 : Int) ^ k = p) (hq : (256 : Int) ^ (k + 1) = q) (x y V : Int) (w : World) (h : y.toNat < Lib.len8tab.size) (hx : p ≤ x ∨ k = 0) (hlt : x < q) (hy : y = x / p) (h0 : 0 ≤ x)
    (hV : V = wrap64 (8 * (k : Int) + wrap64 ((Lib.len8tab[y.toNat]'h).toNat : Int))) :
    Len64 x w (.returned (.int .i64 V)) w := by
  obtain ⟨t1, t2, t3⟩ := tab_of y h
  rw [wrap_small _ _ (by omega) (by omega) (by omega)] at hV
  have hpp := pow_pos' k
  have hm := pow_mono (a := k + 1) (b := 8) (by omega)
  have p8 := pows.2.2.2.2.2.2.2.2
  subst hp; subst hq
  refine ⟨⟨V, rfl, by omega, by omega, ?_⟩, rfl⟩
  by_cases h1 : 256 ^ k ≤ x
  · have hy1 : 1 ≤ y := by rw [hy, Int.le_ediv_iff_mul_le hpp]; omega
    have := t2 hy1
    have e : sizeN x = k + 1 := size_of x (k + 1) (by omega) hlt fun j hj => by
      obtain rfl : j = k := by omega
      exact h1
    rw [e]
    omega
  · obtain rfl : k = 0 := by
      rcases hx with hx | hx
      · exact absurd hx h1
      · exact hx
    have : x < 1 := by simpa using h1
    have hy0 : y = x := by rw [hy]; simp
    have := t3 (by omega)
    have e := (size_zero x).2 (by omega)
    rw [e]
    omega
theorem len64_any (x : Int) (w : World) (h0 : 0 ≤ x) (h1 : x ≤ 18446744073709551615) : Calls Try.prog 79 #[.int .u64 x] w (Len64 x w) := by
  have hs := tab_le
  go_enter Try.func79, Try.ntmps79
  go_wp2
  all_goals first | (exfalso; omega) | skip
  all_goals go_ret
  all_goals first
    | exact len_end 7 72057594037927936 18446744073709551616 (by decide) pows.2.2.2.2.2.2.2.1 pows.2.2.2.2.2.2.2.2 x (x / 4294967296 / 65536 / 256) _ w (by omega) (by omega) (by omega) (by omega) h0 rfl
    | exact len_end 6 281474976710656 72057594037927936 (by decide) pows.2.2.2.2.2.2.1 pows.2.2.2.2.2.2.2.1 x (x / 4294967296 / 65536) _ w (by omega) (by omega) (by omega) (by omega) h0 rfl
    | exact len_end 5 1099511627776 281474976710656 (by decide) pows.2.2.2.2.2.1 pows.2.2.2.2.2.2.1 x (x / 4294967296 / 256) _ w (by omega) (by omega) (by omega) (by omega) h0 rfl
    | exact len_end 4 4294967296 1099511627776 (by decide) pows.2.2.2.2.1 pows.2.2.2.2.2.1 x (x / 4294967296) _ w (by omega) (by omega) (by omega) (by omega) h0 rfl
    | exact len_end 3 16777216 4294967296 (by decide) pows.2.2.2.1 pows.2.2.2.2.1 x (x / 65536 / 256) _ w (by omega) (by omega) (by omega) (by omega) h0 rfl
    | exact len_end 2 65536 16777216 (by decide) pows.2.2.1 pows.2.2.2.1 x (x / 65536) _ w (by omega) (by omega) (by omega) (by omega) h0 rfl
    | exact len_end 1 256 65536 (by decide) pows.2.1 pows.2.2.1 x (x / 256) _ w (by omega) (by omega) (by omega) (by omega) h0 rfl
    | exact len_end 0 1 256 (by decide) pows.1 pows.2.1 x x _ w (by omega) (by omega) (by omega) (by omega) h0 (by simp)
/-- One cell for the size and s for the bytes, of which the last i are written. -/
def cellA (u : Int) (s i j : Nat) : Value := if j = 0 then .int .u8 (s : Int) else if j + i ≤ s then .int .u8 0 else .int .u8 (u / 256 ^ (s - j) % 256)
def CA (u : Int) (s i : Nat) : Array Value := ((List.range (s + 1)).map (cellA u s i)).toArray
def C0 (s : Nat) : Array Value := madeCells #[.int .u8 0] (s + 1)
theorem size_CA (u : Int) (s i : Nat) : (CA u s i).size = s + 1 := by simp [CA]
theorem C0_list (s : Nat) : (C0 s).toList = List.replicate (s + 1) (.int .u8 0) := toList_madeCells_one _ _
theorem size_C0 (s : Nat) : (C0 s).size = s + 1 := by rw [← Array.length_toList, C0_list]; simp
theorem set_C0 (u : Int) (s : Nat) : (C0 s).setIfInBounds 0 (.int .u8 (s : Int)) = CA u s 0 := by
  apply Array.ext
  · simp [size_CA, size_C0]
  · intro j h1 h2
    rw [size_CA] at h2
    rw [Array.getElem_setIfInBounds (by rw [size_C0]; exact h2)]
    simp only [CA, List.getElem_toArray, List.getElem_map, List.getElem_range, cellA]
    by_cases h : 0 = j
    · subst h; rw [if_pos rfl, if_pos rfl]
    · rw [if_neg h, if_neg (by omega), if_pos (by omega)]
      rw [← Array.getElem_toList]
      simp only [C0_list, List.getElem_replicate]
theorem set_CA (u : Int) (s i : Nat) (hi : i < s) (x : Int) (hx : x = u / 2 ^ (8 * i) % 256) : (CA u s i).setIfInBounds (s - i) (.int .u8 x) = CA u s (i + 1) := by
  apply Array.ext
  · simp [size_CA]
  · intro j h1 h2
    rw [size_CA] at h2
    rw [Array.getElem_setIfInBounds (by rw [size_CA]; exact h2)]
    simp only [CA, List.getElem_toArray, List.getElem_map, List.getElem_range, cellA]
    by_cases h : s - i = j
    · rw [if_pos h, if_neg (by omega), if_neg (by omega), hx]
      have : s - j = i := by omega
      rw [this, show (256 : Int) = 2 ^ 8 by decide, ← Int.pow_mul]
    · rw [if_neg h]
      by_cases h0 : j = 0
      · rw [if_pos h0, if_pos h0]
      · rw [if_neg h0, if_neg h0]
        by_cases h' : j + i ≤ s
        · rw [if_pos h', if_pos (by omega)]
        · rw [if_neg h', if_neg (by omega)]
theorem CA_bytes (u : Int) : (CA u (sizeN u) (sizeN u)).toList = (numU u).map byteV := by
  apply List.ext_getElem
  · simp [CA, numU, be_len]
  · intro j h2 h3
    simp only [CA, List.getElem_map, List.getElem_range, cellA]
    unfold numU
    rcases j with _ | j
    · rw [if_pos rfl, List.getElem_cons_zero]
      unfold byteV
      rw [size_byte]
    · have hj : j < sizeN u := by simpa [numU, be_len] using h3
      rw [if_neg (by omega), if_neg (by omega), List.getElem_cons_succ, be_get _ _ _ hj]
      unfold byteV
      rw [byte_back, show sizeN u - (j + 1) = sizeN u - 1 - j by omega]

theorem make_num (s : Nat) (hs : s ≤ 8) (W : World) : (Instr.makeSlice 43 (.int .i64 (1 + (s : Int))) (.int .i64 (1 + (s : Int)))).run Try.prog W = .ok (.slice (some ⟨W.heap.size, 0, none⟩) (s + 1) (s + 1)) (W.alloc (.cells (C0 s) 5)) := by
  have := run_make_row' (P := Try.prog) 43 5 (.int .u8 0) 1 Try.underlying43 info_b rfl .i64 .i64 (s + 1) (by omega) (by omega) W
  rw [show (1 + (s : Int)) = ((s + 1 : Nat) : Int) by omega]
  exact this
/-- The row that the block is. -/
theorem own_CA {w : World} (u : Int) :
    (w.alloc (.cells (CA u (sizeN u) (sizeN u)) 5)).ownsRow w.heap.size 5 1 (.slice (some ⟨w.heap.size, 0, none⟩) (sizeN u + 1) (sizeN u + 1)) (numU u).length ((numU u).map byteV) := by
  have hl : (numU u).length = sizeN u + 1 := by simp [numU, be_len]
  refine ⟨by simp, Or.inr ⟨w.heap.size, sizeN u + 1, _, by rw [hl], Nat.le_refl _, heap_alloc_new w _, by omega, ?_, by rw [size_CA]; omega, ?_⟩⟩
  · have := size_le u; unfold maxLen; omega
  · rw [CA_bytes u, List.take_of_length_le (by simp)]
theorem num_end (u n : Int) (w : World) (h1 : uZ n = u) :
    Made w.heap.size (numB n) w (.returned (.slice (some ⟨w.heap.size, 0, none⟩) (sizeN u + 1) (sizeN u + 1))) (w.alloc (.cells (CA u (sizeN u) (sizeN u)) 5)) := by
  have hl : (numU u).length = sizeN u + 1 := by simp [numU, be_len]
  unfold numB
  rw [h1]
  have ho := own_CA (w := w) u
  refine ⟨some ⟨w.heap.size, 0, none⟩, sizeN u + 1, by rw [hl], ?_, (Below.refl _ _).alloc (Nat.le_refl _) _⟩
  rw [hl] at ho ⊢
  exact ho
end Go.Proofs.Ytlecbhnopokmnaa
namespace Go.Proofs.Ytlecbhnopokmnaa
open Go.RowKit Mem Be
set_option maxRecDepth 10000
set_option maxHeartbeats 1000000
def three (x k e : Int) : Ending := .returned (.tuple #[.int .i64 x, .int .i64 k, .int .i64 e])
def Num3 (r : Int × Nat × Int) (w : World) (e : Ending) (w' : World) : Prop := e = three r.1 r.2.1 r.2.2 ∧ ∃ n, w' = w.drewN n
theorem shl_or (u : Int) (b : UInt8) (h0 : 0 ≤ u) (h1 : u ≤ 72057594037927935) : bits .or .u64 (IntKind.u64.wrap (u * 256)) (IntKind.u64.wrap (b.toNat : Int)) = u * 256 + (b.toNat : Int) := by
  have hb := b.toNat_lt
  have e1 : IntKind.u64.wrap (u * 256) = u * 256 := by rw [IntKind.wrap_u64]; omega
  have e2 : IntKind.u64.wrap (b.toNat : Int) = (b.toNat : Int) := by rw [IntKind.wrap_u64]; omega
  rw [e1, e2, u64_or _ _ (by omega) (by omega) (by omega) (by omega)]
  have : (u * 256).toNat ||| ((b.toNat : Int)).toNat = (u * 256).toNat + b.toNat := by
    rw [show ((b.toNat : Int)).toNat = b.toNat by omega]
    exact nat_join 8 _ _ (by omega) (by omega)
  rw [this]; omega
theorem three_eq {x k e x' k' e' : Int} (h1 : x = x') (h2 : k = k') (h3 : e = e') : Ending.returned (.tuple #[.int .i64 x, .int .i64 k, .int .i64 e]) = three x' k' e' := by rw [h1, h2, h3]; rfl
theorem num3_end {r : Int × Nat × Int} {x : Int} {k : Nat} {e : Int} (hr : r = (x, k, e)) {x' k' : Int} (h1 : x' = x) (h2 : k' = k) (w : World) (n : Nat) :
    Num3 r w (.returned (.tuple #[.int .i64 x', .int .i64 k', .int .i64 e])) (w.drewN n) := by
  subst hr
  exact ⟨three_eq h1 h2 rfl, n, rfl⟩
theorem getN_1 (b0 : UInt8) (rest : List UInt8) (h : 8 < b0.toNat) : getN (b0 :: rest) = (0, 0, 11) := by
  unfold getN; rw [if_neg (by simp), if_pos (by simpa using h)]
theorem getN_2 (b0 : UInt8) (rest : List UInt8) (h : ¬ 8 < b0.toNat) (h2 : rest.length < b0.toNat) : getN (b0 :: rest) = (0, 0, 12) := by
  unfold getN; rw [if_neg (by simp), if_neg (by simpa using h), if_pos (by simp; omega)]
theorem getN_3 (b0 r0 : UInt8) (more : List UInt8) (h : ¬ 8 < b0.toNat) (h2 : ¬ (r0 :: more).length < b0.toNat) (h3 : 0 < b0.toNat) (h4 : r0.toNat = 0) : getN (b0 :: r0 :: more) = (0, 0, 11) := by
  unfold getN; rw [if_neg (by simp), if_neg (by simpa using h), if_neg (by simp at h2 ⊢; omega), if_pos ⟨by simpa using h3, by simpa using h4⟩]
theorem getN_4 (b0 : UInt8) (rest : List UInt8) (h : ¬ 8 < b0.toNat) (h2 : ¬ rest.length < b0.toNat) (h3 : ¬ (0 < b0.toNat ∧ (rest.headD 0).toNat = 0)) : getN (b0 :: rest) = (iZ (rd (rest.take b0.toNat)), 1 + b0.toNat, 0) := by
  unfold getN
  have e1 : (b0 :: rest).headD 0 = b0 := rfl
  have e2 : (b0 :: rest).tail = rest := rfl
  rw [e1, e2, if_neg (by simp), if_neg h, if_neg (by simp; omega), if_neg h3]
theorem wrap_i (u : Int) : IntKind.i64.wrap u = iZ u := by rw [IntKind.wrap_i64]; rfl
theorem wrap_iZ (u : Int) : wrap64 u = iZ u := by unfold wrap64 iZ; omega
theorem rd_small (bs : List UInt8) (k : Nat) (h : k ≤ 7) : rd (bs.take k) ≤ 72057594037927935 := by
  have h1 := rd_lt (bs.take k)
  have h2 := pow_mono (a := (bs.take k).length) (b := 7) (by rw [List.length_take]; omega)
  have := pows.2.2.2.2.2.2.2.1
  omega
end Go.Proofs.Ytlecbhnopokmnaa
namespace Go.Proofs.Ytlecbhnopokmnaa
open Go.RowKit Mem Be
set_option maxRecDepth 10000
set_option maxHeartbeats 1000000
namespace Be
def getB (m : Int) (bs : List UInt8) : Int × Nat × Int := if (getN bs).2.2 = 0 ∧ ((getN bs).1 < 0 ∨ m ≤ (getN bs).1) then (0, 0, 11) else getN bs
def getR (bs : List UInt8) : List UInt8 × Nat × Int :=
  if ¬ (getN bs).2.2 = 0 then ([], 0, (getN bs).2.2)
  else if (getN bs).1 < 0 ∨ 65537 ≤ (getN bs).1 then ([], 0, 11)
  else if (bs.length : Int) - (getN bs).2.1 < (getN bs).1 then ([], 0, 12)
  else ((bs.drop (getN bs).2.1).take (getN bs).1.toNat, (getN bs).2.1 + (getN bs).1.toNat, 0)
def getT (bs : List UInt8) : Bool × Nat × Int :=
  if bs.length = 0 then (false, 0, 12) else if 1 < (bs.headD 0).toNat then (false, 0, 11) else ((bs.headD 0).toNat == 1, 1, 0)
theorem getB_err (m : Int) (bs : List UInt8) : ((getB m bs).2.2 = 0 ∧ 1 ≤ (getB m bs).2.1 ∧ (getB m bs).2.1 ≤ bs.length ∧ 0 ≤ (getB m bs).1 ∧ (getB m bs).1 < m ∧ getB m bs = getN bs) ∨ ((getB m bs).1 = 0 ∧ (getB m bs).2.1 = 0 ∧ ((getB m bs).2.2 = 11 ∨ (getB m bs).2.2 = 12)) := by
  unfold getB
  by_cases h : (getN bs).2.2 = 0 ∧ ((getN bs).1 < 0 ∨ m ≤ (getN bs).1)
  · rw [if_pos h]; right; simp
  · rw [if_neg h]
    rcases getN_err bs with h1 | h1
    · left; refine ⟨h1.1, h1.2.1, h1.2.2, ?_, ?_, rfl⟩ <;> omega
    · right; exact h1
theorem getR_err (bs : List UInt8) : ((getR bs).2.2 = 0 ∧ 1 ≤ (getR bs).2.1 ∧ (getR bs).2.1 ≤ bs.length) ∨ ((getR bs).1 = [] ∧ (getR bs).2.1 = 0 ∧ ((getR bs).2.2 = 11 ∨ (getR bs).2.2 = 12)) := by
  have hn := getN_err bs
  unfold getR
  by_cases h : (getN bs).2.2 = 0
  · rw [if_neg (by simpa using h)]
    by_cases h2 : (getN bs).1 < 0 ∨ 65537 ≤ (getN bs).1
    · rw [if_pos h2]; simp
    · rw [if_neg h2]
      by_cases h3 : (bs.length : Int) - (getN bs).2.1 < (getN bs).1
      · rw [if_pos h3]; simp
      · rw [if_neg h3]; left; refine ⟨rfl, ?_, ?_⟩ <;> simp only <;> omega
  · rw [if_pos h]; right; simp only; exact ⟨trivial, trivial, by omega⟩
theorem getT_err (bs : List UInt8) : ((getT bs).2.2 = 0 ∧ (getT bs).2.1 = 1 ∧ 1 ≤ bs.length) ∨ ((getT bs).1 = false ∧ (getT bs).2.1 = 0 ∧ ((getT bs).2.2 = 11 ∨ (getT bs).2.2 = 12)) := by
  unfold getT
  by_cases h : bs.length = 0
  · rw [if_pos h]; simp
  · rw [if_neg h]
    by_cases h2 : 1 < (bs.headD 0).toNat
    · rw [if_pos h2]; simp
    · rw [if_neg h2]; left; exact ⟨rfl, rfl, by omega⟩
end Be
theorem num3_same {r : Int × Nat × Int} {w w1 : World} {n : Nat} (h : w1 = w.drewN n) : Num3 r w (three r.1 r.2.1 r.2.2) w1 := ⟨rfl, n, h⟩

end Go.Proofs.Ytlecbhnopokmnaa
namespace Go.Proofs.Ytlecbhnopokmnaa
open Go.RowKit Mem Be
set_option maxRecDepth 10000
set_option maxHeartbeats 1000000
def rowB (bs : List UInt8) : List UInt8 := numB (bs.length : Int) ++ bs
/-- A new slice of these bytes, and a number. -/
def Made2 (B : Nat) (bs : List UInt8) (k : Int) (w : World) (e : Ending) (w' : World) : Prop := ∃ A c, e = .returned (.tuple #[.slice A bs.length c, .int .i64 k]) ∧ w'.ownsRow B 5 1 (.slice A bs.length c) bs.length (bs.map byteV) ∧ Below B w w'
theorem made2_of {B : Nat} {bs : List UInt8} {n : Nat} {k : Int} {w w1 : World} {v : Value} {xs : List Value} (ho : w1.ownsRow B 5 1 v n xs) (hx : xs = bs.map byteV) (hb : Below B w w1) : Made2 B bs k w (.returned (.tuple #[v, .int .i64 k])) w1 := by
  obtain ⟨A, c, he, h1, h2⟩ := made_of ho hx hb
  injection he with he
  subst he
  exact ⟨A, c, rfl, h1, h2⟩
def truthB (t : Bool) : List UInt8 := [if t then 1 else 0]
theorem one_own (w : World) (b : UInt8) : (w.alloc (.cells #[byteV b] 5)).ownsRow w.heap.size 5 1 (.slice (some ⟨w.heap.size, 0, none⟩) 1 1) 1 [byteV b] :=
  ⟨rfl, Or.inr ⟨w.heap.size, 1, _, rfl, Nat.le_refl _, heap_alloc_new w _, by omega, by decide, rfl, rfl⟩⟩
theorem same_true (B B' c c' n n' : Nat) (A A' : Option Addr) (xs ys : List UInt8) (hxy : xs = ys) (w : World) (h : Row w B A (xs.map byteV)) (h' : Row w B' A' (ys.map byteV)) (hn : n = xs.length) (hn' : n' = ys.length) :
    Calls Try.prog 38 #[.slice A n c, .slice A' n' c'] w fun e w' => e = .returned (.bool true) ∧ w = w' :=
  (same_any B B' c c' n n' A A' xs ys w h h' hn hn').mono fun _ _ ⟨h1, h2⟩ => ⟨by rw [h1, hxy]; simp, h2⟩
theorem row_new (w : World) (g : Nat) (hg : g = w.heap.size) (t : TypeId) (bs : List UInt8) (cs : Array Value) (h : cs.toList = bs.map byteV) : Row (w.alloc (.cells cs t)) (g + 1) (some ⟨g, 0, none⟩) (bs.map byteV) := by
  subst hg
  refine Or.inr ⟨w.heap.size, 0, rfl, by omega, fun j hj => ?_⟩
  have := cell_of_row (w.alloc (.cells cs t)) w.heap.size j cs t (0, 0) (heap_alloc_new w _)
  rw [Nat.zero_add, this, ← Array.getElem?_toList, h, List.getElem?_eq_getElem hj]
end Go.Proofs.Ytlecbhnopokmnaa
namespace Go.Proofs.Ytlecbhnopokmnaa
open Go.RowKit Mem Be
set_option maxRecDepth 10000
set_option maxHeartbeats 1000000
/-- Bytes that lie below block g, in a block of bytes. -/
structure RowB (w : World) (g : Nat) (A : Option Addr) (bs : List UInt8) : Prop where
  row : Row w g A (bs.map byteV)
  typ : ∀ ad, A = some ad → ad.block < g ∧ ∃ cur fr, w.heap[ad.block]? = some (.cells cur 5 fr)
section
variable {w w' : World} {g : Nat} {A : Option Addr} {bs : List UInt8}
theorem RowB.keep_ (h : RowB w g A bs) (hk : ∀ k, k < g → w'.heap[k]? = w.heap[k]?) : RowB w' g A bs :=
  ⟨h.row.keep fun p hp => World.cell?_of_block (hk p.block hp), fun ad e => by
    obtain ⟨h1, cur, fr, h2⟩ := h.typ ad e
    exact ⟨h1, cur, fr, (hk _ h1).trans h2⟩⟩
theorem RowB.drewN (h : RowB w g A bs) (n : Nat) : RowB (w.drewN n) g A bs := ⟨h.row.drewN n, h.typ⟩
theorem RowB.alloc (h : RowB w g A bs) (hB : g ≤ w.heap.size) (o : Obj) : RowB (w.alloc o) g A bs := h.keep_ fun k hk => Below.heap_alloc w o k (by omega)
theorem RowB.below (h : RowB w g A bs) (hb : Below g w w') : RowB w' g A bs := h.keep_ fun k hk => hb.block k hk
theorem RowB.grownBy {row : Option Nat} (h : RowB w g A bs) (hg : w.grownBy w' row) (hs : g ≤ w.heap.size) (hr : ∀ k, row = some k → g ≤ k) : RowB w' g A bs :=
  h.keep_ fun k hk => hg.block k (by omega) (fun e => by have := hr k e.symm; omega)
theorem RowB.set_ (h : RowB w g A bs) (i : Nat) (u : Value) : RowB (w.setCell ⟨g, i, none⟩ u) g A bs := h.keep_ fun k hk => Below.heap_setCell w _ u k (by show k ≠ g; omega)
/-- A block of another type is written. -/
theorem RowB.low {L : Nat} {t : TypeId} {cs : Array Value} (h : RowB w g A bs) (hL : Blk w L t cs) (ht : 5 ≠ t) (i : Nat) (u : Value) : RowB (w.setCell ⟨L, i, none⟩ u) g A bs := by
  have hne : ∀ ad, A = some ad → ad.block ≠ L := by
    intro ad e heq
    obtain ⟨_, cur, fr, h2⟩ := h.typ ad e
    unfold Blk at hL
    rw [heq, hL] at h2
    injection h2 with h2
    injection h2 with _ h3
    exact ht h3.symm
  refine ⟨?_, fun ad e => ?_⟩
  · rcases h.row with hn | ⟨b, o, e, hb, hc⟩
    · exact Or.inl hn
    · refine Or.inr ⟨b, o, e, hb, fun j hj => ?_⟩
      rw [World.cell?_setCell_other _ _ _ _ (fun e2 => hne _ e (by injection e2 with e2; exact e2.symm))]
      exact hc j hj
  · obtain ⟨h1, cur, fr, h2⟩ := h.typ ad e
    exact ⟨h1, cur, fr, (Below.heap_setCell w _ u _ (hne ad e)).trans h2⟩
theorem RowB.cut (h : RowB w g A bs) (k c : Nat) (hc : bs.length ≤ c) : RowB w g (cutA A k c) (bs.drop k) := by
  refine ⟨by rw [List.map_drop]; exact cut_row h.row k c (by simpa using hc), fun ad e => ?_⟩
  unfold cutA at e
  by_cases hk : c = k
  · rw [if_pos hk] at e; exact h.typ ad e
  · rw [if_neg hk] at e
    cases A with
    | none => cases e
    | some a =>
      injection e with e
      have hb : (a.add k).block = a.block := by unfold Addr.add; split <;> rfl
      rw [← e, hb]
      exact h.typ a rfl
theorem RowB.new {B n c : Nat} (ho : w.ownsRow B 5 1 (.slice A n c) n (bs.map byteV)) : RowB w w.heap.size A bs := by
  refine ⟨Row.of_own ho, fun ad e => ?_⟩
  subst e
  rcases ho.2 with ⟨hv, _⟩ | ⟨g, cap, cur, hv, _, hh, _⟩
  · cases hv
  · injection hv with hv
    injection hv with hv
    subst hv
    exact ⟨(Array.getElem?_eq_some_iff.1 hh).1, cur, (0, 0), hh⟩
end
def endZ (bs : List UInt8) (e : Int) : Int := if e = 0 then (if bs.length = 0 then 0 else 11) else e
theorem rd_grown (w : World) (g : Nat) (u v : Value) : w.grownBy ((w.setCell ⟨g, 0, none⟩ u).setCell ⟨g, 1, none⟩ v) (some g) := grown_trans (grown_set w g 0 u) (grown_set _ g 1 v)
theorem drew_grown (w : World) (n : Nat) (g : Option Nat) : w.grownBy (w.drewN n) g := ⟨rfl, rfl, rfl, Nat.le_refl _, fun _ _ _ => rfl⟩
/-- What a reader's number call answers: the number, what is left, what is wrong first. -/
def stepN (bs : List UInt8) (e : Int) : Int × List UInt8 × Int := if e = 0 then ((getN bs).1, bs.drop (getN bs).2.1, (getN bs).2.2) else (0, bs, e)
def stepB (m : Int) (bs : List UInt8) (e : Int) : Int × List UInt8 × Int := if e = 0 then ((getB m bs).1, bs.drop (getB m bs).2.1, (getB m bs).2.2) else (0, bs, e)
/-- What a row's read answers, in new memory. -/
def Row3 (r : List UInt8 × Nat × Int) (w : World) (e : Ending) (w' : World) : Prop := ∃ A c, e = .returned (.tuple #[.slice A r.1.length c, .int .i64 r.2.1, .int .i64 r.2.2]) ∧ w'.ownsRow w.heap.size 5 1 (.slice A r.1.length c) r.1.length (r.1.map byteV) ∧ Below w.heap.size w w'
theorem row3_nil (k : Nat) (er : Int) (w : World) (n : Nat) (r : List UInt8 × Nat × Int) (hr : r = ([], k, er)) : Row3 r w (.returned (.tuple #[.slice none 0 0, .int .i64 (k : Int), .int .i64 er])) (w.drewN n) := by
  subst hr
  exact ⟨none, 0, rfl, World.ownsRow_nil _ _ _ _, ⟨rfl, rfl, rfl, Nat.le_refl _, fun _ _ => rfl⟩⟩
theorem below_drew (w : World) (n B : Nat) : Below B w (w.drewN n) := ⟨rfl, rfl, rfl, Nat.le_refl _, fun _ _ => rfl⟩
theorem getR_of (bs : List UInt8) (x : Int) (k : Nat) (e : Int) (hg : getB 65537 bs = (x, k, e)) :
    getR bs = if ¬ e = 0 then ([], 0, e) else if (bs.length : Int) - k < x then ([], 0, 12) else ((bs.drop k).take x.toNat, k + x.toNat, 0) := by
  unfold getB at hg
  by_cases h : (getN bs).2.2 = 0 ∧ ((getN bs).1 < 0 ∨ 65537 ≤ (getN bs).1)
  · rw [if_pos h] at hg
    simp only [Prod.mk.injEq] at hg
    obtain ⟨rfl, rfl, rfl⟩ := hg
    unfold getR
    rw [if_neg (by simpa using h.1), if_pos h.2, if_pos (by decide)]
  · rw [if_neg h] at hg
    unfold getR
    rw [hg] at h ⊢
    simp only at h ⊢
    by_cases h1 : e = 0
    · rw [if_neg (fun h3 => h3 h1), if_neg (fun h2 => h ⟨h1, h2⟩)]
      exact (if_neg (fun h3 => h3 h1)).symm
    · rw [if_pos h1, if_pos h1]
end Go.Proofs.Ytlecbhnopokmnaa
namespace Go.Proofs.Ytlecbhnopokmnaa
open Go.RowKit Mem Be
set_option maxRecDepth 10000
set_option maxHeartbeats 1000000
theorem own_set {w : World} {B g i : Nat} {e : TypeId} {v : Value} {n : Nat} {xs : List Value} (h : w.ownsRow B e 1 v n xs) (hg : g < B) (u : Value) : (w.setCell ⟨g, i, none⟩ u).ownsRow B e 1 v n xs := by
  refine h.kept (grown_set w g i u) ?_
  cases hv : v.ownBlock with
  | none => exact Or.inl rfl
  | some k => exact Or.inr (fun e => by injection e with e; have := (h.lt k hv).1; omega)
def stepR (bs : List UInt8) (e : Int) : List UInt8 × List UInt8 × Int := if e = 0 then ((getR bs).1, bs.drop (getR bs).2.1, (getR bs).2.2) else ([], bs, e)
def stepT (bs : List UInt8) (e : Int) : Bool × List UInt8 × Int := if e = 0 then ((getT bs).1, bs.drop (getT bs).2.1, (getT bs).2.2) else (false, bs, e)
end Go.Proofs.Ytlecbhnopokmnaa
namespace Go.Proofs.Ytlecbhnopokmnaa
open Go.RowKit Mem Be
set_option maxRecDepth 10000
set_option maxHeartbeats 1000000
def At3 (r : Int × Nat × Int) (at_ : Nat) (w : World) (e : Ending) (w' : World) : Prop := e = three r.1 ((at_ + r.2.1 : Nat) : Int) r.2.2 ∧ w = w'
theorem at3_end {r : Int × Nat × Int} {x : Int} {k : Nat} {e : Int} (hr : r = (x, k, e)) {at_ : Nat} {x' k' : Int} (h1 : x' = x) (h2 : k' = ((at_ + k : Nat) : Int)) (w : World) :
    At3 r at_ w (.returned (.tuple #[.int .i64 x', .int .i64 k', .int .i64 e])) w := by
  subst hr
  exact ⟨three_eq h1 h2 rfl, rfl⟩
/-- A row at a place: where its bytes lie is not said but that they lie below B. -/
def AtRow (B : Nat) (r : List UInt8 × Nat × Int) (at_ : Nat) (w : World) (e : Ending) (w' : World) : Prop :=
  ∃ A c, e = .returned (.tuple #[.slice A r.1.length c, .int .i64 ((at_ + r.2.1 : Nat) : Int), .int .i64 r.2.2]) ∧ Row w B A (r.1.map byteV) ∧ w = w'
theorem atrow_nil {B : Nat} {r : List UInt8 × Nat × Int} {k : Nat} {e : Int} (hr : r = ([], k, e)) {at_ : Nat} {k' : Int} (h2 : k' = ((at_ + k : Nat) : Int)) (w : World) :
    AtRow B r at_ w (.returned (.tuple #[.slice none 0 0, .int .i64 k', .int .i64 e])) w := by
  subst hr
  exact ⟨none, 0, by rw [h2]; rfl, Row.nil _ _ _, rfl⟩
end Go.Proofs.Ytlecbhnopokmnaa
namespace Go.Proofs.Ytlecbhnopokmnaa
open Go.RowKit Mem Be
set_option maxRecDepth 10000
set_option maxHeartbeats 2000000
theorem in_wf {a : Int} (h : (Lit.int .i64 a).wf = true) : In64 a := by
  have := bounds_i64 h
  unfold In64; omega
theorem own_below {w w' : World} {base : Nat} {e : TypeId} {v : Value} {n : Nat} {xs : List Value} (h : w.ownsRow base e 1 v n xs) (hb : Below w.heap.size w w') : w'.ownsRow base e 1 v n xs :=
  h.kept (grown_below hb (Nat.le_refl _) none) (by cases hv : v.ownBlock <;> simp)
theorem numB_inj (n m : Int) (hn : In64 n) (hm : In64 m) (h : numB n = numB m) : n = m := by
  have h1 := getN_num n hn []
  have h2 := getN_num m hm []
  rw [h, h2] at h1
  exact (Prod.mk.inj h1).1.symm
theorem same_false (B B' c c' n n' : Nat) (A A' : Option Addr) (xs ys : List UInt8) (hxy : xs ≠ ys) (w : World) (h : Row w B A (xs.map byteV)) (h' : Row w B' A' (ys.map byteV)) (hn : n = xs.length) (hn' : n' = ys.length) :
    Calls Try.prog 38 #[.slice A n c, .slice A' n' c'] w fun e w' => e = .returned (.bool false) ∧ w = w' :=
  (same_any B B' c c' n n' A A' xs ys w h h' hn hn').mono fun _ _ ⟨h1, h2⟩ => ⟨by rw [h1]; simp [hxy], h2⟩
theorem same_val (B B' c c' n n' : Nat) (A A' : Option Addr) (xs ys : List UInt8) (b : Bool) (hxy : (xs == ys) = b) (w : World) (h : Row w B A (xs.map byteV)) (h' : Row w B' A' (ys.map byteV)) (hn : n = xs.length) (hn' : n' = ys.length) :
    Calls Try.prog 38 #[.slice A n c, .slice A' n' c'] w fun e w' => e = .returned (.bool b) ∧ w = w' :=
  (same_any B B' c c' n n' A A' xs ys w h h' hn hn').mono fun _ _ ⟨h1, h2⟩ => ⟨by rw [h1, hxy], h2⟩
theorem num_eq (n m : Int) (hn : In64 n) (hm : In64 m) : (numB n == numB m) = (n == m) := by
  rw [Bool.eq_iff_iff]; simp only [beq_iff_eq]
  exact ⟨numB_inj n m hn hm, fun h => by rw [h]⟩
theorem step_num (n : Int) (hn : In64 n) (more : List UInt8) : stepN (numB n ++ more) 0 = (n, more, 0) := by
  unfold stepN; rw [if_pos rfl, getN_num n hn more]
  simp
theorem end_len (bs : List UInt8) : (endZ bs 0 == 0) = ((bs.length : Int) == 0) := by
  unfold endZ
  rw [if_pos rfl]
  by_cases h : bs.length = 0
  · rw [if_pos h, h]; rfl
  · rw [if_neg h, Bool.eq_iff_iff]; simp only [beq_iff_eq]; omega
theorem step_num_no (bs : List UInt8) (e : Int) (he : e ≠ 0) : stepN bs e = (0, bs, e) := if_neg he
theorem step_below_no (m : Int) (bs : List UInt8) (e : Int) (he : e ≠ 0) : stepB m bs e = (0, bs, e) := if_neg he
theorem step_row_no (bs : List UInt8) (e : Int) (he : e ≠ 0) : stepR bs e = ([], bs, e) := if_neg he
theorem step_truth_no (bs : List UInt8) (e : Int) (he : e ≠ 0) : stepT bs e = (false, bs, e) := if_neg he
theorem end_no (bs : List UInt8) (e : Int) (he : e ≠ 0) : endZ bs e = e := if_neg he
theorem getR_row (x rest : List UInt8) (h : x.length ≤ 65536) : getR (rowB x ++ rest) = (x, (rowB x).length, 0) := by
  have hin : In64 (x.length : Int) := by unfold In64; omega
  have hg := getN_num (x.length : Int) hin (x ++ rest)
  rw [← List.append_assoc] at hg
  have hb : numB (x.length : Int) ++ x = rowB x := rfl
  rw [hb] at hg
  unfold getR
  rw [hg]
  simp only
  rw [if_neg (by simp), if_neg (by omega), if_neg (by unfold rowB; simp only [List.length_append]; omega)]
  have e1 : (rowB x ++ rest).drop (numB (x.length : Int)).length = x ++ rest := by
    unfold rowB; rw [List.append_assoc, List.drop_left]
  have e2 : ((x.length : Int)).toNat = x.length := by omega
  rw [e1, e2, List.take_left]
  unfold rowB
  rw [List.length_append]
theorem step_row (x rest : List UInt8) (h : x.length ≤ 65536) : stepR (rowB x ++ rest) 0 = (x, rest, 0) := by
  unfold stepR; rw [if_pos rfl, getR_row x rest h]; simp
theorem step_truth (t : Bool) (rest : List UInt8) : stepT (truthB t ++ rest) 0 = (t, rest, 0) := by
  unfold stepT; rw [if_pos rfl]
  have e : getT (truthB t ++ rest) = (t, 1, 0) := by
    cases t <;> rfl
  rw [e]; rfl
theorem own_of {w : World} {B n : Nat} {v : Value} {xs : List Value} (bs : List UInt8) (ho : w.ownsRow B 5 1 v n xs) (hx : xs = bs.map byteV) : ∃ A c, v = .slice A bs.length c ∧ w.ownsRow B 5 1 (.slice A bs.length c) bs.length (bs.map byteV) := by
  obtain ⟨A, c, he, h, _⟩ := made_of ho hx (Below.refl B w)
  injection he with he
  exact ⟨A, c, he, h⟩
end Go.Proofs.Ytlecbhnopokmnaa
