/- Mem: Rows of cells that are only read: what a slice value leads to, and how that stays where other memory is made or written. No dump is imported here.
   Be: Numbers as rows of bytes, the greatest byte first, no more bytes than are needed; what rows of bytes tell, read so. No dump is imported here.
   Word: Words of 64 bits: one step of the sum by a byte, stirring and its turning back, sums of bytes, and how one byte that is another one makes another sum. No dump is imported here.
   App: An append onto a row of the call's own, of one-cell elements, from any row that is only read, empty or not; a block of the call's own that is known whole. No dump is imported here.
   Cut: A slice cut out of a slice that is only read; conversions; whether two rows of bytes are the same.
   Clone: A copy of bytes, in memory of its own.
   Open: What comes in, opened: slices of elements of one cell, of truths, of rows of bytes. No dump is imported here.
   Many: Rows of bytes that lie in a world; the bytes of a string.
   Later: A region that draws its order, whose operations only read and whose callees make memory of their own: walked once, in the class of worlds in which all that was there is as it was. No dump is imported here.
   OwnB: A row of a call's own, of elements of any size: a lower base; a later world; as a row that is only read. No dump is imported here.
   Concat: Rows of bytes laid one behind the other, in new memory; the bytes of a string.
   CopyB: The statements' own copy of bytes. -/
import Derived.WalkKit
import Derived.WalkLawsBesides
import Derived.Lib.Hide
import Derived.Laws.OwnMore
import Derived.Laws.IdiomStrings
import Derived.Deep.Draws
import Derived.Lib.BufferRead
import Derived.OpenShut
import Derived.Laws.Bits64
import Derived.Laws.BitsAllLaws
import Derived.Maps.AppendAt
import Derived.Deep.AppendLies
import Derived.OwnWalk
import Derived.Test.YtlecbhnopokmnaaRows
import Derived.Lib.SliceRun
import Derived.Deep.Matrix
import Derived.ChangeArms
import Derived.Lib.ConvBytes
import Derived.Deep.QuietTactic
import Derived.BigQuiet
import Derived.Lib.AppendZeros
namespace Go.Proofs.Ytlecbhnopokmnaa
open Go.RowKit
namespace Mem
def byteV (b : UInt8) : Value := .int .u8 (b.toNat : Int)
/-- The slice value's address leads to the cells xs, in a block below B; of no cells nothing is asked. -/
def Row (w : World) (B : Nat) (A : Option Addr) (xs : List Value) : Prop :=
  xs = [] ∨ ∃ b o, A = some ⟨b, o, none⟩ ∧ b < B ∧ ∀ j (h : j < xs.length), w.cell? ⟨b, o + j, none⟩ = some xs[j]
section
variable {w w' : World} {B B' : Nat} {A : Option Addr} {xs : List Value}
theorem Row.nil (w : World) (B : Nat) (A : Option Addr) : Row w B A [] := Or.inl rfl
theorem Row.keep (h : Row w B A xs) (hk : ∀ p : Addr, p.block < B → w'.cell? p = w.cell? p) : Row w' B A xs := by
  rcases h with h | ⟨b, o, e, hb, hc⟩
  · exact Or.inl h
  · exact Or.inr ⟨b, o, e, hb, fun j hj => (hk ⟨b, o + j, none⟩ hb).trans (hc j hj)⟩
theorem Row.more (h : Row w B A xs) (hB : B ≤ B') : Row w B' A xs := by
  rcases h with h | ⟨b, o, e, hb, hc⟩
  · exact Or.inl h
  · exact Or.inr ⟨b, o, e, by omega, hc⟩
theorem Row.below (h : Row w B A xs) (hb : Below B w w') : Row w' B A xs := h.keep fun _ hp => hb.cell hp
theorem Row.drew (h : Row w B A xs) : Row w.drew B A xs := h
theorem Row.drewN (h : Row w B A xs) (k : Nat) : Row (w.drewN k) B A xs := h
theorem Row.alloc (h : Row w B A xs) (hB : B ≤ w.heap.size) (o : Obj) : Row (w.alloc o) B A xs := h.keep fun p hp => World.cell?_alloc_lt w o p (by omega)
theorem Row.of_own {base : Nat} {e : TypeId} {n c : Nat} (h : w.ownsRow base e 1 (.slice A n c) n xs) : Row w w.heap.size A xs := by
  have hl := h.1
  rcases h.2 with ⟨_, hn⟩ | ⟨g, cap, cur, hv, _, hh, _⟩
  · refine Or.inl (List.eq_nil_of_length_eq_zero ?_)
    rw [hl, hn]
  · have hA : A = some ⟨g, 0, none⟩ := by injection hv
    subst hA
    refine Or.inr ⟨g, 0, rfl, ?_, fun j hj => ?_⟩
    · rcases Nat.lt_or_ge g w.heap.size with hlt | hge
      · exact hlt
      · rw [Array.getElem?_eq_none hge] at hh; cases hh
    · have hcap : Value.slice (some ⟨g, 0, none⟩) n c = Value.slice (some ⟨g, 0, none⟩) n cap := hv
      rw [hcap] at h
      have := h.cellAt j (by omega)
      rw [Nat.zero_add, this, List.getElem?_eq_getElem hj]
/-- A row with cells, opened: its address, and each cell. -/
theorem Row.open_ (h : Row w B A xs) (hn : 0 < xs.length) : ∃ b o, A = some ⟨b, o, none⟩ ∧ b < B ∧ ∀ j (h : j < xs.length), w.cell? ⟨b, o + j, none⟩ = some xs[j] := by
  rcases h with h | h
  · rw [h] at hn; exact absurd hn (by simp)
  · exact h
end
theorem byteV_list (bs : List UInt8) (j : Nat) (h : j < bs.length) : (bs.map byteV)[j]'(by simpa using h) = .int .u8 (bs[j].toNat : Int) := by
  rw [List.getElem_map]; rfl
/-- 'string(b)' of a row of bytes. -/
theorem conv_row {P : Program} {w : World} {B : Nat} {A : Option Addr} {bs : List UInt8} (c : Nat) (src dst e : TypeId) (hs : P.underlying src = some (.slice e)) (he : P.underlying e = some (.int .u8)) (hd : P.underlying dst = some .string)
    (h : Row w B A (bs.map byteV)) : (convert src dst (.slice A bs.length c)).run P w = .ok (.string ⟨bs.toArray⟩) w := by
  rcases A with _ | a
  · have hb : bs = [] := by
      rcases h with h | ⟨b, o, e, _⟩
      · simpa using h
      · cases e
    subst hb
    have := Lib.run_convert_nil_bytes (P := P) w src dst e c hs he hd
    exact this
  · refine run_convert_bytes_back w src dst e a c bs hs he hd fun j hj => ?_
    obtain ⟨b, o, ea, _, hc⟩ := h.open_ (by simp; omega)
    injection ea with ea
    subst ea
    have := hc j (by simpa using hj)
    rw [byteV_list bs j hj] at this
    rw [← this]
    unfold Addr.add
    split
    · subst_vars; rfl
    · rfl
theorem block_lt {w : World} {p : Addr} {v : Value} (h : w.cell? p = some v) : p.block < w.heap.size := by
  rcases Nat.lt_or_ge p.block w.heap.size with hlt | hge
  · exact hlt
  · have : w.heap[p.block]? = none := Array.getElem?_eq_none hge
    simp [World.cell?, this] at h
/-- A slice of numbers that came in, as a row. -/
theorem ints_row {k : IntKind} {w : World} {a : Option Addr} {len cap : Nat} {zs : List Int}
    (h : (a = none ∧ len = 0 ∧ cap = 0 ∧ zs = []) ∨ ∃ x, a = some x ∧ len ≤ cap ∧ cap ≤ maxLen ∧ zs.length = cap ∧ (∀ i, i < zs.length → w.cell? (x.add i) = some (.int k (zs.getD i 0))) ∧ ∀ n ∈ zs, (Lit.int k n).wf = true) :
    ∃ xs : List Int, len = xs.length ∧ Row w w.heap.size a (xs.map (Value.int k)) ∧ (∀ n ∈ xs, (Lit.int k n).wf = true) ∧ xs.length ≤ maxLen := by
  rcases h with ⟨rfl, rfl, rfl, rfl⟩ | ⟨x, rfl, hl, hm, hz, hc, hw⟩
  · exact ⟨[], rfl, Row.nil _ _ _, by simp, by simp⟩
  · refine ⟨zs.take len, by rw [List.length_take]; omega, ?_, fun n hn => hw n (List.mem_of_mem_take hn), by rw [List.length_take]; omega⟩
    rcases Nat.eq_zero_or_pos len with h0 | h0
    · exact Or.inl (by rw [h0]; rfl)
    · have hc0 := hc 0 (by omega)
      obtain ⟨b, o, spot⟩ := x
      have hspot : spot = none := by simpa [Addr.add] using World.cell?_spot (hc 0 (by omega))
      subst hspot
      refine Or.inr ⟨b, o, rfl, ?_, fun j hj => ?_⟩
      · have := block_lt hc0
        simpa [Addr.add] using this
      · simp only [List.length_map, List.length_take] at hj
        have := hc j (by omega)
        have e : (⟨b, o, none⟩ : Addr).add j = ⟨b, o + j, none⟩ := by
          unfold Addr.add; split
          · subst_vars; rfl
          · rfl
        rw [e] at this
        rw [this, List.getElem_map, List.getElem_take, List.getD_eq_getElem?_getD, List.getElem?_eq_getElem (by omega)]
        rfl
/-- A slice of bytes that came in, as a row. -/
theorem bytes_row {w : World} {a : Option Addr} {len cap : Nat} {zs : List Int}
    (h : (a = none ∧ len = 0 ∧ cap = 0 ∧ zs = []) ∨ ∃ x, a = some x ∧ len ≤ cap ∧ cap ≤ maxLen ∧ zs.length = cap ∧ (∀ i, i < zs.length → w.cell? (x.add i) = some (.int .u8 (zs.getD i 0))) ∧ ∀ n ∈ zs, (Lit.int .u8 n).wf = true) :
    ∃ bs : List UInt8, len = bs.length ∧ Row w w.heap.size a (bs.map byteV) ∧ bs.length ≤ maxLen := by
  obtain ⟨xs, hl, hr, hw, hm⟩ := ints_row h
  refine ⟨xs.map fun n => UInt8.ofNat n.toNat, by rw [List.length_map]; exact hl, ?_, by rw [List.length_map]; exact hm⟩
  have e : (xs.map fun n => UInt8.ofNat n.toNat).map byteV = xs.map (Value.int .u8) := by
    rw [List.map_map]
    apply List.map_congr_left
    intro n hn
    have := bounds_u8 (hw n hn)
    show Value.int .u8 ((UInt8.ofNat n.toNat).toNat : Int) = _
    congr 1
    rw [UInt8.toNat_ofNat']
    omega
  rw [e]; exact hr
theorem bytes_eq (a b : List UInt8) : ((⟨a.toArray⟩ : ByteArray) = ⟨b.toArray⟩) ↔ a = b := by
  constructor
  · intro h
    have := congrArg (fun x : ByteArray => x.data.toList) h
    simpa using this
  · intro h; rw [h]
end Mem
end Go.Proofs.Ytlecbhnopokmnaa
namespace Go.Proofs.Ytlecbhnopokmnaa
open Go.RowKit Mem
namespace Be
def be : Nat → Int → List UInt8
  | 0, _ => []
  | k + 1, u => be k (u / 256) ++ [UInt8.ofNat (u % 256).toNat]
theorem be_len (k : Nat) (u : Int) : (be k u).length = k := by
  induction k generalizing u with
  | zero => rfl
  | succ k ih => simp [be, ih]
theorem pow_pos' (k : Nat) : 0 < (256 : Int) ^ k := Int.pow_pos (by decide)
theorem div_div (u : Int) (a b : Nat) : u / 256 ^ a / 256 ^ b = u / 256 ^ (a + b) := by
  rw [Int.ediv_ediv_of_nonneg (Int.le_of_lt (pow_pos' a)), ← Int.pow_add]
theorem be_cons (k : Nat) (u : Int) : be (k + 1) u = UInt8.ofNat ((u / 256 ^ k) % 256).toNat :: be k u := by
  induction k generalizing u with
  | zero => simp [be]
  | succ k ih =>
    rw [be, ih]
    have : u / 256 / 256 ^ k = u / 256 ^ (k + 1) := by
      have := div_div u 1 k
      rw [Nat.add_comm k 1]
      simpa using this
    rw [this]
    rfl
theorem be_take (k : Nat) (u : Int) (j : Nat) (h : j ≤ k) : (be k u).take j = be j (u / 256 ^ (k - j)) := by
  induction k generalizing u with
  | zero => obtain rfl : j = 0 := by omega
            rfl
  | succ k ih =>
    by_cases hj : j = k + 1
    · subst hj
      rw [List.take_of_length_le (by rw [be_len]; omega)]; simp
    · rw [be, List.take_append_of_le_length (by rw [be_len]; omega), ih (u / 256) (by omega)]
      congr 1
      have := div_div u 1 (k - j)
      rw [show k + 1 - j = 1 + (k - j) by omega]
      simpa using this
theorem be_get (k : Nat) (u : Int) (j : Nat) (h : j < k) : (be k u)[j]'(by rw [be_len]; exact h) = UInt8.ofNat ((u / 256 ^ (k - 1 - j)) % 256).toNat := by
  have e : be (j + 1) (u / 256 ^ (k - (j + 1))) = be j (u / 256 ^ (k - (j + 1)) / 256) ++ [UInt8.ofNat (u / 256 ^ (k - (j + 1)) % 256).toNat] := rfl
  have t := be_take k u (j + 1) (by omega)
  rw [List.take_succ_eq_append_getElem (by rw [be_len]; exact h)] at t
  have := (List.append_inj' (t.trans e) rfl).2
  rw [show k - 1 - j = k - (j + 1) by omega]
  simpa using this
theorem byte_back (x : Int) : ((UInt8.ofNat (x % 256).toNat).toNat : Int) = x % 256 := by
  rw [UInt8.toNat_ofNat']
  have := Int.emod_nonneg x (b := 256) (by decide)
  have := Int.emod_lt_of_pos x (b := 256) (by decide)
  omega
def rd (bs : List UInt8) : Int := bs.foldl (fun u b => u * 256 + (b.toNat : Int)) 0
theorem rd_app (xs : List UInt8) (b : UInt8) : rd (xs ++ [b]) = rd xs * 256 + (b.toNat : Int) := by
  unfold rd; rw [List.foldl_append]; rfl
theorem rd_snoc (bs : List UInt8) (k : Nat) (h : k < bs.length) : rd (bs.take (k + 1)) = rd (bs.take k) * 256 + (bs[k].toNat : Int) := by
  rw [List.take_succ_eq_append_getElem h, rd_app]
theorem rd_nonneg (bs : List UInt8) : 0 ≤ rd bs := by
  have : ∀ n, ∀ bs : List UInt8, bs.length = n → 0 ≤ rd bs := by
    intro n
    induction n with
    | zero => intro bs h; rw [List.length_eq_zero_iff.1 h]; simp [rd]
    | succ n ih =>
      intro bs h
      have := rd_snoc bs n (by omega)
      rw [List.take_of_length_le (by omega)] at this
      have := ih (bs.take n) (by simp; omega)
      omega
  exact this _ bs rfl
theorem rd_lt (bs : List UInt8) : rd bs < 256 ^ bs.length := by
  have : ∀ n, ∀ bs : List UInt8, bs.length = n → rd bs < 256 ^ n := by
    intro n
    induction n with
    | zero => intro bs h; rw [List.length_eq_zero_iff.1 h]; simp [rd]
    | succ n ih =>
      intro bs h
      have e := rd_snoc bs n (by omega)
      rw [List.take_of_length_le (by omega)] at e
      have := ih (bs.take n) (by simp; omega)
      have := bs[n].toNat_lt
      rw [Int.pow_succ]; omega
  exact this _ bs rfl
theorem rd_be (k : Nat) (u : Int) (h0 : 0 ≤ u) (h1 : u < 256 ^ k) : rd (be k u) = u := by
  induction k generalizing u with
  | zero => simp at h1; simp [be, rd]; omega
  | succ k ih =>
    rw [be, rd_app, byte_back, ih (u / 256) (by omega) (by rw [Int.pow_succ] at h1; omega)]
    omega
theorem be_rd (bs : List UInt8) : be bs.length (rd bs) = bs := by
  have : ∀ n, ∀ bs : List UInt8, bs.length = n → be n (rd bs) = bs := by
    intro n
    induction n with
    | zero => intro bs h; rw [List.length_eq_zero_iff.1 h]; rfl
    | succ n ih =>
      intro bs h
      have e := rd_snoc bs n (by omega)
      have e2 := List.take_succ_eq_append_getElem (l := bs) (i := n) (by omega)
      rw [List.take_of_length_le (by omega)] at e e2
      have hb := bs[n].toNat_lt
      have hi := ih (bs.take n) (by simp; omega)
      have e3 : rd bs / 256 = rd (bs.take n) := by omega
      have e4 : (rd bs % 256).toNat = bs[n].toNat := by omega
      rw [be, e3, hi, e4, UInt8.ofNat_toNat]
      exact e2.symm
  exact this _ bs rfl

/-- How many bytes a word needs. -/
def sizeN (u : Int) : Nat :=
  if u < 1 then 0 else if u < 256 then 1 else if u < 65536 then 2 else if u < 16777216 then 3 else if u < 4294967296 then 4
  else if u < 1099511627776 then 5 else if u < 281474976710656 then 6 else if u < 72057594037927936 then 7 else 8
theorem pows : (256 : Int) ^ 0 = 1 ∧ (256 : Int) ^ 1 = 256 ∧ (256 : Int) ^ 2 = 65536 ∧ (256 : Int) ^ 3 = 16777216 ∧ (256 : Int) ^ 4 = 4294967296 ∧ (256 : Int) ^ 5 = 1099511627776 ∧
    (256 : Int) ^ 6 = 281474976710656 ∧ (256 : Int) ^ 7 = 72057594037927936 ∧ (256 : Int) ^ 8 = 18446744073709551616 := by decide
theorem size_le (u : Int) : sizeN u ≤ 8 := by
  unfold sizeN
  repeat' (split; omega)
  omega
theorem size_lt (u : Int) (h : u < 18446744073709551616) : u < 256 ^ sizeN u := by
  obtain ⟨p0, p1, p2, p3, p4, p5, p6, p7, p8⟩ := pows
  unfold sizeN
  by_cases h0 : u < 1
  · rw [if_pos h0, p0]; exact h0
  rw [if_neg h0]
  by_cases h1 : u < 256
  · rw [if_pos h1, p1]; exact h1
  rw [if_neg h1]
  by_cases h2 : u < 65536
  · rw [if_pos h2, p2]; exact h2
  rw [if_neg h2]
  by_cases h3 : u < 16777216
  · rw [if_pos h3, p3]; exact h3
  rw [if_neg h3]
  by_cases h4 : u < 4294967296
  · rw [if_pos h4, p4]; exact h4
  rw [if_neg h4]
  by_cases h5 : u < 1099511627776
  · rw [if_pos h5, p5]; exact h5
  rw [if_neg h5]
  by_cases h6 : u < 281474976710656
  · rw [if_pos h6, p6]; exact h6
  rw [if_neg h6]
  by_cases h7 : u < 72057594037927936
  · rw [if_pos h7, p7]; exact h7
  rw [if_neg h7, p8]; exact h
theorem size_ge (u : Int) (k : Nat) (hk : sizeN u = k + 1) : 256 ^ k ≤ u := by
  obtain ⟨p0, p1, p2, p3, p4, p5, p6, p7, p8⟩ := pows
  unfold sizeN at hk
  by_cases h0 : u < 1
  · rw [if_pos h0] at hk; omega
  rw [if_neg h0] at hk
  by_cases h1 : u < 256
  · rw [if_pos h1] at hk; obtain rfl : k = 0 := by omega
    rw [p0]; omega
  rw [if_neg h1] at hk
  by_cases h2 : u < 65536
  · rw [if_pos h2] at hk; obtain rfl : k = 1 := by omega
    rw [p1]; omega
  rw [if_neg h2] at hk
  by_cases h3 : u < 16777216
  · rw [if_pos h3] at hk; obtain rfl : k = 2 := by omega
    rw [p2]; omega
  rw [if_neg h3] at hk
  by_cases h4 : u < 4294967296
  · rw [if_pos h4] at hk; obtain rfl : k = 3 := by omega
    rw [p3]; omega
  rw [if_neg h4] at hk
  by_cases h5 : u < 1099511627776
  · rw [if_pos h5] at hk; obtain rfl : k = 4 := by omega
    rw [p4]; omega
  rw [if_neg h5] at hk
  by_cases h6 : u < 281474976710656
  · rw [if_pos h6] at hk; obtain rfl : k = 5 := by omega
    rw [p5]; omega
  rw [if_neg h6] at hk
  by_cases h7 : u < 72057594037927936
  · rw [if_pos h7] at hk; obtain rfl : k = 6 := by omega
    rw [p6]; omega
  rw [if_neg h7] at hk
  obtain rfl : k = 7 := by omega
  rw [p7]; omega
theorem size_zero (u : Int) : sizeN u = 0 ↔ u < 1 := by
  constructor
  · intro h
    rcases Int.lt_or_le u 1 with h0 | h0
    · exact h0
    · exfalso
      unfold sizeN at h
      rw [if_neg (by omega)] at h
      revert h
      repeat' (split; omega)
      omega
  · intro h; unfold sizeN; rw [if_pos h]
theorem pow_mono {a b : Nat} (h : a ≤ b) : (256 : Int) ^ a ≤ 256 ^ b := by
  obtain ⟨c, rfl⟩ := Nat.exists_eq_add_of_le h
  rw [Int.pow_add]
  have h1 := pow_pos' a
  have h2 := pow_pos' c
  have := Int.mul_le_mul_of_nonneg_left (show (1 : Int) ≤ 256 ^ c by omega) (Int.le_of_lt h1)
  omega
/-- The size is told by its bounds alone. -/
theorem size_of (u : Int) (k : Nat) (hu : u < 18446744073709551616) (h1 : u < 256 ^ k) (h2 : ∀ j, k = j + 1 → 256 ^ j ≤ u) : sizeN u = k := by
  rcases Nat.lt_trichotomy (sizeN u) k with h | h | h
  · obtain ⟨j, rfl⟩ : ∃ j, k = j + 1 := ⟨k - 1, by omega⟩
    have := h2 j rfl
    have := size_lt u hu
    have := pow_mono (a := sizeN u) (b := j) (by omega)
    omega
  · exact h
  · obtain ⟨j, hj⟩ : ∃ j, sizeN u = j + 1 := ⟨sizeN u - 1, by omega⟩
    have := size_ge u j hj
    have := pow_mono (a := k) (b := j) (by omega)
    omega

/-- The word of a number of 64 bits, and back. -/
def uZ (n : Int) : Int := n % 18446744073709551616
def iZ (u : Int) : Int := (u + 9223372036854775808) % 18446744073709551616 - 9223372036854775808
def In64 (n : Int) : Prop := -9223372036854775808 ≤ n ∧ n ≤ 9223372036854775807
theorem u_range (n : Int) : 0 ≤ uZ n ∧ uZ n < 18446744073709551616 := by unfold uZ; omega
theorem iu (n : Int) (h : In64 n) : iZ (uZ n) = n := by unfold iZ uZ In64 at *; omega
theorem ui (u : Int) (h0 : 0 ≤ u) (h1 : u < 18446744073709551616) : uZ (iZ u) = u := by unfold iZ uZ; omega
theorem i_in (u : Int) : In64 (iZ u) := by unfold iZ In64; omega
theorem u_inj (a b : Int) (ha : In64 a) (hb : In64 b) (h : uZ a = uZ b) : a = b := by rw [← iu a ha, ← iu b hb, h]

/-- A number's bytes. -/
def numU (u : Int) : List UInt8 := UInt8.ofNat (sizeN u) :: be (sizeN u) u
def numB (n : Int) : List UInt8 := numU (uZ n)
theorem numB_len (n : Int) : (numB n).length = 1 + sizeN (uZ n) := by simp [numB, numU, be_len]; omega
theorem numB_le (n : Int) : (numB n).length ≤ 9 := by have := numB_len n; have := size_le (uZ n); omega
theorem numB_pos (n : Int) : 0 < (numB n).length := by have := numB_len n; omega
theorem size_byte (u : Int) : (UInt8.ofNat (sizeN u)).toNat = sizeN u := by
  rw [UInt8.toNat_ofNat']; have := size_le u; omega

/-- A number at the begin of bytes: it, how many bytes it takes, what is wrong. -/
def getN (bs : List UInt8) : Int × Nat × Int :=
  if bs.length = 0 then (0, 0, 12)
  else if 8 < (bs.headD 0).toNat then (0, 0, 11)
  else if bs.length < 1 + (bs.headD 0).toNat then (0, 0, 12)
  else if 0 < (bs.headD 0).toNat ∧ (bs.tail.headD 0).toNat = 0 then (0, 0, 11)
  else (iZ (rd (bs.tail.take (bs.headD 0).toNat)), 1 + (bs.headD 0).toNat, 0)
theorem getN_num (n : Int) (h : In64 n) (more : List UInt8) : getN (numB n ++ more) = (n, (numB n).length, 0) := by
  have hr := u_range n
  have hs := size_le (uZ n)
  have e : numB n ++ more = UInt8.ofNat (sizeN (uZ n)) :: (be (sizeN (uZ n)) (uZ n) ++ more) := rfl
  rw [numB_len, e]
  unfold getN
  simp only [List.headD_cons, List.tail_cons, size_byte, List.length_cons, List.length_append, be_len]
  rw [if_neg (by omega), if_neg (by omega), if_neg (by omega)]
  rw [if_neg]
  · rw [List.take_append_of_le_length (by rw [be_len]; omega), List.take_of_length_le (by rw [be_len]; omega), rd_be _ _ hr.1 (size_lt _ hr.2), iu n h]
  · rintro ⟨h1, h2⟩
    obtain ⟨k, hk⟩ : ∃ k, sizeN (uZ n) = k + 1 := ⟨sizeN (uZ n) - 1, by omega⟩
    have hge := size_ge _ k hk
    have hlt := size_lt (uZ n) hr.2
    rw [hk, be_cons] at h2
    rw [hk, Int.pow_succ] at hlt
    simp only [List.cons_append, List.headD_cons] at h2
    have hb := byte_back (uZ n / 256 ^ k)
    have hp := pow_pos' k
    have q1 : 1 ≤ uZ n / 256 ^ k := by rw [Int.le_ediv_iff_mul_le hp]; omega
    have q2 : uZ n / 256 ^ k < 256 := by rw [Int.ediv_lt_iff_lt_mul hp]; rw [Int.mul_comm]; exact hlt
    rw [h2, Int.emod_eq_of_lt (by omega) q2] at hb
    omega
/-- What is read well has just these bytes. -/
theorem getN_back (bs : List UInt8) (n : Int) (k : Nat) (h : getN bs = (n, k, 0)) : In64 n ∧ k ≤ bs.length ∧ bs.take k = numB n := by
  unfold getN at h
  by_cases h0 : bs.length = 0
  · rw [if_pos h0] at h; simp at h
  rw [if_neg h0] at h
  by_cases h1 : 8 < (bs.headD 0).toNat
  · rw [if_pos h1] at h; simp at h
  rw [if_neg h1] at h
  by_cases h2 : bs.length < 1 + (bs.headD 0).toNat
  · rw [if_pos h2] at h; simp at h
  rw [if_neg h2] at h
  by_cases h3 : 0 < (bs.headD 0).toNat ∧ (bs.tail.headD 0).toNat = 0
  · rw [if_pos h3] at h; simp at h
  rw [if_neg h3] at h
  match bs, h0 with
  | b :: rest, _ =>
    simp only [List.headD_cons, List.tail_cons, List.length_cons] at h h1 h2 h3
    simp only [Prod.mk.injEq] at h
    obtain ⟨hn, hk, _⟩ := h
    have hl : (rest.take b.toNat).length = b.toNat := by rw [List.length_take]; omega
    have r0 := rd_nonneg (rest.take b.toNat)
    have r1 := rd_lt (rest.take b.toNat)
    rw [hl] at r1
    have r2 := pow_mono (a := b.toNat) (b := 8) (by omega)
    have p8 := pows.2.2.2.2.2.2.2.2
    have hu : uZ n = rd (rest.take b.toNat) := by rw [← hn]; exact ui _ r0 (by omega)
    refine ⟨by rw [← hn]; exact i_in _, by simp only [List.length_cons]; omega, ?_⟩
    subst hk
    have hsz : sizeN (uZ n) = b.toNat := by
      refine size_of _ _ (u_range n).2 (by rw [hu]; exact r1) ?_
      intro j hj
      rw [hu]
      match hrest : rest, hj with
      | [], hj => simp at h2; omega
      | c :: more, hj =>
        simp only [List.headD_cons] at h3
        have hc : 1 ≤ c.toNat := by omega
        rw [hj, List.take_succ_cons]
        have : ∀ (l : List UInt8) (a : Int), 0 ≤ a → a * 256 ^ l.length ≤ l.foldl (fun u b => u * 256 + (b.toNat : Int)) a := by
          intro l
          induction l with
          | nil => intro a _; simp
          | cons d l ih =>
            intro a ha
            have := ih (a * 256 + (d.toNat : Int)) (by omega)
            simp only [List.length_cons, List.foldl_cons]
            refine Int.le_trans ?_ this
            rw [Int.pow_succ, Int.add_mul]
            have hd : 0 ≤ (d.toNat : Int) * 256 ^ l.length := Int.mul_nonneg (by omega) (Int.le_of_lt (pow_pos' _))
            rw [Int.mul_comm (256 ^ l.length) 256, ← Int.mul_assoc]
            omega
        have h5 := this (more.take j) (c.toNat : Int) (by omega)
        have hlj : (more.take j).length = j := by simp only [List.length_cons] at h2; rw [List.length_take]; omega
        rw [hlj] at h5
        have h6 : (1 : Int) * 256 ^ j ≤ (c.toNat : Int) * 256 ^ j := Int.mul_le_mul_of_nonneg_right (by omega) (Int.le_of_lt (pow_pos' j))
        show (256 : Int) ^ j ≤ List.foldl (fun u b => u * 256 + (b.toNat : Int)) (0 * 256 + (c.toNat : Int)) (more.take j)
        rw [Int.zero_mul, Int.zero_add]
        omega
    rw [Nat.add_comm 1, List.take_succ_cons]
    unfold numB numU
    rw [hsz, UInt8.ofNat_toNat, hu]
    have := be_rd (rest.take b.toNat)
    rw [hl] at this
    rw [this]
theorem getN_err (bs : List UInt8) : ((getN bs).2.2 = 0 ∧ 1 ≤ (getN bs).2.1 ∧ (getN bs).2.1 ≤ bs.length) ∨ ((getN bs).1 = 0 ∧ (getN bs).2.1 = 0 ∧ ((getN bs).2.2 = 11 ∨ (getN bs).2.2 = 12)) := by
  unfold getN
  by_cases h0 : bs.length = 0
  · rw [if_pos h0]; simp
  rw [if_neg h0]
  by_cases h1 : 8 < (bs.headD 0).toNat
  · rw [if_pos h1]; simp
  rw [if_neg h1]
  by_cases h2 : bs.length < 1 + (bs.headD 0).toNat
  · rw [if_pos h2]; simp
  rw [if_neg h2]
  by_cases h3 : 0 < (bs.headD 0).toNat ∧ (bs.tail.headD 0).toNat = 0
  · rw [if_pos h3]; simp
  rw [if_neg h3]
  left
  refine ⟨rfl, ?_, ?_⟩ <;> simp only <;> omega
theorem getN_in (bs : List UInt8) : In64 (getN bs).1 := by
  rcases getN_err bs with h | h
  · exact (getN_back bs (getN bs).1 (getN bs).2.1 (by rw [← h.1])).1
  · rw [h.1]; unfold In64; omega
end Be
end Go.Proofs.Ytlecbhnopokmnaa
namespace Go.Proofs.Ytlecbhnopokmnaa
open Go.RowKit Mem Be
namespace Word
def M : Nat := 18446744073709551616
def U64 (x : Nat) : Prop := x < 18446744073709551616
def stepN (h c : Nat) : Nat := (h ^^^ c) * 1099511628211 % 18446744073709551616
def foldN (h : Nat) : Nat := h ^^^ h / 8589934592
def stirN (h : Nat) : Nat := foldN (foldN (foldN h * 18397679294719823053 % 18446744073709551616) * 14181476777654086739 % 18446744073709551616)
def unstirN (h : Nat) : Nat := foldN (foldN (foldN h * 11291846944257947611 % 18446744073709551616) * 5725274745694666757 % 18446744073709551616)
def basisN : Nat := 14695981039346656037
def sumN (h : Nat) (bs : List UInt8) : Nat := bs.foldl (fun h b => stepN h b.toNat) h
def checkN (h : Nat) : Nat := h / 4294967296 ^^^ h % 4294967296
theorem xor_lt (a b : Nat) (ha : U64 a) (hb : U64 b) : U64 (a ^^^ b) := by
  unfold U64 at *
  have := Nat.xor_lt_two_pow (n := 64) (x := a) (y := b) (by omega) (by omega)
  omega
theorem step_lt (h c : Nat) : U64 (stepN h c) := by unfold U64 stepN; exact Nat.mod_lt _ (by decide)
theorem fold_lt (h : Nat) (hh : U64 h) : U64 (foldN h) := xor_lt h _ hh (by unfold U64 at *; have := Nat.div_le_self h 8589934592; omega)
theorem mod_lt (x : Nat) : U64 (x % 18446744073709551616) := by unfold U64; exact Nat.mod_lt _ (by decide)
theorem stir_lt (h : Nat) : U64 (stirN h) := fold_lt _ (mod_lt _)
theorem unstir_lt (h : Nat) : U64 (unstirN h) := fold_lt _ (mod_lt _)
theorem basis_lt : U64 basisN := by unfold U64 basisN; decide
theorem sum_one (h : Nat) (b : UInt8) : sumN h [b] = stepN h b.toNat := by unfold sumN; rw [List.foldl_cons, List.foldl_nil]
theorem sum_cons (h : Nat) (b : UInt8) (bs : List UInt8) : sumN h (b :: bs) = sumN (stepN h b.toNat) bs := by unfold sumN; rw [List.foldl_cons]
theorem sum_lt (h : Nat) (hh : U64 h) (bs : List UInt8) : U64 (sumN h bs) := by
  induction bs generalizing h with
  | nil => exact hh
  | cons b bs ih => rw [sum_cons]; exact ih _ (step_lt _ _)
theorem sum_app (h : Nat) (xs ys : List UInt8) : sumN h (xs ++ ys) = sumN (sumN h xs) ys := List.foldl_append
theorem sum_snoc (h : Nat) (bs : List UInt8) (k : Nat) (hk : k < bs.length) : sumN h (bs.take (k + 1)) = stepN (sumN h (bs.take k)) bs[k].toNat := by
  rw [List.take_succ_eq_append_getElem hk, sum_app, sum_one]
theorem fold_fold (h : Nat) (hh : U64 h) : foldN (foldN h) = h := by
  unfold foldN U64 at *
  have e : (h ^^^ h / 8589934592) / 8589934592 = h / 8589934592 := by
    have := Nat.shiftRight_xor_distrib (a := h) (b := h / 8589934592) (i := 33)
    rw [Nat.shiftRight_eq_div_pow, Nat.shiftRight_eq_div_pow, Nat.shiftRight_eq_div_pow] at this
    have p : (2 : Nat) ^ 33 = 8589934592 := by decide
    rw [p] at this
    rw [this, Nat.div_div_eq_div_mul, Nat.div_eq_of_lt (b := 8589934592 * 8589934592) (by omega), Nat.xor_zero]
  rw [e, Nat.xor_assoc, Nat.xor_self, Nat.xor_zero]
theorem mul_back (x a b : Nat) (hx : U64 x) (hab : a * b % 18446744073709551616 = 1) : x * a % 18446744073709551616 * b % 18446744073709551616 = x := by
  unfold U64 at hx
  rw [Nat.mod_mul_mod, Nat.mul_assoc, Nat.mul_mod, hab, Nat.mul_one, Nat.mod_mod, Nat.mod_eq_of_lt hx]
theorem unstir_stir (h : Nat) (hh : U64 h) : unstirN (stirN h) = h := by
  unfold unstirN stirN
  rw [fold_fold _ (mod_lt _), mul_back _ _ _ (fold_lt _ (mod_lt _)) (by decide), fold_fold _ (mod_lt _), mul_back _ _ _ (fold_lt _ hh) (by decide), fold_fold _ hh]
theorem stir_unstir (h : Nat) (hh : U64 h) : stirN (unstirN h) = h := by
  unfold unstirN stirN
  rw [fold_fold _ (mod_lt _), mul_back _ _ _ (fold_lt _ (mod_lt _)) (by decide), fold_fold _ (mod_lt _), mul_back _ _ _ (fold_lt _ hh) (by decide), fold_fold _ hh]
theorem stir_inj (a b : Nat) (ha : U64 a) (hb : U64 b) (h : stirN a = stirN b) : a = b := by
  rw [← unstir_stir a ha, ← unstir_stir b hb, h]
theorem xor_inj (a b c : Nat) (h : a ^^^ c = b ^^^ c) : a = b := by
  have := congrArg (· ^^^ c) h
  simpa [Nat.xor_assoc] using this
theorem xor_inj' (a b c : Nat) (h : c ^^^ a = c ^^^ b) : a = b := xor_inj a b c (by rw [Nat.xor_comm a c, Nat.xor_comm b c]; exact h)
theorem step_xor (a b : Nat) (ha : U64 a) (hb : U64 b) (h : a * 1099511628211 % 18446744073709551616 = b * 1099511628211 % 18446744073709551616) : a = b := by
  rw [← mul_back a 1099511628211 14886173955864302971 ha (by decide), ← mul_back b 1099511628211 14886173955864302971 hb (by decide), h]
theorem byte_lt (b : Nat) (h : b < 256) : U64 b := by unfold U64; omega
theorem step_inj (a b c : Nat) (ha : U64 a) (hb : U64 b) (hc : c < 256) (h : stepN a c = stepN b c) : a = b :=
  xor_inj a b c (step_xor _ _ (xor_lt a c ha (byte_lt c hc)) (xor_lt b c hb (byte_lt c hc)) h)
theorem step_inj' (a c d : Nat) (ha : U64 a) (hc : c < 256) (hd : d < 256) (h : stepN a c = stepN a d) : c = d :=
  xor_inj' c d a (step_xor _ _ (xor_lt a c ha (byte_lt c hc)) (xor_lt a d ha (byte_lt d hd)) h)
theorem sum_inj (a b : Nat) (bs : List UInt8) (ha : U64 a) (hb : U64 b) (h : sumN a bs = sumN b bs) : a = b := by
  induction bs generalizing a b with
  | nil => exact h
  | cons x bs ih => rw [sum_cons, sum_cons] at h; exact step_inj a b _ ha hb x.toNat_lt (ih _ _ (step_lt _ _) (step_lt _ _) h)
/-- One byte is another one: another sum. -/
theorem sum_other (h : Nat) (xs ys : List UInt8) (a b : UInt8) (hh : U64 h) (hab : a ≠ b) : sumN h (xs ++ a :: ys) ≠ sumN h (xs ++ b :: ys) := by
  intro e
  rw [sum_app, sum_app] at e
  rw [sum_cons, sum_cons] at e
  have := sum_inj _ _ ys (step_lt _ _) (step_lt _ _) e
  have := step_inj' _ _ _ (sum_lt h hh xs) a.toNat_lt b.toNat_lt this
  exact hab (UInt8.toNat_inj.1 this)
/-- The document's step: by 2^40, and by 435. -/
theorem low_xor (h c : Nat) (hc : c < 256) : h ^^^ c = h - h % 256 + (h % 256 ^^^ c) := by
  have hx : h % 256 ^^^ c < 2 ^ 8 := Nat.xor_lt_two_pow (by omega) (by omega)
  have e : h = 2 ^ 8 * (h / 256) + h % 256 := by have : (2 : Nat) ^ 8 = 256 := by decide
                                                 omega
  have l := Nat.two_pow_add_eq_or_of_lt (i := 8) (b := h % 256) (by omega) (h / 256)
  have l2 := Nat.two_pow_add_eq_or_of_lt (i := 8) (b := h % 256 ^^^ c) hx (h / 256)
  have z : (2 ^ 8 * (h / 256)) &&& (h % 256) = 0 := by
    apply Nat.eq_of_testBit_eq
    intro i
    rw [Nat.testBit_and, Nat.testBit_two_pow_mul]
    by_cases hi : 8 ≤ i
    · have : (h % 256).testBit i = false := Nat.testBit_lt_two_pow (Nat.lt_of_lt_of_le (show h % 256 < 2 ^ 8 by omega) (Nat.pow_le_pow_right (by decide) hi))
      simp [this]
    · simp [hi]
  have key : h ^^^ c = 2 ^ 8 * (h / 256) + (h % 256 ^^^ c) := by
    rw [l2]
    apply Nat.eq_of_testBit_eq
    intro i
    rw [Nat.testBit_or, Nat.testBit_xor, Nat.testBit_xor, Nat.testBit_two_pow_mul]
    rw [show h % 256 = h % 2 ^ 8 by rfl, Nat.testBit_mod_two_pow, show h / 256 = h / 2 ^ 8 by rfl]
    by_cases hi : 8 ≤ i
    · have hci : c.testBit i = false := Nat.testBit_lt_two_pow (Nat.lt_of_lt_of_le (show c < 2 ^ 8 by omega) (Nat.pow_le_pow_right (by decide) hi))
      rw [← Nat.shiftRight_eq_div_pow, Nat.testBit_shiftRight]
      simp [hi, hci, show ¬ i < 8 by omega, show 8 + (i - 8) = i by omega]
    · simp [hi, show i < 8 by omega]
  rw [key]
  have : (2 : Nat) ^ 8 = 256 := by decide
  omega
theorem ref_step (h c : Nat) (hc : c < 256) (x : Nat) (hx : x = h - h % 256 + (h % 256 ^^^ c)) : (x * 1099511627776 % 18446744073709551616 + x * 435 % 18446744073709551616) % 18446744073709551616 = stepN h c := by
  unfold stepN
  rw [low_xor h c hc, ← hx, ← Nat.add_mod, ← Nat.mul_add]
end Word
end Go.Proofs.Ytlecbhnopokmnaa
namespace Go.Proofs.Ytlecbhnopokmnaa
open Go.RowKit
namespace Mem
section
variable {P : Program} (w : World)
/-- Nothing is appended. -/
theorem run_app_none (base : Nat) (t ty e : TypeId) (i : TypeInfo) (ht : P.underlying t = some (.slice e)) (hi : P.info? e = some i)
    (v : Value) (n : Nat) (xs : List Value) (hown : w.ownsRow base e 1 v n xs) (A : Option Addr) (c : Nat) : (Builtin.append_ #[t, t] ty #[v, .slice A 0 c]).run P w = .ok v w := by
  rcases hown.2 with ⟨rfl, rfl⟩ | ⟨g, cap, cur, rfl, _, _, hnc, _⟩ <;> rcases A with _ | a
  · simp [Builtin.append_, run_underlying ht, sizeOf, typeInfo, hi, Builtin.lenOf, Builtin.firstCells]
  · simp [Builtin.append_, run_underlying ht, sizeOf, typeInfo, hi, Builtin.lenOf, Builtin.firstCells, loadCells, loadCellsFrom]
  · simp [Builtin.append_, run_underlying ht, sizeOf, typeInfo, hi, Builtin.lenOf, Builtin.firstCells, hnc, storeCells]
  · simp [Builtin.append_, run_underlying ht, sizeOf, typeInfo, hi, Builtin.lenOf, Builtin.firstCells, hnc, storeCells, loadCells, loadCellsFrom]
theorem run_app (base : Nat) (t ty e : TypeId) (i : TypeInfo) (z : Value) (bytes : Nat) (ht : P.underlying t = some (.slice e)) (hi : P.info? e = some i) (hz : i.zero = some z)
    (hsize : i.size = 1) (hby : i.bytes = bytes) (hzs : z.cells.size = 1)
    (v : Value) (n : Nat) (xs : List Value) (hown : w.ownsRow base e 1 v n xs)
    (B : Nat) (A : Option Addr) (m c : Nat) (news : List Value) (hl : news.length = m) (hr : Row w B A news) (h1 : ∀ u ∈ news, u.oneCell' = true)
    (h63 : n + m ≤ maxLen) (hbytes : (n + m) * bytes ≤ 140737488355328) (hbase : base ≤ w.heap.size) :
    ∃ v' w', (Builtin.append_ #[t, t] ty #[v, .slice A m c]).run P w = .ok v' w' ∧ w'.ownsRow base e 1 v' (n + m) (xs ++ news) ∧ w.grownBy w' v.ownBlock ∧
      (v'.ownBlock = v.ownBlock ∨ v'.ownBlock = some w.heap.size) := by
  rcases Nat.eq_zero_or_pos m with h0 | h0
  · subst h0
    obtain rfl : news = [] := List.eq_nil_of_length_eq_zero hl
    exact ⟨v, w, run_app_none w base t ty e i ht hi v n xs hown A c, by simpa using hown, ⟨rfl, rfl, rfl, Nat.le_refl _, fun _ _ _ => rfl⟩, Or.inl rfl⟩
  · obtain ⟨b, o, rfl, _, hc⟩ := hr.open_ (by omega)
    have hcells : ∀ j u, news[j]? = some u → w.cell? ((⟨b, o, none⟩ : Addr).add j) = some u := by
      intro j u hu
      obtain ⟨hj, e⟩ := List.getElem?_eq_some_iff.1 hu
      have := hc j hj
      rw [← e, ← this]
      unfold Addr.add
      split
      · subst_vars; rfl
      · rfl
    obtain ⟨v', w', h2, h3, h4, _, h5⟩ := run_append_own_at (P := P) w base t ty e i z 1 bytes ht hi hz hsize hby hzs (by decide) v n xs hown ⟨b, o, none⟩ m c news (by omega) hcells h1 h63 hbytes hbase
    exact ⟨v', w', h2, h3, h4, h5⟩
theorem wpList_app {ops : Array Oper} {rest : List Oper} {o : Oper} {a : Act} {Q : Exit → Act → World → Prop} (hgd : o.guard = none) (s x : Operand) (t : TypeId)
    (ho : o.op = .call { callee := .builtin .append, args := #[s, x], argTypes := #[t, t] })
    (base : Nat) (e : TypeId) (i : TypeInfo) (z : Value) (bytes : Nat) (ht : P.underlying t = some (.slice e)) (hi : P.info? e = some i) (hz : i.zero = some z)
    (hsize : i.size = 1) (hby : i.bytes = bytes) (hzs : z.cells.size = 1)
    (v : Value) (n : Nat) (xs : List Value) (hs : a.eval s = v) (hown : w.ownsRow base e 1 v n xs)
    (B : Nat) (A : Option Addr) (m c : Nat) (news : List Value) (hx : a.eval x = .slice A m c) (hl : news.length = m) (hr : Row w B A news) (h1 : ∀ u ∈ news, u.oneCell' = true)
    (h63 : n + m ≤ maxLen) (hbytes : (n + m) * bytes ≤ 140737488355328) (hbase : base ≤ w.heap.size)
    (h : ∀ v' w', w'.ownsRow base e 1 v' (n + m) (xs ++ news) → w.grownBy w' v.ownBlock → (v'.ownBlock = v.ownBlock ∨ v'.ownBlock = some w.heap.size) → wpList P ops Q rest (a.put o.dst v') w') :
    wpList P ops Q (o :: rest) a w := by
  refine wpList_plain hgd fun K hK => ?_
  obtain ⟨v', w', hrun, h2, h3, h4⟩ := run_app (P := P) w base t o.type e i z bytes ht hi hz hsize hby hzs v n xs hown B A m c news hl hr h1 h63 hbytes hbase
  unfold Oper.wp execOp
  simp only [ho, resolve, invoke, builtin, Sem.run_bind, Sem.run_pure, Result.andThen_ok, List.map_toArray, List.map_cons, List.map_nil, hs, hx, hrun]
  exact hK _ _ (h v' w' h2 h3 h4)
theorem step_app {ops : Array Oper} {o : Oper} {a : Act} {K : Act → World → Prop} {Q : Exit → Act → World → Prop} {E : Prop} (hgd : o.guard = none) (s x : Operand) (t : TypeId)
    (ho : o.op = .call { callee := .builtin .append, args := #[s, x], argTypes := #[t, t] })
    (base : Nat) (e : TypeId) (i : TypeInfo) (z : Value) (bytes : Nat) (ht : P.underlying t = some (.slice e)) (hi : P.info? e = some i) (hz : i.zero = some z)
    (hsize : i.size = 1) (hby : i.bytes = bytes) (hzs : z.cells.size = 1)
    (v : Value) (n : Nat) (xs : List Value) (hs : a.eval s = v) (hown : w.ownsRow base e 1 v n xs)
    (B : Nat) (A : Option Addr) (m c : Nat) (news : List Value) (hx : a.eval x = .slice A m c) (hl : news.length = m) (hr : Row w B A news) (h1 : ∀ u ∈ news, u.oneCell' = true)
    (h63 : n + m ≤ maxLen) (hbytes : (n + m) * bytes ≤ 140737488355328) (hbase : base ≤ w.heap.size)
    (h : ∀ v' w', w'.ownsRow base e 1 v' (n + m) (xs ++ news) → w.grownBy w' v.ownBlock → (v'.ownBlock = v.ownBlock ∨ v'.ownBlock = some w.heap.size) → K (a.put o.dst v') w') :
    if Region.wanted o (yielded ops a.tmps) = true then Oper.wp P o a w K Q else E := by
  have hw : Region.wanted o (yielded ops a.tmps) = true := by simp [Region.wanted, hgd]
  rw [if_pos hw]
  obtain ⟨v', w', hrun, h2, h3, h4⟩ := run_app (P := P) w base t o.type e i z bytes ht hi hz hsize hby hzs v n xs hown B A m c news hl hr h1 h63 hbytes hbase
  unfold Oper.wp execOp
  simp only [ho, resolve, invoke, builtin, Sem.run_bind, Sem.run_pure, Result.andThen_ok, List.map_toArray, List.map_cons, List.map_nil, hs, hx, hrun]
  exact h v' w' h2 h3 h4
end
theorem byte_one (bs : List UInt8) : ∀ u ∈ bs.map byteV, u.oneCell' = true := by
  intro u hu
  obtain ⟨b, _, rfl⟩ := List.mem_map.1 hu
  rfl
/-- A block of the call's own, all its cells known, none frozen. -/
def Blk (w : World) (g : Nat) (t : TypeId) (cs : Array Value) : Prop := w.heap[g]? = some (.cells cs t (0, 0))
section
variable {w w' : World} {g : Nat} {t : TypeId} {cs : Array Value}
theorem Blk.lt (h : Blk w g t cs) : g < w.heap.size := (Array.getElem?_eq_some_iff.1 h).1
theorem Blk.cell (h : Blk w g t cs) (i : Nat) : w.cell? ⟨g, i, none⟩ = cs[i]? := cell_of_row w g i cs t (0, 0) h
theorem Blk.frozen (h : Blk w g t cs) (i : Nat) : w.frozen? ⟨g, i, none⟩ = false := by
  unfold Blk at h; simp [World.frozen?, h]
theorem Blk.new (w : World) (t : TypeId) (cs : Array Value) : Blk (w.alloc (.cells cs t)) w.heap.size t cs := heap_alloc_new w _
theorem Blk.drew (h : Blk w g t cs) : Blk w.drew g t cs := h
theorem Blk.drewN (h : Blk w g t cs) (n : Nat) : Blk (w.drewN n) g t cs := h
theorem Blk.alloc (h : Blk w g t cs) (o : Obj) : Blk (w.alloc o) g t cs := (Below.heap_alloc w o g h.lt).trans h
theorem Blk.set_ (h : Blk w g t cs) (i : Nat) (u : Value) : Blk (w.setCell ⟨g, i, none⟩ u) g t (cs.setIfInBounds i u) := by
  unfold Blk at h ⊢
  simp [World.setCell, Array.getElem?_modify, h]
theorem Blk.far (h : Blk w g t cs) {p : Addr} (hp : g ≠ p.block) (u : Value) : Blk (w.setCell p u) g t cs := (Below.heap_setCell w p u g hp).trans h
theorem Blk.below {B : Nat} (h : Blk w g t cs) (hb : Below B w w') (hg : g < B) : Blk w' g t cs := (hb.block g hg).trans h
theorem Blk.grown {row : Option Nat} (h : Blk w g t cs) (hb : w.grownBy w' row) (hg : some g ≠ row) : Blk w' g t cs := (hb.block g h.lt hg).trans h
theorem Blk.ne_ {g' : Nat} {t' : TypeId} {cs' : Array Value} (h : Blk w g t cs) (h' : Blk w g' t' cs') (hne : t ≠ t') : g ≠ g' := by
  rintro rfl
  unfold Blk at h h'
  rw [h] at h'
  injection h' with h'
  injection h' with _ ht
  exact hne ht
end
/-- Nothing that was there is changed but block g. -/
theorem grown_trans {w w1 w2 : World} {g : Option Nat} (h1 : w.grownBy w1 g) (h2 : w1.grownBy w2 g) : w.grownBy w2 g :=
  ⟨h2.os.trans h1.os, h2.tape.trans h1.tape, h2.output.trans h1.output, Nat.le_trans h1.size h2.size, fun k hk hne => (h2.block k (Nat.lt_of_lt_of_le hk h1.size) hne).trans (h1.block k hk hne)⟩
theorem grown_refl (w : World) (g : Option Nat) : w.grownBy w g := ⟨rfl, rfl, rfl, Nat.le_refl _, fun _ _ _ => rfl⟩
theorem grown_set (w : World) (g i : Nat) (u : Value) : w.grownBy (w.setCell ⟨g, i, none⟩ u) (some g) :=
  ⟨rfl, rfl, rfl, by simp [World.setCell], fun k _ hne => Below.heap_setCell w _ u k (fun e => hne (by rw [e]))⟩
theorem grown_below {w w' : World} {B : Nat} (h : Below B w w') (hB : w.heap.size ≤ B) (g : Option Nat) : w.grownBy w' g :=
  ⟨h.os, h.tape, h.output, h.size, fun k hk _ => h.block k (by omega)⟩
/-- Where all that was there at B's time lies below g, it is as it was. -/
theorem below_grown {w0 w w' : World} {B g : Nat} (h : Below B w0 w) (hg : w.grownBy w' (some g)) (hB : B ≤ w.heap.size) (hBg : B ≤ g) : Below B w0 w' :=
  h.grown hg hB (fun k hk => by injection hk with hk; omega)
theorem Row.grown {w w' : World} {B g : Nat} {A : Option Addr} {xs : List Value} (h : Row w B A xs) (hg : w.grownBy w' (some g)) (hB : B ≤ w.heap.size) (hBg : B ≤ g) : Row w' B A xs :=
  h.keep fun p hp => World.cell?_of_block (hg.block p.block (by omega) (fun e => by injection e with e; omega))
theorem Row.grownBy {w w' : World} {B : Nat} {row : Option Nat} {A : Option Addr} {xs : List Value} (h : Row w B A xs) (hg : w.grownBy w' row) (hB : B ≤ w.heap.size) (hr : ∀ g, row = some g → B ≤ g) : Row w' B A xs :=
  h.keep fun p hp => World.cell?_of_block (hg.block p.block (by omega) (fun e => by have := hr _ e.symm; omega))
end Mem
end Go.Proofs.Ytlecbhnopokmnaa
namespace Go.Proofs.Ytlecbhnopokmnaa
open Go.RowKit Mem
namespace Mem
def cutA (A : Option Addr) (k c : Nat) : Option Addr := if c = k then A else A.map (·.add k)
theorem add_zero' (a : Addr) : a.add 0 = a := by simp [Addr.add]
theorem cutA_zero (A : Option Addr) (c : Nat) : cutA A 0 c = A := by
  unfold cutA
  split
  · rfl
  · cases A <;> simp [add_zero']
theorem cutA_some (b o k c : Nat) (h : k < c) : cutA (some ⟨b, o, none⟩) k c = some ⟨b, o + k, none⟩ := by
  unfold cutA
  rw [if_neg (by omega)]
  show some ((⟨b, o, none⟩ : Addr).add k) = _
  unfold Addr.add
  split
  · subst_vars; rfl
  · rfl
theorem cut_row {w : World} {B : Nat} {A : Option Addr} {xs : List Value} (h : Row w B A xs) (k c : Nat) (hc : xs.length ≤ c) : Row w B (cutA A k c) (xs.drop k) := by
  rcases Nat.lt_or_ge k xs.length with hk | hk
  · obtain ⟨b, o, rfl, hb, hcell⟩ := h.open_ (by omega)
    rw [cutA_some b o k c (by omega)]
    refine Or.inr ⟨b, o + k, rfl, hb, fun j hj => ?_⟩
    rw [List.length_drop] at hj
    have := hcell (k + j) (by omega)
    rw [Nat.add_assoc, this, List.getElem_drop]
  · rw [List.drop_of_length_le hk]; exact Row.nil _ _ _
theorem take_row {w : World} {B : Nat} {A : Option Addr} {xs : List Value} (h : Row w B A xs) (k : Nat) : Row w B A (xs.take k) := by
  rcases h with h | ⟨b, o, e, hb, hc⟩
  · rw [h]; exact Or.inl (by simp)
  · refine Or.inr ⟨b, o, e, hb, fun j hj => ?_⟩
    rw [List.length_take] at hj
    rw [hc j (by omega), List.getElem_take]
section
variable {P : Program} {w : World} (t e : TypeId) (z : Value) (bytes : Nat) (ht : P.underlying t = some (.slice e)) (hinfo : (P.info? e).map (fun i => (i.zero, i.size, i.bytes)) = some (some z, 1, bytes))
include ht hinfo
theorem run_cut_l (A : Option Addr) (n c k : Nat) (h : k ≤ n) : (Instr.slice t (.slice A n c) (some (.int .i64 (k : Int))) none none).run P w = .ok (.slice (cutA A k c) (n - k) (c - k)) w := by
  obtain ⟨i, hi, hz⟩ := Option.map_eq_some_iff.1 hinfo
  simp only [Prod.mk.injEq] at hz
  obtain ⟨_, hs, _⟩ := hz
  simp [Instr.slice, run_underlying ht, Instr.sliceBounds, Instr.sliceBound, asIntOf, sizeOf, typeInfo, hi, hs, cutA, h]
theorem run_cut_h (A : Option Addr) (n c k : Nat) (h : k ≤ c) : (Instr.slice t (.slice A n c) none (some (.int .i64 (k : Int))) none).run P w = .ok (.slice A k c) w := by
  obtain ⟨i, hi, hz⟩ := Option.map_eq_some_iff.1 hinfo
  simp only [Prod.mk.injEq] at hz
  obtain ⟨_, hs, _⟩ := hz
  have hA : (if c = 0 then A else Option.map (fun x => x.add 0) A) = A := cutA_zero A c
  simp [Instr.slice, run_underlying ht, Instr.sliceBounds, Instr.sliceBound, asIntOf, sizeOf, typeInfo, hi, h]
  simpa using hA
theorem run_cut_lh (A : Option Addr) (n c k m : Nat) (h : k ≤ m) (h' : m ≤ c) : (Instr.slice t (.slice A n c) (some (.int .i64 (k : Int))) (some (.int .i64 (m : Int))) none).run P w = .ok (.slice (cutA A k c) (m - k) (c - k)) w := by
  obtain ⟨i, hi, hz⟩ := Option.map_eq_some_iff.1 hinfo
  simp only [Prod.mk.injEq] at hz
  obtain ⟨_, hs, _⟩ := hz
  simp [Instr.slice, run_underlying ht, Instr.sliceBounds, Instr.sliceBound, asIntOf, sizeOf, typeInfo, hi, hs, cutA, h, h']
end
end Mem
theorem same_any (B B' c c' n n' : Nat) (A A' : Option Addr) (xs ys : List UInt8) (w : World) (h : Row w B A (xs.map byteV)) (h' : Row w B' A' (ys.map byteV)) (hn : n = xs.length) (hn' : n' = ys.length) :
    Calls Try.prog 38 #[.slice A n c, .slice A' n' c'] w fun e w' => e = .returned (.bool (xs == ys)) ∧ w = w' := by
  subst hn; subst hn'
  have h1 := conv_row (P := Try.prog) c 43 9 5 Try.underlying43 Try.underlying5 Try.underlying9 h
  have h2 := conv_row (P := Try.prog) c' 43 9 5 Try.underlying43 Try.underlying5 Try.underlying9 h'
  clear h h'
  go_enter Try.func38, Try.ntmps38
  go_wp2
  go_ret
  exact ⟨rfl, rfl⟩
end Go.Proofs.Ytlecbhnopokmnaa
namespace Go.Proofs.Ytlecbhnopokmnaa
open Go.RowKit Mem
set_option maxRecDepth 10000
set_option maxHeartbeats 1000000
theorem info_b : (Try.prog.info? 5).map (fun i => (i.zero, i.size, i.bytes)) = some (some (.int .u8 0), 1, 1) := by kernel_rfl
/-- A new slice of these bytes; all that was there below B is as it was. -/
def Made (B : Nat) (bs : List UInt8) (w : World) (e : Ending) (w' : World) : Prop := ∃ A c, e = .returned (.slice A bs.length c) ∧ w'.ownsRow B 5 1 (.slice A bs.length c) bs.length (bs.map byteV) ∧ Below B w w'
theorem own_cap {w : World} {B : Nat} {e : TypeId} {A : Option Addr} {n m c : Nat} {xs : List Value} (h : w.ownsRow B e 1 (.slice A m c) n xs) : m ≤ c ∧ c ≤ maxLen := by
  rcases h.2 with ⟨hv, hn⟩ | ⟨g, cap, cur, hv, _, _, hc, hm, _⟩
  · injection hv with _ h1 h2
    subst h1; subst h2
    exact ⟨Nat.le_refl _, by unfold maxLen; omega⟩
  · injection hv with _ h1 h2
    subst h1; subst h2
    exact ⟨hc, hm⟩
theorem made_of {B : Nat} {bs : List UInt8} {n : Nat} {w w1 : World} {v : Value} {xs : List Value} (ho : w1.ownsRow B 5 1 v n xs) (hx : xs = bs.map byteV) (hb : Below B w w1) : Made B bs w (.returned v) w1 := by
  have hn : n = bs.length := by have := ho.1; rw [hx] at this; simp at this; exact this.symm
  subst hn; subst hx
  rcases ho.2 with ⟨rfl, hn⟩ | ⟨g, cap, cur, rfl, _⟩
  · rw [hn] at ho
    refine ⟨none, 0, by rw [hn], ?_, hb⟩
    rw [hn]; exact ho
  · exact ⟨_, cap, rfl, ho, hb⟩
theorem empty_own (w : World) : (w.alloc (.cells #[] 5)).ownsRow w.heap.size 5 1 (.slice (some ⟨w.heap.size, 0, none⟩) 0 0) 0 [] :=
  World.ownsRow_made w #[] 0 (Nat.le_refl _) (by unfold maxLen; omega) rfl
theorem eql_nil (A : Option Addr) (n c : Nat) (W : World) : (binOp .eql 43 (.slice A n c) (.slice none 0 0)).run Try.prog W = .ok (.bool A.isNone) W :=
  Lib.run_eql_slice_nil W 43 5 A n c 0 0 Try.underlying43
theorem clone_any (B c : Nat) (A : Option Addr) (bs : List UInt8) (n : Nat) (hn : n = bs.length) (w : World) (h : Row w B A (bs.map byteV)) (hB : B ≤ w.heap.size) (hl : bs.length ≤ 140737488355328) :
    Calls Try.prog 32 #[.slice A n c] w (Made w.heap.size bs w) := by
  subst hn
  obtain ⟨i0, hi0, hz0, hz1, hz2⟩ := info_parts info_b
  rcases A with _ | a
  · have hb : bs = [] := by
      rcases h with h | ⟨b, o, e, _⟩
      · simpa using h
      · cases e
    subst hb
    clear h
    have he := eql_nil none 0 c
    go_enter Try.func32, Try.ntmps32
    go_wp2
    go_ret
    exact ⟨none, 0, rfl, World.ownsRow_nil _ _ _ _, Below.refl _ _⟩
  · have HR := Lib.hid (h.alloc hB (.cells #[] 5))
    have HO := Lib.hid (empty_own w)
    clear h
    have he := eql_nil (some a) bs.length c
    go_enter Try.func32, Try.ntmps32
    go_wp2_with (at_builtin; refine wpList_app _ rfl _ _ 43 rfl w.heap.size 5 i0 (.int .u8 0) 1 Try.underlying43 hi0 hz0 hz1 hz2 rfl _ 0 [] rfl HO.out B _ bs.length c (bs.map byteV) rfl (by simp) HR.out (byte_one bs) (by unfold maxLen; omega) (by omega) (by simp) ?_)
    intro v' w1 hown hg _
    have HW := Lib.hid hown
    have HB : Hid (Below w.heap.size w w1) := Lib.hid (((Below.refl _ _).alloc (Nat.le_refl _) _).grown hg (by simp) (fun g hg => by simp [Value.ownBlock] at hg; omega))
    clear hown hg
    go_wp2
    go_ret
    exact made_of HW.out (by simp) HB.out
end Go.Proofs.Ytlecbhnopokmnaa
namespace Go.Proofs.Ytlecbhnopokmnaa
open Go.RowKit Go.ChangeShapes Go.Deep Go.WideShapes
namespace Mem
theorem list_of {α : Type} {f : α → Value} {Q : α → Prop} : ∀ vs : List Value, (∀ v ∈ vs, ∃ x, v = f x ∧ Q x) → ∃ xs : List α, vs = xs.map f ∧ ∀ x ∈ xs, Q x
  | [], _ => ⟨[], rfl, by simp⟩
  | v :: vs, h => by
    obtain ⟨x, rfl, hx⟩ := h v (by simp)
    obtain ⟨xs, rfl, hxs⟩ := list_of vs (fun u hu => h u (by simp [hu]))
    exact ⟨x :: xs, rfl, by simpa using ⟨hx, hxs⟩⟩
section
variable {H : Type} {enc : TypeId × Value → H} {P : Program} {w : World} {base : Nat} {held : Bool}
/-- A slice of one-cell elements that came in: its cells, each of which reads as the element's type. -/
theorem open_row1 {t e : TypeId} {fuel : Nat} {a : Option Addr} {len cap : Nat} {x : DataW H × List MemPlace} (ht : P.underlying t = some (.slice e)) (hc : P.cellsOf e = 1)
    (h : DataW.trod enc P w base (fun _ => true) held fuel t [.slice a len cap] = some x) :
    ∃ vs : List Value, len = vs.length ∧ Row w w.heap.size a vs ∧ len ≤ cap ∧ cap ≤ maxLen ∧ ∀ v ∈ vs, ∃ n y, DataW.trod enc P w base (fun _ => true) held n e [v] = some y := by
  rcases open_slice1 ht hc h with ⟨hcs, _⟩ | ⟨x, l, c, m, n, V, D, Pl, hcs, _, hl, hm, hmm, _, hx⟩
  · simp only [List.cons.injEq, and_true] at hcs
    injection hcs with h1 h2 h3
    subst h1; subst h2; subst h3
    exact ⟨[], rfl, Row.nil _ _ _, Nat.le_refl _, by unfold maxLen; omega, by simp⟩
  · simp only [List.cons.injEq, and_true] at hcs
    injection hcs with h1 h2 h3
    subst h1; subst h2; subst h3
    simp only [if_true] at hmm
    subst hmm
    refine ⟨(List.range len).map V, by simp, ?_, hl, hm, ?_⟩
    · rcases Nat.eq_zero_or_pos len with h0 | h0
      · subst h0; exact Or.inl rfl
      · have hc0 := (hx 0 (by omega)).1
        obtain ⟨b, o, spot⟩ := x
        have hspot : spot = none := by simpa [Addr.add] using World.cell?_spot hc0
        subst hspot
        refine Or.inr ⟨b, o, rfl, ?_, fun j hj => ?_⟩
        · have := block_lt hc0
          simpa [Addr.add] using this
        · simp only [List.length_map, List.length_range] at hj
          have := (hx j (by omega)).1
          have e : (⟨b, o, none⟩ : Addr).add j = ⟨b, o + j, none⟩ := by
            unfold Addr.add; split
            · subst_vars; rfl
            · rfl
          rw [e] at this
          rw [this, List.getElem_map, List.getElem_range]
    · intro v hv
      obtain ⟨j, hj, rfl⟩ := List.mem_map.1 hv
      have hj' := List.mem_range.1 hj
      exact ⟨n, _, (hx j (by omega)).2⟩
theorem open_bools {t e : TypeId} {a : Option Addr} {len cap : Nat} {d : DataW H} {ps : List MemPlace} (ht : P.underlying t = some (.slice e)) (he : P.underlying e = some .bool) (hc : P.cellsOf e = 1)
    (h : DataW.Trod enc P w base (fun _ => true) held t (.slice a len cap) d ps) :
    ∃ bs : List Bool, len = bs.length ∧ Row w w.heap.size a (bs.map Value.bool) ∧ len ≤ cap ∧ cap ≤ maxLen := by
  obtain ⟨fuel, hf⟩ := h
  obtain ⟨vs, hl, hr, h1, h2, hv⟩ := open_row1 ht hc (by simpa [Value.cells] using hf)
  obtain ⟨bs, rfl, _⟩ := list_of (f := Value.bool) (Q := fun _ => True) vs (fun v hvm => by
    obtain ⟨n, y, hy⟩ := hv v hvm
    obtain ⟨b, hb, _⟩ := DataW.trod_bool he hy
    exact ⟨b, by simpa using hb, trivial⟩)
  exact ⟨bs, by simpa using hl, hr, h1, h2⟩
/-- A row of bytes as one value: where, which, with how much room. -/
abbrev RowV := Option Addr × List UInt8 × Nat
def rowV (r : RowV) : Value := .slice r.1 r.2.1.length r.2.2
def RowOk (w : World) (B : Nat) (r : RowV) : Prop := Row w B r.1 (r.2.1.map byteV) ∧ r.2.1.length ≤ r.2.2 ∧ r.2.2 ≤ maxLen
theorem open_bytes1 {t e : TypeId} {fuel : Nat} {v : Value} {x : DataW H × List MemPlace} (ht : P.underlying t = some (.slice e)) (he : P.underlying e = some (.int .u8)) (hc : P.cellsOf e = 1)
    (h : DataW.trod enc P w base (fun _ => true) held fuel t [v] = some x) : ∃ r : RowV, v = rowV r ∧ RowOk w w.heap.size r := by
  have hsh : ∃ a len cap, v = .slice a len cap := by
    rcases DataW.trod_slice ht h with ⟨hcs, _⟩ | ⟨a, len, cap, _, _, _, _, hcs, _⟩
    · exact ⟨none, 0, 0, by simpa using hcs⟩
    · exact ⟨some a, len, cap, by simpa using hcs⟩
  obtain ⟨a, len, cap, rfl⟩ := hsh
  obtain ⟨vs, hl, hr, h1, h2, hv⟩ := open_row1 ht hc h
  obtain ⟨zs, rfl, hz⟩ := list_of (f := Value.int .u8) (Q := fun z => (Lit.int .u8 z).wf = true) vs (fun v hvm => by
    obtain ⟨n, y, hy⟩ := hv v hvm
    obtain ⟨b, hb, _, hw⟩ := DataW.trod_int he hy
    exact ⟨b, by simpa using hb, hw⟩)
  have e8 : (zs.map fun n => UInt8.ofNat n.toNat).map byteV = zs.map (Value.int .u8) := by
    rw [List.map_map]
    apply List.map_congr_left
    intro n hn
    have := bounds_u8 (hz n hn)
    show Value.int .u8 ((UInt8.ofNat n.toNat).toNat : Int) = _
    congr 1
    rw [UInt8.toNat_ofNat']
    omega
  refine ⟨(a, zs.map fun n => UInt8.ofNat n.toNat, cap), ?_, ?_, ?_, h2⟩
  · unfold rowV; simp only [List.length_map]; rw [hl]; simp
  · show Row w w.heap.size a _; rw [e8]; exact hr
  · simp only [List.length_map]; simp at hl; omega
theorem open_rows {t e q : TypeId} {a : Option Addr} {len cap : Nat} {d : DataW H} {ps : List MemPlace} (ht : P.underlying t = some (.slice e)) (he : P.underlying e = some (.slice q)) (hq : P.underlying q = some (.int .u8)) (ce : P.cellsOf e = 1) (cq : P.cellsOf q = 1)
    (h : DataW.Trod enc P w base (fun _ => true) held t (.slice a len cap) d ps) :
    ∃ rs : List RowV, len = rs.length ∧ Row w w.heap.size a (rs.map rowV) ∧ len ≤ cap ∧ cap ≤ maxLen ∧ ∀ r ∈ rs, RowOk w w.heap.size r := by
  obtain ⟨fuel, hf⟩ := h
  obtain ⟨vs, hl, hr, h1, h2, hv⟩ := open_row1 ht ce (by simpa [Value.cells] using hf)
  obtain ⟨rs, rfl, hrs⟩ := list_of (f := rowV) (Q := RowOk w w.heap.size) vs (fun v hvm => by
    obtain ⟨n, y, hy⟩ := hv v hvm
    exact open_bytes1 he hq cq hy)
  exact ⟨rs, by simpa using hl, hr, h1, h2, hrs⟩
end
theorem RowOk.below {w w' : World} {B : Nat} {r : RowV} (h : RowOk w B r) (hb : Below B w w') : RowOk w' B r := ⟨h.1.below hb, h.2⟩
end Mem
end Go.Proofs.Ytlecbhnopokmnaa
namespace Go.Proofs.Ytlecbhnopokmnaa
open Go.RowKit Mem
set_option maxRecDepth 10000
set_option maxHeartbeats 2000000
/-- The bytes of a string. -/
def kb (s : ByteArray) : List UInt8 := s.data.toList
theorem kb_len (s : ByteArray) : (kb s).length = s.size := by unfold kb; rw [Array.length_toList]; rfl
theorem kb_mk (xs : List UInt8) : kb ⟨xs.toArray⟩ = xs := by simp [kb]
theorem kb_inj {a b : ByteArray} (h : kb a = kb b) : a = b := by
  obtain ⟨⟨x⟩⟩ := a
  obtain ⟨⟨y⟩⟩ := b
  simp [kb] at h
  rw [h]
theorem bytes_row_new (w : World) (e : TypeId) (s : ByteArray) : Row (Lib.bytesWorld w e s) (w.heap.size + 1) (some ⟨w.heap.size, 0, none⟩) ((kb s).map byteV) := by
  refine Or.inr ⟨w.heap.size, 0, rfl, by omega, fun j hj => ?_⟩
  have hj' : j < s.size := by rw [List.length_map, kb_len] at hj; exact hj
  have hj2 : j < (kb s).length := by rw [kb_len]; exact hj'
  rw [Nat.zero_add, Lib.bytesWorld_cell w e s j hj', List.getElem_map]
  have : s.data.toList.getD j 0 = (kb s)[j] := by
    show (kb s).getD j 0 = _
    rw [List.getD_eq_getElem?_getD, List.getElem?_eq_getElem hj2]; rfl
  rw [this]; rfl
theorem bytes_below (w : World) (e : TypeId) (s : ByteArray) : Below w.heap.size w (Lib.bytesWorld w e s) := by
  refine ⟨?_, ?_, ?_, by rw [Lib.bytesWorld_size]; omega, fun k hk => Lib.bytesWorld_at_old w e s k hk⟩
  all_goals (simp [Lib.bytesWorld, World.freeze, World.alloc, World.drew, -World.alloc_eq, -World.drew_eq])
theorem wpList_conv {P : Program} (w : World) {ops : Array Oper} {rest : List Oper} {o : Oper} {a : Act} {Q : Exit → Act → World → Prop} (hgd : o.guard = none) (x : Operand) (src dst e : TypeId)
    (ho : o.op = .convert src dst x) (s : ByteArray) (hx : a.eval x = .string s) (hs : P.underlying src = some .string) (hd : P.underlying dst = some (.slice e)) (he : P.underlying e = some (.int .u8))
    (h : ∀ A c w', Row w' w'.heap.size A ((kb s).map byteV) → Below w.heap.size w w' → s.size ≤ c → wpList P ops Q rest (a.put o.dst (.slice A s.size c)) w') : wpList P ops Q (o :: rest) a w := by
  refine wpList_plain hgd fun K hK => ?_
  unfold Oper.wp execOp
  have hr := Lib.run_convert_string_bytes w src dst e s hs hd he
  simp only [ho, hx, Sem.run_bind, hr, Result.andThen_ok, Sem.run_pure]
  refine hK _ _ (h _ _ _ ?_ (bytes_below w e s) (grownCap_ge w s.size 0 e))
  rw [Lib.bytesWorld_size]
  exact bytes_row_new w e s
def catB (rs : List RowV) : List UInt8 := rs.flatMap (fun r => r.2.1)
theorem catB_snoc (rs : List RowV) (k : Nat) (h : k < rs.length) : catB (rs.take (k + 1)) = catB (rs.take k) ++ rs[k].2.1 := by
  unfold catB; rw [List.take_succ_eq_append_getElem h, List.flatMap_append]; simp
theorem catB_le (rs : List RowV) (k : Nat) : (catB (rs.take k)).length ≤ (catB rs).length := by
  have : catB rs = catB (rs.take k) ++ catB (rs.drop k) := by unfold catB; rw [← List.flatMap_append, List.take_append_drop]
  rw [this, List.length_append]; omega
theorem own_later {w w' : World} {B n : Nat} {e : TypeId} {v : Value} {xs : List Value} (h : w.ownsRow B e 1 v n xs) (hb : Below w.heap.size w w') : w'.ownsRow B e 1 v n xs :=
  h.kept (grown_below hb (Nat.le_refl _) none) (Classical.em _)
/-- Rows that lie in a world, one more with each call. -/
def Rows_ (w : World) (rs : List RowV) : Prop := ∀ r ∈ rs, Row w w.heap.size r.1 (r.2.1.map byteV)
theorem rows_nil (w : World) : Rows_ w [] := fun r h => by cases h
theorem rows_below {w w' : World} {rs : List RowV} (h : Rows_ w rs) (hb : Below w.heap.size w w') : Rows_ w' rs := fun r hr => ((h r hr).below hb).more hb.size
theorem rows_add {w w' : World} {rs : List RowV} {B : Nat} {A : Option Addr} {xs : List UInt8} {c : Nat} (h : Rows_ w rs) (hb : Below w.heap.size w w') (ho : w'.ownsRow B 5 1 (.slice A xs.length c) xs.length (xs.map byteV)) : Rows_ w' (rs ++ [(A, xs, c)]) := fun r hr => by
  rcases List.mem_append.1 hr with hr | hr
  · exact rows_below h hb r hr
  · have : r = (A, xs, c) := by simpa using hr
    subst this
    exact Row.of_own ho
theorem rows_alloc {w : World} {rs : List RowV} (h : Rows_ w rs) (o : Obj) : Rows_ (w.alloc o) rs := rows_below h ((Below.refl _ _).alloc (Nat.le_refl _) _)
theorem row_cells {w : World} {t : TypeId} {cs : Array Value} {xs : List Value} (h : cs.toList = xs) : Row (w.alloc (.cells cs t)) (w.heap.size + 1) (some ⟨w.heap.size, 0, none⟩) xs := by
  refine Or.inr ⟨w.heap.size, 0, rfl, by omega, fun j hj => ?_⟩
  have := cell_of_row (w.alloc (.cells cs t)) w.heap.size j cs t (0, 0) (heap_alloc_new w _)
  rw [Nat.zero_add, this]
  subst h
  simp
theorem rows_perm {w : World} {rs rs' : List RowV} (h : Rows_ w rs) (hs : ∀ r ∈ rs', r ∈ rs) : Rows_ w rs' := fun r hr => h r (hs r hr)
theorem rows_none {w : World} {rs : List RowV} (h : Rows_ w rs) : Rows_ w (rs ++ [(none, [], 0)]) := fun r hr => by
  rcases List.mem_append.1 hr with hr | hr
  · exact h r hr
  · have : r = (none, [], 0) := by simpa using hr
    subst this
    exact Row.nil _ _ _
end Go.Proofs.Ytlecbhnopokmnaa
namespace Go.Proofs.Ytlecbhnopokmnaa
open Go.RowKit Mem
/-- A later world: what was there is as it was. -/
structure Later (w : World) where
  world : World
  bel : Below w.heap.size w world
theorem wp_region_later {P : Program} {id : Nat} {Q : Exit → Act → World → Prop} {a : Act} {w : World} {l : List Oper} (hm : P.follows .mixedOrders = true) (hB : Region.lexB .any l.toArray = true)
    (h : wpQuiet P l.toArray (fun w' => ∃ p : Later w, w' = p.world) (fun a' => ∀ w', (∃ p : Later w, w' = p.world) → Q .normal a' w') l a) : (Code.region id l.toArray true).wp P Q a w :=
  wp_region_quiet (C := fun w' => ∃ p : Later w, w' = p.world) hm hB ⟨⟨w.drew, (Below.refl _ _).drew⟩, rfl⟩ (by simpa using h)
theorem later_cell {w : World} {b o : Nat} {v : Value} (h : w.cell? ⟨b, o, none⟩ = some v) : ∀ p : Later w, p.world.cell? ⟨b, o, none⟩ = some v := fun p =>
  (p.bel.cell (p := ⟨b, o, none⟩) (block_lt h)).trans h
theorem later_blk {w : World} {g : Nat} {t : TypeId} {cs : Array Value} (h : Blk w g t cs) (p : Later w) : Blk p.world g t cs := h.below p.bel h.lt
theorem later_blk_cell {w : World} {g : Nat} {t : TypeId} {cs : Array Value} (h : Blk w g t cs) (i : Nat) (v : Value) (hi : cs[i]? = some v) : ∀ p : Later w, p.world.cell? ⟨g, i, none⟩ = some v := fun p =>
  ((later_blk h p).cell i).trans hi
theorem later_row {w : World} {B : Nat} {A : Option Addr} {xs : List Value} (h : Row w B A xs) (hB : B ≤ w.heap.size) (p : Later w) : Row p.world B A xs := h.below (p.bel.mono hB)
theorem later_of {P : Program} {f : FuncId} {args : Array Value} {w : World} {p : Later w} {v : Value}
    (h : Calls P f args p.world fun e w' => e = .returned v ∧ Below p.world.heap.size p.world w') : Calls P f args p.world fun e w'' => e = .returned v ∧ ∃ q : Later w, w'' = q.world :=
  h.mono fun _ _ ⟨he, hb⟩ => ⟨he, ⟨_, p.bel.trans (hb.mono p.bel.size)⟩, rfl⟩
theorem later_same {P : Program} {f : FuncId} {args : Array Value} {w : World} {p : Later w} {v : Value}
    (h : Calls P f args p.world fun e w' => e = .returned v ∧ p.world = w') : Calls P f args p.world fun e w'' => e = .returned v ∧ ∃ q : Later w, w'' = q.world :=
  h.mono fun _ _ ⟨he, hb⟩ => ⟨he, p, hb.symm⟩
theorem later_quiet {P : Program} {f : FuncId} {args : Array Value} {w : World} {p : Later w} {v : Value}
    (h : Calls P f args p.world fun e w' => e = .returned v ∧ ∃ n, w' = p.world.drewN n) : Calls P f args p.world fun e w'' => e = .returned v ∧ ∃ q : Later w, w'' = q.world :=
  h.mono fun _ _ ⟨he, n, hb⟩ => ⟨he, ⟨p.world.drewN n, p.bel.trans ⟨rfl, rfl, rfl, Nat.le_refl _, fun _ _ => rfl⟩⟩, hb⟩
theorem bcell {W w1 : World} (hb : Below W.heap.size W w1) : (∀ b o, b < W.heap.size → w1.cell? ⟨b, o, none⟩ = W.cell? ⟨b, o, none⟩) ∧ (∀ b o, b < W.heap.size → w1.frozen? ⟨b, o, none⟩ = W.frozen? ⟨b, o, none⟩) :=
  ⟨fun b o h => hb.cell (p := ⟨b, o, none⟩) h, fun b o h => hb.frozen (p := ⟨b, o, none⟩) h⟩
theorem below_set {w w' : World} {B g : Nat} (h : Below B w w') (hg : B ≤ g) (i : Nat) (u : Value) : Below B w (w'.setCell ⟨g, i, none⟩ u) := h.setCell (p := ⟨g, i, none⟩) hg u
theorem below_after1 {w w2 : World} {o1 : Obj} (hb : Below (w.alloc o1).heap.size (w.alloc o1) w2) : Below w.heap.size w w2 :=
  ((Below.refl _ _).alloc (Nat.le_refl _) _).trans (hb.mono (by simp))
theorem below_after2 {w w2 : World} {o1 o2 : Obj} (hb : Below ((w.alloc o1).alloc o2).heap.size ((w.alloc o1).alloc o2) w2) : Below w.heap.size w w2 := below_after1 (below_after1 hb)
theorem below_after3 {w w2 : World} {o1 o2 o3 : Obj} (hb : Below (((w.alloc o1).alloc o2).alloc o3).heap.size (((w.alloc o1).alloc o2).alloc o3) w2) : Below w.heap.size w w2 := below_after2 (below_after1 hb)
end Go.Proofs.Ytlecbhnopokmnaa
namespace Go.Proofs.Ytlecbhnopokmnaa
open Go.RowKit Mem
theorem ownBase {w : World} {B B' s : Nat} {e : TypeId} {v : Value} {n : Nat} {xs : List Value} (h : w.ownsRow B e s v n xs) (hB : B' ≤ B) : w.ownsRow B' e s v n xs := by
  obtain ⟨h1, h2⟩ := h
  refine ⟨h1, ?_⟩
  rcases h2 with h2 | ⟨g, cap, cur, hv, hg, r⟩
  · exact Or.inl h2
  · exact Or.inr ⟨g, cap, cur, hv, by omega, r⟩
theorem ownLater {w w' : World} {B s n : Nat} {e : TypeId} {v : Value} {xs : List Value} (h : w.ownsRow B e s v n xs) (hb : Below w.heap.size w w') : w'.ownsRow B e s v n xs :=
  h.kept (grown_below hb (Nat.le_refl _) none) (Classical.em _)
theorem ownRow {w : World} {base s : Nat} {e : TypeId} {A : Option Addr} {n c : Nat} {xs : List Value} (h : w.ownsRow base e s (.slice A n c) n xs) : Row w w.heap.size A xs := by
  have hl := h.1
  rcases h.2 with ⟨_, hn⟩ | ⟨g, cap, cur, hv, _, hh, _⟩
  · refine Or.inl (List.eq_nil_of_length_eq_zero ?_)
    rw [hl, hn, Nat.zero_mul]
  · have hA : A = some ⟨g, 0, none⟩ := by injection hv
    subst hA
    refine Or.inr ⟨g, 0, rfl, ?_, fun j hj => ?_⟩
    · rcases Nat.lt_or_ge g w.heap.size with hlt | hge
      · exact hlt
      · rw [Array.getElem?_eq_none hge] at hh; cases hh
    · have hcap : Value.slice (some ⟨g, 0, none⟩) n c = Value.slice (some ⟨g, 0, none⟩) n cap := hv
      rw [hcap] at h
      have := h.cellAt j (by omega)
      rw [Nat.zero_add, this, List.getElem?_eq_getElem hj]
theorem ownShape {w : World} {base s : Nat} {e : TypeId} {v : Value} {n : Nat} {xs : List Value} (h : w.ownsRow base e s v n xs) : ∃ A c, v = .slice A n c ∧ n ≤ c ∧ c ≤ maxLen := by
  rcases h.2 with ⟨rfl, rfl⟩ | ⟨g, cap, cur, rfl, hb, hh, hc, hm, _⟩
  · exact ⟨none, 0, rfl, Nat.le_refl _, by unfold maxLen; omega⟩
  · exact ⟨_, cap, rfl, hc, hm⟩
end Go.Proofs.Ytlecbhnopokmnaa
namespace Go.Proofs.Ytlecbhnopokmnaa
open Go.RowKit Mem
set_option maxRecDepth 10000
set_option maxHeartbeats 2000000
end Go.Proofs.Ytlecbhnopokmnaa
namespace Go.Proofs.Ytlecbhnopokmnaa
open Go.RowKit Mem
set_option maxRecDepth 100000
set_option maxHeartbeats 8000000
set_option linter.unusedVariables false
end Go.Proofs.Ytlecbhnopokmnaa
