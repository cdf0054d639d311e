/- Step: The step by a byte, and what a word is stirred, the program's and the document's: one contract each.
   SumW: Sums of bytes, the program's (of rows) and the document's (of one row): one contract each.
   WordB: The eight bytes of a number, the greatest first, by the program and by the document: one contract each.
   Keys4: Keys, points, checks and buckets, by the program and by the document: one contract each.
   Known4: Checks and buckets, by the program and by the document; what layer 4's examples fix is true. -/
import Derived.Test.YtkdpfjenjcpcfaaGreatDoorCore
import Derived.Test.YtkdpfjenjcpcfaaGreatDoorRows
import Derived.IntWalk
import Derived.Deep.LoopGhost
import Derived.Deep.OwnRows
import Derived.Lib.Small
import Derived.Lib.Strings
import Derived.Lib.Slices
import Derived.Lib.Walk
import Derived.Lib.SlBytesConst
namespace Go.Proofs.YtkdpfjenjcpcfaaGreatDoor
open Go.RowKit Mem Be Word
set_option maxRecDepth 10000
set_option maxHeartbeats 1000000
theorem ret_int {k : IntKind} {a b : Int} (h : a = b) : Ending.returned (.int k a) = .returned (.int k b) := by rw [h]
theorem wrap_nat (n : Nat) : IntKind.u64.wrap (n : Int) = ((n % 18446744073709551616 : Nat) : Int) := by
  rw [IntKind.wrap_u64, Int.natCast_emod]; rfl
theorem step_any (h c : Nat) (w : World) (hh : U64 h) (hc : c ≤ 255) :
    Calls Tryz.prog 212 #[.int .u64 (h : Int), .int .u8 (c : Int)] w fun e w' => e = .returned (.int .u64 (stepN h c : Int)) ∧ w = w' := by
  have hx := bits_xor_u64_nat h c hh (by omega)
  obtain ⟨x, hxe⟩ : ∃ x : Nat, h ^^^ c = x := ⟨_, rfl⟩
  rw [hxe] at hx
  have hm : IntKind.u64.wrap ((x : Int) * 1099511628211) = (stepN h c : Int) := by
    have := wrap_nat (x * 1099511628211)
    unfold stepN
    rw [hxe, ← this]
    exact congrArg _ (Int.natCast_mul x 1099511628211).symm
  have hw : IntKind.u64.wrap (c : Int) = (c : Int) := by rw [IntKind.wrap_u64]; omega
  obtain ⟨y, hy⟩ : ∃ y : Nat, stepN h c = y := ⟨_, rfl⟩
  rw [hy] at hm ⊢
  clear hxe hy hh hc
  go_enter Tryz.func212, Tryz.ntmps212
  go_wp2
  go_ret
  exact ⟨rfl, rfl⟩
theorem mul_wrap (x y : Nat) : IntKind.u64.wrap ((x : Int) * (y : Int)) = ((x * y % 18446744073709551616 : Nat) : Int) := by
  rw [← wrap_nat, Int.natCast_mul]
theorem refstep_any (h c : Nat) (w : World) (hh : U64 h) (hc : c ≤ 255) :
    Calls Tryz.prog 181 #[.int .u64 (h : Int), .int .u8 (c : Int)] w fun e w' => e = .returned (.int .u64 (stepN h c : Int)) ∧ w = w' := by
  obtain ⟨l, hl⟩ : ∃ l, h % 256 = l := ⟨_, rfl⟩
  obtain ⟨q, hq⟩ : ∃ q, h - l = q := ⟨_, rfl⟩
  obtain ⟨y, hy⟩ : ∃ y, l ^^^ c = y := ⟨_, rfl⟩
  obtain ⟨x, hx⟩ : ∃ x, q + y = x := ⟨_, rfl⟩
  obtain ⟨z, hz⟩ : ∃ z, stepN h c = z := ⟨_, rfl⟩
  have hl2 : l < 256 := by omega
  have hy2 : y < 256 := by
    have := Nat.xor_lt_two_pow (n := 8) (x := l) (y := c) (by omega) (by omega)
    omega
  have r1 : (h : Int).tmod 256 = (l : Int) := by rw [Int.tmod_eq_emod_of_nonneg (by omega)]; omega
  have r1b : (h : Int) % 256 = (l : Int) := by omega
  have r2 : IntKind.u64.wrap ((h : Int) - (l : Int)) = (q : Int) := by rw [IntKind.wrap_u64]; unfold U64 at hh; omega
  have r3 : bits .xor .u8 (l : Int) (c : Int) = (y : Int) := by rw [← hy]; exact u8_xor_nat l c hl2 (by omega)
  have r4 : IntKind.u64.wrap ((q : Int) + (y : Int)) = (x : Int) := by rw [IntKind.wrap_u64]; unfold U64 at hh; omega
  have e := ref_step h c (by omega) x (by rw [hl, hq, hy, hx])
  obtain ⟨s, hs⟩ : ∃ s, x * 1099511627776 % 18446744073709551616 = s := ⟨_, rfl⟩
  obtain ⟨t, ht⟩ : ∃ t, x * 435 % 18446744073709551616 = t := ⟨_, rfl⟩
  rw [hs, ht, hz] at e
  have r5 : IntKind.u64.wrap ((x : Int) * 1099511627776) = (s : Int) := by rw [← hs]; exact mul_wrap x 1099511627776
  have r6 : IntKind.u64.wrap ((x : Int) * 435) = (t : Int) := by rw [← ht]; exact mul_wrap x 435
  have r7 : IntKind.u64.wrap ((s : Int) + (t : Int)) = (z : Int) := by
    rw [← e, ← wrap_nat, Int.natCast_add]
  have r8 : IntKind.u64.wrap (y : Int) = (y : Int) := by rw [IntKind.wrap_u64]; omega
  have r9 : IntKind.u8.wrap (l : Int) = (l : Int) := by rw [IntKind.wrap_u8']; omega
  rw [hz]
  clear hl hq hy hx hz hs ht e hh
  go_enter Tryz.func181, Tryz.ntmps181
  go_wp2
  go_ret
  exact ⟨rfl, rfl⟩
end Go.Proofs.YtkdpfjenjcpcfaaGreatDoor
namespace Go.Proofs.YtkdpfjenjcpcfaaGreatDoor
open Go.RowKit Mem Be Word
set_option maxRecDepth 10000
set_option maxHeartbeats 1000000
theorem basis_int : (14695981039346656037 : Int) = (basisN : Int) := rfl
theorem sum_any (B c n : Nat) (A : Option Addr) (rs : List RowV) (hn : n = rs.length) (w : World) (h : Row w B A (rs.map rowV)) (hx : Rows_ w rs) (hm : ∀ r ∈ rs, r.2.1.length ≤ 9223372036854775807) (hnm : n ≤ 9223372036854775807) :
    Calls Tryz.prog 194 #[.slice A n c] w fun e w' => e = .returned (.int .u64 (sumN basisN (catB rs) : Int)) ∧ w = w' := by
  have HR := Lib.hid h
  have HX := Lib.hid hx
  have HM := Lib.hid hm
  have HN := Lib.hid hn
  clear h hx hm hn
  go_enter Tryz.func194, Tryz.ntmps194
  go_wp2
  go_step3
  go_wp2
  go_step3
  go_wp2
  go_loopg [3, 9] n (fun gk v i wr => ∃ (k h : Nat), k + gk = n ∧ i = .int .i64 k ∧ v = .int .u64 (h : Int) ∧ Hid (sumN basisN (catB (rs.take k)) = h) ∧ wr = w)
  case atStart => exact ⟨0, basisN, by omega, rfl, rfl, Lib.hid rfl, rfl⟩
  case round =>
    obtain ⟨k, h, hk, rfl, rfl, HS, rfl⟩ := hrel
    by_cases hlt : k < n
    · obtain ⟨G, rfl⟩ : ∃ G, gk = G + 1 := ⟨gk - 1, by omega⟩
      obtain ⟨b, o, rfl, hb, hc⟩ := HR.out.open_ (by rw [List.length_map, ← HN.out]; omega)
      have hkr : k < rs.length := by rw [← HN.out]; exact hlt
      have hck := hc k (by rw [List.length_map]; exact hkr)
      rw [List.getElem_map] at hck
      have hrow := HX.out rs[k] (List.getElem_mem hkr)
      have hlen := HM.out rs[k] (List.getElem_mem hkr)
      have hcat := catB_snoc rs k hkr
      obtain ⟨⟨a, bs, cp⟩, hr⟩ : ∃ r, rs[k] = r := ⟨_, rfl⟩
      rw [hr] at hck hrow hlen hcat
      unfold rowV at hck
      simp only at hck hrow hlen hcat
      have HC := Lib.hid hcat
      have HW := Lib.hid hrow
      have HU : Hid (U64 h) := Lib.hid (by rw [← HS.out]; exact sum_lt _ basis_lt _)
      clear hc hcat hrow hr hb
      go_wp2
      go_loopg [3, 6] bs.length (fun g2 v i w2 => ∃ (j h2 : Nat), j + g2 = bs.length ∧ i = .int .i64 j ∧ v = .int .u64 (h2 : Int) ∧ Hid (sumN h (bs.take j) = h2) ∧ w2 = wr)
      case atStart => exact ⟨0, h, by omega, rfl, rfl, Lib.hid rfl, rfl⟩
      case round =>
        obtain ⟨j, h2, hj, rfl, rfl, HS2, rfl⟩ := hrel
        by_cases hjl : j < bs.length
        · obtain ⟨b2, o2, rfl, hb2, hc2⟩ := HW.out.open_ (by rw [List.length_map]; omega)
          have hcj := hc2 j (by rw [List.length_map]; exact hjl)
          rw [byteV_list bs j hjl] at hcj
          have hq : ((j : Int) == (bs.length : Int)) = false := by simp; omega
          have hsn := Lib.hid (sum_snoc h bs j hjl)
          have hu2 : U64 h2 := by rw [← HS2.out]; exact sum_lt _ HU.out _
          have hb8 : bs[j].toNat ≤ 255 := by have := bs[j].toNat_lt; omega
          clear hc2 hb2
          go_wp2_with fail
          refine (step_any h2 _ _ hu2 hb8).mono ?_
          rintro e w' ⟨rfl, rfl⟩
          go_wp2
          go_roundg (gk - 1)
          case measure => omega
          case rel => exact ⟨j + 1, stepN h2 bs[j].toNat, by omega, by go_num, rfl, Lib.hid (by rw [hsn.out, HS2.out]), rfl⟩
        · obtain rfl : j = bs.length := by omega
          have hfin : Hid (sumN basisN (catB (rs.take (k + 1))) = h2) := Lib.hid (by rw [HC.out, sum_app, HS.out, ← HS2.out, List.take_of_length_le (Nat.le_refl _)])
          go_wp2
          go_roundg G
          case measure => omega
          case rel => exact ⟨k + 1, h2, by omega, by go_num, rfl, hfin, rfl⟩
    · have hfin : Hid (sumN basisN (catB rs) = h) := Lib.hid (by rw [← HS.out, List.take_of_length_le (by rw [← HN.out]; omega)])
      go_wp2
      try rw [Exit.noGoto_ret]
      go_ret
      rw [hfin.out]
      exact ⟨rfl, rfl⟩
theorem refsum_any (B c n : Nat) (A : Option Addr) (bs : List UInt8) (hn : n = bs.length) (w : World) (h : Row w B A (bs.map byteV)) (hnm : n ≤ 9223372036854775807) :
    Calls Tryz.prog 159 #[.slice A n c] w fun e w' => e = .returned (.int .u64 (sumN basisN bs : Int)) ∧ w = w' := by
  have HR := Lib.hid h
  have HN := Lib.hid hn
  clear h hn
  go_enter Tryz.func159, Tryz.ntmps159
  go_wp2
  go_loop [3, 4] (fun v i => ∃ (k h : Nat), k ≤ n ∧ i = .int .i64 k ∧ v = .int .u64 (h : Int) ∧ Hid (sumN basisN (bs.take k) = h)) (fun _ i => n - (intOf i).toNat)
  case atStart => exact ⟨0, basisN, by omega, rfl, rfl, Lib.hid rfl⟩
  case round =>
    obtain ⟨k, h, hk, rfl, rfl, HS⟩ := hrel
    by_cases hlt : k < n
    · obtain ⟨b, o, rfl, hb, hc⟩ := HR.out.open_ (by rw [List.length_map, ← HN.out]; omega)
      have hkr : k < bs.length := by rw [← HN.out]; exact hlt
      have hck := hc k (by rw [List.length_map]; exact hkr)
      rw [byteV_list bs k hkr] at hck
      have hsn := Lib.hid (sum_snoc basisN bs k hkr)
      have hu2 : U64 h := by rw [← HS.out]; exact sum_lt _ basis_lt _
      have hb8 : bs[k].toNat ≤ 255 := by have := bs[k].toNat_lt; omega
      clear hc hb
      go_wp2_with fail
      refine (refstep_any h _ _ hu2 hb8).mono ?_
      rintro e w' ⟨rfl, rfl⟩
      go_wp2
      go_round
      case rel => exact ⟨k + 1, stepN h bs[k].toNat, by omega, by go_num, rfl, Lib.hid (by rw [hsn.out, HS.out])⟩
      case measure => simp [intOf]; omega
    · have hfin : Hid (sumN basisN bs = h) := Lib.hid (by rw [← HS.out, List.take_of_length_le (by rw [← HN.out]; omega)])
      go_wp2
      go_ret
      rw [hfin.out]
      exact ⟨rfl, rfl⟩
end Go.Proofs.YtkdpfjenjcpcfaaGreatDoor
namespace Go.Proofs.YtkdpfjenjcpcfaaGreatDoor
open Go.RowKit Mem Be Word
set_option maxRecDepth 10000
set_option maxHeartbeats 1000000
def w8 (n : Int) : List UInt8 := be 8 (uZ n)
theorem w8_len (n : Int) : (w8 n).length = 8 := be_len _ _
/-- Eight cells, of which those from lo up to hi are written. -/
def CW (u : Int) (lo hi : Nat) : Array Value := ((List.range 8).map fun j => if lo ≤ j ∧ j < hi then Value.int .u8 (u / 256 ^ (7 - j) % 256) else .int .u8 0).toArray
theorem size_CW (u : Int) (lo hi : Nat) : (CW u lo hi).size = 8 := by simp [CW]
theorem CW_at (u : Int) (lo hi j : Nat) (h : j < 8) : (CW u lo hi)[j]'(by rw [size_CW]; exact h) = if lo ≤ j ∧ j < hi then Value.int .u8 (u / 256 ^ (7 - j) % 256) else .int .u8 0 := by
  simp [CW]
theorem CW_none (u : Int) (lo : Nat) : madeCells #[.int .u8 0] 8 = CW u lo lo := by
  apply Array.ext
  · rw [size_CW, ← Array.length_toList, toList_madeCells_one]; simp
  · intro j h1 h2
    have h8 : j < 8 := by rw [size_CW] at h2; exact h2
    rw [CW_at u lo lo j h8, if_neg (by omega), ← Array.getElem_toList]
    simp only [toList_madeCells_one, List.getElem_replicate]
theorem set_CW (u : Int) (lo hi lo' hi' p : Nat) (x : Int) (hx : x = u / 256 ^ (7 - p) % 256) (hi1 : lo' ≤ p ∧ p < hi') (hi2 : ∀ j, j ≠ p → ((lo' ≤ j ∧ j < hi') ↔ (lo ≤ j ∧ j < hi))) :
    (CW u lo hi).setIfInBounds p (.int .u8 x) = CW u lo' hi' := by
  apply Array.ext
  · simp [size_CW]
  · intro j h1 h2
    have h8 : j < 8 := by rw [size_CW] at h2; exact h2
    rw [Array.getElem_setIfInBounds (by rw [size_CW]; exact h8), CW_at u lo' hi' j h8]
    by_cases h : p = j
    · subst h; rw [if_pos rfl, if_pos hi1, hx]
    · rw [if_neg h, CW_at u lo hi j h8]
      have := hi2 j (fun e => h e.symm)
      by_cases hj : lo ≤ j ∧ j < hi
      · rw [if_pos hj, if_pos (this.2 hj)]
      · rw [if_neg hj, if_neg (fun e => hj (this.1 e))]
theorem CW_bytes (u : Int) : (CW u 0 8).toList = (be 8 u).map byteV := by
  apply List.ext_getElem
  · simp [CW, be_len]
  · intro j h2 h3
    have h8 : j < 8 := by simpa [be_len] using h3
    rw [Array.getElem_toList, CW_at u 0 8 j h8, if_pos (by omega), List.getElem_map, be_get _ _ _ h8]
    unfold byteV
    rw [byte_back]
theorem own_CW {w : World} (u : Int) : (w.alloc (.cells (CW u 0 8) 5)).ownsRow w.heap.size 5 1 (.slice (some ⟨w.heap.size, 0, none⟩) 8 8) 8 ((be 8 u).map byteV) := by
  refine ⟨by simp [be_len], Or.inr ⟨w.heap.size, 8, _, rfl, Nat.le_refl _, heap_alloc_new w _, by omega, by decide, by rw [size_CW], ?_⟩⟩
  rw [CW_bytes u, List.take_of_length_le (by simp [be_len])]
theorem make_8 (W : World) : (Instr.makeSlice 27 (.int .i64 8) (.int .i64 8)).run Tryz.prog W = .ok (.slice (some ⟨W.heap.size, 0, none⟩) 8 8) (W.alloc (.cells (madeCells #[.int .u8 0] 8) 5)) :=
  run_make_row' (P := Tryz.prog) 27 5 (.int .u8 0) 1 Tryz.underlying27 info_b rfl .i64 .i64 8 (by omega) (by omega) W
theorem word_end (n : Int) (w : World) : Made w.heap.size (w8 n) w (.returned (.slice (some ⟨w.heap.size, 0, none⟩) 8 8)) (w.alloc (.cells (CW (uZ n) 0 8) 5)) := by
  have hl := w8_len n
  have ho := own_CW (w := w) (uZ n)
  refine ⟨some ⟨w.heap.size, 0, none⟩, 8, by rw [hl], ?_, (Below.refl _ _).alloc (Nat.le_refl _) _⟩
  rw [hl]
  exact ho
end Go.Proofs.YtkdpfjenjcpcfaaGreatDoor
namespace Go.Proofs.YtkdpfjenjcpcfaaGreatDoor
open Go.RowKit Mem Be Word
set_option maxRecDepth 10000
set_option maxHeartbeats 2000000
def keyN (bs : List UInt8) : Nat := stirN (sumN basisN bs)
def pointN (n k : Int) : Nat := keyN (w8 n ++ w8 k)
/-- A word; all that was there is as it was. -/
def IsW (x : Nat) (w : World) (e : Ending) (w' : World) : Prop := e = .returned (.int .u64 (x : Int)) ∧ Below w.heap.size w w'
theorem rows_one {w : World} {A : Option Addr} {bs : List UInt8} {c : Nat} (h : Row w w.heap.size A (bs.map byteV)) : Rows_ w [(A, bs, c)] := fun r hr => by
  have : r = (A, bs, c) := by simpa using hr
  subst this
  exact h
theorem rows_two {w : World} {A A' : Option Addr} {bs bs' : List UInt8} {c c' : Nat} (h : Row w w.heap.size A (bs.map byteV)) (h' : Row w w.heap.size A' (bs'.map byteV)) : Rows_ w [(A, bs, c), (A', bs', c')] := fun r hr => by
  have : r = (A, bs, c) ∨ r = (A', bs', c') := by simpa using hr
  rcases this with rfl | rfl
  · exact h
  · exact h'
theorem one_row (w : World) (t : TypeId) (A : Option Addr) (bs : List UInt8) (c n : Nat) (hn : n = bs.length) : Row (w.alloc (.cells #[.slice A n c] t)) (w.heap.size + 1) (some ⟨w.heap.size, 0, none⟩) ([(A, bs, c)].map rowV) := by
  subst hn; exact row_cells rfl
theorem two_row (w : World) (t : TypeId) (A A' : Option Addr) (bs bs' : List UInt8) (c n c' n' : Nat) (hn : n = bs.length) (hn' : n' = bs'.length) : Row (w.alloc (.cells #[.slice A n c, .slice A' n' c'] t)) (w.heap.size + 1) (some ⟨w.heap.size, 0, none⟩) ([(A, bs, c), (A', bs', c')].map rowV) := by
  subst hn; subst hn'; exact row_cells rfl
theorem lens_one {A : Option Addr} {bs : List UInt8} {c N : Nat} (h : bs.length ≤ N) : ∀ r ∈ [((A, bs, c) : RowV)], r.2.1.length ≤ N := fun r hr => by
  have : r = (A, bs, c) := by simpa using hr
  subst this
  exact h
theorem lens_two {A A' : Option Addr} {bs bs' : List UInt8} {c c' N : Nat} (h : bs.length ≤ N) (h' : bs'.length ≤ N) : ∀ r ∈ [((A, bs, c) : RowV), (A', bs', c')], r.2.1.length ≤ N := fun r hr => by
  have : r = (A, bs, c) ∨ r = (A', bs', c') := by simpa using hr
  rcases this with rfl | rfl
  · exact h
  · exact h'
end Go.Proofs.YtkdpfjenjcpcfaaGreatDoor
namespace Go.Proofs.YtkdpfjenjcpcfaaGreatDoor
open Go.RowKit Mem Be Word
set_option maxRecDepth 10000
set_option maxHeartbeats 2000000
theorem u32_of (n : Nat) (h : n < 4294967296) : IntKind.u32.wrap (n : Int) = (n : Int) := by rw [IntKind.wrap_u32']; omega
theorem check_xor (h : Nat) (hh : U64 h) : bits .xor .u32 ((h / 4294967296 : Nat) : Int) ((h % 4294967296 : Nat) : Int) = (checkN h : Int) := by
  unfold U64 at hh
  exact u32_xor_nat _ _ (by omega) (by omega)
theorem check_any (B c n : Nat) (A : Option Addr) (rs : List RowV) (hn : n = rs.length) (w : World) (h : Row w B A (rs.map rowV)) (hx : Rows_ w rs) (hm : ∀ r ∈ rs, r.2.1.length ≤ 9223372036854775807) (hnm : n ≤ 9223372036854775807) :
    Calls Tryz.prog 175 #[.slice A n c] w fun e w' => e = .returned (.int .u32 (checkN (sumN basisN (catB rs)) : Int)) ∧ w = w' := by
  have C := sum_any B c n A rs hn w h hx hm hnm
  have hh := sum_lt _ basis_lt (catB rs)
  obtain ⟨x, hxx⟩ : ∃ x, sumN basisN (catB rs) = x := ⟨_, rfl⟩
  rw [hxx] at C hh ⊢
  have r3 := check_xor x hh
  obtain ⟨a, ha⟩ : ∃ a : Nat, x / 4294967296 = a := ⟨_, rfl⟩
  obtain ⟨b, hb⟩ : ∃ b : Nat, x % 4294967296 = b := ⟨_, rfl⟩
  obtain ⟨y, hy⟩ : ∃ y : Nat, checkN x = y := ⟨_, rfl⟩
  rw [ha, hb, hy] at r3
  have r1 : IntKind.u32.wrap ((x : Int) / 4294967296) = (a : Int) := by rw [IntKind.wrap_u32']; unfold U64 at hh; omega
  have r2 : IntKind.u32.wrap (x : Int) = (b : Int) := by rw [IntKind.wrap_u32']; omega
  rw [hy]
  clear ha hb hy hxx hh h hx hm hn
  go_enter Tryz.func175, Tryz.ntmps175
  go_wp2_with fail
  refine C.mono ?_
  rintro e w' ⟨rfl, rfl⟩
  go_wp2
  go_ret
  exact ⟨rfl, rfl⟩
theorem refcheck_any (B c n : Nat) (A : Option Addr) (bs : List UInt8) (hn : n = bs.length) (w : World) (h : Row w B A (bs.map byteV)) (hnm : n ≤ 9223372036854775807) :
    Calls Tryz.prog 131 #[.slice A n c] w fun e w' => e = .returned (.int .u32 (checkN (sumN basisN bs) : Int)) ∧ w = w' := by
  have C := refsum_any B c n A bs hn w h hnm
  have hh := sum_lt _ basis_lt bs
  obtain ⟨x, hxx⟩ : ∃ x, sumN basisN bs = x := ⟨_, rfl⟩
  rw [hxx] at C hh ⊢
  have r3 := check_xor x hh
  obtain ⟨a, ha⟩ : ∃ a : Nat, x / 4294967296 = a := ⟨_, rfl⟩
  obtain ⟨b, hb⟩ : ∃ b : Nat, x % 4294967296 = b := ⟨_, rfl⟩
  obtain ⟨y, hy⟩ : ∃ y : Nat, checkN x = y := ⟨_, rfl⟩
  rw [ha, hb, hy] at r3
  have r1 : (x : Int) / 4294967296 = (a : Int) := by omega
  have r2 : (x : Int) % 4294967296 = (b : Int) := by omega
  have r4 : IntKind.u64.wrap (a : Int) = (a : Int) := by rw [IntKind.wrap_u64]; unfold U64 at hh; omega
  have r5 : IntKind.u32.wrap (a : Int) = (a : Int) := u32_of a (by unfold U64 at hh; omega)
  have r6 : IntKind.u32.wrap (b : Int) = (b : Int) := u32_of b (by omega)
  rw [hy]
  clear ha hb hy hxx hh h hn
  go_enter Tryz.func131, Tryz.ntmps131
  go_wp2_with fail
  refine C.mono ?_
  rintro e w' ⟨rfl, rfl⟩
  go_wp2
  go_ret
  exact ⟨rfl, rfl⟩
/-- A number and an error; all that was there is as it was. -/
def IsII (a b : Int) (w : World) (e : Ending) (w' : World) : Prop := e = .returned (.tuple #[.int .i64 a, .int .i64 b]) ∧ Below w.heap.size w w'
def bucketN (x : Nat) (n : Int) : Int × Int := if 1 ≤ n ∧ n ≤ 65536 then ((x : Int) % n, 0) else (0, 2)
end Go.Proofs.YtkdpfjenjcpcfaaGreatDoor
