/- Keys, points, checks and buckets, by the program and by the document: one contract each. -/
import Derived.Test.YtmiihakfpldeiaaWordB
namespace Go.Proofs.Ytmiihakfpldeiaa
open Go.RowKit Mem Be Word
set_option maxRecDepth 10000
set_option maxHeartbeats 2000000
def keyN (bs : List UInt8) : Nat := stirN (sumN basisN bs)
def pointN (n k : Int) : Nat := keyN (w8 n ++ w8 k)
/-- A word; all that was there is as it was. -/
def IsW (x : Nat) (w : World) (e : Ending) (w' : World) : Prop := e = .returned (.int .u64 (x : Int)) ∧ Below w.heap.size w w'
theorem rows_one {w : World} {A : Option Addr} {bs : List UInt8} {c : Nat} (h : Row w w.heap.size A (bs.map byteV)) : Rows_ w [(A, bs, c)] := fun r hr => by
  have : r = (A, bs, c) := by simpa using hr
  subst this
  exact h
theorem rows_two {w : World} {A A' : Option Addr} {bs bs' : List UInt8} {c c' : Nat} (h : Row w w.heap.size A (bs.map byteV)) (h' : Row w w.heap.size A' (bs'.map byteV)) : Rows_ w [(A, bs, c), (A', bs', c')] := fun r hr => by
  have : r = (A, bs, c) ∨ r = (A', bs', c') := by simpa using hr
  rcases this with rfl | rfl
  · exact h
  · exact h'
theorem one_row (w : World) (t : TypeId) (A : Option Addr) (bs : List UInt8) (c n : Nat) (hn : n = bs.length) : Row (w.alloc (.cells #[.slice A n c] t)) (w.heap.size + 1) (some ⟨w.heap.size, 0, none⟩) ([(A, bs, c)].map rowV) := by
  subst hn; exact row_cells rfl
theorem two_row (w : World) (t : TypeId) (A A' : Option Addr) (bs bs' : List UInt8) (c n c' n' : Nat) (hn : n = bs.length) (hn' : n' = bs'.length) : Row (w.alloc (.cells #[.slice A n c, .slice A' n' c'] t)) (w.heap.size + 1) (some ⟨w.heap.size, 0, none⟩) ([(A, bs, c), (A', bs', c')].map rowV) := by
  subst hn; subst hn'; exact row_cells rfl
theorem lens_one {A : Option Addr} {bs : List UInt8} {c N : Nat} (h : bs.length ≤ N) : ∀ r ∈ [((A, bs, c) : RowV)], r.2.1.length ≤ N := fun r hr => by
  have : r = (A, bs, c) := by simpa using hr
  subst this
  exact h
theorem lens_two {A A' : Option Addr} {bs bs' : List UInt8} {c c' N : Nat} (h : bs.length ≤ N) (h' : bs'.length ≤ N) : ∀ r ∈ [((A, bs, c) : RowV), (A', bs', c')], r.2.1.length ≤ N := fun r hr => by
  have : r = (A, bs, c) ∨ r = (A', bs', c') := by simpa using hr
  rcases this with rfl | rfl
  · exact h
  · exact h'
theorem key_any (s : ByteArray) (hs : s.size ≤ 100000) (w : World) : Calls Try.prog 21 #[.string s] w (IsW (keyN (kb s)) w) := by
  go_enter Try.func21, Try.ntmps21
  go_wp2_with (with_reducible refine wpList_conv _ rfl _ _ _ _ rfl s rfl Try.underlying9 Try.underlying23 Try.underlying5 ?_)
  intro A1 c1 w1 hrow hb _
  have HB1 := Lib.hid hb
  have HR := Lib.hid hrow
  clear hrow hb
  go_wp2_with fail
  refine (sum_any (w1.heap.size + 1) 1 1 _ [(A1, kb s, c1)] rfl _ (one_row _ _ _ (kb s) _ _ (kb_len s).symm) (rows_alloc (rows_one HR.out) _) (lens_one (by rw [kb_len]; omega)) (by omega)).mono ?_
  rw [show catB [(A1, kb s, c1)] = kb s by simp [catB]]
  rintro e w' ⟨rfl, rfl⟩
  go_wp2_with fail
  refine (stir_any _ _ (sum_lt _ basis_lt _)).mono ?_
  rintro e w' ⟨rfl, rfl⟩
  go_wp2
  go_ret
  exact ⟨rfl, HB1.out.alloc HB1.out.size _⟩
theorem refkey_any (s : ByteArray) (hs : s.size ≤ 100000) (w : World) : Calls Try.prog 22 #[.string s] w (IsW (keyN (kb s)) w) := by
  go_enter Try.func22, Try.ntmps22
  go_wp2_with (with_reducible refine wpList_conv _ rfl _ _ _ _ rfl s rfl Try.underlying9 Try.underlying23 Try.underlying5 ?_)
  intro A1 c1 w1 hrow hb _
  have HB1 := Lib.hid hb
  have HR := Lib.hid hrow
  clear hrow hb
  go_wp2_with fail
  refine (refsum_any _ c1 _ A1 (kb s) (kb_len s).symm _ HR.out (by omega)).mono ?_
  rintro e w' ⟨rfl, rfl⟩
  go_wp2_with fail
  refine (refstir_any _ _ (sum_lt _ basis_lt _)).mono ?_
  rintro e w' ⟨rfl, rfl⟩
  go_wp2
  go_ret
  exact ⟨rfl, HB1.out⟩
theorem point_any (n k : Int) (w : World) : Calls Try.prog 23 #[.int .i64 n, .int .i64 k] w (IsW (pointN n k) w) := by
  have HL1 := Lib.hid (w8_len n)
  have HL2 := Lib.hid (w8_len k)
  go_enter Try.func23, Try.ntmps23
  go_wp2_with fail
  refine (word_any n _).mono ?_
  rintro e w1 ⟨A1, c1, rfl, ho, hb⟩
  have HB1 := Lib.hid hb
  have HO1 := Lib.hid (Row.of_own ho)
  clear ho hb
  go_wp2_with fail
  refine (word_any k _).mono ?_
  rintro e w2 ⟨A2, c2, rfl, ho, hb⟩
  have HB2 : Hid (Below w.heap.size w w2) := Lib.hid (HB1.out.trans (hb.mono HB1.out.size))
  have HO2 := Lib.hid (Row.of_own ho)
  have HO1b := Lib.hid ((HO1.out.below hb).more hb.size)
  clear ho hb
  go_wp2_with fail
  refine (sum_any (w2.heap.size + 1) 2 2 _ [(A1, w8 n, c1), (A2, w8 k, c2)] rfl _ (two_row _ _ _ _ (w8 n) (w8 k) _ _ _ _ rfl rfl) (rows_alloc (rows_two HO1b.out HO2.out) _) (lens_two (by rw [HL1.out]; omega) (by rw [HL2.out]; omega)) (by omega)).mono ?_
  rw [show catB [(A1, w8 n, c1), (A2, w8 k, c2)] = w8 n ++ w8 k by simp [catB]]
  rintro e w' ⟨rfl, rfl⟩
  go_wp2_with fail
  refine (stir_any _ _ (sum_lt _ basis_lt _)).mono ?_
  rintro e w' ⟨rfl, rfl⟩
  go_wp2
  go_ret
  exact ⟨rfl, HB2.out.alloc HB2.out.size _⟩
theorem refpoint_any (n k : Int) (w : World) : Calls Try.prog 24 #[.int .i64 n, .int .i64 k] w (IsW (pointN n k) w) := by
  obtain ⟨i0, hi0, hz0, hz1, hz2⟩ := info_parts info_b
  have HL1 := Lib.hid (w8_len n)
  have HL2 := Lib.hid (w8_len k)
  go_enter Try.func24, Try.ntmps24
  go_wp2_with fail
  refine (refbytes8_any n _).mono ?_
  rintro e w1 ⟨A1, c1, rfl, ho, hb⟩
  have HB1 := Lib.hid hb
  have HO1 := Lib.hid ho
  clear ho hb
  go_wp2_with fail
  refine (refbytes8_any k _).mono ?_
  rintro e w2 ⟨A2, c2, rfl, ho, hb⟩
  have HB2 : Hid (Below w.heap.size w w2) := Lib.hid (HB1.out.trans (hb.mono HB1.out.size))
  have HO2 := Lib.hid (Row.of_own ho)
  have HO1b := Lib.hid (own_later HO1.out hb)
  clear ho hb
  go_wp2_with (at_builtin; refine wpList_app _ rfl _ _ 23 rfl w.heap.size 5 i0 (.int .u8 0) 1 Try.underlying23 hi0 hz0 hz1 hz2 rfl _ _ _ rfl HO1b.out w2.heap.size _ _ c2 ((w8 k).map byteV) rfl (by simp) HO2.out (byte_one _) (by rw [HL1.out, HL2.out]; decide) (by rw [HL1.out, HL2.out]; decide) HB2.out.size ?_)
  intro v' w3 hown hgr _
  have HB3 : Hid (Below w.heap.size w w3) := Lib.hid (HB2.out.grown hgr HB2.out.size fun g h => (HO1b.out.lt g h).1)
  obtain ⟨A3, c3, hv, ho3, _⟩ := made_of (bs := w8 n ++ w8 k) hown (by simp) HB3.out
  injection hv with hv
  subst hv
  have HO3 := Lib.hid (Row.of_own ho3)
  have HL3 : Hid ((w8 n ++ w8 k).length = 16) := Lib.hid (by rw [List.length_append, HL1.out, HL2.out])
  clear hown hgr ho3
  go_wp2_with fail
  refine (refsum_any _ c3 _ A3 (w8 n ++ w8 k) rfl _ HO3.out (by rw [HL3.out]; omega)).mono ?_
  rintro e w' ⟨rfl, rfl⟩
  go_wp2_with fail
  refine (refstir_any _ _ (sum_lt _ basis_lt _)).mono ?_
  rintro e w' ⟨rfl, rfl⟩
  go_wp2
  go_ret
  exact ⟨rfl, HB3.out⟩
end Go.Proofs.Ytmiihakfpldeiaa
