/- Checks and buckets, by the program and by the document; what layer 4's examples fix is true. -/
import Derived.Test.YtmiihakfpldeiaaKeys4
import Derived.Lib.SlBytesConst
namespace Go.Proofs.Ytmiihakfpldeiaa
open Go.RowKit Mem Be Word
set_option maxRecDepth 10000
set_option maxHeartbeats 2000000
theorem u32_of (n : Nat) (h : n < 4294967296) : IntKind.u32.wrap (n : Int) = (n : Int) := by rw [IntKind.wrap_u32']; omega
theorem check_xor (h : Nat) (hh : U64 h) : bits .xor .u32 ((h / 4294967296 : Nat) : Int) ((h % 4294967296 : Nat) : Int) = (checkN h : Int) := by
  unfold U64 at hh
  exact u32_xor_nat _ _ (by omega) (by omega)
theorem check_any (B c n : Nat) (A : Option Addr) (rs : List RowV) (hn : n = rs.length) (w : World) (h : Row w B A (rs.map rowV)) (hx : Rows_ w rs) (hm : ∀ r ∈ rs, r.2.1.length ≤ 9223372036854775807) (hnm : n ≤ 9223372036854775807) :
    Calls Try.prog 13 #[.slice A n c] w fun e w' => e = .returned (.int .u32 (checkN (sumN basisN (catB rs)) : Int)) ∧ w = w' := by
  have C := sum_any B c n A rs hn w h hx hm hnm
  have hh := sum_lt _ basis_lt (catB rs)
  obtain ⟨x, hxx⟩ : ∃ x, sumN basisN (catB rs) = x := ⟨_, rfl⟩
  rw [hxx] at C hh ⊢
  have r3 := check_xor x hh
  obtain ⟨a, ha⟩ : ∃ a : Nat, x / 4294967296 = a := ⟨_, rfl⟩
  obtain ⟨b, hb⟩ : ∃ b : Nat, x % 4294967296 = b := ⟨_, rfl⟩
  obtain ⟨y, hy⟩ : ∃ y : Nat, checkN x = y := ⟨_, rfl⟩
  rw [ha, hb, hy] at r3
  have r1 : IntKind.u32.wrap ((x : Int) / 4294967296) = (a : Int) := by rw [IntKind.wrap_u32']; unfold U64 at hh; omega
  have r2 : IntKind.u32.wrap (x : Int) = (b : Int) := by rw [IntKind.wrap_u32']; omega
  rw [hy]
  clear ha hb hy hxx hh h hx hm hn
  go_enter Try.func13, Try.ntmps13
  go_wp2_with fail
  refine C.mono ?_
  rintro e w' ⟨rfl, rfl⟩
  go_wp2
  go_ret
  exact ⟨rfl, rfl⟩
theorem refcheck_any (B c n : Nat) (A : Option Addr) (bs : List UInt8) (hn : n = bs.length) (w : World) (h : Row w B A (bs.map byteV)) (hnm : n ≤ 9223372036854775807) :
    Calls Try.prog 14 #[.slice A n c] w fun e w' => e = .returned (.int .u32 (checkN (sumN basisN bs) : Int)) ∧ w = w' := by
  have C := refsum_any B c n A bs hn w h hnm
  have hh := sum_lt _ basis_lt bs
  obtain ⟨x, hxx⟩ : ∃ x, sumN basisN bs = x := ⟨_, rfl⟩
  rw [hxx] at C hh ⊢
  have r3 := check_xor x hh
  obtain ⟨a, ha⟩ : ∃ a : Nat, x / 4294967296 = a := ⟨_, rfl⟩
  obtain ⟨b, hb⟩ : ∃ b : Nat, x % 4294967296 = b := ⟨_, rfl⟩
  obtain ⟨y, hy⟩ : ∃ y : Nat, checkN x = y := ⟨_, rfl⟩
  rw [ha, hb, hy] at r3
  have r1 : (x : Int) / 4294967296 = (a : Int) := by omega
  have r2 : (x : Int) % 4294967296 = (b : Int) := by omega
  have r4 : IntKind.u64.wrap (a : Int) = (a : Int) := by rw [IntKind.wrap_u64]; unfold U64 at hh; omega
  have r5 : IntKind.u32.wrap (a : Int) = (a : Int) := u32_of a (by unfold U64 at hh; omega)
  have r6 : IntKind.u32.wrap (b : Int) = (b : Int) := u32_of b (by omega)
  rw [hy]
  clear ha hb hy hxx hh h hn
  go_enter Try.func14, Try.ntmps14
  go_wp2_with fail
  refine C.mono ?_
  rintro e w' ⟨rfl, rfl⟩
  go_wp2
  go_ret
  exact ⟨rfl, rfl⟩
/-- A number and an error; all that was there is as it was. -/
def IsII (a b : Int) (w : World) (e : Ending) (w' : World) : Prop := e = .returned (.tuple #[.int .i64 a, .int .i64 b]) ∧ Below w.heap.size w w'
def bucketN (x : Nat) (n : Int) : Int × Int := if 1 ≤ n ∧ n ≤ 65536 then ((x : Int) % n, 0) else (0, 2)
theorem bucket_any (s : ByteArray) (n : Int) (hs : s.size ≤ 100000) (w : World) : Calls Try.prog 19 #[.string s, .int .i64 n] w (IsII (bucketN (keyN (kb s)) n).1 (bucketN (keyN (kb s)) n).2 w) := by
  by_cases h1 : n < 1
  · rw [show bucketN (keyN (kb s)) n = (0, 2) from if_neg (by omega)]
    go_enter Try.func19, Try.ntmps19
    go_wp2
    go_ret2
    exact ⟨rfl, Below.refl _ _⟩
  by_cases h2 : 65536 < n
  · rw [show bucketN (keyN (kb s)) n = (0, 2) from if_neg (by omega)]
    have h1' : 1 ≤ n := by omega
    clear h1
    go_enter Try.func19, Try.ntmps19
    go_wp2
    go_ret2
    exact ⟨rfl, Below.refl _ _⟩
  rw [show bucketN (keyN (kb s)) n = ((keyN (kb s) : Int) % n, 0) from if_pos (by omega)]
  have h1' : 1 ≤ n := by omega
  have h2' : n ≤ 65536 := by omega
  have C := key_any s hs
  obtain ⟨x, hx⟩ : ∃ x, keyN (kb s) = x := ⟨_, rfl⟩
  rw [hx] at C ⊢
  obtain ⟨r, hr⟩ : ∃ r : Int, (x : Int) % n = r := ⟨_, rfl⟩
  have hr0 : 0 ≤ r := by rw [← hr]; exact Int.emod_nonneg _ (by omega)
  have hr1 : r < n := by rw [← hr]; exact Int.emod_lt_of_pos _ (by omega)
  have r2 : IntKind.u64.wrap n = n := by rw [IntKind.wrap_u64]; omega
  have r3 : IntKind.u64.wrap r = r := by rw [IntKind.wrap_u64]; omega
  have r4 : IntKind.i64.wrap r = r := by rw [IntKind.wrap_i64]; omega
  have r1 : (x : Int) % n = r := hr
  have r5 : (x : Int).tmod n = r := by rw [Int.tmod_eq_emod_of_nonneg (by omega)]; exact hr
  have HC := Lib.hid C
  rw [hr]
  clear hr C h1 h2 hx
  go_enter Try.func19, Try.ntmps19
  go_wp2_with fail
  refine (HC.out _).mono ?_
  rintro e w1 ⟨rfl, hb⟩
  have HB := Lib.hid hb
  clear hb
  go_wp2
  go_ret2
  exact ⟨rfl, HB.out⟩
theorem refbucket_any (s : ByteArray) (n : Int) (hs : s.size ≤ 100000) (w : World) : Calls Try.prog 20 #[.string s, .int .i64 n] w (IsII (bucketN (keyN (kb s)) n).1 (bucketN (keyN (kb s)) n).2 w) := by
  by_cases h1 : n < 1
  · rw [show bucketN (keyN (kb s)) n = (0, 2) from if_neg (by omega)]
    go_enter Try.func20, Try.ntmps20
    go_wp2
    go_ret2
    exact ⟨rfl, Below.refl _ _⟩
  by_cases h2 : 65536 < n
  · rw [show bucketN (keyN (kb s)) n = (0, 2) from if_neg (by omega)]
    have h1' : 1 ≤ n := by omega
    clear h1
    go_enter Try.func20, Try.ntmps20
    go_wp2
    go_ret2
    exact ⟨rfl, Below.refl _ _⟩
  rw [show bucketN (keyN (kb s)) n = ((keyN (kb s) : Int) % n, 0) from if_pos (by omega)]
  have h1' : 1 ≤ n := by omega
  have h2' : n ≤ 65536 := by omega
  have C := refkey_any s hs
  obtain ⟨x, hx⟩ : ∃ x, keyN (kb s) = x := ⟨_, rfl⟩
  rw [hx] at C ⊢
  obtain ⟨r, hr⟩ : ∃ r : Int, (x : Int) % n = r := ⟨_, rfl⟩
  have hr0 : 0 ≤ r := by rw [← hr]; exact Int.emod_nonneg _ (by omega)
  have hr1 : r < n := by rw [← hr]; exact Int.emod_lt_of_pos _ (by omega)
  have r2 : IntKind.u64.wrap n = n := by rw [IntKind.wrap_u64]; omega
  have r3 : IntKind.u64.wrap r = r := by rw [IntKind.wrap_u64]; omega
  have r4 : IntKind.i64.wrap r = r := by rw [IntKind.wrap_i64]; omega
  have r1 : (x : Int) % n = r := hr
  have r5 : (x : Int).tmod n = r := by rw [Int.tmod_eq_emod_of_nonneg (by omega)]; exact hr
  have HC := Lib.hid C
  rw [hr]
  clear hr C h1 h2 hx
  go_enter Try.func20, Try.ntmps20
  go_wp2_with fail
  refine (HC.out _).mono ?_
  rintro e w1 ⟨rfl, hb⟩
  have HB := Lib.hid hb
  clear hb
  go_wp2
  go_ret2
  exact ⟨rfl, HB.out⟩
theorem row_lit (w : World) (t : TypeId) (m : Nat × Nat) (bs : List UInt8) (cs : Array Value) (h : cs.toList = bs.map byteV) : Row (w.alloc (.cells cs t m)) (w.alloc (.cells cs t m)).heap.size (some ⟨w.heap.size, 0, none⟩) (bs.map byteV) := by
  refine Or.inr ⟨w.heap.size, 0, rfl, by simp, fun j hj => ?_⟩
  have := cell_of_row (w.alloc (.cells cs t m)) w.heap.size j cs t m (heap_alloc_new w _)
  rw [Nat.zero_add, this]
  rw [← h] at hj
  simp only [← h]
  simp
theorem one_row_at (w : World) (t : TypeId) (A : Option Addr) (bs : List UInt8) (c n g : Nat) (hn : n = bs.length) (hg : g = w.heap.size) : Row (w.alloc (.cells #[.slice A n c] t)) (g + 1) (some ⟨g, 0, none⟩) ([(A, bs, c)].map rowV) := by
  subst hg; exact one_row w t A bs c n hn
theorem known_a (w : World) : Calls Try.prog 11 #[.slice (some ⟨w.heap.size + 1, 0, none⟩) 1 1] ((w.alloc (.cells #[.int .u8 97] 5 (1, 2))).alloc (.cells #[.slice (some ⟨w.heap.size, 0, none⟩) 1 1] 23)) fun e w' =>
    e = .returned (.int .u64 (sumN basisN (catB [((some ⟨w.heap.size, 0, none⟩, [97], 1) : RowV)]) : Int)) ∧ (w.alloc (.cells #[.int .u8 97] 5 (1, 2))).alloc (.cells #[.slice (some ⟨w.heap.size, 0, none⟩) 1 1] 23) = w' :=
  sum_any (w.heap.size + 1 + 1) 1 1 _ [(some ⟨w.heap.size, 0, none⟩, [97], 1)] rfl _ (one_row_at _ _ _ [97] _ 1 _ rfl (by simp)) (rows_alloc (rows_one (row_lit w _ _ [97] #[.int .u8 97] rfl)) _) (lens_one (by decide)) (by omega)
theorem sum_none : sumN basisN (catB []) = 14695981039346656037 := by decide +kernel
theorem sum_a (A : Option Addr) (c : Nat) : sumN basisN (catB [(A, [97], c)]) = 12638187200555641996 := by
  rw [show catB [(A, [97], c)] = [97] by simp [catB]]; decide +kernel
theorem bucket_a : (bucketN (keyN (kb ⟨#[97]⟩)) 1).1 = 0 ∧ (bucketN (keyN (kb ⟨#[97]⟩)) 1).2 = 0 := by
  unfold bucketN; rw [if_pos (by decide)]; exact ⟨by simp, rfl⟩
theorem known_any (w : World) : Calls Try.prog 10 #[] w fun e w' => e = .returned (.bool true) ∧ Below w.heap.size w w' := by
  have kc := fun (w : World) (C : Array Value) (n c : Nat) => Lib.run_convert_bytes_const (P := Try.prog) w 23 5 C n c Try.underlying23 Try.underlying5
  go_enter Try.func10, Try.ntmps10
  go_wp2_with fail
  refine (bucket_any _ 1 (by decide) _).mono ?_
  rw [bucket_a.1, bucket_a.2]
  rintro e w1 ⟨rfl, hb⟩
  have HB := Lib.hid hb
  clear hb
  go_wp2_with fail
  refine (sum_any w1.heap.size 0 0 none [] rfl _ (Row.nil _ _ _) (rows_nil _) (by simp) (by omega)).mono ?_
  rw [sum_none]
  rintro e w' ⟨rfl, rfl⟩
  go_wp2_with fail
  refine (known_a _).mono ?_
  rw [sum_a]
  rintro e w' ⟨rfl, rfl⟩
  go_wp2
  go_ret
  exact ⟨rfl, (HB.out.alloc HB.out.size _).alloc (by have := HB.out.size; simp; omega) _⟩
end Go.Proofs.Ytmiihakfpldeiaa
