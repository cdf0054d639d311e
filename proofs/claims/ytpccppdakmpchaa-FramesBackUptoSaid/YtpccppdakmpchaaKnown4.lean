/- Checks and buckets, by the program and by the document; what layer 4's examples fix is true. -/
import Derived.Test.YtpccppdakmpchaaKeys4
import Derived.Lib.SlBytesConst
namespace Go.Proofs.Ytpccppdakmpchaa
open Go.RowKit Mem Be Word
set_option maxRecDepth 10000
set_option maxHeartbeats 2000000
theorem u32_of (n : Nat) (h : n < 4294967296) : IntKind.u32.wrap (n : Int) = (n : Int) := by rw [IntKind.wrap_u32']; omega
theorem check_xor (h : Nat) (hh : U64 h) : bits .xor .u32 ((h / 4294967296 : Nat) : Int) ((h % 4294967296 : Nat) : Int) = (checkN h : Int) := by
  unfold U64 at hh
  exact u32_xor_nat _ _ (by omega) (by omega)
theorem check_any (B c n : Nat) (A : Option Addr) (rs : List RowV) (hn : n = rs.length) (w : World) (h : Row w B A (rs.map rowV)) (hx : Rows_ w rs) (hm : ∀ r ∈ rs, r.2.1.length ≤ 9223372036854775807) (hnm : n ≤ 9223372036854775807) :
    Calls Try.prog 26 #[.slice A n c] w fun e w' => e = .returned (.int .u32 (checkN (sumN basisN (catB rs)) : Int)) ∧ w = w' := by
  have C := sum_any B c n A rs hn w h hx hm hnm
  have hh := sum_lt _ basis_lt (catB rs)
  obtain ⟨x, hxx⟩ : ∃ x, sumN basisN (catB rs) = x := ⟨_, rfl⟩
  rw [hxx] at C hh ⊢
  have r3 := check_xor x hh
  obtain ⟨a, ha⟩ : ∃ a : Nat, x / 4294967296 = a := ⟨_, rfl⟩
  obtain ⟨b, hb⟩ : ∃ b : Nat, x % 4294967296 = b := ⟨_, rfl⟩
  obtain ⟨y, hy⟩ : ∃ y : Nat, checkN x = y := ⟨_, rfl⟩
  rw [ha, hb, hy] at r3
  have r1 : IntKind.u32.wrap ((x : Int) / 4294967296) = (a : Int) := by rw [IntKind.wrap_u32']; unfold U64 at hh; omega
  have r2 : IntKind.u32.wrap (x : Int) = (b : Int) := by rw [IntKind.wrap_u32']; omega
  rw [hy]
  clear ha hb hy hxx hh h hx hm hn
  go_enter Try.func26, Try.ntmps26
  go_wp2_with fail
  refine C.mono ?_
  rintro e w' ⟨rfl, rfl⟩
  go_wp2
  go_ret
  exact ⟨rfl, rfl⟩
theorem refcheck_any (B c n : Nat) (A : Option Addr) (bs : List UInt8) (hn : n = bs.length) (w : World) (h : Row w B A (bs.map byteV)) (hnm : n ≤ 9223372036854775807) :
    Calls Try.prog 28 #[.slice A n c] w fun e w' => e = .returned (.int .u32 (checkN (sumN basisN bs) : Int)) ∧ w = w' := by
  have C := refsum_any B c n A bs hn w h hnm
  have hh := sum_lt _ basis_lt bs
  obtain ⟨x, hxx⟩ : ∃ x, sumN basisN bs = x := ⟨_, rfl⟩
  rw [hxx] at C hh ⊢
  have r3 := check_xor x hh
  obtain ⟨a, ha⟩ : ∃ a : Nat, x / 4294967296 = a := ⟨_, rfl⟩
  obtain ⟨b, hb⟩ : ∃ b : Nat, x % 4294967296 = b := ⟨_, rfl⟩
  obtain ⟨y, hy⟩ : ∃ y : Nat, checkN x = y := ⟨_, rfl⟩
  rw [ha, hb, hy] at r3
  have r1 : (x : Int) / 4294967296 = (a : Int) := by omega
  have r2 : (x : Int) % 4294967296 = (b : Int) := by omega
  have r4 : IntKind.u64.wrap (a : Int) = (a : Int) := by rw [IntKind.wrap_u64]; unfold U64 at hh; omega
  have r5 : IntKind.u32.wrap (a : Int) = (a : Int) := u32_of a (by unfold U64 at hh; omega)
  have r6 : IntKind.u32.wrap (b : Int) = (b : Int) := u32_of b (by omega)
  rw [hy]
  clear ha hb hy hxx hh h hn
  go_enter Try.func28, Try.ntmps28
  go_wp2_with fail
  refine C.mono ?_
  rintro e w' ⟨rfl, rfl⟩
  go_wp2
  go_ret
  exact ⟨rfl, rfl⟩
/-- A number and an error; all that was there is as it was. -/
def IsII (a b : Int) (w : World) (e : Ending) (w' : World) : Prop := e = .returned (.tuple #[.int .i64 a, .int .i64 b]) ∧ Below w.heap.size w w'
def bucketN (x : Nat) (n : Int) : Int × Int := if 1 ≤ n ∧ n ≤ 65536 then ((x : Int) % n, 0) else (0, 2)
end Go.Proofs.Ytpccppdakmpchaa
