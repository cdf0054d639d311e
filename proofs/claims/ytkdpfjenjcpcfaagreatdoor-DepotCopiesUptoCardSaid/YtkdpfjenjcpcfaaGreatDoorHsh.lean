/- Step: The step by a byte, and what a word is stirred, the program's and the document's: one contract each.
   SumW: Sums of bytes, the program's (of rows) and the document's (of one row): one contract each.
   WordB: The eight bytes of a number, the greatest first, by the program and by the document: one contract each.
   Keys4: Keys, points, checks and buckets, by the program and by the document: one contract each.
   Known4: Checks and buckets, by the program and by the document; what layer 4's examples fix is true. -/
import Derived.Test.YtkdpfjenjcpcfaaGreatDoorCore
import Derived.Test.YtkdpfjenjcpcfaaGreatDoorRows
import Derived.IntWalk
import Derived.Deep.LoopGhost
import Derived.Deep.OwnRows
import Derived.Lib.Small
import Derived.Lib.Strings
import Derived.Lib.Slices
import Derived.Lib.Walk
import Derived.Lib.SlBytesConst
namespace Go.Proofs.YtkdpfjenjcpcfaaGreatDoor
open Go.RowKit Mem Be Word
set_option maxRecDepth 10000
set_option maxHeartbeats 1000000
theorem wrap_nat (n : Nat) : IntKind.u64.wrap (n : Int) = ((n % 18446744073709551616 : Nat) : Int) := by
  rw [IntKind.wrap_u64, Int.natCast_emod]; rfl
theorem step_any (h c : Nat) (w : World) (hh : U64 h) (hc : c ≤ 255) :
    Calls Tryz.prog 212 #[.int .u64 (h : Int), .int .u8 (c : Int)] w fun e w' => e = .returned (.int .u64 (stepN h c : Int)) ∧ w = w' := by
  have hx := bits_xor_u64_nat h c hh (by omega)
  obtain ⟨x, hxe⟩ : ∃ x : Nat, h ^^^ c = x := ⟨_, rfl⟩
  rw [hxe] at hx
  have hm : IntKind.u64.wrap ((x : Int) * 1099511628211) = (stepN h c : Int) := by
    have := wrap_nat (x * 1099511628211)
    unfold stepN
    rw [hxe, ← this]
    exact congrArg _ (Int.natCast_mul x 1099511628211).symm
  have hw : IntKind.u64.wrap (c : Int) = (c : Int) := by rw [IntKind.wrap_u64]; omega
  obtain ⟨y, hy⟩ : ∃ y : Nat, stepN h c = y := ⟨_, rfl⟩
  rw [hy] at hm ⊢
  clear hxe hy hh hc
  go_enter Tryz.func212, Tryz.ntmps212
  go_wp2
  go_ret
  exact ⟨rfl, rfl⟩
end Go.Proofs.YtkdpfjenjcpcfaaGreatDoor
namespace Go.Proofs.YtkdpfjenjcpcfaaGreatDoor
open Go.RowKit Mem Be Word
set_option maxRecDepth 10000
set_option maxHeartbeats 1000000
theorem sum_any (B c n : Nat) (A : Option Addr) (rs : List RowV) (hn : n = rs.length) (w : World) (h : Row w B A (rs.map rowV)) (hx : Rows_ w rs) (hm : ∀ r ∈ rs, r.2.1.length ≤ 9223372036854775807) (hnm : n ≤ 9223372036854775807) :
    Calls Tryz.prog 194 #[.slice A n c] w fun e w' => e = .returned (.int .u64 (sumN basisN (catB rs) : Int)) ∧ w = w' := by
  have HR := Lib.hid h
  have HX := Lib.hid hx
  have HM := Lib.hid hm
  have HN := Lib.hid hn
  clear h hx hm hn
  go_enter Tryz.func194, Tryz.ntmps194
  go_wp2
  go_step3
  go_wp2
  go_step3
  go_wp2
  go_loopg [3, 9] n (fun gk v i wr => ∃ (k h : Nat), k + gk = n ∧ i = .int .i64 k ∧ v = .int .u64 (h : Int) ∧ Hid (sumN basisN (catB (rs.take k)) = h) ∧ wr = w)
  case atStart => exact ⟨0, basisN, by omega, rfl, rfl, Lib.hid rfl, rfl⟩
  case round =>
    obtain ⟨k, h, hk, rfl, rfl, HS, rfl⟩ := hrel
    by_cases hlt : k < n
    · obtain ⟨G, rfl⟩ : ∃ G, gk = G + 1 := ⟨gk - 1, by omega⟩
      obtain ⟨b, o, rfl, hb, hc⟩ := HR.out.open_ (by rw [List.length_map, ← HN.out]; omega)
      have hkr : k < rs.length := by rw [← HN.out]; exact hlt
      have hck := hc k (by rw [List.length_map]; exact hkr)
      rw [List.getElem_map] at hck
      have hrow := HX.out rs[k] (List.getElem_mem hkr)
      have hlen := HM.out rs[k] (List.getElem_mem hkr)
      have hcat := catB_snoc rs k hkr
      obtain ⟨⟨a, bs, cp⟩, hr⟩ : ∃ r, rs[k] = r := ⟨_, rfl⟩
      rw [hr] at hck hrow hlen hcat
      unfold rowV at hck
      simp only at hck hrow hlen hcat
      have HC := Lib.hid hcat
      have HW := Lib.hid hrow
      have HU : Hid (U64 h) := Lib.hid (by rw [← HS.out]; exact sum_lt _ basis_lt _)
      clear hc hcat hrow hr hb
      go_wp2
      go_loopg [3, 6] bs.length (fun g2 v i w2 => ∃ (j h2 : Nat), j + g2 = bs.length ∧ i = .int .i64 j ∧ v = .int .u64 (h2 : Int) ∧ Hid (sumN h (bs.take j) = h2) ∧ w2 = wr)
      case atStart => exact ⟨0, h, by omega, rfl, rfl, Lib.hid rfl, rfl⟩
      case round =>
        obtain ⟨j, h2, hj, rfl, rfl, HS2, rfl⟩ := hrel
        by_cases hjl : j < bs.length
        · obtain ⟨b2, o2, rfl, hb2, hc2⟩ := HW.out.open_ (by rw [List.length_map]; omega)
          have hcj := hc2 j (by rw [List.length_map]; exact hjl)
          rw [byteV_list bs j hjl] at hcj
          have hq : ((j : Int) == (bs.length : Int)) = false := by simp; omega
          have hsn := Lib.hid (sum_snoc h bs j hjl)
          have hu2 : U64 h2 := by rw [← HS2.out]; exact sum_lt _ HU.out _
          have hb8 : bs[j].toNat ≤ 255 := by have := bs[j].toNat_lt; omega
          clear hc2 hb2
          go_wp2_with fail
          refine (step_any h2 _ _ hu2 hb8).mono ?_
          rintro e w' ⟨rfl, rfl⟩
          go_wp2
          go_roundg (gk - 1)
          case measure => omega
          case rel => exact ⟨j + 1, stepN h2 bs[j].toNat, by omega, by go_num, rfl, Lib.hid (by rw [hsn.out, HS2.out]), rfl⟩
        · obtain rfl : j = bs.length := by omega
          have hfin : Hid (sumN basisN (catB (rs.take (k + 1))) = h2) := Lib.hid (by rw [HC.out, sum_app, HS.out, ← HS2.out, List.take_of_length_le (Nat.le_refl _)])
          go_wp2
          go_roundg G
          case measure => omega
          case rel => exact ⟨k + 1, h2, by omega, by go_num, rfl, hfin, rfl⟩
    · have hfin : Hid (sumN basisN (catB rs) = h) := Lib.hid (by rw [← HS.out, List.take_of_length_le (by rw [← HN.out]; omega)])
      go_wp2
      try rw [Exit.noGoto_ret]
      go_ret
      rw [hfin.out]
      exact ⟨rfl, rfl⟩
end Go.Proofs.YtkdpfjenjcpcfaaGreatDoor
namespace Go.Proofs.YtkdpfjenjcpcfaaGreatDoor
open Go.RowKit Mem Be Word
set_option maxRecDepth 10000
set_option maxHeartbeats 1000000
def w8 (n : Int) : List UInt8 := be 8 (uZ n)
end Go.Proofs.YtkdpfjenjcpcfaaGreatDoor
namespace Go.Proofs.YtkdpfjenjcpcfaaGreatDoor
open Go.RowKit Mem Be Word
set_option maxRecDepth 10000
set_option maxHeartbeats 2000000
end Go.Proofs.YtkdpfjenjcpcfaaGreatDoor
namespace Go.Proofs.YtkdpfjenjcpcfaaGreatDoor
open Go.RowKit Mem Be Word
set_option maxRecDepth 10000
set_option maxHeartbeats 2000000
theorem check_xor (h : Nat) (hh : U64 h) : bits .xor .u32 ((h / 4294967296 : Nat) : Int) ((h % 4294967296 : Nat) : Int) = (checkN h : Int) := by
  unfold U64 at hh
  exact u32_xor_nat _ _ (by omega) (by omega)
theorem check_any (B c n : Nat) (A : Option Addr) (rs : List RowV) (hn : n = rs.length) (w : World) (h : Row w B A (rs.map rowV)) (hx : Rows_ w rs) (hm : ∀ r ∈ rs, r.2.1.length ≤ 9223372036854775807) (hnm : n ≤ 9223372036854775807) :
    Calls Tryz.prog 175 #[.slice A n c] w fun e w' => e = .returned (.int .u32 (checkN (sumN basisN (catB rs)) : Int)) ∧ w = w' := by
  have C := sum_any B c n A rs hn w h hx hm hnm
  have hh := sum_lt _ basis_lt (catB rs)
  obtain ⟨x, hxx⟩ : ∃ x, sumN basisN (catB rs) = x := ⟨_, rfl⟩
  rw [hxx] at C hh ⊢
  have r3 := check_xor x hh
  obtain ⟨a, ha⟩ : ∃ a : Nat, x / 4294967296 = a := ⟨_, rfl⟩
  obtain ⟨b, hb⟩ : ∃ b : Nat, x % 4294967296 = b := ⟨_, rfl⟩
  obtain ⟨y, hy⟩ : ∃ y : Nat, checkN x = y := ⟨_, rfl⟩
  rw [ha, hb, hy] at r3
  have r1 : IntKind.u32.wrap ((x : Int) / 4294967296) = (a : Int) := by rw [IntKind.wrap_u32']; unfold U64 at hh; omega
  have r2 : IntKind.u32.wrap (x : Int) = (b : Int) := by rw [IntKind.wrap_u32']; omega
  rw [hy]
  clear ha hb hy hxx hh h hx hm hn
  go_enter Tryz.func175, Tryz.ntmps175
  go_wp2_with fail
  refine C.mono ?_
  rintro e w' ⟨rfl, rfl⟩
  go_wp2
  go_ret
  exact ⟨rfl, rfl⟩
end Go.Proofs.YtkdpfjenjcpcfaaGreatDoor
