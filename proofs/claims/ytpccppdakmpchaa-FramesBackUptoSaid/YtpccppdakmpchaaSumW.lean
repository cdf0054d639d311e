/- Sums of bytes, the program's (of rows) and the document's (of one row): one contract each. -/
import Derived.Test.YtpccppdakmpchaaStep
import Derived.Test.YtpccppdakmpchaaMany
import Derived.Deep.LoopGhost
namespace Go.Proofs.Ytpccppdakmpchaa
open Go.RowKit Mem Be Word
set_option maxRecDepth 10000
set_option maxHeartbeats 1000000
theorem basis_int : (14695981039346656037 : Int) = (basisN : Int) := rfl
theorem sum_any (B c n : Nat) (A : Option Addr) (rs : List RowV) (hn : n = rs.length) (w : World) (h : Row w B A (rs.map rowV)) (hx : Rows_ w rs) (hm : ∀ r ∈ rs, r.2.1.length ≤ 9223372036854775807) (hnm : n ≤ 9223372036854775807) :
    Calls Try.prog 35 #[.slice A n c] w fun e w' => e = .returned (.int .u64 (sumN basisN (catB rs) : Int)) ∧ w = w' := by
  have HR := Lib.hid h
  have HX := Lib.hid hx
  have HM := Lib.hid hm
  have HN := Lib.hid hn
  clear h hx hm hn
  go_enter Try.func35, Try.ntmps35
  go_wp2
  go_step3
  go_wp2
  go_step3
  go_wp2
  go_loopg [3, 9] n (fun gk v i wr => ∃ (k h : Nat), k + gk = n ∧ i = .int .i64 k ∧ v = .int .u64 (h : Int) ∧ Hid (sumN basisN (catB (rs.take k)) = h) ∧ wr = w)
  case atStart => exact ⟨0, basisN, by omega, rfl, rfl, Lib.hid rfl, rfl⟩
  case round =>
    obtain ⟨k, h, hk, rfl, rfl, HS, rfl⟩ := hrel
    by_cases hlt : k < n
    · obtain ⟨G, rfl⟩ : ∃ G, gk = G + 1 := ⟨gk - 1, by omega⟩
      obtain ⟨b, o, rfl, hb, hc⟩ := HR.out.open_ (by rw [List.length_map, ← HN.out]; omega)
      have hkr : k < rs.length := by rw [← HN.out]; exact hlt
      have hck := hc k (by rw [List.length_map]; exact hkr)
      rw [List.getElem_map] at hck
      have hrow := HX.out rs[k] (List.getElem_mem hkr)
      have hlen := HM.out rs[k] (List.getElem_mem hkr)
      have hcat := catB_snoc rs k hkr
      obtain ⟨⟨a, bs, cp⟩, hr⟩ : ∃ r, rs[k] = r := ⟨_, rfl⟩
      rw [hr] at hck hrow hlen hcat
      unfold rowV at hck
      simp only at hck hrow hlen hcat
      have HC := Lib.hid hcat
      have HW := Lib.hid hrow
      have HU : Hid (U64 h) := Lib.hid (by rw [← HS.out]; exact sum_lt _ basis_lt _)
      clear hc hcat hrow hr hb
      go_wp2
      go_loopg [3, 6] bs.length (fun g2 v i w2 => ∃ (j h2 : Nat), j + g2 = bs.length ∧ i = .int .i64 j ∧ v = .int .u64 (h2 : Int) ∧ Hid (sumN h (bs.take j) = h2) ∧ w2 = wr)
      case atStart => exact ⟨0, h, by omega, rfl, rfl, Lib.hid rfl, rfl⟩
      case round =>
        obtain ⟨j, h2, hj, rfl, rfl, HS2, rfl⟩ := hrel
        by_cases hjl : j < bs.length
        · obtain ⟨b2, o2, rfl, hb2, hc2⟩ := HW.out.open_ (by rw [List.length_map]; omega)
          have hcj := hc2 j (by rw [List.length_map]; exact hjl)
          rw [byteV_list bs j hjl] at hcj
          have hq : ((j : Int) == (bs.length : Int)) = false := by simp; omega
          have hsn := Lib.hid (sum_snoc h bs j hjl)
          have hu2 : U64 h2 := by rw [← HS2.out]; exact sum_lt _ HU.out _
          have hb8 : bs[j].toNat ≤ 255 := by have := bs[j].toNat_lt; omega
          clear hc2 hb2
          go_wp2_with fail
          refine (step_any h2 _ _ hu2 hb8).mono ?_
          rintro e w' ⟨rfl, rfl⟩
          go_wp2
          go_roundg (gk - 1)
          case measure => omega
          case rel => exact ⟨j + 1, stepN h2 bs[j].toNat, by omega, by go_num, rfl, Lib.hid (by rw [hsn.out, HS2.out]), rfl⟩
        · obtain rfl : j = bs.length := by omega
          have hfin : Hid (sumN basisN (catB (rs.take (k + 1))) = h2) := Lib.hid (by rw [HC.out, sum_app, HS.out, ← HS2.out, List.take_of_length_le (Nat.le_refl _)])
          go_wp2
          go_roundg G
          case measure => omega
          case rel => exact ⟨k + 1, h2, by omega, by go_num, rfl, hfin, rfl⟩
    · have hfin : Hid (sumN basisN (catB rs) = h) := Lib.hid (by rw [← HS.out, List.take_of_length_le (by rw [← HN.out]; omega)])
      go_wp2
      try rw [Exit.noGoto_ret]
      go_ret
      rw [hfin.out]
      exact ⟨rfl, rfl⟩
theorem refsum_any (B c n : Nat) (A : Option Addr) (bs : List UInt8) (hn : n = bs.length) (w : World) (h : Row w B A (bs.map byteV)) (hnm : n ≤ 9223372036854775807) :
    Calls Try.prog 36 #[.slice A n c] w fun e w' => e = .returned (.int .u64 (sumN basisN bs : Int)) ∧ w = w' := by
  have HR := Lib.hid h
  have HN := Lib.hid hn
  clear h hn
  go_enter Try.func36, Try.ntmps36
  go_wp2
  go_loop [3, 4] (fun v i => ∃ (k h : Nat), k ≤ n ∧ i = .int .i64 k ∧ v = .int .u64 (h : Int) ∧ Hid (sumN basisN (bs.take k) = h)) (fun _ i => n - (intOf i).toNat)
  case atStart => exact ⟨0, basisN, by omega, rfl, rfl, Lib.hid rfl⟩
  case round =>
    obtain ⟨k, h, hk, rfl, rfl, HS⟩ := hrel
    by_cases hlt : k < n
    · obtain ⟨b, o, rfl, hb, hc⟩ := HR.out.open_ (by rw [List.length_map, ← HN.out]; omega)
      have hkr : k < bs.length := by rw [← HN.out]; exact hlt
      have hck := hc k (by rw [List.length_map]; exact hkr)
      rw [byteV_list bs k hkr] at hck
      have hsn := Lib.hid (sum_snoc basisN bs k hkr)
      have hu2 : U64 h := by rw [← HS.out]; exact sum_lt _ basis_lt _
      have hb8 : bs[k].toNat ≤ 255 := by have := bs[k].toNat_lt; omega
      clear hc hb
      go_wp2_with fail
      refine (refstep_any h _ _ hu2 hb8).mono ?_
      rintro e w' ⟨rfl, rfl⟩
      go_wp2
      go_round
      case rel => exact ⟨k + 1, stepN h bs[k].toNat, by omega, by go_num, rfl, Lib.hid (by rw [hsn.out, HS.out])⟩
      case measure => simp [intOf]; omega
    · have hfin : Hid (sumN basisN bs = h) := Lib.hid (by rw [← HS.out, List.take_of_length_le (by rw [← HN.out]; omega)])
      go_wp2
      go_ret
      rw [hfin.out]
      exact ⟨rfl, rfl⟩
end Go.Proofs.Ytpccppdakmpchaa
