/- A frame, laid by the document: one contract. -/
import Derived.Test.YtkdpfjenjcpcfaaGreatDoorOne5
namespace Go.Proofs.YtkdpfjenjcpcfaaGreatDoor
open Go.RowKit Mem Be Word Frm
set_option maxRecDepth 10000
set_option maxHeartbeats 1000000
theorem refone_any (k : UInt8) (B c n : Nat) (A : Option Addr) (bs : List UInt8) (hn : n = bs.length) (w : World) (h : Row w B A (bs.map byteV)) (hB : B ≤ w.heap.size) :
    Calls Tryz.prog 100 #[.int .u8 (k.toNat : Int), .slice A n c] w (MadeF w.heap.size (oneS (k, bs)) w) := by
  by_cases hl : 65536 < n
  · have hli : (65536 : Int) < (n : Int) := by omega
    rw [show oneS (k, bs) = ([], 3) from if_pos (by show 65536 < bs.length; omega)]
    clear h hl hn
    go_enter Tryz.func100, Tryz.ntmps100
    go_wp2
    go_ret2
    exact madeF_none 3 (Below.refl _ _)
  rw [show oneS (k, bs) = (frB (k, bs), 0) from if_neg (by show ¬ 65536 < bs.length; omega)]
  obtain ⟨i0, hi0, hz0, hz1, hz2⟩ := info_parts info_b
  have hli : (n : Int) ≤ 65536 := by omega
  have hli' : n ≤ 65536 := by omega
  have HR := Lib.hid h
  have HN := Lib.hid hn
  clear h hn hl
  go_enter Tryz.func100, Tryz.ntmps100
  go_wp2_with fail
  refine (four_any n (by omega) _).mono ?_
  rintro e w1 ⟨A1, c1, rfl, ho1, hb1⟩
  rw [b4_len] at ho1 ⊢
  have HO0 := Lib.hid (own_later (two_lit w k) hb1)
  have HB1 : Hid (Below w.heap.size w w1) := Lib.hid (below_after1 hb1)
  have HO1 := Lib.hid (Row.of_own ho1)
  clear ho1 hb1
  go_wp2_with (at_builtin; refine wpList_app _ rfl _ _ 27 rfl w.heap.size 5 i0 (.int .u8 0) 1 Tryz.underlying27 hi0 hz0 hz1 hz2 rfl _ 2 _ rfl HO0.out w1.heap.size _ 4 c1 ((b4 n).map byteV) rfl (by rw [List.length_map, b4_len]) HO1.out (byte_one _) (by unfold maxLen; omega) (by omega) HB1.out.size ?_)
  intro v' w2 hown hgr _
  have HB2 : Hid (Below w.heap.size w w2) := Lib.hid (HB1.out.grown hgr HB1.out.size fun g h => (HO0.out.lt g h).1)
  obtain ⟨A2, c2, hv, ho2, _⟩ := made_of (bs := headB k n) hown (by show _ = (165 :: k :: b4 n).map byteV; rfl) HB2.out
  rw [head_len] at hv ho2
  injection hv with hv
  subst hv
  have HO2 := Lib.hid ho2
  have HR2 := Lib.hid ((HR.out.below (HB2.out.mono hB)).more (Nat.le_trans hB HB2.out.size))
  clear hown hgr ho2
  go_wp2_with (at_builtin; refine wpList_app _ rfl _ _ 27 rfl w.heap.size 5 i0 (.int .u8 0) 1 Tryz.underlying27 hi0 hz0 hz1 hz2 rfl _ 6 _ rfl HO2.out w2.heap.size _ n c (bs.map byteV) rfl (by rw [List.length_map, HN.out]) HR2.out (byte_one _) (by unfold maxLen; omega) (by omega) HB2.out.size ?_)
  intro v' w3 hown hgr _
  have HB3 : Hid (Below w.heap.size w w3) := Lib.hid (HB2.out.grown hgr HB2.out.size fun g h => (HO2.out.lt g h).1)
  obtain ⟨A3, c3, hv, ho3, _⟩ := made_of (bs := bodyB (k, bs)) hown (by unfold bodyB; rw [HN.out, List.map_append]) HB3.out
  obtain ⟨m, hm⟩ : ∃ m, (bodyB (k, bs)).length = m := ⟨_, rfl⟩
  rw [hm] at hv ho3
  injection hv with hv
  subst hv
  have hm2 : m ≤ 100000 := by have := body_len (k, bs); have := HN.out; simp only at *; omega
  obtain ⟨q, hqq⟩ : ∃ q, chk (bodyB (k, bs)) = q := ⟨_, rfl⟩
  have HQ := Lib.hid hqq
  have HM := Lib.hid hm
  have HO3 := Lib.hid ho3
  have hC := refcheck_any w3.heap.size c3 m A3 (bodyB (k, bs)) hm.symm w3 (Row.of_own ho3) (by omega)
  rw [show checkN (sumN basisN (bodyB (k, bs))) = q from hqq] at hC
  have HC := Lib.hid hC
  have hq4 : q < 4294967296 := by rw [← hqq]; exact chk_lt _
  have hqi : (q : Int) ≤ 4294967295 := by omega
  clear hown hgr ho3 hm hqq hC
  go_wp2_with fail
  refine HC.out.mono ?_
  rintro e w' ⟨rfl, rfl⟩
  clear HC
  go_wp2_with fail
  refine (four_any q hq4 _).mono ?_
  rintro e w4 ⟨A4, c4, rfl, ho4, hb4⟩
  have HB4 : Hid (Below w.heap.size w w4) := Lib.hid (HB3.out.trans (hb4.mono HB3.out.size))
  have HO4 := Lib.hid (own_later HO3.out hb4)
  have HR4 := Lib.hid (Row.of_own ho4)
  rw [b4_len]
  clear ho4 hb4
  go_wp2_with (at_builtin; refine wpList_app _ rfl _ _ 27 rfl w.heap.size 5 i0 (.int .u8 0) 1 Tryz.underlying27 hi0 hz0 hz1 hz2 rfl _ m _ rfl HO4.out w4.heap.size _ 4 c4 ((b4 q).map byteV) rfl (by rw [List.length_map, b4_len]) HR4.out (byte_one _) (by unfold maxLen; omega) (by omega) HB4.out.size ?_)
  intro v' w5 hown hgr _
  have HB5 : Hid (Below w.heap.size w w5) := Lib.hid (HB4.out.grown hgr HB4.out.size fun g h => (HO4.out.lt g h).1)
  obtain ⟨A5, c5, hv, ho5, _⟩ := made_of (bs := frB (k, bs)) hown (by unfold frB; rw [HQ.out, List.map_append]) HB5.out
  injection hv with hv
  subst hv
  have HO5 := Lib.hid ho5
  clear hown hgr ho5
  go_wp2
  go_ret2
  exact madeF_of rfl HO5.out rfl HB5.out
end Go.Proofs.YtkdpfjenjcpcfaaGreatDoor
