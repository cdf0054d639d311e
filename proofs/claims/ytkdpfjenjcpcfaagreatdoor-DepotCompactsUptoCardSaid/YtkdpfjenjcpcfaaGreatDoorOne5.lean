/- A frame, laid by the program: one contract. -/
import Derived.Test.YtkdpfjenjcpcfaaGreatDoorW4
import Derived.Test.YtkdpfjenjcpcfaaGreatDoorCore
namespace Go.Proofs.YtkdpfjenjcpcfaaGreatDoor
open Go.RowKit Mem Be Word Frm
set_option maxRecDepth 10000
set_option maxHeartbeats 1000000
/-- New bytes, and an error; all that was there below B is as it was. -/
def MadeF (B : Nat) (r : List UInt8 × Int) (w : World) (e : Ending) (w' : World) : Prop :=
  ∃ A c, e = .returned (.tuple #[.slice A r.1.length c, .int .i64 r.2]) ∧ w'.ownsRow B 5 1 (.slice A r.1.length c) r.1.length (r.1.map byteV) ∧ Below B w w'
def oneS (r : Rc) : List UInt8 × Int := if 65536 < r.2.length then ([], 3) else (frB r, 0)
theorem madeF_none {B : Nat} {w w' : World} (e : Int) (h : Below B w w') : MadeF B ([], e) w (.returned (.tuple #[.slice none 0 0, .int .i64 e])) w' :=
  ⟨none, 0, rfl, World.ownsRow_nil _ _ _ _, h⟩
theorem madeF_of {B : Nat} {w w' : World} {A : Option Addr} {m c n : Nat} {xs ys : List UInt8} {e : Int} (hx : xs = ys) (h : w'.ownsRow B 5 1 (.slice A m c) n (xs.map byteV)) (hm : m = n) (hb : Below B w w') :
    MadeF B (ys, e) w (.returned (.tuple #[.slice A m c, .int .i64 e])) w' := by
  subst hx; subst hm
  have hl : m = xs.length := by have := h.1; rw [List.length_map] at this; omega
  subst hl
  exact ⟨A, c, rfl, h, hb⟩
theorem two_lit (w : World) (k : UInt8) : (w.alloc (.cells #[.int .u8 165, .int .u8 (k.toNat : Int)] 5)).ownsRow w.heap.size 5 1 (.slice (some ⟨w.heap.size, 0, none⟩) 2 2) 2 (([165, k] : List UInt8).map byteV) :=
  own_lit [165, k] _ rfl (by show 2 ≤ 1000000; omega)
theorem one_any (k : UInt8) (B c n : Nat) (A : Option Addr) (bs : List UInt8) (hn : n = bs.length) (w : World) (h : Row w B A (bs.map byteV)) (hB : B ≤ w.heap.size) :
    Calls Tryz.prog 151 #[.int .u8 (k.toNat : Int), .slice A n c] w (MadeF w.heap.size (oneS (k, bs)) w) := by
  by_cases hl : 65536 < n
  · have hli : (65536 : Int) < (n : Int) := by omega
    rw [show oneS (k, bs) = ([], 3) from if_pos (by show 65536 < bs.length; omega)]
    clear h hl hn
    go_enter Tryz.func151, Tryz.ntmps151
    go_wp2
    go_ret2
    exact madeF_none 3 (Below.refl _ _)
  rw [show oneS (k, bs) = (frB (k, bs), 0) from if_neg (by show ¬ 65536 < bs.length; omega)]
  obtain ⟨i0, hi0, hz0, hz1, hz2⟩ := info_parts info_b
  have hli : (n : Int) ≤ 65536 := by omega
  have hli' : n ≤ 65536 := by omega
  have r1 : IntKind.u32.wrap (n : Int) = (n : Int) := by rw [IntKind.wrap_u32']; omega
  have HR := Lib.hid h
  have HN := Lib.hid hn
  clear h hn hl
  go_enter Tryz.func151, Tryz.ntmps151
  go_wp2_with fail
  refine (wordof_any n _).mono ?_
  rintro e w1 ⟨A1, c1, rfl, ho1, hb1⟩
  rw [b4_len] at ho1 ⊢
  have HO0 := Lib.hid (own_later (two_lit w k) hb1)
  have HB1 : Hid (Below w.heap.size w w1) := Lib.hid (below_after1 hb1)
  have HO1 := Lib.hid (Row.of_own ho1)
  clear ho1 hb1
  go_wp2_with (at_builtin; refine wpList_app _ rfl _ _ 27 rfl w.heap.size 5 i0 (.int .u8 0) 1 Tryz.underlying27 hi0 hz0 hz1 hz2 rfl _ 2 _ rfl HO0.out w1.heap.size _ 4 c1 ((b4 n).map byteV) rfl (by rw [List.length_map, b4_len]) HO1.out (byte_one _) (by unfold maxLen; omega) (by omega) HB1.out.size ?_)
  intro v' w2 hown hgr _
  have HB2 : Hid (Below w.heap.size w w2) := Lib.hid (HB1.out.grown hgr HB1.out.size fun g h => (HO0.out.lt g h).1)
  obtain ⟨A2, c2, hv, ho2, _⟩ := made_of (bs := headB k n) hown (by show _ = (165 :: k :: b4 n).map byteV; rfl) HB2.out
  rw [head_len] at hv ho2
  injection hv with hv
  subst hv
  have HO2 := Lib.hid (Row.of_own ho2)
  have HR2 := Lib.hid ((HR.out.below (HB2.out.mono hB)).more (Nat.le_trans hB HB2.out.size))
  have HS2 : Hid (Rows_ w2 [(A2, headB k n, c2), (A, bs, c)]) := Lib.hid (by
    intro r hr
    simp only [List.mem_cons, List.not_mem_nil, or_false] at hr
    rcases hr with rfl | rfl
    · exact HO2.out
    · exact HR2.out)
  clear hown hgr ho2
  have hq : checkN (sumN basisN (catB [(A2, headB k n, c2), (A, bs, c)])) = chk (bodyB (k, bs)) := by
    rw [HN.out]; simp [catB, chk, bodyB]
  obtain ⟨q, hqq⟩ : ∃ q, chk (bodyB (k, bs)) = q := ⟨_, rfl⟩
  have HQ := Lib.hid hqq
  rw [hqq] at hq
  have C := check_any (w2.heap.size + 1) 2 2 _ [(A2, headB k n, c2), (A, bs, c)] rfl _ (row_cells (t := 27) (by rw [HN.out]; simp [rowV, head_len] : (#[Value.slice A2 6 c2, .slice A n c] : Array Value).toList = _)) (rows_alloc HS2.out _) (by intro r hr; simp only [List.mem_cons, List.not_mem_nil, or_false] at hr; rcases hr with rfl | rfl; rw [head_len]; decide; rw [← HN.out]; omega) (by decide)
  rw [hq] at C
  have HC := Lib.hid C
  clear C hq hqq
  go_wp2_with fail
  refine HC.out.mono ?_
  rintro e w' ⟨rfl, rfl⟩
  clear HC
  go_wp2_with fail
  refine (wordof_any q _).mono ?_
  rintro e w3 ⟨A3, c3, rfl, ho3, hb3⟩
  have HB3 : Hid (Below w.heap.size w w3) := Lib.hid (HB2.out.trans ((below_after1 hb3).mono HB2.out.size))
  have HS3 := Lib.hid (rows_add (rows_alloc HS2.out _) hb3 ho3)
  rw [b4_len]
  clear ho3 hb3
  go_wp2_with fail
  refine (concat_any (w3.heap.size + 1) 3 3 _ [(A2, headB k n, c2), (A, bs, c), (A3, b4 q, c3)] rfl _ (row_cells (by rw [HN.out]; simp [rowV, head_len, b4_len])) (by simp) (rows_alloc HS3.out _) (by simp [catB, head_len, b4_len]; have := HN.out; omega) (by omega)).mono ?_
  rintro e w4 ⟨A4, c4, rfl, ho4, hb4⟩
  have HB4 : Hid (Below w.heap.size w w4) := Lib.hid (HB3.out.trans ((below_after1 hb4).mono HB3.out.size))
  have HO4 := Lib.hid (ownBase ho4 (Nat.le_trans HB3.out.size (by simp) : w.heap.size ≤ _))
  have hcat : Hid (catB [(A2, headB k n, c2), (A, bs, c), (A3, b4 q, c3)] = frB (k, bs)) := Lib.hid (by
    unfold frB; rw [HQ.out, HN.out]; simp [catB, bodyB])
  clear ho4 hb4
  go_wp2
  go_ret2
  exact madeF_of hcat.out HO4.out rfl HB4.out
end Go.Proofs.YtkdpfjenjcpcfaaGreatDoor
