/- Of any ring with a node more, or less. -/
import Derived.Test.YthnfinnlnkjomaaLw9
import Derived.Test.YthnfinnlnkjomaaLw9T
namespace Go.Proofs.Ythnfinnlnkjomaa
open Go.RowKit Mem Rg
set_option maxRecDepth 100000
set_option maxHeartbeats 16000000
set_option linter.unusedVariables false
theorem turns_walk (A : Option Addr) (n c : Nat) (ns : List Int) (e k x : Int) (hn : n = ns.length) (hl : n ≤ maxLen) (hnc : n ≤ c) (w : World) (h : Row w w.heap.size A (ns.map iV)) :
    Calls Try.prog 5 #[.agg #[.slice A n c, .int .i64 e, .int .i64 k], .int .i64 x] w (IsTr w) := by
  have hbw : Below w.heap.size w (w.alloc (.cells #[.slice A n c, .int .i64 e, .int .i64 k] 24)) := (Below.refl _ _).alloc (Nat.le_refl _) _
  have hkk : Blk (w.alloc (.cells #[.slice A n c, .int .i64 e, .int .i64 k] 24)) w.heap.size 24 #[.slice A n c, .int .i64 e, .int .i64 k] := Blk.new _ _ _
  obtain ⟨W0, hW0⟩ : ∃ W0, w.alloc (.cells #[.slice A n c, .int .i64 e, .int .i64 k] 24) = W0 := ⟨_, rfl⟩
  have HW0 := Lib.hid hW0
  rw [hW0] at hbw hkk
  have HBW := Lib.hid hbw
  have HKK := Lib.hid hkk
  have hrow : ∀ W, Below W0.heap.size W0 W → Row W W.heap.size A (ns.map iV) := fun W hb => (h.below (hbw.trans (hb.mono hbw.size))).more (Nat.le_trans hbw.size hb.size)
  have HROW := Lib.hid hrow
  have HN := Lib.hid hn
  clear h hn hW0 hbw hkk hrow
  have HB0 := Lib.hid (Below.refl W0.heap.size W0)
  by_cases h70 : (70 : Int) < (n : Int)
  · skip
    have HKC := HKK.out.below HB0.out HKK.out.lt
    have c0 : W0.cell? ⟨w.heap.size, 0, none⟩ = some (.slice A n c) := HKC.cell 0
    have c1 : W0.cell? ⟨w.heap.size, 1, none⟩ = some (.int .i64 e) := HKC.cell 1
    have c2 : W0.cell? ⟨w.heap.size, 2, none⟩ = some (.int .i64 k) := HKC.cell 2
    clear HKC
    have HC0 := Lib.hid c0
    clear c0 c1 c2
    have c0 : (w.alloc (.cells #[.slice A n c, .int .i64 e, .int .i64 k] 24)).cell? ⟨w.heap.size, 0, none⟩ = some (.slice A n c) := by rw [HW0.out]; exact HC0.out
    unfold maxLen at hl
    go_enter Try.func5, Try.ntmps5
    go_wp2_with (go_at_call 11; refine (known_any _).mono ?_; rintro e1 w1 ⟨rfl, hb1⟩)
    go_ret
    exact ⟨rfl, HBW.out.trans (by rw [← HW0.out]; exact hb1.mono (by simp))⟩
  have hn70 : n ≤ 70 := by omega
  obtain ⟨L1, e1, k1, q1, hw1, hw2, hl1, hq1⟩ := with_both A n c ns e k x HN.out (by omega) hnc
  obtain ⟨L2, e2, k2, q2, hw3, hw4, hl2⟩ := without_both A n c ns e k x HN.out (by omega) hnc
  have HQ1 := Lib.hid hq1
  have HW1 := Lib.hid hw1
  have HW2 := Lib.hid hw2
  have HW3 := Lib.hid hw3
  have HW4 := Lib.hid hw4
  clear hq1 hw1 hw2 hw3 hw4
  have HKC := HKK.out.below HB0.out HKK.out.lt
  have c0 : W0.cell? ⟨w.heap.size, 0, none⟩ = some (.slice A n c) := HKC.cell 0
  have c1 : W0.cell? ⟨w.heap.size, 1, none⟩ = some (.int .i64 e) := HKC.cell 1
  have c2 : W0.cell? ⟨w.heap.size, 2, none⟩ = some (.int .i64 k) := HKC.cell 2
  clear HKC
  go_enter Try.func5, Try.ntmps5
  go_wp2_with fail
  rw [HW0.out]
  refine (HW1.out W0 (HROW.out _ HB0.out)).mono ?_
  rintro e1 w1 ⟨A1, m1, rfl, ho1, hb1⟩
  have HO1 := Lib.hid ho1
  have HB1 := Lib.hid (HB0.out.trans (hb1.mono HB0.out.size))
  clear c0 c1 c2 hb1 ho1
  have HKC := HKK.out.below HB1.out HKK.out.lt
  have c0 : w1.cell? ⟨w.heap.size, 0, none⟩ = some (.slice A n c) := HKC.cell 0
  have c1 : w1.cell? ⟨w.heap.size, 1, none⟩ = some (.int .i64 e) := HKC.cell 1
  have c2 : w1.cell? ⟨w.heap.size, 2, none⟩ = some (.int .i64 k) := HKC.cell 2
  clear HKC
  obtain ⟨w2, hv2⟩ : ∃ V, w1.alloc (.cells #[.slice A1 L1.length m1, .int .i64 e1, .int .i64 k1] 24) = V := ⟨_, rfl⟩
  have hb2 : Below w1.heap.size w1 w2 := by rw [← hv2]; exact (Below.refl _ _).alloc (Nat.le_refl _) _
  have BA : Hid (Blk w2 w1.heap.size 24 #[.slice A1 L1.length m1, .int .i64 e1, .int .i64 k1]) := Lib.hid (by rw [← hv2]; exact Blk.new _ _ _)
  have HB2 := Lib.hid (HB1.out.trans (hb2.mono HB1.out.size))
  replace HO1 := Lib.hid (own_later HO1.out hb2)
  clear hb2
  clear c0 c1 c2
  have HKC := HKK.out.below HB2.out HKK.out.lt
  have c0 : w2.cell? ⟨w.heap.size, 0, none⟩ = some (.slice A n c) := HKC.cell 0
  have c1 : w2.cell? ⟨w.heap.size, 1, none⟩ = some (.int .i64 e) := HKC.cell 1
  have c2 : w2.cell? ⟨w.heap.size, 2, none⟩ = some (.int .i64 k) := HKC.cell 2
  clear HKC
  have BA0 : w2.cell? ⟨w1.heap.size, 0, none⟩ = some (.slice A1 L1.length m1) := BA.out.cell 0
  have BA1 : w2.cell? ⟨w1.heap.size, 1, none⟩ = some (.int .i64 e1) := BA.out.cell 1
  have BA2 : w2.cell? ⟨w1.heap.size, 2, none⟩ = some (.int .i64 k1) := BA.out.cell 2
  go_wp2_with fail
  refine (HW2.out w2 (HROW.out _ HB2.out)).mono ?_
  rintro e3 w3 ⟨A2, m2, rfl, ho2, hb3⟩
  have HO2 := Lib.hid ho2
  have HB3 := Lib.hid (HB2.out.trans (hb3.mono HB2.out.size))
  replace HO1 := Lib.hid (own_later HO1.out hb3)
  replace BA := Lib.hid (BA.out.below hb3 BA.out.lt)
  clear c0 c1 c2 BA0 BA1 BA2 hb3 ho2
  have HKC := HKK.out.below HB3.out HKK.out.lt
  have c0 : w3.cell? ⟨w.heap.size, 0, none⟩ = some (.slice A n c) := HKC.cell 0
  have c1 : w3.cell? ⟨w.heap.size, 1, none⟩ = some (.int .i64 e) := HKC.cell 1
  have c2 : w3.cell? ⟨w.heap.size, 2, none⟩ = some (.int .i64 k) := HKC.cell 2
  clear HKC
  have BA0 : w3.cell? ⟨w1.heap.size, 0, none⟩ = some (.slice A1 L1.length m1) := BA.out.cell 0
  have BA1 : w3.cell? ⟨w1.heap.size, 1, none⟩ = some (.int .i64 e1) := BA.out.cell 1
  have BA2 : w3.cell? ⟨w1.heap.size, 2, none⟩ = some (.int .i64 k1) := BA.out.cell 2
  clear hv2
  obtain ⟨w4, hv4⟩ : ∃ V, w3.alloc (.cells #[.slice A2 L1.length m2, .int .i64 e1, .int .i64 k1] 24) = V := ⟨_, rfl⟩
  have hb4 : Below w3.heap.size w3 w4 := by rw [← hv4]; exact (Below.refl _ _).alloc (Nat.le_refl _) _
  have BB : Hid (Blk w4 w3.heap.size 24 #[.slice A2 L1.length m2, .int .i64 e1, .int .i64 k1]) := Lib.hid (by rw [← hv4]; exact Blk.new _ _ _)
  have HB4 := Lib.hid (HB3.out.trans (hb4.mono HB3.out.size))
  replace HO1 := Lib.hid (own_later HO1.out hb4)
  replace HO2 := Lib.hid (own_later HO2.out hb4)
  replace BA := Lib.hid (BA.out.below hb4 BA.out.lt)
  clear hb4
  clear c0 c1 c2 BA0 BA1 BA2
  have HKC := HKK.out.below HB4.out HKK.out.lt
  have c0 : w4.cell? ⟨w.heap.size, 0, none⟩ = some (.slice A n c) := HKC.cell 0
  have c1 : w4.cell? ⟨w.heap.size, 1, none⟩ = some (.int .i64 e) := HKC.cell 1
  have c2 : w4.cell? ⟨w.heap.size, 2, none⟩ = some (.int .i64 k) := HKC.cell 2
  clear HKC
  have BA0 : w4.cell? ⟨w1.heap.size, 0, none⟩ = some (.slice A1 L1.length m1) := BA.out.cell 0
  have BA1 : w4.cell? ⟨w1.heap.size, 1, none⟩ = some (.int .i64 e1) := BA.out.cell 1
  have BA2 : w4.cell? ⟨w1.heap.size, 2, none⟩ = some (.int .i64 k1) := BA.out.cell 2
  have BB0 : w4.cell? ⟨w3.heap.size, 0, none⟩ = some (.slice A2 L1.length m2) := BB.out.cell 0
  have BB1 : w4.cell? ⟨w3.heap.size, 1, none⟩ = some (.int .i64 e1) := BB.out.cell 1
  have BB2 : w4.cell? ⟨w3.heap.size, 2, none⟩ = some (.int .i64 k1) := BB.out.cell 2
  go_wp2_with fail
  refine (HW3.out w4 (HROW.out _ HB4.out)).mono ?_
  rintro e5 w5 ⟨A3, m3, rfl, ho3, hb5⟩
  have HO3 := Lib.hid ho3
  have HB5 := Lib.hid (HB4.out.trans (hb5.mono HB4.out.size))
  replace HO1 := Lib.hid (own_later HO1.out hb5)
  replace HO2 := Lib.hid (own_later HO2.out hb5)
  replace BA := Lib.hid (BA.out.below hb5 BA.out.lt)
  replace BB := Lib.hid (BB.out.below hb5 BB.out.lt)
  clear c0 c1 c2 BA0 BA1 BA2 BB0 BB1 BB2 hb5 ho3
  have HKC := HKK.out.below HB5.out HKK.out.lt
  have c0 : w5.cell? ⟨w.heap.size, 0, none⟩ = some (.slice A n c) := HKC.cell 0
  have c1 : w5.cell? ⟨w.heap.size, 1, none⟩ = some (.int .i64 e) := HKC.cell 1
  have c2 : w5.cell? ⟨w.heap.size, 2, none⟩ = some (.int .i64 k) := HKC.cell 2
  clear HKC
  have BA0 : w5.cell? ⟨w1.heap.size, 0, none⟩ = some (.slice A1 L1.length m1) := BA.out.cell 0
  have BA1 : w5.cell? ⟨w1.heap.size, 1, none⟩ = some (.int .i64 e1) := BA.out.cell 1
  have BA2 : w5.cell? ⟨w1.heap.size, 2, none⟩ = some (.int .i64 k1) := BA.out.cell 2
  have BB0 : w5.cell? ⟨w3.heap.size, 0, none⟩ = some (.slice A2 L1.length m2) := BB.out.cell 0
  have BB1 : w5.cell? ⟨w3.heap.size, 1, none⟩ = some (.int .i64 e1) := BB.out.cell 1
  have BB2 : w5.cell? ⟨w3.heap.size, 2, none⟩ = some (.int .i64 k1) := BB.out.cell 2
  clear hv4
  obtain ⟨w6, hv6⟩ : ∃ V, w5.alloc (.cells #[.slice A3 L2.length m3, .int .i64 e2, .int .i64 k2] 24) = V := ⟨_, rfl⟩
  have hb6 : Below w5.heap.size w5 w6 := by rw [← hv6]; exact (Below.refl _ _).alloc (Nat.le_refl _) _
  have BC : Hid (Blk w6 w5.heap.size 24 #[.slice A3 L2.length m3, .int .i64 e2, .int .i64 k2]) := Lib.hid (by rw [← hv6]; exact Blk.new _ _ _)
  have HB6 := Lib.hid (HB5.out.trans (hb6.mono HB5.out.size))
  replace HO1 := Lib.hid (own_later HO1.out hb6)
  replace HO2 := Lib.hid (own_later HO2.out hb6)
  replace HO3 := Lib.hid (own_later HO3.out hb6)
  replace BA := Lib.hid (BA.out.below hb6 BA.out.lt)
  replace BB := Lib.hid (BB.out.below hb6 BB.out.lt)
  clear hb6
  clear c0 c1 c2 BA0 BA1 BA2 BB0 BB1 BB2
  have HKC := HKK.out.below HB6.out HKK.out.lt
  have c0 : w6.cell? ⟨w.heap.size, 0, none⟩ = some (.slice A n c) := HKC.cell 0
  have c1 : w6.cell? ⟨w.heap.size, 1, none⟩ = some (.int .i64 e) := HKC.cell 1
  have c2 : w6.cell? ⟨w.heap.size, 2, none⟩ = some (.int .i64 k) := HKC.cell 2
  clear HKC
  have BA0 : w6.cell? ⟨w1.heap.size, 0, none⟩ = some (.slice A1 L1.length m1) := BA.out.cell 0
  have BA1 : w6.cell? ⟨w1.heap.size, 1, none⟩ = some (.int .i64 e1) := BA.out.cell 1
  have BA2 : w6.cell? ⟨w1.heap.size, 2, none⟩ = some (.int .i64 k1) := BA.out.cell 2
  have BB0 : w6.cell? ⟨w3.heap.size, 0, none⟩ = some (.slice A2 L1.length m2) := BB.out.cell 0
  have BB1 : w6.cell? ⟨w3.heap.size, 1, none⟩ = some (.int .i64 e1) := BB.out.cell 1
  have BB2 : w6.cell? ⟨w3.heap.size, 2, none⟩ = some (.int .i64 k1) := BB.out.cell 2
  have BC0 : w6.cell? ⟨w5.heap.size, 0, none⟩ = some (.slice A3 L2.length m3) := BC.out.cell 0
  have BC1 : w6.cell? ⟨w5.heap.size, 1, none⟩ = some (.int .i64 e2) := BC.out.cell 1
  have BC2 : w6.cell? ⟨w5.heap.size, 2, none⟩ = some (.int .i64 k2) := BC.out.cell 2
  go_wp2_with fail
  refine (HW4.out w6 (HROW.out _ HB6.out)).mono ?_
  rintro e7 w7 ⟨A4, m4, rfl, ho4, hb7⟩
  have HO4 := Lib.hid ho4
  have HB7 := Lib.hid (HB6.out.trans (hb7.mono HB6.out.size))
  replace HO1 := Lib.hid (own_later HO1.out hb7)
  replace HO2 := Lib.hid (own_later HO2.out hb7)
  replace HO3 := Lib.hid (own_later HO3.out hb7)
  replace BA := Lib.hid (BA.out.below hb7 BA.out.lt)
  replace BB := Lib.hid (BB.out.below hb7 BB.out.lt)
  replace BC := Lib.hid (BC.out.below hb7 BC.out.lt)
  clear c0 c1 c2 BA0 BA1 BA2 BB0 BB1 BB2 BC0 BC1 BC2 hb7 ho4
  have HKC := HKK.out.below HB7.out HKK.out.lt
  have c0 : w7.cell? ⟨w.heap.size, 0, none⟩ = some (.slice A n c) := HKC.cell 0
  have c1 : w7.cell? ⟨w.heap.size, 1, none⟩ = some (.int .i64 e) := HKC.cell 1
  have c2 : w7.cell? ⟨w.heap.size, 2, none⟩ = some (.int .i64 k) := HKC.cell 2
  clear HKC
  have BA0 : w7.cell? ⟨w1.heap.size, 0, none⟩ = some (.slice A1 L1.length m1) := BA.out.cell 0
  have BA1 : w7.cell? ⟨w1.heap.size, 1, none⟩ = some (.int .i64 e1) := BA.out.cell 1
  have BA2 : w7.cell? ⟨w1.heap.size, 2, none⟩ = some (.int .i64 k1) := BA.out.cell 2
  have BB0 : w7.cell? ⟨w3.heap.size, 0, none⟩ = some (.slice A2 L1.length m2) := BB.out.cell 0
  have BB1 : w7.cell? ⟨w3.heap.size, 1, none⟩ = some (.int .i64 e1) := BB.out.cell 1
  have BB2 : w7.cell? ⟨w3.heap.size, 2, none⟩ = some (.int .i64 k1) := BB.out.cell 2
  have BC0 : w7.cell? ⟨w5.heap.size, 0, none⟩ = some (.slice A3 L2.length m3) := BC.out.cell 0
  have BC1 : w7.cell? ⟨w5.heap.size, 1, none⟩ = some (.int .i64 e2) := BC.out.cell 1
  have BC2 : w7.cell? ⟨w5.heap.size, 2, none⟩ = some (.int .i64 k2) := BC.out.cell 2
  clear hv6
  obtain ⟨w8, hv8⟩ : ∃ V, w7.alloc (.cells #[.slice A4 L2.length m4, .int .i64 e2, .int .i64 k2] 24) = V := ⟨_, rfl⟩
  have hb8 : Below w7.heap.size w7 w8 := by rw [← hv8]; exact (Below.refl _ _).alloc (Nat.le_refl _) _
  have BD : Hid (Blk w8 w7.heap.size 24 #[.slice A4 L2.length m4, .int .i64 e2, .int .i64 k2]) := Lib.hid (by rw [← hv8]; exact Blk.new _ _ _)
  have HB8 := Lib.hid (HB7.out.trans (hb8.mono HB7.out.size))
  replace HO1 := Lib.hid (own_later HO1.out hb8)
  replace HO2 := Lib.hid (own_later HO2.out hb8)
  replace HO3 := Lib.hid (own_later HO3.out hb8)
  replace HO4 := Lib.hid (own_later HO4.out hb8)
  replace BA := Lib.hid (BA.out.below hb8 BA.out.lt)
  replace BB := Lib.hid (BB.out.below hb8 BB.out.lt)
  replace BC := Lib.hid (BC.out.below hb8 BC.out.lt)
  clear hb8
  clear c0 c1 c2 BA0 BA1 BA2 BB0 BB1 BB2 BC0 BC1 BC2
  have HKC := HKK.out.below HB8.out HKK.out.lt
  have c0 : w8.cell? ⟨w.heap.size, 0, none⟩ = some (.slice A n c) := HKC.cell 0
  have c1 : w8.cell? ⟨w.heap.size, 1, none⟩ = some (.int .i64 e) := HKC.cell 1
  have c2 : w8.cell? ⟨w.heap.size, 2, none⟩ = some (.int .i64 k) := HKC.cell 2
  clear HKC
  have BA0 : w8.cell? ⟨w1.heap.size, 0, none⟩ = some (.slice A1 L1.length m1) := BA.out.cell 0
  have BA1 : w8.cell? ⟨w1.heap.size, 1, none⟩ = some (.int .i64 e1) := BA.out.cell 1
  have BA2 : w8.cell? ⟨w1.heap.size, 2, none⟩ = some (.int .i64 k1) := BA.out.cell 2
  have BB0 : w8.cell? ⟨w3.heap.size, 0, none⟩ = some (.slice A2 L1.length m2) := BB.out.cell 0
  have BB1 : w8.cell? ⟨w3.heap.size, 1, none⟩ = some (.int .i64 e1) := BB.out.cell 1
  have BB2 : w8.cell? ⟨w3.heap.size, 2, none⟩ = some (.int .i64 k1) := BB.out.cell 2
  have BC0 : w8.cell? ⟨w5.heap.size, 0, none⟩ = some (.slice A3 L2.length m3) := BC.out.cell 0
  have BC1 : w8.cell? ⟨w5.heap.size, 1, none⟩ = some (.int .i64 e2) := BC.out.cell 1
  have BC2 : w8.cell? ⟨w5.heap.size, 2, none⟩ = some (.int .i64 k2) := BC.out.cell 2
  have BD0 : w8.cell? ⟨w7.heap.size, 0, none⟩ = some (.slice A4 L2.length m4) := BD.out.cell 0
  have BD1 : w8.cell? ⟨w7.heap.size, 1, none⟩ = some (.int .i64 e2) := BD.out.cell 1
  have BD2 : w8.cell? ⟨w7.heap.size, 2, none⟩ = some (.int .i64 k2) := BD.out.cell 2
  go_wp2_with fail
  refine (refsame_any A1 A2 L1.length L1.length m1 m2 L1 e1 k1 rfl rfl (by omega) w8 (ownRow HO1.out) (ownRow HO2.out)).mono ?_
  rintro e9 w9 ⟨rfl, hb9⟩
  have HB9 := Lib.hid (HB8.out.trans (hb9.mono HB8.out.size))
  replace HO1 := Lib.hid (own_later HO1.out hb9)
  replace HO2 := Lib.hid (own_later HO2.out hb9)
  replace HO3 := Lib.hid (own_later HO3.out hb9)
  replace HO4 := Lib.hid (own_later HO4.out hb9)
  replace BA := Lib.hid (BA.out.below hb9 BA.out.lt)
  replace BB := Lib.hid (BB.out.below hb9 BB.out.lt)
  replace BC := Lib.hid (BC.out.below hb9 BC.out.lt)
  replace BD := Lib.hid (BD.out.below hb9 BD.out.lt)
  clear c0 c1 c2 BA0 BA1 BA2 BB0 BB1 BB2 BC0 BC1 BC2 BD0 BD1 BD2 hb9
  have HKC := HKK.out.below HB9.out HKK.out.lt
  have c0 : w9.cell? ⟨w.heap.size, 0, none⟩ = some (.slice A n c) := HKC.cell 0
  have c1 : w9.cell? ⟨w.heap.size, 1, none⟩ = some (.int .i64 e) := HKC.cell 1
  have c2 : w9.cell? ⟨w.heap.size, 2, none⟩ = some (.int .i64 k) := HKC.cell 2
  clear HKC
  have BA0 : w9.cell? ⟨w1.heap.size, 0, none⟩ = some (.slice A1 L1.length m1) := BA.out.cell 0
  have BA1 : w9.cell? ⟨w1.heap.size, 1, none⟩ = some (.int .i64 e1) := BA.out.cell 1
  have BA2 : w9.cell? ⟨w1.heap.size, 2, none⟩ = some (.int .i64 k1) := BA.out.cell 2
  have BB0 : w9.cell? ⟨w3.heap.size, 0, none⟩ = some (.slice A2 L1.length m2) := BB.out.cell 0
  have BB1 : w9.cell? ⟨w3.heap.size, 1, none⟩ = some (.int .i64 e1) := BB.out.cell 1
  have BB2 : w9.cell? ⟨w3.heap.size, 2, none⟩ = some (.int .i64 k1) := BB.out.cell 2
  have BC0 : w9.cell? ⟨w5.heap.size, 0, none⟩ = some (.slice A3 L2.length m3) := BC.out.cell 0
  have BC1 : w9.cell? ⟨w5.heap.size, 1, none⟩ = some (.int .i64 e2) := BC.out.cell 1
  have BC2 : w9.cell? ⟨w5.heap.size, 2, none⟩ = some (.int .i64 k2) := BC.out.cell 2
  have BD0 : w9.cell? ⟨w7.heap.size, 0, none⟩ = some (.slice A4 L2.length m4) := BD.out.cell 0
  have BD1 : w9.cell? ⟨w7.heap.size, 1, none⟩ = some (.int .i64 e2) := BD.out.cell 1
  have BD2 : w9.cell? ⟨w7.heap.size, 2, none⟩ = some (.int .i64 k2) := BD.out.cell 2
  clear hv8
  have q1q : (q1 != q1) = false := by simp
  have q2q : (q2 != q2) = false := by simp
  go_wp2_with fail
  refine (refsame_any A3 A4 L2.length L2.length m3 m4 L2 e2 k2 rfl rfl (by omega) w9 (ownRow HO3.out) (ownRow HO4.out)).mono ?_
  rintro e10 w10 ⟨rfl, hb10⟩
  have HB10 := Lib.hid (HB9.out.trans (hb10.mono HB9.out.size))
  replace HO1 := Lib.hid (own_later HO1.out hb10)
  replace HO2 := Lib.hid (own_later HO2.out hb10)
  replace HO3 := Lib.hid (own_later HO3.out hb10)
  replace HO4 := Lib.hid (own_later HO4.out hb10)
  replace BA := Lib.hid (BA.out.below hb10 BA.out.lt)
  replace BB := Lib.hid (BB.out.below hb10 BB.out.lt)
  replace BC := Lib.hid (BC.out.below hb10 BC.out.lt)
  replace BD := Lib.hid (BD.out.below hb10 BD.out.lt)
  clear c0 c1 c2 BA0 BA1 BA2 BB0 BB1 BB2 BC0 BC1 BC2 BD0 BD1 BD2 hb10
  have HKC := HKK.out.below HB10.out HKK.out.lt
  have c0 : w10.cell? ⟨w.heap.size, 0, none⟩ = some (.slice A n c) := HKC.cell 0
  have c1 : w10.cell? ⟨w.heap.size, 1, none⟩ = some (.int .i64 e) := HKC.cell 1
  have c2 : w10.cell? ⟨w.heap.size, 2, none⟩ = some (.int .i64 k) := HKC.cell 2
  clear HKC
  have BA0 : w10.cell? ⟨w1.heap.size, 0, none⟩ = some (.slice A1 L1.length m1) := BA.out.cell 0
  have BA1 : w10.cell? ⟨w1.heap.size, 1, none⟩ = some (.int .i64 e1) := BA.out.cell 1
  have BA2 : w10.cell? ⟨w1.heap.size, 2, none⟩ = some (.int .i64 k1) := BA.out.cell 2
  have BB0 : w10.cell? ⟨w3.heap.size, 0, none⟩ = some (.slice A2 L1.length m2) := BB.out.cell 0
  have BB1 : w10.cell? ⟨w3.heap.size, 1, none⟩ = some (.int .i64 e1) := BB.out.cell 1
  have BB2 : w10.cell? ⟨w3.heap.size, 2, none⟩ = some (.int .i64 k1) := BB.out.cell 2
  have BC0 : w10.cell? ⟨w5.heap.size, 0, none⟩ = some (.slice A3 L2.length m3) := BC.out.cell 0
  have BC1 : w10.cell? ⟨w5.heap.size, 1, none⟩ = some (.int .i64 e2) := BC.out.cell 1
  have BC2 : w10.cell? ⟨w5.heap.size, 2, none⟩ = some (.int .i64 k2) := BC.out.cell 2
  have BD0 : w10.cell? ⟨w7.heap.size, 0, none⟩ = some (.slice A4 L2.length m4) := BD.out.cell 0
  have BD1 : w10.cell? ⟨w7.heap.size, 1, none⟩ = some (.int .i64 e2) := BD.out.cell 1
  have BD2 : w10.cell? ⟨w7.heap.size, 2, none⟩ = some (.int .i64 k2) := BD.out.cell 2
  go_wp2_with fail
  refine (ringsame_any A n c ns e k HN.out (by omega) w10 (HROW.out _ HB10.out)).mono ?_
  rintro e11 w11 ⟨rfl, hb11⟩
  have HB11 := Lib.hid (HB10.out.trans (hb11.mono HB10.out.size))
  replace HO1 := Lib.hid (own_later HO1.out hb11)
  replace HO2 := Lib.hid (own_later HO2.out hb11)
  replace HO3 := Lib.hid (own_later HO3.out hb11)
  replace HO4 := Lib.hid (own_later HO4.out hb11)
  replace BA := Lib.hid (BA.out.below hb11 BA.out.lt)
  replace BB := Lib.hid (BB.out.below hb11 BB.out.lt)
  replace BC := Lib.hid (BC.out.below hb11 BC.out.lt)
  replace BD := Lib.hid (BD.out.below hb11 BD.out.lt)
  clear c0 c1 c2 BA0 BA1 BA2 BB0 BB1 BB2 BC0 BC1 BC2 BD0 BD1 BD2 hb11
  have HKC := HKK.out.below HB11.out HKK.out.lt
  have c0 : w11.cell? ⟨w.heap.size, 0, none⟩ = some (.slice A n c) := HKC.cell 0
  have c1 : w11.cell? ⟨w.heap.size, 1, none⟩ = some (.int .i64 e) := HKC.cell 1
  have c2 : w11.cell? ⟨w.heap.size, 2, none⟩ = some (.int .i64 k) := HKC.cell 2
  clear HKC
  have BA0 : w11.cell? ⟨w1.heap.size, 0, none⟩ = some (.slice A1 L1.length m1) := BA.out.cell 0
  have BA1 : w11.cell? ⟨w1.heap.size, 1, none⟩ = some (.int .i64 e1) := BA.out.cell 1
  have BA2 : w11.cell? ⟨w1.heap.size, 2, none⟩ = some (.int .i64 k1) := BA.out.cell 2
  have BB0 : w11.cell? ⟨w3.heap.size, 0, none⟩ = some (.slice A2 L1.length m2) := BB.out.cell 0
  have BB1 : w11.cell? ⟨w3.heap.size, 1, none⟩ = some (.int .i64 e1) := BB.out.cell 1
  have BB2 : w11.cell? ⟨w3.heap.size, 2, none⟩ = some (.int .i64 k1) := BB.out.cell 2
  have BC0 : w11.cell? ⟨w5.heap.size, 0, none⟩ = some (.slice A3 L2.length m3) := BC.out.cell 0
  have BC1 : w11.cell? ⟨w5.heap.size, 1, none⟩ = some (.int .i64 e2) := BC.out.cell 1
  have BC2 : w11.cell? ⟨w5.heap.size, 2, none⟩ = some (.int .i64 k2) := BC.out.cell 2
  have BD0 : w11.cell? ⟨w7.heap.size, 0, none⟩ = some (.slice A4 L2.length m4) := BD.out.cell 0
  have BD1 : w11.cell? ⟨w7.heap.size, 1, none⟩ = some (.int .i64 e2) := BD.out.cell 1
  have BD2 : w11.cell? ⟨w7.heap.size, 2, none⟩ = some (.int .i64 k2) := BD.out.cell 2
  clear q1q q2q
  rcases HQ1.out with ⟨rfl, hL1, rfl, rfl, hnew, hok1⟩ | ⟨rfl, hL1, hno⟩
  · skip
    go_wp2_with fail
    refine (refcheck_any A n c ns e1 k1 HN.out (by unfold maxLen; omega) w11 (HROW.out _ HB11.out)).mono ?_
    rintro e12 w12 ⟨⟨q, rfl, hqa, hqb⟩, hb12⟩
    have HB12 := Lib.hid (HB11.out.trans (hb12.mono HB11.out.size))
    replace HO1 := Lib.hid (own_later HO1.out hb12)
    replace HO2 := Lib.hid (own_later HO2.out hb12)
    replace HO3 := Lib.hid (own_later HO3.out hb12)
    replace HO4 := Lib.hid (own_later HO4.out hb12)
    replace BA := Lib.hid (BA.out.below hb12 BA.out.lt)
    replace BB := Lib.hid (BB.out.below hb12 BB.out.lt)
    replace BC := Lib.hid (BC.out.below hb12 BC.out.lt)
    replace BD := Lib.hid (BD.out.below hb12 BD.out.lt)
    clear c0 c1 c2 BA0 BA1 BA2 BB0 BB1 BB2 BC0 BC1 BC2 BD0 BD1 BD2 hb12
    have HKC := HKK.out.below HB12.out HKK.out.lt
    have c0 : w12.cell? ⟨w.heap.size, 0, none⟩ = some (.slice A n c) := HKC.cell 0
    have c1 : w12.cell? ⟨w.heap.size, 1, none⟩ = some (.int .i64 e1) := HKC.cell 1
    have c2 : w12.cell? ⟨w.heap.size, 2, none⟩ = some (.int .i64 k1) := HKC.cell 2
    clear HKC
    have BA0 : w12.cell? ⟨w1.heap.size, 0, none⟩ = some (.slice A1 L1.length m1) := BA.out.cell 0
    have BA1 : w12.cell? ⟨w1.heap.size, 1, none⟩ = some (.int .i64 e1) := BA.out.cell 1
    have BA2 : w12.cell? ⟨w1.heap.size, 2, none⟩ = some (.int .i64 k1) := BA.out.cell 2
    have BB0 : w12.cell? ⟨w3.heap.size, 0, none⟩ = some (.slice A2 L1.length m2) := BB.out.cell 0
    have BB1 : w12.cell? ⟨w3.heap.size, 1, none⟩ = some (.int .i64 e1) := BB.out.cell 1
    have BB2 : w12.cell? ⟨w3.heap.size, 2, none⟩ = some (.int .i64 k1) := BB.out.cell 2
    have BC0 : w12.cell? ⟨w5.heap.size, 0, none⟩ = some (.slice A3 L2.length m3) := BC.out.cell 0
    have BC1 : w12.cell? ⟨w5.heap.size, 1, none⟩ = some (.int .i64 e2) := BC.out.cell 1
    have BC2 : w12.cell? ⟨w5.heap.size, 2, none⟩ = some (.int .i64 k2) := BC.out.cell 2
    have BD0 : w12.cell? ⟨w7.heap.size, 0, none⟩ = some (.slice A4 L2.length m4) := BD.out.cell 0
    have BD1 : w12.cell? ⟨w7.heap.size, 1, none⟩ = some (.int .i64 e2) := BD.out.cell 1
    have BD2 : w12.cell? ⟨w7.heap.size, 2, none⟩ = some (.int .i64 k2) := BD.out.cell 2
    by_cases ok : OkR ns e1 k1
    · obtain rfl : q = 0 := hqa ok
      obtain ⟨hj, hx1, hx2, hx3⟩ := back_place2 hL1 hnew.2.2
      have hm1 : L1.length ≤ m1 := by obtain ⟨_, _, hv, hc, _⟩ := ownShape HO1.out; injection hv with _ _ hc2; rw [hc2]; exact hc
      have HBK := Lib.hid fun W (h : Row W W.heap.size A1 (L1.map iV)) => without_any A1 L1.length m1 L1 e1 k1 x (placeI x ns) hj hx1 hx2 rfl (by have := withL_len ns x (placeI x ns) (placeI_le x ns); have := HN.out; rw [hL1]; omega) hm1 W h
      rw [hx3] at HBK
      have HOK := Lib.hid ok
      clear hqa hqb ok hx1 hx2 hx3 hL1 hnew hok1
      go_wp2_with fail
      refine (HBK.out w12 (ownRow HO1.out)).mono ?_
      intro e13 w13 hrr
      obtain ⟨A9, m9, rfl, ho9, hb13⟩ := hrr.1 HOK.out
      have HO9 := Lib.hid ho9
      clear hrr
      have HB13 := Lib.hid (HB12.out.trans (hb13.mono HB12.out.size))
      replace HO1 := Lib.hid (own_later HO1.out hb13)
      replace HO2 := Lib.hid (own_later HO2.out hb13)
      replace HO3 := Lib.hid (own_later HO3.out hb13)
      replace HO4 := Lib.hid (own_later HO4.out hb13)
      replace BA := Lib.hid (BA.out.below hb13 BA.out.lt)
      replace BB := Lib.hid (BB.out.below hb13 BB.out.lt)
      replace BC := Lib.hid (BC.out.below hb13 BC.out.lt)
      replace BD := Lib.hid (BD.out.below hb13 BD.out.lt)
      clear c0 c1 c2 BA0 BA1 BA2 BB0 BB1 BB2 BC0 BC1 BC2 BD0 BD1 BD2 hb13 ho9
      have HKC := HKK.out.below HB13.out HKK.out.lt
      have c0 : w13.cell? ⟨w.heap.size, 0, none⟩ = some (.slice A n c) := HKC.cell 0
      have c1 : w13.cell? ⟨w.heap.size, 1, none⟩ = some (.int .i64 e1) := HKC.cell 1
      have c2 : w13.cell? ⟨w.heap.size, 2, none⟩ = some (.int .i64 k1) := HKC.cell 2
      clear HKC
      have BA0 : w13.cell? ⟨w1.heap.size, 0, none⟩ = some (.slice A1 L1.length m1) := BA.out.cell 0
      have BA1 : w13.cell? ⟨w1.heap.size, 1, none⟩ = some (.int .i64 e1) := BA.out.cell 1
      have BA2 : w13.cell? ⟨w1.heap.size, 2, none⟩ = some (.int .i64 k1) := BA.out.cell 2
      have BB0 : w13.cell? ⟨w3.heap.size, 0, none⟩ = some (.slice A2 L1.length m2) := BB.out.cell 0
      have BB1 : w13.cell? ⟨w3.heap.size, 1, none⟩ = some (.int .i64 e1) := BB.out.cell 1
      have BB2 : w13.cell? ⟨w3.heap.size, 2, none⟩ = some (.int .i64 k1) := BB.out.cell 2
      have BC0 : w13.cell? ⟨w5.heap.size, 0, none⟩ = some (.slice A3 L2.length m3) := BC.out.cell 0
      have BC1 : w13.cell? ⟨w5.heap.size, 1, none⟩ = some (.int .i64 e2) := BC.out.cell 1
      have BC2 : w13.cell? ⟨w5.heap.size, 2, none⟩ = some (.int .i64 k2) := BC.out.cell 2
      have BD0 : w13.cell? ⟨w7.heap.size, 0, none⟩ = some (.slice A4 L2.length m4) := BD.out.cell 0
      have BD1 : w13.cell? ⟨w7.heap.size, 1, none⟩ = some (.int .i64 e2) := BD.out.cell 1
      have BD2 : w13.cell? ⟨w7.heap.size, 2, none⟩ = some (.int .i64 k2) := BD.out.cell 2
      obtain ⟨w14, hv14⟩ : ∃ V, w13.alloc (.cells #[.slice A9 ns.length m9, .int .i64 e1, .int .i64 k1] 24) = V := ⟨_, rfl⟩
      have hb14 : Below w13.heap.size w13 w14 := by rw [← hv14]; exact (Below.refl _ _).alloc (Nat.le_refl _) _
      have BE : Hid (Blk w14 w13.heap.size 24 #[.slice A9 ns.length m9, .int .i64 e1, .int .i64 k1]) := Lib.hid (by rw [← hv14]; exact Blk.new _ _ _)
      have HB14 := Lib.hid (HB13.out.trans (hb14.mono HB13.out.size))
      replace HO1 := Lib.hid (own_later HO1.out hb14)
      replace HO2 := Lib.hid (own_later HO2.out hb14)
      replace HO3 := Lib.hid (own_later HO3.out hb14)
      replace HO4 := Lib.hid (own_later HO4.out hb14)
      replace HO9 := Lib.hid (own_later HO9.out hb14)
      replace BA := Lib.hid (BA.out.below hb14 BA.out.lt)
      replace BB := Lib.hid (BB.out.below hb14 BB.out.lt)
      replace BC := Lib.hid (BC.out.below hb14 BC.out.lt)
      replace BD := Lib.hid (BD.out.below hb14 BD.out.lt)
      clear hb14
      clear c0 c1 c2 BA0 BA1 BA2 BB0 BB1 BB2 BC0 BC1 BC2 BD0 BD1 BD2
      have HKC := HKK.out.below HB14.out HKK.out.lt
      have c0 : w14.cell? ⟨w.heap.size, 0, none⟩ = some (.slice A n c) := HKC.cell 0
      have c1 : w14.cell? ⟨w.heap.size, 1, none⟩ = some (.int .i64 e1) := HKC.cell 1
      have c2 : w14.cell? ⟨w.heap.size, 2, none⟩ = some (.int .i64 k1) := HKC.cell 2
      clear HKC
      have BA0 : w14.cell? ⟨w1.heap.size, 0, none⟩ = some (.slice A1 L1.length m1) := BA.out.cell 0
      have BA1 : w14.cell? ⟨w1.heap.size, 1, none⟩ = some (.int .i64 e1) := BA.out.cell 1
      have BA2 : w14.cell? ⟨w1.heap.size, 2, none⟩ = some (.int .i64 k1) := BA.out.cell 2
      have BB0 : w14.cell? ⟨w3.heap.size, 0, none⟩ = some (.slice A2 L1.length m2) := BB.out.cell 0
      have BB1 : w14.cell? ⟨w3.heap.size, 1, none⟩ = some (.int .i64 e1) := BB.out.cell 1
      have BB2 : w14.cell? ⟨w3.heap.size, 2, none⟩ = some (.int .i64 k1) := BB.out.cell 2
      have BC0 : w14.cell? ⟨w5.heap.size, 0, none⟩ = some (.slice A3 L2.length m3) := BC.out.cell 0
      have BC1 : w14.cell? ⟨w5.heap.size, 1, none⟩ = some (.int .i64 e2) := BC.out.cell 1
      have BC2 : w14.cell? ⟨w5.heap.size, 2, none⟩ = some (.int .i64 k2) := BC.out.cell 2
      have BD0 : w14.cell? ⟨w7.heap.size, 0, none⟩ = some (.slice A4 L2.length m4) := BD.out.cell 0
      have BD1 : w14.cell? ⟨w7.heap.size, 1, none⟩ = some (.int .i64 e2) := BD.out.cell 1
      have BD2 : w14.cell? ⟨w7.heap.size, 2, none⟩ = some (.int .i64 k2) := BD.out.cell 2
      have BE0 : w14.cell? ⟨w13.heap.size, 0, none⟩ = some (.slice A9 ns.length m9) := BE.out.cell 0
      have BE1 : w14.cell? ⟨w13.heap.size, 1, none⟩ = some (.int .i64 e1) := BE.out.cell 1
      have BE2 : w14.cell? ⟨w13.heap.size, 2, none⟩ = some (.int .i64 k1) := BE.out.cell 2
      go_wp2_with fail
      refine (refsame_any A9 A ns.length n m9 c ns e1 k1 rfl HN.out (by have := HN.out; omega) w14 (ownRow HO9.out) (HROW.out _ HB14.out)).mono ?_
      rintro e15 w15 ⟨rfl, hb15⟩
      have HB15 := Lib.hid (HB14.out.trans (hb15.mono HB14.out.size))
      replace HO1 := Lib.hid (own_later HO1.out hb15)
      replace HO2 := Lib.hid (own_later HO2.out hb15)
      replace HO3 := Lib.hid (own_later HO3.out hb15)
      replace HO4 := Lib.hid (own_later HO4.out hb15)
      replace HO9 := Lib.hid (own_later HO9.out hb15)
      replace BA := Lib.hid (BA.out.below hb15 BA.out.lt)
      replace BB := Lib.hid (BB.out.below hb15 BB.out.lt)
      replace BC := Lib.hid (BC.out.below hb15 BC.out.lt)
      replace BD := Lib.hid (BD.out.below hb15 BD.out.lt)
      replace BE := Lib.hid (BE.out.below hb15 BE.out.lt)
      clear c0 c1 c2 BA0 BA1 BA2 BB0 BB1 BB2 BC0 BC1 BC2 BD0 BD1 BD2 BE0 BE1 BE2 hb15
      have HKC := HKK.out.below HB15.out HKK.out.lt
      have c0 : w15.cell? ⟨w.heap.size, 0, none⟩ = some (.slice A n c) := HKC.cell 0
      have c1 : w15.cell? ⟨w.heap.size, 1, none⟩ = some (.int .i64 e1) := HKC.cell 1
      have c2 : w15.cell? ⟨w.heap.size, 2, none⟩ = some (.int .i64 k1) := HKC.cell 2
      clear HKC
      have BA0 : w15.cell? ⟨w1.heap.size, 0, none⟩ = some (.slice A1 L1.length m1) := BA.out.cell 0
      have BA1 : w15.cell? ⟨w1.heap.size, 1, none⟩ = some (.int .i64 e1) := BA.out.cell 1
      have BA2 : w15.cell? ⟨w1.heap.size, 2, none⟩ = some (.int .i64 k1) := BA.out.cell 2
      have BB0 : w15.cell? ⟨w3.heap.size, 0, none⟩ = some (.slice A2 L1.length m2) := BB.out.cell 0
      have BB1 : w15.cell? ⟨w3.heap.size, 1, none⟩ = some (.int .i64 e1) := BB.out.cell 1
      have BB2 : w15.cell? ⟨w3.heap.size, 2, none⟩ = some (.int .i64 k1) := BB.out.cell 2
      have BC0 : w15.cell? ⟨w5.heap.size, 0, none⟩ = some (.slice A3 L2.length m3) := BC.out.cell 0
      have BC1 : w15.cell? ⟨w5.heap.size, 1, none⟩ = some (.int .i64 e2) := BC.out.cell 1
      have BC2 : w15.cell? ⟨w5.heap.size, 2, none⟩ = some (.int .i64 k2) := BC.out.cell 2
      have BD0 : w15.cell? ⟨w7.heap.size, 0, none⟩ = some (.slice A4 L2.length m4) := BD.out.cell 0
      have BD1 : w15.cell? ⟨w7.heap.size, 1, none⟩ = some (.int .i64 e2) := BD.out.cell 1
      have BD2 : w15.cell? ⟨w7.heap.size, 2, none⟩ = some (.int .i64 k2) := BD.out.cell 2
      have BE0 : w15.cell? ⟨w13.heap.size, 0, none⟩ = some (.slice A9 ns.length m9) := BE.out.cell 0
      have BE1 : w15.cell? ⟨w13.heap.size, 1, none⟩ = some (.int .i64 e1) := BE.out.cell 1
      have BE2 : w15.cell? ⟨w13.heap.size, 2, none⟩ = some (.int .i64 k1) := BE.out.cell 2
      clear hv14
      go_wp2_with (go_at_call 11; refine (known_any _).mono ?_; rintro e16 w16 ⟨rfl, hb16⟩)
      go_ret
      exact ⟨rfl, HBW.out.trans ((HB15.out.trans (hb16.mono HB15.out.size)).mono HBW.out.size)⟩
    · obtain rfl : q = 2 := hqb ok
      clear hqa hqb ok hL1 hnew hok1
      go_wp2_with (go_at_call 11; refine (known_any _).mono ?_; rintro e13 w13 ⟨rfl, hb13⟩)
      go_ret
      exact ⟨rfl, HBW.out.trans ((HB12.out.trans (hb13.mono HB12.out.size)).mono HBW.out.size)⟩
  · clear hL1 hno
    go_wp2_with (go_at_call 11; refine (known_any _).mono ?_; rintro e12 w12 ⟨rfl, hb12⟩)
    go_ret
    exact ⟨rfl, HBW.out.trans ((HB11.out.trans (hb12.mono HB11.out.size)).mono HBW.out.size)⟩
end Go.Proofs.Ythnfinnlnkjomaa
