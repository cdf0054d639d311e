/- LnJ: What the chapter's examples fix holds; more than is looked at. -/
import Derived.Test.YtlecbhnopokmnaaLnK
import Derived.Deep.QuietTactic
namespace Go.Proofs.Ytlecbhnopokmnaa
open Go.RowKit Mem
set_option maxRecDepth 100000
set_option maxHeartbeats 4000000
set_option linter.unusedVariables false
set_option linter.unusedSimpArgs false
open Ln
theorem ints2_row (a b : Int) (w : World) : Row (w.alloc (.cells #[.int .i64 a, .int .i64 b] 3)) (w.alloc (.cells #[.int .i64 a, .int .i64 b] 3)).heap.size (some ⟨w.heap.size, 0, none⟩) (([a, b] : List Int).map iV) :=
  (row_cells rfl).more (by simp)
theorem known18_any (w : World) : Calls Try.prog 11 #[] w (IsB18 true w) := by
  have HRES : Hid (∀ W : World, Below w.heap.size w W → IsB18 true w (.returned (.bool true)) W) := Lib.hid fun W h => ⟨rfl, h⟩
  obtain ⟨Q, hQ⟩ : ∃ Q, IsB18 true w = Q := ⟨_, rfl⟩
  rw [hQ] at HRES ⊢
  clear hQ
  go_enter Try.func11, Try.ntmps11
  go_wp2_with fail
  refine (two_any 1 w).mono ?_
  rintro e w1 ⟨g1, c1, A1, rfl, hr1, hd1, hb1⟩
  have HB1 := Lib.hid hb1
  have HO1 := Lib.hid (two_order1 g1 c1 A1 w1 hr1 hd1)
  clear hr1 hd1 hb1
  go_wp2_with fail
  refine HO1.out.mono ?_
  rintro e w2 ⟨A2, c2, rfl, hr2, hb2⟩
  have HB2 := Lib.hid (HB1.out.trans (hb2.mono HB1.out.size))
  have HR2 := Lib.hid hr2
  clear hr2 hb2 HO1 HB1
  go_wp2_with fail
  refine (two_any 3 w2).mono ?_
  rintro e w3 ⟨g3, c3, A3, rfl, hr3, hd3, hb3⟩
  have HB3 := Lib.hid (HB2.out.trans (hb3.mono HB2.out.size))
  have HR3 := Lib.hid ((HR2.out.below hb3).more hb3.size)
  have HO3 := Lib.hid (two_order3 g3 c3 A3 w3 hr3 hd3)
  clear hr3 hd3 hb3 HB2 HR2
  go_wp2_with fail
  refine HO3.out.mono ?_
  rintro e w4 ⟨rfl, hb4⟩
  have HB4 := Lib.hid (HB3.out.trans (hb4.mono HB3.out.size))
  have HR4 := Lib.hid ((HR3.out.below hb4).more hb4.size)
  clear hb4 HB3 HR3 HO3
  have hal := (Below.refl w4.heap.size w4).alloc (Nat.le_refl _) (.cells #[.int .i64 1, .int .i64 0] 3)
  have HA5 := Lib.hid (HB4.out.trans (hal.mono HB4.out.size))
  have HSI := Lib.hid (sameints_true _ _ c2 2 2 2 A2 _ [1, 0] _ (HR4.out.below hal) (ints2_row 1 0 w4) rfl rfl (by decide))
  clear hal
  go_wp2_with fail
  refine HSI.out.mono ?_
  rintro e w5 ⟨rfl, hq5⟩
  have HB5 := Lib.hid (HA5.out.trans (quiet_below hq5))
  clear hq5 HSI HA5 HB4 HR4
  go_wp2_with fail
  refine (two_any 1 w5).mono ?_
  rintro e w6 ⟨g6, c6, A6, rfl, hr6, hd6, hb6⟩
  have HB6 := Lib.hid (HB5.out.trans (hb6.mono HB5.out.size))
  have hal := (Below.refl w6.heap.size w6).alloc (Nat.le_refl _) (.cells #[.int .i64 1, .int .i64 0] 3)
  have HH6 := Lib.hid (two_holds g6 c6 2 2 A6 _ [1, 0] rfl true two_yes _ ((hr6.below hal).more hal.size) ((hd6.below hal).more hal.size) (ints2_row 1 0 w6))
  have HA6 := Lib.hid (HB6.out.trans (hal.mono HB6.out.size))
  clear hr6 hd6 hb6 hal HB5 HB6
  go_wp2_with fail
  refine HH6.out.mono ?_
  rintro e w7 ⟨rfl, hb7⟩
  have HB7 := Lib.hid (HA6.out.trans (hb7.mono HA6.out.size))
  clear hb7 HH6 HA6
  go_wp2_with fail
  refine (two_any 1 w7).mono ?_
  rintro e w8 ⟨g8, c8, A8, rfl, hr8, hd8, hb8⟩
  have HB8 := Lib.hid (HB7.out.trans (hb8.mono HB7.out.size))
  have hal := (Below.refl w8.heap.size w8).alloc (Nat.le_refl _) (.cells #[.int .i64 0, .int .i64 1] 3)
  have HH8 := Lib.hid (two_holds g8 c8 2 2 A8 _ [0, 1] rfl false two_not _ ((hr8.below hal).more hal.size) ((hd8.below hal).more hal.size) (ints2_row 0 1 w8))
  have HA8 := Lib.hid (HB8.out.trans (hal.mono HB8.out.size))
  clear hr8 hd8 hb8 hal HB7 HB8
  go_wp2_with fail
  refine HH8.out.mono ?_
  rintro e w9 ⟨rfl, hb9⟩
  have HB9 := Lib.hid (HA8.out.trans (hb9.mono HA8.out.size))
  clear hb9 HH8 HA8
  go_wp2
  exact HRES.out _ HB9.out
/-- Is it more than is looked at? If not, there are at most seven. -/
def LgP (l : List DdL) (w : World) (e : Ending) (w' : World) : Prop :=
  ∃ b : Bool, e = .returned (.bool b) ∧ (b = false → l.length ≤ 7) ∧ Below w.heap.size w w'
theorem long18_any (l : List DdL) (hl : l.length ≤ maxLen) (B c : Nat) (A : Option Addr) (w : World) (hr : Row w B A (ddsC l)) (hB : B ≤ w.heap.size) :
    Calls Try.prog 21 #[.slice A l.length c] w (LgP l w) := by
  have HYES : Hid (∀ W : World, Below w.heap.size w W → LgP l w (.returned (.bool true)) W) := Lib.hid fun W h => ⟨true, rfl, (fun h => by cases h), h⟩
  have HANY : Hid (∀ (b : Bool) (W : World), l.length ≤ 7 → Below w.heap.size w W → LgP l w (.returned (.bool b)) W) := Lib.hid fun b W h hb => ⟨b, rfl, fun _ => h, hb⟩
  obtain ⟨Q, hQ⟩ : ∃ Q, LgP l w = Q := ⟨_, rfl⟩
  rw [hQ] at HYES HANY ⊢
  have HR := Lib.hid hr
  have HBB := Lib.hid hB
  obtain ⟨n, hn⟩ : ∃ n, l.length = n := ⟨_, rfl⟩
  have HN := Lib.hid hn
  rw [hn] at hl HANY ⊢
  have hn2 : (n : Int) ≤ 9223372036854775807 := by unfold maxLen at hl; omega
  clear hr hB hQ hn hl
  go_enter Try.func21, Try.ntmps21
  go_wp2
  go_loopw [3, 4] (fun nv iv wr => ∃ (t : Int) (q : Nat), q ≤ n ∧ nv = .int .i64 t ∧ iv = .int .i64 (q : Int) ∧ Hid (Below w.heap.size w wr)) (fun _ iv _ => n - (intOf iv).toNat)
  case atStart => exact ⟨0, 0, by omega, rfl, rfl, Lib.hid (Below.refl _ _)⟩
  case round =>
    obtain ⟨t, q, hq, rfl, rfl, HB⟩ := hrel
    have hq0 : (0 : Int) ≤ (q : Int) := by omega
    by_cases hlt : q < n
    · have hlt2 : (q : Int) < (n : Int) := by omega
      have hql : q < l.length := by rw [HN.out]; exact hlt
      obtain ⟨b, o, hA, hbB, hcl⟩ := dds_open HR.out (by omega)
      have hbw : b < w.heap.size := Nat.lt_of_lt_of_le hbB HBB.out
      obtain ⟨e0, e1, e2, e3, e4, e5, e6⟩ := (hcl q hql).keep (HB.out.block b hbw)
      obtain ⟨y, hy⟩ : ∃ y, l[q] = y := ⟨_, rfl⟩
      rw [hy] at e0 e1 e2 e3 e4 e5 e6
      subst hA
      clear hy hcl hbB hbw hql
      obtain ⟨kind, A, yb, yc, fro, till, done, has, A2, vb, c2⟩ := y
      simp only at e0 e1 e2 e3 e4 e5 e6
      go_wp2
      go_quiet (fail)
      go_wp2
      go_roundw
      case rel => exact ⟨_, q + 1, by omega, rfl, by go_num, Lib.hid (HB.out.trans (below_drew' _ _ _))⟩
      case measure => simp [intOf]; omega
    · obtain rfl : q = n := by omega
      by_cases h7 : 7 < q
      · have h72 : (7 : Int) < (q : Int) := by omega
        go_wp2
        exact HYES.out _ HB.out
      · have h72 : (q : Int) ≤ 7 := by omega
        go_wp2
        exact HANY.out _ _ (by omega) HB.out
end Go.Proofs.Ytlecbhnopokmnaa
