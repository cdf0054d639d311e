/- RealSome returns true, whatever the words; nothing that was there is changed. -/
import Derived.Test.YtbklpnpgmhnggaaLeast
import Derived.Test.YtbklpnpgmhnggaaRefMean
namespace Go.Proofs.Ytbklpnpgmhnggaa
open Go.RowKit Flo Mem
set_option maxRecDepth 10000
set_option maxHeartbeats 1600000
theorem below_drewN {B : Nat} {w w' : World} (h : Below B w w') (q : Nat) : Below B w (w'.drewN q) := ⟨h.os, h.tape, h.output, h.size, h.block⟩
theorem some_walk (xs : List Int) (hw : ∀ x ∈ xs, Word x) (A : Option Addr) (n c : Nat) (hn : n = xs.length) (w : World) (h : Row w w.heap.size A (xs.map iv)) :
    Calls Try.prog 4 #[.slice A n c] w fun e w' => e = .returned (.bool true) ∧ Below w.heap.size w w' := by
  subst hn
  have hb0 := run_bits0
  by_cases h200 : 200 < xs.length
  · have hg : (200 : Int) < (xs.length : Int) := by omega
    clear h hw h200
    go_enter Try.func4, Try.ntmps4
    go_wp2_with (go_at_call 23; refine (known_any _).mono ?_; rintro e w' ⟨rfl, rfl⟩)
    go_ret
    exact ⟨rfl, Below.refl _ _⟩
  · have hg : ¬ (200 : Int) < (xs.length : Int) := by omega
    have h1 : xs.length ≤ 200 := by omega
    rcases Nat.eq_zero_or_pos xs.length with h0 | h0
    · have hx : xs = [] := List.eq_nil_of_length_eq_zero h0
      subst hx
      have HR := Lib.hid h
      have hb0' := run_bits 0 word_zero
      clear h hw h200 h0 hg h1
      go_enter Try.func4, Try.ntmps4
      go_wp2_with fail
      refine (all_row w.heap.size _ _ [] _ HR.out (Nat.le_refl _) (by simp)).mono ?_
      rintro e w1 ⟨A1, c1, rfl, hown, hrow, hbl⟩
      have HB := Lib.hid hbl
      clear hown hrow hbl
      go_wp2_with (first
        | (go_at_call 25; refine (least_nil _ _ _).mono ?_; rintro e w' ⟨rfl, rfl⟩)
        | (go_at_call 26; refine (mean_nil _ _ _).mono ?_; rintro e w' ⟨rfl, rfl⟩)
        | (go_at_call 27; refine (refmean_nil _ _ _).mono ?_; rintro e w' ⟨rfl, rfl⟩)
        | (go_at_call 23; refine (known_any _).mono ?_; rintro e w' ⟨rfl, rfl⟩))
      go_ret
      exact ⟨rfl, HB.out⟩
    · have HW := Lib.hid hw
      have HR := Lib.hid h
      have hbm := run_bits (meanV xs) (mean_word xs h0 h1)
      have hbl := run_bits (leastZ xs) (by rw [← upto_all xs xs.length (Nat.le_refl _)]; exact upto_word xs hw h0 _)
      have hne : ((xs.length : Int) == 0) = false := beq_false_of_ne (by omega)
      obtain ⟨b, o, rfl, hbB, hc⟩ := h.open_ (by simpa using h0)
      have hp := place_lt xs h0 xs.length (Nat.le_refl _)
      have hpl : placeZ xs < xs.length := hp
      have hcell : w.cell? ⟨b, o + placeZ xs, none⟩ = some (.int .u64 (leastZ xs)) := by
        have e := place_upto xs h0 xs.length (Nat.le_refl _)
        rw [upto_all xs xs.length (Nat.le_refl _)] at e
        rw [hc (placeZ xs) (by simpa using hpl), List.getElem_map]
        rw [← e, List.getD_eq_getElem?_getD, List.getElem?_eq_getElem hp]; rfl
      have HC := Lib.hid hcell
      have HBB := Lib.hid hbB
      have H0 := Lib.hid h0
      clear h hw h200 hc hp hcell hbB h0
      go_enter Try.func4, Try.ntmps4
      go_wp2_with fail
      refine (all_row w.heap.size _ _ xs _ HR.out (Nat.le_refl _) h1).mono ?_
      rintro e w1 ⟨A1, c1, rfl, hown, hrow, hbw⟩
      have HF := Lib.hid hrow
      have HRW := Lib.hid (HR.out.below hbw)
      have hcell : w1.cell? ⟨b, o + placeZ xs, none⟩ = some (.int .u64 (leastZ xs)) := (hbw.cell (p := ⟨b, o + placeZ xs, none⟩) HBB.out).trans HC.out
      have HB := Lib.hid hbw
      clear hown hrow hbw
      go_wp2_with fail
      refine (least_any w1.heap.size _ _ _ xs _ rfl HF.out HW.out H0.out (by omega)).mono ?_
      rintro e w' ⟨rfl, rfl⟩
      go_wp2_with fail
      refine (mean_any w1.heap.size _ _ xs _ HF.out H0.out h1).mono ?_
      rintro e w' ⟨rfl, q1, rfl⟩
      go_wp2_with fail
      refine (refmean_any w1.heap.size _ _ xs _ (HF.out.drewN _) HW.out H0.out h1).mono ?_
      rintro e w' ⟨rfl, q2, rfl⟩
      go_wp2_with fail
      refine (refleast_any w.heap.size _ _ _ xs _ rfl (HRW.out.drewN _) HW.out H0.out h1).mono ?_
      rintro e w' ⟨rfl, q3, rfl⟩
      go_wp2_with fail
      refine (bits_row w1.heap.size _ _ xs _ (HF.out.drewN _) (Nat.le_refl _) h1 HW.out).mono ?_
      rintro e w2 ⟨A2, c2, rfl, hb2⟩
      have HB2 := Lib.hid hb2
      clear hb2
      go_wp2_with (go_at_call 23; refine (known_any _).mono ?_; rintro e w' ⟨rfl, rfl⟩)
      go_ret
      exact ⟨rfl, (below_drewN HB.out _).trans (HB2.out.mono HB.out.size)⟩
end Go.Proofs.Ytbklpnpgmhnggaa
