/- What layer 1's Mean answers, the program's and the document's, of any list of numbers. -/
import Derived.Test.YtkfapcigfgfeaaaKnown
import Derived.Test.YtkfapcigfgfeaaaSum
import Derived.Test.YtkfapcigfgfeaaaCore
namespace Go.Proofs.Ytkfapcigfgfeaaa
open Go.RowKit Flo Mem
set_option maxRecDepth 10000
set_option maxHeartbeats 800000
def fv (x : Int) : Value := .float .f64 (fnat x)
theorem mean_pair {a b m n : Int} (h : a = b) (h' : m = n) : Ending.returned (.tuple #[.float .f64 (fnat a), .int .i64 m]) = .returned (.tuple #[.float .f64 (fnat b), .int .i64 n]) := by rw [h, h']
/-- What the mean is, and its error: (4) of no numbers; (10) where the sum is none. -/
def meanV (xs : List Int) : Int := match sumO xs with
  | none => 0
  | some t => ((Ieee.double.div (fnat t) (floatOfInt .f64 (xs.length : Int))).getD 0 : Nat)
def meanE (xs : List Int) : Int := match sumO xs with
  | none => 10
  | some _ => 0
theorem mean_quo (xs : List Int) (h0 : 0 < xs.length) (h1 : xs.length ≤ 200) (t : Int) (ht : sumO xs = some t) :
    floatBits .quo .f64 (fnat t) (floatOfInt .f64 (xs.length : Int)) = some (fnat (meanV xs)) ∧ Word (meanV xs) := by
  obtain ⟨wt, kt⟩ := sum_word xs t ht
  obtain ⟨c, hc, wc, kc⟩ := count_float xs.length h0 h1
  have hm := fnat_mod wc
  have hk := kind_cases wc
  obtain ⟨r, hr, h2, h3⟩ := div_some (a := fnat t) (b := fnat c) (rung_le wt kt) (rung_le wc (by omega)) (by omega) (by omega)
  have hv : meanV xs = (r : Int) := by unfold meanV; rw [ht]; simp only [hc, hr]; rfl
  rw [hv]
  refine ⟨by rw [hc]; exact hr, by unfold Word; omega⟩
theorem mean_word (xs : List Int) (h0 : 0 < xs.length) (h1 : xs.length ≤ 200) : Word (meanV xs) := by
  cases h : sumO xs with
  | none => unfold meanV; rw [h]; exact word_zero
  | some t => exact (mean_quo xs h0 h1 t h).2
theorem mean_some {xs : List Int} {t : Int} (h : sumO xs = some t) : meanE xs = 0 := by unfold meanE; rw [h]
theorem mean_none {xs : List Int} (h : sumO xs = none) : meanV xs = 0 ∧ meanE xs = 10 := by unfold meanE meanV; rw [h]; exact ⟨rfl, rfl⟩
theorem sum_all (xs : List Int) (k : Nat) (hk : k ≤ xs.length) (h : ¬ k < xs.length) : xs.take k = xs := List.take_of_length_le (by omega)

theorem mean_any (B c : Nat) (A : Option Addr) (xs : List Int) (w : World) (h : Row w B A (xs.map fv)) (h0 : 0 < xs.length) (h1 : xs.length ≤ 200) :
    Calls Try.prog 30 #[.slice A xs.length c] w fun e w' => e = .returned (.tuple #[.float .f64 (fnat (meanV xs)), .int .i64 (meanE xs)]) ∧ ∃ q, w' = w.drewN q := by
  obtain ⟨b, o, rfl, _, hc⟩ := h.open_ (by simpa using h0)
  have HC := Lib.hid hc
  have hne : ((xs.length : Int) == 0) = false := beq_false_of_ne (by omega)
  have H0 := Lib.hid h0
  clear hc h h0
  go_enter Try.func30, Try.ntmps30
  go_wp2
  go_loopw [4, 12] (fun u i wr => ∃ (k : Nat) (s : Int) (q : Nat), k ≤ xs.length ∧ i = .int .i64 k ∧ u = .float .f64 (fnat s) ∧ Hid (isSum (sumO (xs.take k)) s) ∧ wr = w.drewN q) (fun _ i _ => xs.length - (intOf i).toNat)
  case atStart => exact ⟨0, 0, 0, by omega, rfl, rfl, isSum_zero, rfl⟩
  case round =>
    obtain ⟨k, s, q, hk, rfl, rfl, hs, rfl⟩ := hrel
    by_cases hlt : k < xs.length
    · have hcell : (w.drewN q).cell? ⟨b, o + k, none⟩ = some (.float .f64 (fnat xs[k])) := by
        have := HC.out k (by simpa using hlt)
        rw [World.cell?_drewN, this, List.getElem_map]; rfl
      obtain ⟨r, q', hrun, hr⟩ := sum_step (P := Try.prog) 29 (sumO (xs.take k)) s xs[k] hs.out (w.drewN q)
      have HR := Lib.hid hr
      clear hr
      go_wp2
      go_roundw
      case rel => exact ⟨k + 1, r, q + q', by omega, by go_num, rfl, by rw [sum_snoc xs k hlt]; exact HR, rfl⟩
      case measure => simp [intOf]; omega
    · have hall := sum_all xs k hk hlt
      obtain ⟨ws, hcs⟩ := hs.out
      rw [hall] at hcs
      have HW := Lib.hid ws
      clear hall ws hs
      rcases hcs with ⟨ht, hkk⟩ | ⟨ht, hkk⟩
      · have HT := Lib.hid (mean_some ht)
        have hq := (mean_quo xs H0.out h1 s ht).1
        have hr := fun w => run_float_arith (P := Try.prog) w .quo 29 .f64 (fnat s) (floatOfInt .f64 (xs.length : Int)) (fnat (meanV xs)) hq
        have hd : decide (kindZ s = 3) = false := decide_eq_false hkk
        clear ht hkk hq
        go_wp2_with (go_at_call 37; refine (isnan_any _ HW.out _).mono ?_; rintro e w' ⟨rfl, rfl⟩)
        go_ret2
        exact ⟨mean_pair rfl HT.out.symm, q, rfl⟩
      · have HT := Lib.hid (mean_none ht)
        have hd : decide (kindZ s = 3) = true := decide_eq_true hkk
        clear ht hkk
        go_wp2_with (go_at_call 37; refine (isnan_any _ HW.out _).mono ?_; rintro e w' ⟨rfl, rfl⟩)
        go_ret2
        exact ⟨(mean_pair (a := 0) HT.out.1.symm HT.out.2.symm), q, rfl⟩
end Go.Proofs.Ytkfapcigfgfeaaa
