/- What the document's Mean answers, of any list of numbers: the program's. -/
import Derived.Test.YtkfapcigfgfeaaaMean
namespace Go.Proofs.Ytkfapcigfgfeaaa
open Go.RowKit Flo Mem
set_option maxRecDepth 10000
set_option maxHeartbeats 800000
theorem mean_nil (c : Nat) (A : Option Addr) (w : World) :
    Calls Try.prog 30 #[.slice A 0 c] w fun e w' => e = .returned (.tuple #[.float .f64 (fnat 0), .int .i64 4]) ∧ w = w' := by
  go_enter Try.func30, Try.ntmps30
  go_wp2
  go_ret2
  exact ⟨rfl, rfl⟩
theorem refmean_nil (c : Nat) (A : Option Addr) (w : World) :
    Calls Try.prog 31 #[.slice A 0 c] w fun e w' => e = .returned (.tuple #[.float .f64 (fnat 0), .int .i64 4]) ∧ w = w' := by
  go_enter Try.func31, Try.ntmps31
  go_wp2
  go_ret2
  exact ⟨rfl, rfl⟩
def PI : Int := 9218868437227405312
def NI : Int := 18442240474082181120
theorem word_PI : Word PI := ⟨by decide, by decide⟩
theorem word_NI : Word NI := ⟨by decide, by decide⟩
def flag (b : Bool) : Int := if b = true then 1 else 0
def seen (x : Int) (xs : List Int) : Bool := xs.contains x
theorem seen_snoc (y : Int) (xs : List Int) (k : Nat) (h : k < xs.length) : seen y (xs.take (k + 1)) = (seen y (xs.take k) || (y == xs[k])) := by
  unfold seen; rw [List.take_succ_eq_append_getElem h, List.contains_append]; simp; rfl
theorem inf_two {x : Int} (h : Word x) (hk : kindZ x = 2) : (x = PI ∧ x < 9223372036854775808) ∨ (x = NI ∧ 9223372036854775808 ≤ x) := by
  have h1 := h.1; have h2 := h.2
  have := kind_cases h
  unfold PI NI; omega
theorem both_none (xs : List Int) (h1 : seen PI xs = true) (h2 : seen NI xs = true) : sumO xs = none :=
  sum_both xs PI NI (by simpa [seen] using h1) word_PI (by decide) (by simpa [seen] using h2) word_NI (by decide) (by decide)
theorem flag_step (y x : Int) (xs : List Int) (k : Nat) (h : k < xs.length) (hx : xs[k] = x) (hne : y ≠ x) : flag (seen y (xs.take (k + 1))) = flag (seen y (xs.take k)) := by
  rw [seen_snoc y xs k h, hx, beq_false_of_ne hne, Bool.or_false]
theorem flag_hit (x : Int) (xs : List Int) (k : Nat) (h : k < xs.length) (hx : xs[k] = x) : flag (seen x (xs.take (k + 1))) = 1 := by
  rw [seen_snoc x xs k h, hx]; simp [flag]
theorem flag_range (b : Bool) : flag b = 0 ∨ flag b = 1 := by cases b <;> simp [flag]
theorem refmean_any (B c : Nat) (A : Option Addr) (xs : List Int) (w : World) (h : Row w B A (xs.map fv)) (hw : ∀ x ∈ xs, Word x) (h0 : 0 < xs.length) (h1 : xs.length ≤ 200) :
    Calls Try.prog 31 #[.slice A xs.length c] w fun e w' => e = .returned (.tuple #[.float .f64 (fnat (meanV xs)), .int .i64 (meanE xs)]) ∧ ∃ q, w' = w.drewN q := by
  obtain ⟨b, o, rfl, _, hc⟩ := h.open_ (by simpa using h0)
  have HC := Lib.hid hc
  have HA := Lib.hid hw
  have hne : ((xs.length : Int) == 0) = false := beq_false_of_ne (by omega)
  have H0 := Lib.hid h0
  clear hc h h0 hw
  go_enter Try.func31, Try.ntmps31
  go_wp2
  go_loopw [4, 5, 6, 7] (fun up dn u i wr => ∃ (k : Nat) (s : Int) (q : Nat), k ≤ xs.length ∧ i = .int .i64 k ∧ u = .float .f64 (fnat s) ∧ Hid (isSum (sumO (xs.take k)) s) ∧ up = .int .i64 (flag (seen PI (xs.take k))) ∧ dn = .int .i64 (flag (seen NI (xs.take k))) ∧ wr = w.drewN q) (fun _ _ _ i _ => xs.length - (intOf i).toNat)
  case atStart => exact ⟨0, 0, 0, by omega, rfl, rfl, isSum_zero, rfl, rfl, rfl⟩
  case round =>
    obtain ⟨k, s, q, hk, rfl, rfl, hs, rfl, rfl, rfl⟩ := hrel
    by_cases hlt : k < xs.length
    · obtain ⟨x, hx⟩ : ∃ x, xs[k] = x := ⟨_, rfl⟩
      have hwx : Word x := by rw [← hx]; exact HA.out _ (List.getElem_mem hlt)
      have hcell : (w.drewN q).cell? ⟨b, o + k, none⟩ = some (.float .f64 (fnat x)) := by
        have := HC.out k (by simpa using hlt)
        rw [World.cell?_drewN, this, List.getElem_map, hx]; rfl
      have hbits := run_bits x hwx
      obtain ⟨r, q', hrun, hr⟩ := sum_step (P := Try.prog) 29 (sumO (xs.take k)) s x hs.out (w.drewN q)
      have HR : Hid (isSum (sumO (xs.take (k + 1))) r) := by rw [sum_snoc xs k hlt, hx]; exact hr
      clear hr hs
      have hkc := kind_cases hwx
      have HX := Lib.hid hx
      have HW := Lib.hid hwx
      have hmem : x ∈ xs := by rw [← hx]; exact List.getElem_mem hlt
      clear hx hwx
      have hsel : kindZ x = 3 ∨ (kindZ x ≠ 3 ∧ kindZ x = 2 ∧ x = PI ∧ x < 9223372036854775808) ∨ (kindZ x ≠ 3 ∧ kindZ x = 2 ∧ x = NI ∧ 9223372036854775808 ≤ x) ∨ (kindZ x ≠ 3 ∧ kindZ x ≠ 2) := by
        by_cases e3 : kindZ x = 3
        · exact Or.inl e3
        · by_cases e2 : kindZ x = 2
          · rcases inf_two HW.out e2 with ⟨e, l⟩ | ⟨e, l⟩
            · exact Or.inr (Or.inl ⟨e3, e2, e, l⟩)
            · exact Or.inr (Or.inr (Or.inl ⟨e3, e2, e, l⟩))
          · exact Or.inr (Or.inr (Or.inr ⟨e3, e2⟩))
      clear hkc
      rcases hsel with e3 | ⟨e3, e2, ex, el⟩ | ⟨e3, e2, ex, el⟩ | ⟨e3, e2⟩
      · have HN := Lib.hid (mean_none (sum_nan xs x hmem HW.out e3))
        have g3 : (kindZ x == 3) = true := beq_iff_eq.2 e3
        clear e3 hmem
        go_wp2_with (go_at_call 20; refine (kind_any _ _).mono ?_; rintro e w' ⟨rfl, rfl⟩)
        go_ret2
        exact ⟨(mean_pair (a := 0) HN.out.1.symm HN.out.2.symm), q, rfl⟩
      · have g3 : (kindZ x == 3) = false := beq_false_of_ne e3
        have g2 : (kindZ x == 2) = true := beq_iff_eq.2 e2
        have g4 : decide (x < 9223372036854775808) = true := decide_eq_true el
        have g5 : decide (9223372036854775808 ≤ x) = false := decide_eq_false (by omega)
        have HE := Lib.hid ex
        clear e3 e2 ex el hmem
        go_wp2_with (go_at_call 20; refine (kind_any _ _).mono ?_; rintro e w' ⟨rfl, rfl⟩)
        go_roundw
        case rel => exact ⟨k + 1, r, q + q', by omega, by go_num, rfl, HR, by rw [flag_hit PI xs k hlt (HX.out.trans HE.out)], by rw [flag_step NI x xs k hlt HX.out (by rw [HE.out]; decide)], rfl⟩
        case measure => simp [intOf]; omega
      · have g3 : (kindZ x == 3) = false := beq_false_of_ne e3
        have g2 : (kindZ x == 2) = true := beq_iff_eq.2 e2
        have g4 : decide (x < 9223372036854775808) = false := decide_eq_false (by omega)
        have g5 : decide (9223372036854775808 ≤ x) = true := decide_eq_true el
        have HE := Lib.hid ex
        clear e3 e2 ex el hmem
        go_wp2_with (go_at_call 20; refine (kind_any _ _).mono ?_; rintro e w' ⟨rfl, rfl⟩)
        go_roundw
        case rel => exact ⟨k + 1, r, q + q', by omega, by go_num, rfl, HR, by rw [flag_step PI x xs k hlt HX.out (by rw [HE.out]; decide)], by rw [flag_hit NI xs k hlt (HX.out.trans HE.out)], rfl⟩
        case measure => simp [intOf]; omega
      · have g3 : (kindZ x == 3) = false := beq_false_of_ne e3
        have g2 : (kindZ x == 2) = false := beq_false_of_ne e2
        have n1 : PI ≠ x := fun e => e2 (by rw [← e]; decide)
        have n2 : NI ≠ x := fun e => e2 (by rw [← e]; decide)
        have N1 := Lib.hid n1
        have N2 := Lib.hid n2
        clear e3 e2 hmem n1 n2
        go_wp2_with (go_at_call 20; refine (kind_any _ _).mono ?_; rintro e w' ⟨rfl, rfl⟩)
        go_roundw
        case rel => exact ⟨k + 1, r, q + q', by omega, by go_num, rfl, HR, by rw [flag_step PI x xs k hlt HX.out N1.out], by rw [flag_step NI x xs k hlt HX.out N2.out], rfl⟩
        case measure => simp [intOf]; omega
    · have hall := sum_all xs k hk hlt
      obtain ⟨ws, hcs⟩ := hs.out
      rw [hall] at hcs
      have hbits := run_bits s ws
      have HK := Lib.hid hall
      clear hall ws hs
      by_cases hb : seen PI xs = true ∧ seen NI xs = true
      · have HN := Lib.hid (mean_none (both_none xs hb.1 hb.2))
        have e1 : flag (seen PI (xs.take k)) = 1 := by rw [HK.out, hb.1]; rfl
        have e2 : flag (seen NI (xs.take k)) = 1 := by rw [HK.out, hb.2]; rfl
        clear hb hcs
        go_wp2_with (go_at_call 20; refine (kind_any _ _).mono ?_; rintro e w' ⟨rfl, rfl⟩)
        go_ret2
        exact ⟨(mean_pair (a := 0) HN.out.1.symm HN.out.2.symm), q, rfl⟩
      · have e1 : flag (seen PI (xs.take k)) + flag (seen NI (xs.take k)) = 0 ∨ flag (seen PI (xs.take k)) + flag (seen NI (xs.take k)) = 1 := by
          rw [HK.out]
          revert hb
          cases seen PI xs <;> cases seen NI xs <;> simp [flag]
        have r1 := flag_range (seen PI (xs.take k))
        have r2 := flag_range (seen NI (xs.take k))
        generalize flag (seen PI (xs.take k)) = f1 at *
        generalize flag (seen NI (xs.take k)) = f2 at *
        have f1b : 0 ≤ f1 ∧ f1 ≤ 1 := by omega
        have f2b : 0 ≤ f2 ∧ f2 ≤ 1 := by omega
        have b1 := f1b.1; have b2 := f1b.2; have b3 := f2b.1; have b4 := f2b.2
        have hs2 : (f1 + f2 == 2) = false := beq_false_of_ne (by omega)
        clear hb e1 r1 r2 f1b f2b
        rcases hcs with ⟨ht, hkk⟩ | ⟨ht, hkk⟩
        · have HT := Lib.hid (mean_some ht)
          have hq := (mean_quo xs H0.out h1 s ht).1
          have hr := fun w => run_float_arith (P := Try.prog) w .quo 29 .f64 (fnat s) (floatOfInt .f64 (xs.length : Int)) (fnat (meanV xs)) hq
          have g3 : (kindZ s == 3) = false := beq_false_of_ne hkk
          clear ht hkk hq
          go_wp2_with (go_at_call 20; refine (kind_any _ _).mono ?_; rintro e w' ⟨rfl, rfl⟩)
          go_ret2
          exact ⟨mean_pair rfl HT.out.symm, q, rfl⟩
        · have HT := Lib.hid (mean_none ht)
          have g3 : (kindZ s == 3) = true := beq_iff_eq.2 hkk
          clear ht hkk
          go_wp2_with (go_at_call 20; refine (kind_any _ _).mono ?_; rintro e w' ⟨rfl, rfl⟩)
          go_ret2
          exact ⟨(mean_pair (a := 0) HT.out.1.symm HT.out.2.symm), q, rfl⟩
end Go.Proofs.Ytkfapcigfgfeaaa
