/- How two numbers, and two tags, stand; which tag may be; the program's calls on tags, and the document's, one contract each. -/
import Derived.Test.YtmbcdakfnckcmaaLater
import Derived.Test.YtmbcdakfnckcmaaSteps
import Derived.Deep.RegionHeld3
import Derived.Laws.StructEq
namespace Go.Proofs.Ytmbcdakfnckcmaa
open Go.RowKit Mem
set_option maxRecDepth 10000
set_option maxHeartbeats 1000000
def cmpI (a b : Int) : Int := if a < b then -1 else if b < a then 1 else 0
def cmpT (a b c x y z : Int) : Int := if cmpI a x ≠ 0 then cmpI a x else if cmpI b y ≠ 0 then cmpI b y else cmpI c z
abbrev tagV (s u o : Int) : Value := .agg #[.int .i64 s, .int .i64 u, .int .i64 o]
/-- A number, and nothing that was there is changed. -/
def IsI (n : Int) (w : World) (e : Ending) (w' : World) : Prop := e = .returned (.int .i64 n) ∧ Below w.heap.size w w'
def IsB (b : Bool) (w : World) (e : Ending) (w' : World) : Prop := e = .returned (.bool b) ∧ Below w.heap.size w w'
theorem isI_of {n m : Int} {w w' : World} (h : n = m) (hb : Below w.heap.size w w') : IsI m w (.returned (.int .i64 n)) w' := ⟨by rw [h], hb⟩
theorem isnan_any (a : Int) (w : World) : Calls Try.prog 21 #[.int .i64 a] w fun e w' => e = .returned (.bool false) ∧ w = w' := by
  go_enter Try.func21, Try.ntmps21
  go_wp2
  go_ret
  exact ⟨rfl, rfl⟩
theorem cmpint_any (a b : Int) (w : World) : Calls Try.prog 14 #[.int .i64 a, .int .i64 b] w fun e w' => e = .returned (.int .i64 (cmpI a b)) ∧ w = w' := by
  by_cases h : a < b
  · have e : cmpI a b = -1 := if_pos h
    rw [e]; clear e
    go_enter Try.func14, Try.ntmps14
    go_wp2_with (go_at_call 21; refine (isnan_any _ _).mono ?_; rintro e w' ⟨rfl, rfl⟩)
    go_ret
    exact ⟨rfl, rfl⟩
  by_cases h2 : b < a
  · have e : cmpI a b = 1 := (if_neg h).trans (if_pos h2)
    have h3 : b ≤ a := by omega
    rw [e]; clear e h
    go_enter Try.func14, Try.ntmps14
    go_wp2_with (go_at_call 21; refine (isnan_any _ _).mono ?_; rintro e w' ⟨rfl, rfl⟩)
    go_ret
    exact ⟨rfl, rfl⟩
  · have e : cmpI a b = 0 := (if_neg h).trans (if_neg h2)
    have hab : a = b := by omega
    subst hab
    rw [e]; clear e h h2
    go_enter Try.func14, Try.ntmps14
    go_wp2_with (go_at_call 21; refine (isnan_any _ _).mono ?_; rintro e w' ⟨rfl, rfl⟩)
    go_ret
    exact ⟨rfl, rfl⟩
def orI (a b c : Int) : Int := if a ≠ 0 then a else if b ≠ 0 then b else c
theorem or_any (g : Nat) (a b c : Int) (w : World) (h0 : w.cell? ⟨g, 0, none⟩ = some (.int .i64 a)) (h1 : w.cell? ⟨g, 1, none⟩ = some (.int .i64 b)) (h2 : w.cell? ⟨g, 2, none⟩ = some (.int .i64 c)) :
    Calls Try.prog 13 #[.slice (some ⟨g, 0, none⟩) 3 3] w fun e w' => e = .returned (.int .i64 (orI a b c)) ∧ w = w' := by
  go_enter Try.func13, Try.ntmps13
  go_wp2
  go_loop [8] (fun i => ∃ k : Nat, k ≤ 3 ∧ i = .int .i64 k ∧ Hid ((0 < k → a = 0) ∧ (1 < k → b = 0) ∧ (2 < k → c = 0))) (fun i => 3 - (intOf i).toNat)
  case atStart => exact ⟨0, by omega, rfl, Lib.hid (by omega)⟩
  case round =>
    obtain ⟨k, hk, rfl, HZ⟩ := hrel
    match k, hk, HZ with
    | 0, _, HZ =>
      by_cases ha : a = 0
      · have hb : (a != 0) = false := by simpa using ha
        have HA := Lib.hid ha
        clear ha
        go_wp2
        go_round
        case rel => exact ⟨1, by omega, rfl, Lib.hid ⟨fun _ => HA.out, by omega, by omega⟩⟩
        case measure => simp [intOf]
      · have hb : (a != 0) = true := by simpa using ha
        have HA : Hid (orI a b c = a) := Lib.hid (if_pos ha)
        clear ha
        go_wp2
        go_ret
        exact ⟨ret_int HA.out.symm, rfl⟩
    | 1, _, HZ =>
      by_cases ha : b = 0
      · have hb : (b != 0) = false := by simpa using ha
        have HA := Lib.hid ha
        clear ha
        go_wp2
        go_round
        case rel => exact ⟨2, by omega, rfl, Lib.hid ⟨fun _ => HZ.out.1 (by omega), fun _ => HA.out, by omega⟩⟩
        case measure => simp [intOf]
      · have hb : (b != 0) = true := by simpa using ha
        have HA : Hid (orI a b c = b) := Lib.hid ((if_neg (fun h => h (HZ.out.1 (by omega)))).trans (if_pos ha))
        clear ha
        go_wp2
        go_ret
        exact ⟨ret_int HA.out.symm, rfl⟩
    | 2, _, HZ =>
      by_cases ha : c = 0
      · have hb : (c != 0) = false := by simpa using ha
        have HA := Lib.hid ha
        clear ha
        go_wp2
        go_round
        case rel => exact ⟨3, by omega, rfl, Lib.hid ⟨fun _ => HZ.out.1 (by omega), fun _ => HZ.out.2.1 (by omega), fun _ => HA.out⟩⟩
        case measure => simp [intOf]
      · have hb : (c != 0) = true := by simpa using ha
        have HA : Hid (orI a b c = c) := Lib.hid ((if_neg (fun h => h (HZ.out.1 (by omega)))).trans (if_neg (fun h => h (HZ.out.2.1 (by omega)))))
        clear ha
        go_wp2
        go_ret
        exact ⟨ret_int HA.out.symm, rfl⟩
    | 3, _, HZ =>
      have HA : Hid (orI a b c = 0) := Lib.hid ((if_neg (fun h => h (HZ.out.1 (by omega)))).trans ((if_neg (fun h => h (HZ.out.2.1 (by omega)))).trans (HZ.out.2.2 (by omega))))
      go_wp2
      go_ret
      exact ⟨ret_int HA.out.symm, rfl⟩
theorem or_cmp (a b c x y z : Int) : orI (cmpI a x) (cmpI b y) (cmpI c z) = cmpT a b c x y z := rfl
theorem compare_any (a b c x y z : Int) (w : World) : Calls Try.prog 7 #[tagV a b c, tagV x y z] w (IsI (cmpT a b c x y z) w) := by
  go_enter Try.func7, Try.ntmps7
  go_wp2
  go_region_held3 (fun w' => w'.cell? ⟨w.heap.size, 0, none⟩ = some (.int .i64 a) ∧ w'.cell? ⟨w.heap.size, 1, none⟩ = some (.int .i64 b) ∧ w'.cell? ⟨w.heap.size, 2, none⟩ = some (.int .i64 c) ∧ w'.cell? ⟨w.heap.size + 1, 0, none⟩ = some (.int .i64 x) ∧ w'.cell? ⟨w.heap.size + 1, 1, none⟩ = some (.int .i64 y) ∧ w'.cell? ⟨w.heap.size + 1, 2, none⟩ = some (.int .i64 z)) (go_keep)
    (first | (go_at_call 14; refine (cmpint_any _ _ _).mono ?_; rintro e w' ⟨rfl, rfl⟩) | (go_at_call 13; refine (or_any _ (cmpI a x) (cmpI b y) (cmpI c z) _ (by go_simp) (by go_simp) (by go_simp)).mono ?_; rintro e w' ⟨rfl, rfl⟩))
  go_wp2
  go_ret
  exact isI_of (or_cmp a b c x y z) ((((Below.refl _ _).alloc (Nat.le_refl _) _).alloc (by simp) _).alloc (by simp; omega) _).drew
def inR (n m : Int) : Bool := decide (0 ≤ n ∧ n ≤ m)
theorem inR_yes {n m : Int} (h : inR n m = true) : 0 ≤ n ∧ n ≤ m := of_decide_eq_true h
theorem inR_no {n m : Int} (h : inR n m = false) : n < 0 ∨ m < n := by have := of_decide_eq_false h; omega
theorem upto_any (n m : Int) (w : World) : Calls Try.prog 17 #[.int .i64 n, .int .i64 m] w fun e w' => e = .returned (.bool (inR n m)) ∧ w = w' := by
  by_cases h : 0 ≤ n
  · by_cases h2 : n ≤ m
    · rw [show inR n m = true from decide_eq_true ⟨h, h2⟩]
      go_enter Try.func17, Try.ntmps17
      go_wp2
      go_ret
      exact ⟨rfl, rfl⟩
    · rw [show inR n m = false from decide_eq_false (by omega)]
      have h3 : decide (n ≤ m) = false := decide_eq_false h2
      clear h2
      go_enter Try.func17, Try.ntmps17
      go_wp2
      go_ret
      exact ⟨rfl, rfl⟩
  · rw [show inR n m = false from decide_eq_false (by omega)]
    have h3 : n < 0 := by omega
    clear h
    go_enter Try.func17, Try.ntmps17
    go_wp2
    go_ret
    exact ⟨rfl, rfl⟩
theorem upto_val (n m : Int) (b : Bool) (h : Hid (inR n m = b)) (w : World) : Calls Try.prog 17 #[.int .i64 n, .int .i64 m] w fun e w' => e = .returned (.bool b) ∧ w = w' := by
  have := upto_any n m w
  rw [h.out] at this; exact this
theorem none_any (s u o : Int) (w : World) : Calls Try.prog 11 #[tagV s u o] w (IsB (s == 0) w) := by
  go_enter Try.func11, Try.ntmps11
  go_wp2
  go_ret
  exact ⟨rfl, (Below.refl _ _).alloc (Nat.le_refl _) _⟩
theorem none_val (s u o : Int) (b : Bool) (h : Hid ((s == 0) = b)) (w : World) : Calls Try.prog 11 #[tagV s u o] w (IsB b w) := by
  have := none_any s u o w
  rw [h.out] at this; exact this
def eqT (a b c x y z : Int) : Bool := a == x && b == y && c == z
theorem run_eqT (a b c x y z : Int) (w : World) : (Op.equalIn 10000 25 (tagV a b c) (tagV x y z)).run Try.prog w = .ok (eqT a b c x y z) w := by
  have u3 := Try.underlying3
  have a3 := Try.isAgg3
  have z3 := Try.sizeOf3
  have hS : Try.prog.underlying 25 = some (.struct (Try.prog.fieldsOf 25)) := by kernel_rfl
  rw [show (10000 : Nat) = 9999 + 1 from rfl, run_equalIn_agg w 9999 25 _ _ hS (by kernel_rfl)]
  simp only [Program.fieldsOf, Try.underlying25]
  go_simp
  unfold eqT
  by_cases h1 : a = x <;> by_cases h2 : b = y <;> by_cases h3 : c = z <;> simp [h1, h2, h3]
def okT (s u o : Int) : Bool := inR s 1099511627775 && inR u 1048575 && inR o 1048575 && (!(s == 0) || (u == 0 && o == 0))
def checkT (s u o : Int) : Int := if okT s u o = true then 0 else 2
theorem checkT_1 {s u o : Int} (h : inR s 1099511627775 = false) : checkT s u o = 2 := by unfold checkT okT; rw [h]; rfl
theorem checkT_2 {s u o : Int} (h : inR u 1048575 = false) : checkT s u o = 2 := by unfold checkT okT; rw [h, Bool.and_false]; rfl
theorem checkT_3 {s u o : Int} (h : inR o 1048575 = false) : checkT s u o = 2 := by unfold checkT okT; rw [h, Bool.and_false]; rfl
theorem check_any (s u o : Int) (w : World) : Calls Try.prog 16 #[tagV s u o] w (IsI (checkT s u o) w) := by
  have hb : Below w.heap.size w (w.alloc (.cells #[.int .i64 s, .int .i64 u, .int .i64 o] 25)) := (Below.refl _ _).alloc (Nat.le_refl _) _
  have HB := Lib.hid hb
  clear hb
  cases h1 : inR s 1099511627775
  · have HV := Lib.hid (checkT_1 (u := u) (o := o) h1)
    have H1 := Lib.hid h1
    clear h1
    go_enter Try.func16, Try.ntmps16
    go_wp2_with (go_at_call 17; refine (upto_val _ _ _ (by assumption) _).mono ?_; rintro e w' ⟨rfl, rfl⟩)
    go_ret
    exact isI_of HV.out.symm HB.out
  cases h2 : inR u 1048575
  · have HV := Lib.hid (checkT_2 (s := s) (o := o) h2)
    have H1 := Lib.hid h1
    have H2 := Lib.hid h2
    clear h1 h2
    go_enter Try.func16, Try.ntmps16
    go_wp2_with (go_at_call 17; refine (upto_val _ _ _ (by assumption) _).mono ?_; rintro e w' ⟨rfl, rfl⟩)
    go_ret
    exact isI_of HV.out.symm HB.out
  cases h3 : inR o 1048575
  · have HV := Lib.hid (checkT_3 (s := s) (u := u) h3)
    have H1 := Lib.hid h1
    have H2 := Lib.hid h2
    have H3 := Lib.hid h3
    clear h1 h2 h3
    go_enter Try.func16, Try.ntmps16
    go_wp2_with (go_at_call 17; refine (upto_val _ _ _ (by assumption) _).mono ?_; rintro e w' ⟨rfl, rfl⟩)
    go_ret
    exact isI_of HV.out.symm HB.out
  have hv : checkT s u o = if (!(s == 0) || (u == 0 && o == 0)) = true then 0 else 2 := by unfold checkT okT; rw [h1, h2, h3]; rfl
  have H1 := Lib.hid h1
  have H2 := Lib.hid h2
  have H3 := Lib.hid h3
  clear h1 h2 h3
  cases h4 : (s == 0)
  · have HV : Hid (checkT s u o = 0) := Lib.hid (by rw [hv, h4]; rfl)
    have H4 := Lib.hid h4
    clear h4 hv
    go_enter Try.func16, Try.ntmps16
    go_wp2_with (first | (go_at_call 17; refine (upto_val _ _ _ (by assumption) _).mono ?_; rintro e w' ⟨rfl, rfl⟩) | (go_at_call 11; refine (none_val _ _ _ _ (by assumption) _).mono ?_; rintro e w2 ⟨rfl, hb⟩; have HB2 := Lib.hid (HB.out.trans (hb.mono HB.out.size)); clear hb))
    go_ret
    exact isI_of HV.out.symm HB2.out
  · have hs : s = 0 := by simpa using h4
    subst hs
    have hq := run_eqT 0 u o 0 0 0
    have he : eqT 0 u o 0 0 0 = (u == 0 && o == 0) := by unfold eqT; simp
    rw [he] at hq
    have H4 := Lib.hid h4
    cases h5 : (u == 0 && o == 0)
    · have HV : Hid (checkT 0 u o = 2) := Lib.hid (by rw [hv, h4, h5]; rfl)
      simp only [h5] at hq
      clear h4 hv h5 he
      go_enter Try.func16, Try.ntmps16
      go_wp2_with (first | (go_at_call 17; refine (upto_val _ _ _ (by assumption) _).mono ?_; rintro e w' ⟨rfl, rfl⟩) | (go_at_call 11; refine (none_val _ _ _ _ (by assumption) _).mono ?_; rintro e w2 ⟨rfl, hb⟩; have HB2 := Lib.hid (HB.out.trans (hb.mono HB.out.size)); have hc0 := hb.cell (p := ⟨w.heap.size, 0, none⟩) (by simp); have hc1 := hb.cell (p := ⟨w.heap.size, 1, none⟩) (by simp); have hc2 := hb.cell (p := ⟨w.heap.size, 2, none⟩) (by simp); clear hb))
      go_ret
      exact isI_of HV.out.symm HB2.out
    · have HV : Hid (checkT 0 u o = 0) := Lib.hid (by rw [hv, h4, h5]; rfl)
      simp only [h5] at hq
      clear h4 hv h5 he
      go_enter Try.func16, Try.ntmps16
      go_wp2_with (first | (go_at_call 17; refine (upto_val _ _ _ (by assumption) _).mono ?_; rintro e w' ⟨rfl, rfl⟩) | (go_at_call 11; refine (none_val _ _ _ _ (by assumption) _).mono ?_; rintro e w2 ⟨rfl, hb⟩; have HB2 := Lib.hid (HB.out.trans (hb.mono HB.out.size)); have hc0 := hb.cell (p := ⟨w.heap.size, 0, none⟩) (by simp); have hc1 := hb.cell (p := ⟨w.heap.size, 1, none⟩) (by simp); have hc2 := hb.cell (p := ⟨w.heap.size, 2, none⟩) (by simp); clear hb))
      go_ret
      exact isI_of HV.out.symm HB2.out
end Go.Proofs.Ytmbcdakfnckcmaa
