/- Tag: How two numbers, and two tags, stand; which tag may be; the program's calls on tags, and the document's, one contract each.
   Tag2: The document's calls on tags: how two stand, whether one may be; the next one, by both.
   NextT: The tag that comes next, by the program and by the document.
   Ent: Entries: which may be, how many bytes they have: by the program and by the document, one contract each.
   Ent2: Which entries may be, by the document; how many bytes one has.
   Val: Whether two values, and two entries, are the same, by the program and by the document.
   Same: Whether two entries are the same, by the program and by the document; a copy of one; the newer one of two.
   CopyE: A copy of an entry; the newer one of two: by the program and by the document.
   Newer: The newer one of two entries, by the program and by the document.
   BytesE: The bytes of an entry, by the program.
   RefBytes: The bytes of an entry, by the document.
   GetTV: A tag, and a value, read by a reader.
   GetE: An entry read by a reader: the fields.
   GetE2: An entry read by a reader: the fields, in whatever order memory is made.
   RefGetN: What the document reads of a number below a bound, of a truth.
   RefGetE: An entry at the begin of bytes, by the document.
   StepRef: What a reader reads of an entry, and what the document does: the same.
   ReadE: An entry read from bytes, by the program and by the document. -/
import Derived.Test.YtkdpfjenjcpcfaaGreatDoorCore
import Derived.Test.YtkdpfjenjcpcfaaGreatDoorPk
import Derived.Deep.RegionHeld3
import Derived.Laws.StructEq
import Derived.Deep.DeepCutAuto
namespace Go.Proofs.YtkdpfjenjcpcfaaGreatDoor
open Go.RowKit Mem
set_option maxRecDepth 10000
set_option maxHeartbeats 1000000
def cmpI (a b : Int) : Int := if a < b then -1 else if b < a then 1 else 0
def cmpT (a b c x y z : Int) : Int := if cmpI a x ≠ 0 then cmpI a x else if cmpI b y ≠ 0 then cmpI b y else cmpI c z
abbrev tagV (s u o : Int) : Value := .agg #[.int .i64 s, .int .i64 u, .int .i64 o]
/-- A number, and nothing that was there is changed. -/
def IsI (n : Int) (w : World) (e : Ending) (w' : World) : Prop := e = .returned (.int .i64 n) ∧ Below w.heap.size w w'
def IsB (b : Bool) (w : World) (e : Ending) (w' : World) : Prop := e = .returned (.bool b) ∧ Below w.heap.size w w'
theorem isI_of {n m : Int} {w w' : World} (h : n = m) (hb : Below w.heap.size w w') : IsI m w (.returned (.int .i64 n)) w' := ⟨by rw [h], hb⟩
theorem isnan_any (a : Int) (w : World) : Calls Tryz.prog 167 #[.int .i64 a] w fun e w' => e = .returned (.bool false) ∧ w = w' := by
  go_enter Tryz.func167, Tryz.ntmps167
  go_wp2
  go_ret
  exact ⟨rfl, rfl⟩
theorem cmpint_any (a b : Int) (w : World) : Calls Tryz.prog 143 #[.int .i64 a, .int .i64 b] w fun e w' => e = .returned (.int .i64 (cmpI a b)) ∧ w = w' := by
  by_cases h : a < b
  · have e : cmpI a b = -1 := if_pos h
    rw [e]; clear e
    go_enter Tryz.func143, Tryz.ntmps143
    go_wp2_with (go_at_call 167; refine (isnan_any _ _).mono ?_; rintro e w' ⟨rfl, rfl⟩)
    go_ret
    exact ⟨rfl, rfl⟩
  by_cases h2 : b < a
  · have e : cmpI a b = 1 := (if_neg h).trans (if_pos h2)
    have h3 : b ≤ a := by omega
    rw [e]; clear e h
    go_enter Tryz.func143, Tryz.ntmps143
    go_wp2_with (go_at_call 167; refine (isnan_any _ _).mono ?_; rintro e w' ⟨rfl, rfl⟩)
    go_ret
    exact ⟨rfl, rfl⟩
  · have e : cmpI a b = 0 := (if_neg h).trans (if_neg h2)
    have hab : a = b := by omega
    subst hab
    rw [e]; clear e h h2
    go_enter Tryz.func143, Tryz.ntmps143
    go_wp2_with (go_at_call 167; refine (isnan_any _ _).mono ?_; rintro e w' ⟨rfl, rfl⟩)
    go_ret
    exact ⟨rfl, rfl⟩
def orI (a b c : Int) : Int := if a ≠ 0 then a else if b ≠ 0 then b else c
theorem or_any (g : Nat) (a b c : Int) (w : World) (h0 : w.cell? ⟨g, 0, none⟩ = some (.int .i64 a)) (h1 : w.cell? ⟨g, 1, none⟩ = some (.int .i64 b)) (h2 : w.cell? ⟨g, 2, none⟩ = some (.int .i64 c)) :
    Calls Tryz.prog 142 #[.slice (some ⟨g, 0, none⟩) 3 3] w fun e w' => e = .returned (.int .i64 (orI a b c)) ∧ w = w' := by
  go_enter Tryz.func142, Tryz.ntmps142
  go_wp2
  go_loop [8] (fun i => ∃ k : Nat, k ≤ 3 ∧ i = .int .i64 k ∧ Hid ((0 < k → a = 0) ∧ (1 < k → b = 0) ∧ (2 < k → c = 0))) (fun i => 3 - (intOf i).toNat)
  case atStart => exact ⟨0, by omega, rfl, Lib.hid (by omega)⟩
  case round =>
    obtain ⟨k, hk, rfl, HZ⟩ := hrel
    match k, hk, HZ with
    | 0, _, HZ =>
      by_cases ha : a = 0
      · have hb : (a != 0) = false := by simpa using ha
        have HA := Lib.hid ha
        clear ha
        go_wp2
        go_round
        case rel => exact ⟨1, by omega, rfl, Lib.hid ⟨fun _ => HA.out, by omega, by omega⟩⟩
        case measure => simp [intOf]
      · have hb : (a != 0) = true := by simpa using ha
        have HA : Hid (orI a b c = a) := Lib.hid (if_pos ha)
        clear ha
        go_wp2
        go_ret
        exact ⟨ret_intN HA.out.symm, rfl⟩
    | 1, _, HZ =>
      by_cases ha : b = 0
      · have hb : (b != 0) = false := by simpa using ha
        have HA := Lib.hid ha
        clear ha
        go_wp2
        go_round
        case rel => exact ⟨2, by omega, rfl, Lib.hid ⟨fun _ => HZ.out.1 (by omega), fun _ => HA.out, by omega⟩⟩
        case measure => simp [intOf]
      · have hb : (b != 0) = true := by simpa using ha
        have HA : Hid (orI a b c = b) := Lib.hid ((if_neg (fun h => h (HZ.out.1 (by omega)))).trans (if_pos ha))
        clear ha
        go_wp2
        go_ret
        exact ⟨ret_intN HA.out.symm, rfl⟩
    | 2, _, HZ =>
      by_cases ha : c = 0
      · have hb : (c != 0) = false := by simpa using ha
        have HA := Lib.hid ha
        clear ha
        go_wp2
        go_round
        case rel => exact ⟨3, by omega, rfl, Lib.hid ⟨fun _ => HZ.out.1 (by omega), fun _ => HZ.out.2.1 (by omega), fun _ => HA.out⟩⟩
        case measure => simp [intOf]
      · have hb : (c != 0) = true := by simpa using ha
        have HA : Hid (orI a b c = c) := Lib.hid ((if_neg (fun h => h (HZ.out.1 (by omega)))).trans (if_neg (fun h => h (HZ.out.2.1 (by omega)))))
        clear ha
        go_wp2
        go_ret
        exact ⟨ret_intN HA.out.symm, rfl⟩
    | 3, _, HZ =>
      have HA : Hid (orI a b c = 0) := Lib.hid ((if_neg (fun h => h (HZ.out.1 (by omega)))).trans ((if_neg (fun h => h (HZ.out.2.1 (by omega)))).trans (HZ.out.2.2 (by omega))))
      go_wp2
      go_ret
      exact ⟨ret_intN HA.out.symm, rfl⟩
theorem or_cmp (a b c x y z : Int) : orI (cmpI a x) (cmpI b y) (cmpI c z) = cmpT a b c x y z := rfl
theorem compare_any (a b c x y z : Int) (w : World) : Calls Tryz.prog 114 #[tagV a b c, tagV x y z] w (IsI (cmpT a b c x y z) w) := by
  go_enter Tryz.func114, Tryz.ntmps114
  go_wp2
  go_region_held3 (fun w' => w'.cell? ⟨w.heap.size, 0, none⟩ = some (.int .i64 a) ∧ w'.cell? ⟨w.heap.size, 1, none⟩ = some (.int .i64 b) ∧ w'.cell? ⟨w.heap.size, 2, none⟩ = some (.int .i64 c) ∧ w'.cell? ⟨w.heap.size + 1, 0, none⟩ = some (.int .i64 x) ∧ w'.cell? ⟨w.heap.size + 1, 1, none⟩ = some (.int .i64 y) ∧ w'.cell? ⟨w.heap.size + 1, 2, none⟩ = some (.int .i64 z)) (go_keep)
    (first | (go_at_call 143; refine (cmpint_any _ _ _).mono ?_; rintro e w' ⟨rfl, rfl⟩) | (go_at_call 142; refine (or_any _ (cmpI a x) (cmpI b y) (cmpI c z) _ (by go_simp) (by go_simp) (by go_simp)).mono ?_; rintro e w' ⟨rfl, rfl⟩))
  go_wp2
  go_ret
  exact isI_of (or_cmp a b c x y z) ((((Below.refl _ _).alloc (Nat.le_refl _) _).alloc (by simp) _).alloc (by simp; omega) _).drew
def inR (n m : Int) : Bool := decide (0 ≤ n ∧ n ≤ m)
theorem inR_yes {n m : Int} (h : inR n m = true) : 0 ≤ n ∧ n ≤ m := of_decide_eq_true h
theorem inR_no {n m : Int} (h : inR n m = false) : n < 0 ∨ m < n := by have := of_decide_eq_false h; omega
theorem upto_any (n m : Int) (w : World) : Calls Tryz.prog 164 #[.int .i64 n, .int .i64 m] w fun e w' => e = .returned (.bool (inR n m)) ∧ w = w' := by
  by_cases h : 0 ≤ n
  · by_cases h2 : n ≤ m
    · rw [show inR n m = true from decide_eq_true ⟨h, h2⟩]
      go_enter Tryz.func164, Tryz.ntmps164
      go_wp2
      go_ret
      exact ⟨rfl, rfl⟩
    · rw [show inR n m = false from decide_eq_false (by omega)]
      have h3 : decide (n ≤ m) = false := decide_eq_false h2
      clear h2
      go_enter Tryz.func164, Tryz.ntmps164
      go_wp2
      go_ret
      exact ⟨rfl, rfl⟩
  · rw [show inR n m = false from decide_eq_false (by omega)]
    have h3 : n < 0 := by omega
    clear h
    go_enter Tryz.func164, Tryz.ntmps164
    go_wp2
    go_ret
    exact ⟨rfl, rfl⟩
theorem within_any (n m : Int) (w : World) : Calls Tryz.prog 85 #[.int .i64 n, .int .i64 m] w fun e w' => e = .returned (.bool (inR n m)) ∧ w = w' := by
  by_cases h : 0 ≤ n
  · by_cases h2 : n ≤ m
    · rw [show inR n m = true from decide_eq_true ⟨h, h2⟩]
      go_enter Tryz.func85, Tryz.ntmps85
      go_wp2
      go_ret
      exact ⟨rfl, rfl⟩
    · rw [show inR n m = false from decide_eq_false (by omega)]
      have h3 : decide (n ≤ m) = false := decide_eq_false h2
      clear h2
      go_enter Tryz.func85, Tryz.ntmps85
      go_wp2
      go_ret
      exact ⟨rfl, rfl⟩
  · rw [show inR n m = false from decide_eq_false (by omega)]
    have h3 : n < 0 := by omega
    clear h
    go_enter Tryz.func85, Tryz.ntmps85
    go_wp2
    go_ret
    exact ⟨rfl, rfl⟩
theorem upto_val (n m : Int) (b : Bool) (h : Hid (inR n m = b)) (w : World) : Calls Tryz.prog 164 #[.int .i64 n, .int .i64 m] w fun e w' => e = .returned (.bool b) ∧ w = w' := by
  have := upto_any n m w
  rw [h.out] at this; exact this
theorem within_val (n m : Int) (b : Bool) (h : Hid (inR n m = b)) (w : World) : Calls Tryz.prog 85 #[.int .i64 n, .int .i64 m] w fun e w' => e = .returned (.bool b) ∧ w = w' := by
  have := within_any n m w
  rw [h.out] at this; exact this
theorem none_any (s u o : Int) (w : World) : Calls Tryz.prog 113 #[tagV s u o] w (IsB (s == 0) w) := by
  go_enter Tryz.func113, Tryz.ntmps113
  go_wp2
  go_ret
  exact ⟨rfl, (Below.refl _ _).alloc (Nat.le_refl _) _⟩
theorem none_val (s u o : Int) (b : Bool) (h : Hid ((s == 0) = b)) (w : World) : Calls Tryz.prog 113 #[tagV s u o] w (IsB b w) := by
  have := none_any s u o w
  rw [h.out] at this; exact this
def eqT (a b c x y z : Int) : Bool := a == x && b == y && c == z
theorem run_eqT (a b c x y z : Int) (w : World) : (Op.equalIn 10000 42 (tagV a b c) (tagV x y z)).run Tryz.prog w = .ok (eqT a b c x y z) w := by
  have u3 := Tryz.underlying3
  have a3 := Tryz.isAgg3
  have z3 := Tryz.sizeOf3
  have hS : Tryz.prog.underlying 42 = some (.struct (Tryz.prog.fieldsOf 42)) := by kernel_rfl
  rw [show (10000 : Nat) = 9999 + 1 from rfl, run_equalIn_agg w 9999 42 _ _ hS (by kernel_rfl)]
  simp only [Program.fieldsOf, Tryz.underlying42]
  go_simp
  unfold eqT
  by_cases h1 : a = x <;> by_cases h2 : b = y <;> by_cases h3 : c = z <;> simp [h1, h2, h3]
def okT (s u o : Int) : Bool := inR s 1099511627775 && inR u 1048575 && inR o 1048575 && (!(s == 0) || (u == 0 && o == 0))
def checkT (s u o : Int) : Int := if okT s u o = true then 0 else 2
theorem checkT_1 {s u o : Int} (h : inR s 1099511627775 = false) : checkT s u o = 2 := by unfold checkT okT; rw [h]; rfl
theorem checkT_2 {s u o : Int} (h : inR u 1048575 = false) : checkT s u o = 2 := by unfold checkT okT; rw [h, Bool.and_false]; rfl
theorem checkT_3 {s u o : Int} (h : inR o 1048575 = false) : checkT s u o = 2 := by unfold checkT okT; rw [h, Bool.and_false]; rfl
theorem checkT_any (s u o : Int) (w : World) : Calls Tryz.prog 136 #[tagV s u o] w (IsI (checkT s u o) w) := by
  have hb : Below w.heap.size w (w.alloc (.cells #[.int .i64 s, .int .i64 u, .int .i64 o] 42)) := (Below.refl _ _).alloc (Nat.le_refl _) _
  have HB := Lib.hid hb
  clear hb
  cases h1 : inR s 1099511627775
  · have HV := Lib.hid (checkT_1 (u := u) (o := o) h1)
    have H1 := Lib.hid h1
    clear h1
    go_enter Tryz.func136, Tryz.ntmps136
    go_wp2_with (go_at_call 164; refine (upto_val _ _ _ (by assumption) _).mono ?_; rintro e w' ⟨rfl, rfl⟩)
    go_ret
    exact isI_of HV.out.symm HB.out
  cases h2 : inR u 1048575
  · have HV := Lib.hid (checkT_2 (s := s) (o := o) h2)
    have H1 := Lib.hid h1
    have H2 := Lib.hid h2
    clear h1 h2
    go_enter Tryz.func136, Tryz.ntmps136
    go_wp2_with (go_at_call 164; refine (upto_val _ _ _ (by assumption) _).mono ?_; rintro e w' ⟨rfl, rfl⟩)
    go_ret
    exact isI_of HV.out.symm HB.out
  cases h3 : inR o 1048575
  · have HV := Lib.hid (checkT_3 (s := s) (u := u) h3)
    have H1 := Lib.hid h1
    have H2 := Lib.hid h2
    have H3 := Lib.hid h3
    clear h1 h2 h3
    go_enter Tryz.func136, Tryz.ntmps136
    go_wp2_with (go_at_call 164; refine (upto_val _ _ _ (by assumption) _).mono ?_; rintro e w' ⟨rfl, rfl⟩)
    go_ret
    exact isI_of HV.out.symm HB.out
  have hv : checkT s u o = if (!(s == 0) || (u == 0 && o == 0)) = true then 0 else 2 := by unfold checkT okT; rw [h1, h2, h3]; rfl
  have H1 := Lib.hid h1
  have H2 := Lib.hid h2
  have H3 := Lib.hid h3
  clear h1 h2 h3
  cases h4 : (s == 0)
  · have HV : Hid (checkT s u o = 0) := Lib.hid (by rw [hv, h4]; rfl)
    have H4 := Lib.hid h4
    clear h4 hv
    go_enter Tryz.func136, Tryz.ntmps136
    go_wp2_with (first | (go_at_call 164; refine (upto_val _ _ _ (by assumption) _).mono ?_; rintro e w' ⟨rfl, rfl⟩) | (go_at_call 113; refine (none_val _ _ _ _ (by assumption) _).mono ?_; rintro e w2 ⟨rfl, hb⟩; have HB2 := Lib.hid (HB.out.trans (hb.mono HB.out.size)); clear hb))
    go_ret
    exact isI_of HV.out.symm HB2.out
  · have hs : s = 0 := by simpa using h4
    subst hs
    have hq := run_eqT 0 u o 0 0 0
    have he : eqT 0 u o 0 0 0 = (u == 0 && o == 0) := by unfold eqT; simp
    rw [he] at hq
    have H4 := Lib.hid h4
    cases h5 : (u == 0 && o == 0)
    · have HV : Hid (checkT 0 u o = 2) := Lib.hid (by rw [hv, h4, h5]; rfl)
      simp only [h5] at hq
      clear h4 hv h5 he
      go_enter Tryz.func136, Tryz.ntmps136
      go_wp2_with (first | (go_at_call 164; refine (upto_val _ _ _ (by assumption) _).mono ?_; rintro e w' ⟨rfl, rfl⟩) | (go_at_call 113; refine (none_val _ _ _ _ (by assumption) _).mono ?_; rintro e w2 ⟨rfl, hb⟩; have HB2 := Lib.hid (HB.out.trans (hb.mono HB.out.size)); have hc0 := hb.cell (p := ⟨w.heap.size, 0, none⟩) (by simp); have hc1 := hb.cell (p := ⟨w.heap.size, 1, none⟩) (by simp); have hc2 := hb.cell (p := ⟨w.heap.size, 2, none⟩) (by simp); clear hb))
      go_ret
      exact isI_of HV.out.symm HB2.out
    · have HV : Hid (checkT 0 u o = 0) := Lib.hid (by rw [hv, h4, h5]; rfl)
      simp only [h5] at hq
      clear h4 hv h5 he
      go_enter Tryz.func136, Tryz.ntmps136
      go_wp2_with (first | (go_at_call 164; refine (upto_val _ _ _ (by assumption) _).mono ?_; rintro e w' ⟨rfl, rfl⟩) | (go_at_call 113; refine (none_val _ _ _ _ (by assumption) _).mono ?_; rintro e w2 ⟨rfl, hb⟩; have HB2 := Lib.hid (HB.out.trans (hb.mono HB.out.size)); have hc0 := hb.cell (p := ⟨w.heap.size, 0, none⟩) (by simp); have hc1 := hb.cell (p := ⟨w.heap.size, 1, none⟩) (by simp); have hc2 := hb.cell (p := ⟨w.heap.size, 2, none⟩) (by simp); clear hb))
      go_ret
      exact isI_of HV.out.symm HB2.out
end Go.Proofs.YtkdpfjenjcpcfaaGreatDoor
namespace Go.Proofs.YtkdpfjenjcpcfaaGreatDoor
open Go.RowKit Mem
set_option maxRecDepth 10000
set_option maxHeartbeats 1000000
theorem cmpI_lt {a x : Int} (h : a < x) : cmpI a x = -1 := if_pos h
theorem cmpI_gt {a x : Int} (h : x < a) : cmpI a x = 1 := (if_neg (by omega)).trans (if_pos h)
theorem cmpI_eq (a : Int) : cmpI a a = 0 := (if_neg (by omega)).trans (if_neg (by omega))
theorem cmpI_cases (a x : Int) : (a < x ∧ cmpI a x = -1) ∨ (x < a ∧ cmpI a x = 1) ∨ (a = x ∧ cmpI a x = 0) := by
  rcases Int.lt_trichotomy a x with h | h | h
  · exact Or.inl ⟨h, cmpI_lt h⟩
  · subst h; exact Or.inr (Or.inr ⟨rfl, cmpI_eq a⟩)
  · exact Or.inr (Or.inl ⟨h, cmpI_gt h⟩)
theorem cmpT_1 {a b c x y z : Int} (h : a ≠ x) : cmpT a b c x y z = cmpI a x := by
  unfold cmpT; rcases cmpI_cases a x with ⟨_, h2⟩ | ⟨_, h2⟩ | ⟨h2, _⟩
  · rw [h2]; rfl
  · rw [h2]; rfl
  · exact absurd h2 h
theorem cmpT_2 {a b c x y z : Int} (h0 : a = x) (h : b ≠ y) : cmpT a b c x y z = cmpI b y := by
  subst h0
  unfold cmpT; rw [cmpI_eq, if_neg (by simp)]
  rcases cmpI_cases b y with ⟨_, h2⟩ | ⟨_, h2⟩ | ⟨h2, _⟩
  · rw [h2]; rfl
  · rw [h2]; rfl
  · exact absurd h2 h
theorem cmpT_3 {a b c x y z : Int} (h0 : a = x) (h1 : b = y) : cmpT a b c x y z = cmpI c z := by
  subst h0; subst h1
  unfold cmpT; rw [cmpI_eq, cmpI_eq, if_neg (by simp), if_neg (by simp)]
theorem below4 (w : World) (o1 o2 o3 o4 : Obj) (q : Nat) : Below w.heap.size w (((((w.alloc o1).alloc o2).alloc o3).alloc o4).drewN q) :=
  (((((Below.refl _ _).alloc (Nat.le_refl _) _).alloc (by simp) _).alloc (by simp; omega) _).alloc (by simp; omega) _).trans ⟨rfl, rfl, rfl, Nat.le_refl _, fun _ _ => rfl⟩
theorem refcompare_any (a b c x y z : Int) (w : World) : Calls Tryz.prog 22 #[tagV a b c, tagV x y z] w (IsI (cmpT a b c x y z) w) := by
  go_enter Tryz.func22, Tryz.ntmps22
  go_wp2
  go_loopw [7] (fun i wr => ∃ k : Nat, k ≤ 3 ∧ i = .int .i64 k ∧ Hid ((0 < k → a = x) ∧ (1 < k → b = y) ∧ (2 < k → c = z)) ∧ Hid (∃ q, wr = ((((w.alloc (.cells #[.int .i64 a, .int .i64 b, .int .i64 c] 42)).alloc (.cells #[.int .i64 x, .int .i64 y, .int .i64 z] 42)).alloc (.cells #[.int .i64 a, .int .i64 b, .int .i64 c] 3)).alloc (.cells #[.int .i64 x, .int .i64 y, .int .i64 z] 3)).drewN q)) (fun i _ => 3 - (intOf i).toNat)
  case atStart => exact ⟨0, by omega, rfl, Lib.hid (by omega), Lib.hid ⟨0, rfl⟩⟩
  case round =>
    obtain ⟨k, hk, rfl, HZ, HQ⟩ := hrel
    have HB : Hid (Below w.heap.size w wr) := Lib.hid (by obtain ⟨q, rfl⟩ := HQ.out; exact below4 ..)
    match k, hk, HZ with
    | 0, _, HZ =>
      have h1 : wr.cell? ⟨w.heap.size + 1 + 1, 0, none⟩ = some (.int .i64 a) := by obtain ⟨q, rfl⟩ := HQ.out; go_simp
      have h2 : wr.cell? ⟨w.heap.size + 1 + 1 + 1, 0, none⟩ = some (.int .i64 x) := by obtain ⟨q, rfl⟩ := HQ.out; go_simp
      rcases Int.lt_trichotomy a x with hlt | heq | hgt
      · have HV : Hid (cmpT a b c x y z = -1) := Lib.hid ((cmpT_1 (by omega)).trans (cmpI_lt hlt))
        go_wp2
        go_quiet (fail)
        go_wp2
        go_ret
        exact isI_of HV.out.symm (HB.out.trans ⟨rfl, rfl, rfl, Nat.le_refl _, fun _ _ => rfl⟩)
      · have HE := Lib.hid heq
        have hn1 : a ≤ x := by omega
        have hn2 : x ≤ a := by omega
        clear heq
        go_wp2
        go_quiet (fail)
        go_wp2
        go_quiet (fail)
        go_wp2
        go_roundw
        case rel => exact ⟨1, by omega, rfl, Lib.hid ⟨fun _ => HE.out, by omega, by omega⟩, Lib.hid (by obtain ⟨q, rfl⟩ := HQ.out; exact ⟨_, by simp only [World.drewN_drewN]; rfl⟩)⟩
        case measure => simp [intOf]
      · have HV : Hid (cmpT a b c x y z = 1) := Lib.hid ((cmpT_1 (by omega)).trans (cmpI_gt hgt))
        have hn : x ≤ a := by omega
        go_wp2
        go_quiet (fail)
        go_wp2
        go_quiet (fail)
        go_wp2
        go_ret
        exact isI_of HV.out.symm (HB.out.trans ⟨rfl, rfl, rfl, Nat.le_refl _, fun _ _ => rfl⟩)
    | 1, _, HZ =>
      have h1 : wr.cell? ⟨w.heap.size + 1 + 1, 1, none⟩ = some (.int .i64 b) := by obtain ⟨q, rfl⟩ := HQ.out; go_simp
      have h2 : wr.cell? ⟨w.heap.size + 1 + 1 + 1, 1, none⟩ = some (.int .i64 y) := by obtain ⟨q, rfl⟩ := HQ.out; go_simp
      rcases Int.lt_trichotomy b y with hlt | heq | hgt
      · have HV : Hid (cmpT a b c x y z = -1) := Lib.hid ((cmpT_2 (HZ.out.1 (by omega)) (by omega)).trans (cmpI_lt hlt))
        go_wp2
        go_quiet (fail)
        go_wp2
        go_ret
        exact isI_of HV.out.symm (HB.out.trans ⟨rfl, rfl, rfl, Nat.le_refl _, fun _ _ => rfl⟩)
      · have HE := Lib.hid heq
        have hn1 : b ≤ y := by omega
        have hn2 : y ≤ b := by omega
        clear heq
        go_wp2
        go_quiet (fail)
        go_wp2
        go_quiet (fail)
        go_wp2
        go_roundw
        case rel => exact ⟨2, by omega, rfl, Lib.hid ⟨fun _ => HZ.out.1 (by omega), fun _ => HE.out, by omega⟩, Lib.hid (by obtain ⟨q, rfl⟩ := HQ.out; exact ⟨_, by simp only [World.drewN_drewN]; rfl⟩)⟩
        case measure => simp [intOf]
      · have HV : Hid (cmpT a b c x y z = 1) := Lib.hid ((cmpT_2 (HZ.out.1 (by omega)) (by omega)).trans (cmpI_gt hgt))
        have hn : y ≤ b := by omega
        go_wp2
        go_quiet (fail)
        go_wp2
        go_quiet (fail)
        go_wp2
        go_ret
        exact isI_of HV.out.symm (HB.out.trans ⟨rfl, rfl, rfl, Nat.le_refl _, fun _ _ => rfl⟩)
    | 2, _, HZ =>
      have h1 : wr.cell? ⟨w.heap.size + 1 + 1, 2, none⟩ = some (.int .i64 c) := by obtain ⟨q, rfl⟩ := HQ.out; go_simp
      have h2 : wr.cell? ⟨w.heap.size + 1 + 1 + 1, 2, none⟩ = some (.int .i64 z) := by obtain ⟨q, rfl⟩ := HQ.out; go_simp
      rcases Int.lt_trichotomy c z with hlt | heq | hgt
      · have HV : Hid (cmpT a b c x y z = -1) := Lib.hid ((cmpT_3 (HZ.out.1 (by omega)) (HZ.out.2.1 (by omega))).trans (cmpI_lt hlt))
        go_wp2
        go_quiet (fail)
        go_wp2
        go_ret
        exact isI_of HV.out.symm (HB.out.trans ⟨rfl, rfl, rfl, Nat.le_refl _, fun _ _ => rfl⟩)
      · have HE := Lib.hid heq
        have hn1 : c ≤ z := by omega
        have hn2 : z ≤ c := by omega
        clear heq
        go_wp2
        go_quiet (fail)
        go_wp2
        go_quiet (fail)
        go_wp2
        go_roundw
        case rel => exact ⟨3, by omega, rfl, Lib.hid ⟨fun _ => HZ.out.1 (by omega), fun _ => HZ.out.2.1 (by omega), fun _ => HE.out⟩, Lib.hid (by obtain ⟨q, rfl⟩ := HQ.out; exact ⟨_, by simp only [World.drewN_drewN]; rfl⟩)⟩
        case measure => simp [intOf]
      · have HV : Hid (cmpT a b c x y z = 1) := Lib.hid ((cmpT_3 (HZ.out.1 (by omega)) (HZ.out.2.1 (by omega))).trans (cmpI_gt hgt))
        have hn : z ≤ c := by omega
        go_wp2
        go_quiet (fail)
        go_wp2
        go_quiet (fail)
        go_wp2
        go_ret
        exact isI_of HV.out.symm (HB.out.trans ⟨rfl, rfl, rfl, Nat.le_refl _, fun _ _ => rfl⟩)
    | 3, _, HZ =>
      have HV : Hid (cmpT a b c x y z = 0) := Lib.hid ((cmpT_3 (HZ.out.1 (by omega)) (HZ.out.2.1 (by omega))).trans (by rw [HZ.out.2.2 (by omega)]; exact cmpI_eq z))
      go_wp2
      go_ret
      exact isI_of HV.out.symm HB.out
theorem refcheckT_any (s u o : Int) (w : World) : Calls Tryz.prog 57 #[tagV s u o] w (IsI (checkT s u o) w) := by
  have hb : Below w.heap.size w (w.alloc (.cells #[.int .i64 s, .int .i64 u, .int .i64 o] 42)) := (Below.refl _ _).alloc (Nat.le_refl _) _
  have HB := Lib.hid hb
  clear hb
  cases h1 : inR s 1099511627775
  · have HV := Lib.hid (checkT_1 (u := u) (o := o) h1)
    have H1 := Lib.hid h1
    clear h1
    go_enter Tryz.func57, Tryz.ntmps57
    go_wp2_with (go_at_call 85; refine (within_val _ _ _ (by assumption) _).mono ?_; rintro e w' ⟨rfl, rfl⟩)
    go_ret
    exact isI_of HV.out.symm HB.out
  cases h2 : inR u 1048575
  · have HV := Lib.hid (checkT_2 (s := s) (o := o) h2)
    have H1 := Lib.hid h1
    have H2 := Lib.hid h2
    clear h1 h2
    go_enter Tryz.func57, Tryz.ntmps57
    go_wp2_with (go_at_call 85; refine (within_val _ _ _ (by assumption) _).mono ?_; rintro e w' ⟨rfl, rfl⟩)
    go_ret
    exact isI_of HV.out.symm HB.out
  cases h3 : inR o 1048575
  · have HV := Lib.hid (checkT_3 (s := s) (u := u) h3)
    have H1 := Lib.hid h1
    have H2 := Lib.hid h2
    have H3 := Lib.hid h3
    clear h1 h2 h3
    go_enter Tryz.func57, Tryz.ntmps57
    go_wp2_with (go_at_call 85; refine (within_val _ _ _ (by assumption) _).mono ?_; rintro e w' ⟨rfl, rfl⟩)
    go_ret
    exact isI_of HV.out.symm HB.out
  have hv : checkT s u o = if (!(s == 0) || (u == 0 && o == 0)) = true then 0 else 2 := by unfold checkT okT; rw [h1, h2, h3]; rfl
  have hu := (inR_yes h2).1
  have ho := (inR_yes h3).1
  have H1 := Lib.hid h1
  have H2 := Lib.hid h2
  have H3 := Lib.hid h3
  clear h1 h2 h3
  cases h4 : (s == 0)
  · have HV : Hid (checkT s u o = 0) := Lib.hid (by rw [hv, h4]; rfl)
    clear hv
    go_enter Tryz.func57, Tryz.ntmps57
    go_wp2_with (go_at_call 85; refine (within_val _ _ _ (by assumption) _).mono ?_; rintro e w' ⟨rfl, rfl⟩)
    go_ret
    exact isI_of HV.out.symm HB.out
  · have hs : s = 0 := by simpa using h4
    subst hs
    by_cases h5 : 0 < u
    · have hne : (u == 0) = false := by simp; omega
      have HV : Hid (checkT 0 u o = 2) := Lib.hid (by rw [hv, h4, hne]; rfl)
      clear hv h4 hne
      go_enter Tryz.func57, Tryz.ntmps57
      go_wp2_with (go_at_call 85; refine (within_val _ _ _ (by assumption) _).mono ?_; rintro e w' ⟨rfl, rfl⟩)
      go_ret
      exact isI_of HV.out.symm HB.out
    · obtain rfl : u = 0 := by omega
      by_cases h6 : 0 < o
      · have hne : (o == 0) = false := by simp; omega
        have HV : Hid (checkT 0 0 o = 2) := Lib.hid (by rw [hv, h4, hne]; rfl)
        clear hv h4 hne h5
        go_enter Tryz.func57, Tryz.ntmps57
        go_wp2_with (go_at_call 85; refine (within_val _ _ _ (by assumption) _).mono ?_; rintro e w' ⟨rfl, rfl⟩)
        go_ret
        exact isI_of HV.out.symm HB.out
      · obtain rfl : o = 0 := by omega
        have HV : Hid (checkT 0 0 0 = 0) := Lib.hid (by rw [hv]; rfl)
        clear hv h4 h5 h6
        go_enter Tryz.func57, Tryz.ntmps57
        go_wp2_with (go_at_call 85; refine (within_val _ _ _ (by assumption) _).mono ?_; rintro e w' ⟨rfl, rfl⟩)
        go_ret
        exact isI_of HV.out.symm HB.out
end Go.Proofs.YtkdpfjenjcpcfaaGreatDoor
namespace Go.Proofs.YtkdpfjenjcpcfaaGreatDoor
open Go.RowKit Mem
set_option maxRecDepth 10000
set_option maxHeartbeats 1000000
/-- The next tag, and the error. -/
def nextT (s u o who op : Int) : Int × Int × Int × Int :=
  if checkT s u o ≠ 0 then (0, 0, 0, 2) else if inR who 1048575 = false ∨ inR op 1048575 = false then (0, 0, 0, 2) else if s = 1099511627775 then (0, 0, 0, 3) else (s + 1, who, op, 0)
def IsTE (r : Int × Int × Int × Int) (w : World) (e : Ending) (w' : World) : Prop := e = .returned (.tuple #[tagV r.1 r.2.1 r.2.2.1, .int .i64 r.2.2.2]) ∧ Below w.heap.size w w'
theorem isTE_of {r : Int × Int × Int × Int} {a b c e : Int} (h : r = (a, b, c, e)) {w w' : World} (hb : Below w.heap.size w w') : IsTE r w (.returned (.tuple #[tagV a b c, .int .i64 e])) w' := ⟨by rw [h], hb⟩
theorem checkT_02 (s u o : Int) : checkT s u o = 0 ∨ checkT s u o = 2 := by unfold checkT; split <;> simp
theorem check_seq {s u o : Int} (h : checkT s u o = 0) : 0 ≤ s ∧ s ≤ 1099511627775 := by
  cases h1 : inR s 1099511627775
  · rw [checkT_1 h1] at h; exact absurd h (by decide)
  · exact inR_yes h1
theorem check_val (s u o n : Int) (h : Hid (checkT s u o = n)) (w : World) : Calls Tryz.prog 136 #[tagV s u o] w (IsI n w) := by
  have := checkT_any s u o w
  rw [h.out] at this; exact this
theorem refcheck_val (s u o n : Int) (h : Hid (checkT s u o = n)) (w : World) : Calls Tryz.prog 57 #[tagV s u o] w (IsI n w) := by
  have := refcheckT_any s u o w
  rw [h.out] at this; exact this
end Go.Proofs.YtkdpfjenjcpcfaaGreatDoor
namespace Go.Proofs.YtkdpfjenjcpcfaaGreatDoor
open Go.RowKit Mem
set_option maxRecDepth 10000
set_option maxHeartbeats 2000000
abbrev entV (key : ByteArray) (s u o : Int) (has : Bool) (A : Option Addr) (m c : Nat) : Value := .agg #[.string key, .int .i64 s, .int .i64 u, .int .i64 o, .bool has, .slice A m c]
abbrev valV (has : Bool) (A : Option Addr) (m c : Nat) : Value := .agg #[.bool has, .slice A m c]
abbrev entO (key : ByteArray) (s u o : Int) (has : Bool) (A : Option Addr) (m c : Nat) : Obj := .cells #[.string key, .int .i64 s, .int .i64 u, .int .i64 o, .bool has, .slice A m c] 46
def rightE (k m : Nat) (s u o : Int) (has : Bool) : Int := if 0 < k ∧ k ≤ 250 ∧ m ≤ 60000 ∧ (has = true ∨ m = 0) ∧ checkT s u o = 0 ∧ ¬ (s = 0 ∧ has = true) then 0 else 2
theorem rightE_02 (k m : Nat) (s u o : Int) (has : Bool) : rightE k m s u o has = 0 ∨ rightE k m s u o has = 2 := by unfold rightE; split <;> simp
theorem rightE_no {k m : Nat} {s u o : Int} {has : Bool} (h : ¬ (0 < k ∧ k ≤ 250 ∧ m ≤ 60000 ∧ (has = true ∨ m = 0) ∧ checkT s u o = 0 ∧ ¬ (s = 0 ∧ has = true))) : rightE k m s u o has = 2 := if_neg h
theorem rightE_yes {k m : Nat} {s u o : Int} {has : Bool} (h : rightE k m s u o has = 0) : 0 < k ∧ k ≤ 250 ∧ m ≤ 60000 ∧ (has = true ∨ m = 0) ∧ checkT s u o = 0 ∧ ¬ (s = 0 ∧ has = true) := by
  unfold rightE at h; split at h
  · assumption
  · exact absurd h (by decide)
theorem rightE_check {k m : Nat} {s u o : Int} {has : Bool} (h : 0 < k ∧ k ≤ 250 ∧ m ≤ 60000 ∧ (has = true ∨ m = 0) ∧ ¬ (s = 0 ∧ has = true)) : rightE k m s u o has = checkT s u o := by
  obtain ⟨h1, h2, h3, h4, h5⟩ := h
  rcases checkT_02 s u o with h0 | h0
  · rw [h0]; exact if_pos ⟨h1, h2, h3, h4, h0, h5⟩
  · rw [h0]; exact rightE_no (by rintro ⟨_, _, _, _, h, _⟩; omega)
theorem isI_ret {n m : Int} {w w' : World} {e : Ending} (he : e = .returned (.int .i64 n)) (h : n = m) (hb : Below w.heap.size w w') : IsI m w e w' := ⟨by rw [he, h], hb⟩
/-- The ways to be parted: the key's length, the value's, whether there is one, whether the tag is nothing. -/
theorem ways (k m : Nat) (has : Bool) : ((k : Int) ≤ 0 ∨ (250 : Int) < (k : Int) ∨ ((0 : Int) < (k : Int) ∧ (k : Int) ≤ 250)) ∧
    ((60000 : Int) < (m : Int) ∨ ((m : Int) ≤ 60000 ∧ has = true) ∨ ((m : Int) ≤ 0 ∧ m = 0 ∧ has = false) ∨ ((m : Int) ≤ 60000 ∧ (0 : Int) < (m : Int) ∧ has = false)) := by
  refine ⟨by omega, ?_⟩
  cases has
  · by_cases h : 60000 < m
    · left; omega
    · by_cases h2 : m = 0
      · right; right; left; exact ⟨by omega, h2, rfl⟩
      · right; right; right; exact ⟨by omega, by omega, rfl⟩
  · by_cases h : 60000 < m
    · left; omega
    · right; left; exact ⟨by omega, rfl⟩
theorem none_ways (s : Int) : Hid ((s == 0) = true) ∨ Hid ((s == 0) = false) := by
  cases h : (s == 0)
  · exact Or.inr (Lib.hid rfl)
  · exact Or.inl (Lib.hid rfl)
theorem hid_nought {s : Int} (h : Hid ((s == 0) = true)) : s = 0 := by have := h.out; simpa using this
theorem hid_some {s : Int} (h : Hid ((s == 0) = false)) : s ≠ 0 := by have := h.out; simpa using this
theorem right_any (key : ByteArray) (s u o : Int) (has : Bool) (A : Option Addr) (m c : Nat) (hm : (m : Int) ≤ 1073741824) (hsz : (key.size : Int) ≤ 1073741824) (w : World) :
    Calls Tryz.prog 107 #[entV key s u o has A m c] w (IsI (rightE key.size m s u o has) w) := by
  have HB : Hid (Below w.heap.size w (w.alloc (entO key s u o has A m c))) := Lib.hid ((Below.refl _ _).alloc (Nat.le_refl _) _)
  obtain ⟨hk, hv⟩ := ways key.size m has
  have hs := none_ways s
  rcases hk with hk | hk | ⟨hk, hk2⟩ <;> rcases hv with hv | ⟨hv, rfl⟩ | ⟨hv, rfl, rfl⟩ | ⟨hv, hv2, rfl⟩ <;> rcases hs with hs | hs
  all_goals try (cases has)
  all_goals
    go_enter Tryz.func107, Tryz.ntmps107
    go_wp2_with (first
      | (go_at_call 113; refine (none_val _ _ _ _ (by assumption) _).mono ?_; rintro e w2 ⟨rfl, hb⟩; obtain ⟨hc, hf⟩ := bcell hb; have HB2 := Lib.hid (HB.out.trans (hb.mono HB.out.size)); clear hb)
      | (go_at_call 136; refine (checkT_any _ _ _ _).mono ?_; rintro e w3 ⟨rfl, hb⟩; have HB3 := Lib.hid (HB2.out.trans (hb.mono HB2.out.size)); clear hb))
    go_ret
    first
      | exact isI_of (rightE_check (by refine ⟨by omega, by omega, by omega, by simp, ?_⟩; rintro ⟨h1, h2⟩; first | exact hid_some hs h1 | simp at h2)).symm HB3.out
      | exact isI_of (rightE_no (by rintro ⟨h1, h2, h3, h4, h5, h6⟩; first | omega | (simp at h4; omega) | exact h6 ⟨hid_nought hs, rfl⟩)).symm HB2.out
end Go.Proofs.YtkdpfjenjcpcfaaGreatDoor
namespace Go.Proofs.YtkdpfjenjcpcfaaGreatDoor
open Go.RowKit Mem
set_option maxRecDepth 10000
set_option maxHeartbeats 2000000
theorem refright_any (key : ByteArray) (s u o : Int) (has : Bool) (A : Option Addr) (m c : Nat) (hm : (m : Int) ≤ 1073741824) (hsz : (key.size : Int) ≤ 1073741824) (w : World) :
    Calls Tryz.prog 30 #[entV key s u o has A m c] w (IsI (rightE key.size m s u o has) w) := by
  have HB : Hid (Below w.heap.size w (w.alloc (entO key s u o has A m c))) := Lib.hid ((Below.refl _ _).alloc (Nat.le_refl _) _)
  obtain ⟨hk, hv⟩ := ways key.size m has
  rcases hk with hk | hk | ⟨hk, hk2⟩
  · clear hv
    go_enter Tryz.func30, Tryz.ntmps30
    go_wp2
    go_ret
    exact isI_of (rightE_no (by rintro ⟨h1, _⟩; omega)).symm HB.out
  · clear hv
    go_enter Tryz.func30, Tryz.ntmps30
    go_wp2
    go_ret
    exact isI_of (rightE_no (by rintro ⟨_, h1, _⟩; omega)).symm HB.out
  rcases hv with hv | ⟨hv, rfl⟩ | ⟨hv, rfl, rfl⟩ | ⟨hv, hv2, rfl⟩
  · go_enter Tryz.func30, Tryz.ntmps30
    go_wp2
    go_ret
    exact isI_of (rightE_no (by rintro ⟨_, _, h1, _⟩; omega)).symm HB.out
  · rcases checkT_02 s u o with h0 | h0
    · have H0 := Lib.hid h0
      clear h0
      cases h1 : (s == 0)
      · have hq : (s == 0) = false := h1
        have H1 : Hid ((s == 0) = false) := Lib.hid h1
        clear h1
        go_enter Tryz.func30, Tryz.ntmps30
        go_wp2_with (go_at_call 57; refine (refcheck_val _ _ _ _ (by assumption) _).mono ?_; rintro e w2 ⟨rfl, hb⟩; obtain ⟨hc, hf⟩ := bcell hb; have HB2 := Lib.hid (HB.out.trans (hb.mono HB.out.size)); clear hb)
        go_ret
        exact isI_of ((rightE_check (by refine ⟨by omega, by omega, by omega, by simp, ?_⟩; rintro ⟨h1, h2⟩; exact hid_some H1 h1)).trans H0.out).symm HB2.out
      · have H1 : Hid ((s == 0) = true) := Lib.hid h1
        go_enter Tryz.func30, Tryz.ntmps30
        go_wp2_with (go_at_call 57; refine (refcheck_val _ _ _ _ (by assumption) _).mono ?_; rintro e w2 ⟨rfl, hb⟩; obtain ⟨hc, hf⟩ := bcell hb; have HB2 := Lib.hid (HB.out.trans (hb.mono HB.out.size)); clear hb)
        go_ret
        exact isI_of (rightE_no (by rintro ⟨h1, h2, h3, h4, h5, h6⟩; exact h6 ⟨hid_nought H1, rfl⟩)).symm HB2.out
    · have H0 := Lib.hid h0
      clear h0
      go_enter Tryz.func30, Tryz.ntmps30
      go_wp2_with (go_at_call 57; refine (refcheck_val _ _ _ _ (by assumption) _).mono ?_; rintro e w2 ⟨rfl, hb⟩; obtain ⟨hc, hf⟩ := bcell hb; have HB2 := Lib.hid (HB.out.trans (hb.mono HB.out.size)); clear hb)
      go_ret
      exact isI_of (rightE_no (by rintro ⟨_, _, _, _, h1, _⟩; have := H0.out; omega)).symm HB2.out
  · rcases checkT_02 s u o with h0 | h0
    · have H0 := Lib.hid h0
      clear h0
      cases h1 : (s == 0)
      all_goals
        go_enter Tryz.func30, Tryz.ntmps30
        go_wp2_with (go_at_call 57; refine (refcheck_val _ _ _ _ (by assumption) _).mono ?_; rintro e w2 ⟨rfl, hb⟩; obtain ⟨hc, hf⟩ := bcell hb; have HB2 := Lib.hid (HB.out.trans (hb.mono HB.out.size)); clear hb)
        go_ret
        exact isI_of ((rightE_check (by refine ⟨by omega, by omega, by omega, by simp, ?_⟩; rintro ⟨h1, h2⟩; simp at h2)).trans H0.out).symm HB2.out
    · have H0 := Lib.hid h0
      clear h0
      go_enter Tryz.func30, Tryz.ntmps30
      go_wp2_with (go_at_call 57; refine (refcheck_val _ _ _ _ (by assumption) _).mono ?_; rintro e w2 ⟨rfl, hb⟩; obtain ⟨hc, hf⟩ := bcell hb; have HB2 := Lib.hid (HB.out.trans (hb.mono HB.out.size)); clear hb)
      go_ret
      exact isI_of (rightE_no (by rintro ⟨_, _, _, _, h1, _⟩; have := H0.out; omega)).symm HB2.out
  · go_enter Tryz.func30, Tryz.ntmps30
    go_wp2
    go_ret
    exact isI_of (rightE_no (by rintro ⟨_, _, _, h1, _⟩; simp at h1; omega)).symm HB.out
theorem size_any (key : ByteArray) (s u o : Int) (has : Bool) (A : Option Addr) (m c : Nat) (hm : (m : Int) ≤ 1073741824) (hsz : (key.size : Int) ≤ 1073741824) (w : World) :
    Calls Tryz.prog 111 #[entV key s u o has A m c] w (IsI ((key.size : Int) + (m : Int)) w) := by
  have HB : Hid (Below w.heap.size w (w.alloc (entO key s u o has A m c))) := Lib.hid ((Below.refl _ _).alloc (Nat.le_refl _) _)
  go_enter Tryz.func111, Tryz.ntmps111
  go_wp2
  go_ret
  exact isI_of rfl HB.out
def longE (k m : Nat) : Bool := decide (400 < k ∨ 1000 < m)
theorem longE_no {k m : Nat} (h : longE k m = false) : k ≤ 400 ∧ m ≤ 1000 := by have := of_decide_eq_false h; omega
theorem isB_of {a b : Bool} {w w' : World} (h : a = b) (hb : Below w.heap.size w w') : IsB b w (.returned (.bool a)) w' := ⟨by rw [h], hb⟩
end Go.Proofs.YtkdpfjenjcpcfaaGreatDoor
namespace Go.Proofs.YtkdpfjenjcpcfaaGreatDoor
open Go.RowKit Mem
set_option maxRecDepth 10000
set_option maxHeartbeats 2000000
theorem equal_any (B B' c c' n n' : Nat) (A A' : Option Addr) (xs ys : List UInt8) (w : World) (h : Row w B A (xs.map byteV)) (h' : Row w B' A' (ys.map byteV)) (hn : n = xs.length) (hn' : n' = ys.length) :
    Calls Tryz.prog 166 #[.slice A n c, .slice A' n' c'] w fun e w' => e = .returned (.bool (xs == ys)) ∧ w = w' := by
  subst hn; subst hn'
  have h1 := conv_row (P := Tryz.prog) c 27 9 5 Tryz.underlying27 Tryz.underlying5 Tryz.underlying9 h
  have h2 := conv_row (P := Tryz.prog) c' 27 9 5 Tryz.underlying27 Tryz.underlying5 Tryz.underlying9 h'
  clear h h'
  go_enter Tryz.func166, Tryz.ntmps166
  go_wp2
  go_ret
  exact ⟨rfl, rfl⟩
theorem equal_val (b : Bool) {B B' c c' n n' : Nat} {A A' : Option Addr} {xs ys : List UInt8} {w : World} (hb : Hid ((xs == ys) = b)) (h : Row w B A (xs.map byteV)) (h' : Row w B' A' (ys.map byteV)) (hn : n = xs.length) (hn' : n' = ys.length) :
    Calls Tryz.prog 166 #[.slice A n c, .slice A' n' c'] w fun e w' => e = .returned (.bool b) ∧ w = w' := by
  have := equal_any B B' c c' n n' A A' xs ys w h h' hn hn'
  rw [hb.out] at this; exact this
/-- A value: whether there is one, its bytes, where they are and with how much room. -/
structure ValOk (w : World) (has : Bool) (A : Option Addr) (xs : List UInt8) (c : Nat) : Prop where
  row : Row w w.heap.size A (xs.map byteV)
  len : (xs.length : Int) ≤ 1073741824
  cap : xs.length ≤ c
theorem ValOk.below {w w' : World} {has : Bool} {A : Option Addr} {xs : List UInt8} {c : Nat} (h : ValOk w has A xs c) (hb : Below w.heap.size w w') : ValOk w' has A xs c :=
  ⟨(h.row.below hb).more hb.size, h.len, h.cap⟩
def sameV (h1 h2 : Bool) (xs ys : List UInt8) : Bool := h1 == h2 && (!h1 || xs == ys)
theorem sameV_ne {h1 h2 : Bool} {xs ys : List UInt8} (h : (h1 == h2) = false) : sameV h1 h2 xs ys = false := by unfold sameV; rw [h]; rfl
theorem sameval_any (h1 h2 : Bool) (A A' : Option Addr) (xs ys : List UInt8) (c c' n n' : Nat) (hn : n = xs.length) (hn' : n' = ys.length) (w : World) (h : ValOk w h1 A xs c) (h' : ValOk w h2 A' ys c') :
    Calls Tryz.prog 140 #[valV h1 A n c, valV h2 A' n' c'] w (IsB (sameV h1 h2 xs ys) w) := by
  subst hn; subst hn'
  have HB : Hid (Below w.heap.size w ((w.alloc (.cells #[.bool h1, .slice A xs.length c] 44)).alloc (.cells #[.bool h2, .slice A' ys.length c'] 44))) := Lib.hid (((Below.refl _ _).alloc (Nat.le_refl _) _).alloc (by simp) _)
  have HR := Lib.hid (h.row.below HB.out)
  have HR' := Lib.hid (h'.row.below HB.out)
  clear h h'
  cases h1 <;> cases h2
  · go_enter Tryz.func140, Tryz.ntmps140
    go_wp2
    go_ret
    exact isB_of rfl HB.out
  · go_enter Tryz.func140, Tryz.ntmps140
    go_wp2
    go_ret
    exact isB_of rfl HB.out
  · go_enter Tryz.func140, Tryz.ntmps140
    go_wp2
    go_ret
    exact isB_of rfl HB.out
  · obtain ⟨b, hb⟩ : ∃ b, (xs == ys) = b := ⟨_, rfl⟩
    have HE := Lib.hid hb
    have HV : Hid (sameV true true xs ys = b) := Lib.hid (by rw [← hb]; rfl)
    clear hb
    cases b
    all_goals
      go_enter Tryz.func140, Tryz.ntmps140
      go_wp2_with (go_at_call 166; refine (equal_val _ HE HR.out HR'.out rfl rfl).mono ?_; rintro e w' ⟨rfl, rfl⟩)
      go_ret
      exact isB_of HV.out.symm HB.out
theorem sameV_len {xs ys : List UInt8} (h : xs.length ≠ ys.length) : sameV true true xs ys = false := by
  unfold sameV
  have : (xs == ys) = false := by simp; rintro rfl; exact h rfl
  rw [this]; rfl
theorem sameV_at {xs ys : List UInt8} (k : Nat) (h1 : k < xs.length) (h2 : k < ys.length) (h : (xs[k].toNat : Int) ≠ (ys[k].toNat : Int)) : sameV true true xs ys = false := by
  unfold sameV
  have : (xs == ys) = false := by simp; rintro rfl; exact h rfl
  rw [this]; rfl
theorem take_next {xs ys : List UInt8} {k : Nat} (h1 : k < xs.length) (h2 : k < ys.length) (ht : xs.take k = ys.take k) (h : (xs[k].toNat : Int) = (ys[k].toNat : Int)) : xs.take (k + 1) = ys.take (k + 1) := by
  rw [List.take_succ_eq_append_getElem h1, List.take_succ_eq_append_getElem h2, ht]
  have : xs[k] = ys[k] := UInt8.toNat_inj.1 (by omega)
  rw [this]
theorem refsameval_any (h1 h2 : Bool) (A A' : Option Addr) (xs ys : List UInt8) (c c' n n' : Nat) (hn : n = xs.length) (hn' : n' = ys.length) (w : World) (h : ValOk w h1 A xs c) (h' : ValOk w h2 A' ys c') :
    Calls Tryz.prog 43 #[valV h1 A n c, valV h2 A' n' c'] w (IsB (sameV h1 h2 xs ys) w) := by
  have hl := h.len
  have hl' := h'.len
  have HB : Hid (Below w.heap.size w ((w.alloc (.cells #[.bool h1, .slice A n c] 44)).alloc (.cells #[.bool h2, .slice A' n' c'] 44))) := Lib.hid (((Below.refl _ _).alloc (Nat.le_refl _) _).alloc (by simp) _)
  have HR := Lib.hid (h.row.below HB.out)
  have HR' := Lib.hid (h'.row.below HB.out)
  clear h h'
  have hnl : (n : Int) ≤ 1073741824 := by omega
  have HN := Lib.hid hn
  have HN' := Lib.hid hn'
  clear hn hn' hl hl'
  cases h1 <;> cases h2
  · go_enter Tryz.func43, Tryz.ntmps43
    go_wp2
    go_ret
    exact isB_of rfl HB.out
  · go_enter Tryz.func43, Tryz.ntmps43
    go_wp2
    go_ret
    exact isB_of rfl HB.out
  · go_enter Tryz.func43, Tryz.ntmps43
    go_wp2
    go_ret
    exact isB_of rfl HB.out
  · by_cases hlen : n = n'
    · subst hlen
      go_enter Tryz.func43, Tryz.ntmps43
      go_wp2
      go_loopw [5] (fun i wr => ∃ k : Nat, k ≤ n ∧ i = .int .i64 k ∧ Hid (xs.take k = ys.take k) ∧ Hid (∃ q, wr = ((w.alloc (.cells #[.bool true, .slice A n c] 44)).alloc (.cells #[.bool true, .slice A' n c'] 44)).drewN q)) (fun i _ => n - (intOf i).toNat)
      case atStart => exact ⟨0, by omega, rfl, Lib.hid (by simp), Lib.hid ⟨0, rfl⟩⟩
      case round =>
        obtain ⟨k, hk, rfl, HT, HQ⟩ := hrel
        have HW : Hid (Below w.heap.size w wr) := Lib.hid (by obtain ⟨q, rfl⟩ := HQ.out; exact HB.out.trans ⟨rfl, rfl, rfl, Nat.le_refl _, fun _ _ => rfl⟩)
        have c0 : wr.cell? ⟨w.heap.size, 1, none⟩ = some (.slice A n c) := by obtain ⟨q, rfl⟩ := HQ.out; go_simp
        have c1 : wr.cell? ⟨w.heap.size + 1, 1, none⟩ = some (.slice A' n c') := by obtain ⟨q, rfl⟩ := HQ.out; go_simp
        by_cases hlt : k < n
        · have hk1 : k < xs.length := by rw [← HN.out]; exact hlt
          have hk2 : k < ys.length := by rw [← HN'.out]; exact hlt
          have hrx : Row wr w.heap.size A (xs.map byteV) := by obtain ⟨q, rfl⟩ := HQ.out; exact HR.out.drewN q
          have hry : Row wr w.heap.size A' (ys.map byteV) := by obtain ⟨q, rfl⟩ := HQ.out; exact HR'.out.drewN q
          obtain ⟨b, o, rfl, _, hc⟩ := hrx.open_ (by simp; omega)
          obtain ⟨b', o', rfl, _, hc'⟩ := hry.open_ (by simp; omega)
          have hcell : wr.cell? ⟨b, o + k, none⟩ = some (.int .u8 (xs[k].toNat : Int)) := (hc k (by simpa using hk1)).trans (congrArg some (by rw [List.getElem_map]; rfl))
          have hcell' : wr.cell? ⟨b', o' + k, none⟩ = some (.int .u8 (ys[k].toNat : Int)) := (hc' k (by simpa using hk2)).trans (congrArg some (by rw [List.getElem_map]; rfl))
          have hki : (0 : Int) ≤ (k : Int) := by omega
          have hki2 : (k : Int) < (n : Int) := by omega
          clear hc hc' hrx hry
          obtain ⟨p, hp⟩ : ∃ p : Int, (xs[k].toNat : Int) = p := ⟨_, rfl⟩
          obtain ⟨q, hq⟩ : ∃ q : Int, (ys[k].toNat : Int) = q := ⟨_, rfl⟩
          rw [hp] at hcell
          rw [hq] at hcell'
          have HP := Lib.hid hp
          have HQ2 := Lib.hid hq
          clear hp hq
          by_cases heq : p = q
          · subst heq
            have HT2 : Hid (xs.take (k + 1) = ys.take (k + 1)) := Lib.hid (take_next hk1 hk2 HT.out (by rw [HP.out, HQ2.out]))
            have hb : (p != p) = false := by simp
            go_wp2
            go_quiet (fail)
            go_wp2
            go_roundw
            case rel => exact ⟨k + 1, by omega, by go_num, HT2, Lib.hid (by obtain ⟨q, rfl⟩ := HQ.out; exact ⟨_, by rw [World.drewN_drewN]⟩)⟩
            case measure => simp [intOf]; omega
          · have hb : (p != q) = true := by simpa using heq
            have HV : Hid (sameV true true xs ys = false) := Lib.hid (sameV_at k hk1 hk2 (by rw [HP.out, HQ2.out]; exact heq))
            clear heq
            go_wp2
            go_quiet (fail)
            go_wp2
            go_ret
            exact isB_of HV.out.symm (HW.out.trans ⟨rfl, rfl, rfl, Nat.le_refl _, fun _ _ => rfl⟩)
        · obtain rfl : k = n := by omega
          have HV : Hid (sameV true true xs ys = true) := Lib.hid (by
            have := HT.out
            rw [List.take_of_length_le (by rw [← HN.out]; omega), List.take_of_length_le (by rw [← HN'.out]; omega)] at this
            rw [this]; simp [sameV])
          go_wp2
          go_ret
          exact isB_of HV.out.symm HW.out
    · have HV : Hid (sameV true true xs ys = false) := Lib.hid (sameV_len (by rw [← HN.out, ← HN'.out]; exact hlen))
      have hb : (n != n') = true := by simpa using hlen
      have hb' : ((n : Int) != (n' : Int)) = true := by simp; omega
      clear hlen
      go_enter Tryz.func43, Tryz.ntmps43
      go_wp2
      go_ret
      exact isB_of HV.out.symm HB.out
end Go.Proofs.YtkdpfjenjcpcfaaGreatDoor
namespace Go.Proofs.YtkdpfjenjcpcfaaGreatDoor
open Go.RowKit Mem
set_option maxRecDepth 10000
set_option maxHeartbeats 2000000
def sameE (k1 k2 : ByteArray) (s u o s' u' o' : Int) (h1 h2 : Bool) (xs ys : List UInt8) : Bool := decide (k1 = k2) && (eqT s u o s' u' o' && sameV h1 h2 xs ys)
theorem list_ne {a b : ByteArray} (h : a ≠ b) : (a.toList == b.toList) = false := by
  rw [beq_eq_false_iff_ne]
  intro e
  rw [ByteArray.toList_eq, ByteArray.toList_eq] at e
  apply h
  obtain ⟨⟨x⟩⟩ := a
  obtain ⟨⟨y⟩⟩ := b
  simp at e
  rw [e]
theorem same_ent (k1 k2 : ByteArray) (s u o s' u' o' : Int) (h1 h2 : Bool) (A A' : Option Addr) (xs ys : List UInt8) (c c' n n' : Nat) (hn : n = xs.length) (hn' : n' = ys.length) (w : World) (h : ValOk w h1 A xs c) (h' : ValOk w h2 A' ys c') :
    Calls Tryz.prog 110 #[entV k1 s u o h1 A n c, entV k2 s' u' o' h2 A' n' c'] w (IsB (sameE k1 k2 s u o s' u' o' h1 h2 xs ys) w) := by
  have HB : Hid (Below w.heap.size w ((w.alloc (entO k1 s u o h1 A n c)).alloc (entO k2 s' u' o' h2 A' n' c'))) := Lib.hid (((Below.refl _ _).alloc (Nat.le_refl _) _).alloc (by simp) _)
  have HR := Lib.hid (h.below HB.out)
  have HR' := Lib.hid (h'.below HB.out)
  have HN := Lib.hid hn
  have HN' := Lib.hid hn'
  clear h h' hn hn'
  by_cases hk : k1 = k2
  · subst hk
    have HV1 : Hid (sameE k1 k1 s u o s' u' o' h1 h2 xs ys = (eqT s u o s' u' o' && sameV h1 h2 xs ys)) := Lib.hid (by unfold sameE; simp)
    have hq := run_eqT s u o s' u' o'
    cases he : eqT s u o s' u' o'
    · rw [he] at hq
      have HV : Hid (sameE k1 k1 s u o s' u' o' h1 h2 xs ys = false) := Lib.hid (by rw [HV1.out, he]; rfl)
      clear he
      go_enter Tryz.func110, Tryz.ntmps110
      go_wp2
      go_ret
      exact isB_of HV.out.symm HB.out
    · rw [he] at hq
      have HV : Hid (sameE k1 k1 s u o s' u' o' h1 h2 xs ys = sameV h1 h2 xs ys) := Lib.hid (by rw [HV1.out, he]; rfl)
      clear he
      go_enter Tryz.func110, Tryz.ntmps110
      go_wp2_with (go_at_call 140; refine (sameval_any _ _ _ _ xs ys _ _ _ _ HN.out HN'.out _ HR.out HR'.out).mono ?_; rintro e w2 ⟨rfl, hb⟩; have HB2 := Lib.hid (HB.out.trans (hb.mono HB.out.size)); clear hb)
      go_ret
      exact isB_of HV.out.symm HB2.out
  · have hb2 : (k1.toList == k2.toList) = false := list_ne hk
    have HV : Hid (sameE k1 k2 s u o s' u' o' h1 h2 xs ys = false) := Lib.hid (by unfold sameE; rw [decide_eq_false hk]; rfl)
    clear hk
    go_enter Tryz.func110, Tryz.ntmps110
    go_wp2
    go_ret
    exact isB_of HV.out.symm HB.out
theorem refsame_ent (k1 k2 : ByteArray) (s u o s' u' o' : Int) (h1 h2 : Bool) (A A' : Option Addr) (xs ys : List UInt8) (c c' n n' : Nat) (hn : n = xs.length) (hn' : n' = ys.length) (w : World) (h : ValOk w h1 A xs c) (h' : ValOk w h2 A' ys c') :
    Calls Tryz.prog 16 #[entV k1 s u o h1 A n c, entV k2 s' u' o' h2 A' n' c'] w (IsB (sameE k1 k2 s u o s' u' o' h1 h2 xs ys) w) := by
  have HB : Hid (Below w.heap.size w ((w.alloc (entO k1 s u o h1 A n c)).alloc (entO k2 s' u' o' h2 A' n' c'))) := Lib.hid (((Below.refl _ _).alloc (Nat.le_refl _) _).alloc (by simp) _)
  have HR := Lib.hid (h.below HB.out)
  have HR' := Lib.hid (h'.below HB.out)
  have HN := Lib.hid hn
  have HN' := Lib.hid hn'
  clear h h' hn hn'
  by_cases hk : k1 = k2
  · subst hk
    have HV1 : Hid (sameE k1 k1 s u o s' u' o' h1 h2 xs ys = (eqT s u o s' u' o' && sameV h1 h2 xs ys)) := Lib.hid (by unfold sameE; simp)
    have hq := run_eqT s u o s' u' o'
    cases he : eqT s u o s' u' o'
    · rw [he] at hq
      have HV : Hid (sameE k1 k1 s u o s' u' o' h1 h2 xs ys = false) := Lib.hid (by rw [HV1.out, he]; rfl)
      clear he
      go_enter Tryz.func16, Tryz.ntmps16
      go_wp2
      go_ret
      exact isB_of HV.out.symm HB.out
    · rw [he] at hq
      have HV : Hid (sameE k1 k1 s u o s' u' o' h1 h2 xs ys = sameV h1 h2 xs ys) := Lib.hid (by rw [HV1.out, he]; rfl)
      clear he
      go_enter Tryz.func16, Tryz.ntmps16
      go_wp2_with (go_at_call 43; refine (refsameval_any _ _ _ _ xs ys _ _ _ _ HN.out HN'.out _ HR.out HR'.out).mono ?_; rintro e w2 ⟨rfl, hb⟩; have HB2 := Lib.hid (HB.out.trans (hb.mono HB.out.size)); clear hb)
      go_ret
      exact isB_of HV.out.symm HB2.out
  · have hb2 : (k1.toList == k2.toList) = false := list_ne hk
    have HV : Hid (sameE k1 k2 s u o s' u' o' h1 h2 xs ys = false) := Lib.hid (by unfold sameE; rw [decide_eq_false hk]; rfl)
    clear hk
    go_enter Tryz.func16, Tryz.ntmps16
    go_wp2
    go_ret
    exact isB_of HV.out.symm HB.out
end Go.Proofs.YtkdpfjenjcpcfaaGreatDoor
namespace Go.Proofs.YtkdpfjenjcpcfaaGreatDoor
open Go.RowKit Mem
set_option maxRecDepth 10000
set_option maxHeartbeats 2000000
theorem own_base {w : World} {B B' : Nat} {e : TypeId} {v : Value} {n : Nat} {xs : List Value} (h : w.ownsRow B e 1 v n xs) (hB : B' ≤ B) : w.ownsRow B' e 1 v n xs := by
  obtain ⟨h1, h2⟩ := h
  refine ⟨h1, ?_⟩
  rcases h2 with h2 | ⟨g, cap, cur, hv, hg, r⟩
  · exact Or.inl h2
  · exact Or.inr ⟨g, cap, cur, hv, by omega, r⟩
theorem own_put {w : World} {B g : Nat} {e : TypeId} {v : Value} {n : Nat} {xs : List Value} (h : w.ownsRow B e 1 v n xs) (hg : g < B) (i : Nat) (u : Value) : (w.setCell ⟨g, i, none⟩ u).ownsRow B e 1 v n xs :=
  ownsRow_setCell_below h (a := ⟨g, i, none⟩) hg u
/-- An entry whose bytes are in new memory. -/
def MadeE (B : Nat) (key : ByteArray) (s u o : Int) (has : Bool) (xs : List UInt8) (w : World) (e : Ending) (w' : World) : Prop :=
  ∃ A c, e = .returned (entV key s u o has A xs.length c) ∧ w'.ownsRow B 5 1 (.slice A xs.length c) xs.length (xs.map byteV) ∧ Below B w w'
theorem copyE_any (key : ByteArray) (s u o : Int) (has : Bool) (A : Option Addr) (xs : List UInt8) (n c : Nat) (hn : n = xs.length) (w : World) (h : ValOk w has A xs c) :
    Calls Tryz.prog 72 #[entV key s u o has A n c] w (MadeE w.heap.size key s u o has xs w) := by
  have hb0 : Below w.heap.size w ((w.alloc (entO key s u o has A n c)).alloc (.cells #[.string .empty, .int .i64 0, .int .i64 0, .int .i64 0, .bool false, .slice none 0 0] 46)) := ((Below.refl _ _).alloc (Nat.le_refl _) _).alloc (by simp) _
  have HR := Lib.hid (h.row.below hb0)
  have HL : Hid (xs.length ≤ 140737488355328) := Lib.hid (by have := h.len; omega)
  have HN := Lib.hid hn
  clear h hb0 hn
  go_enter Tryz.func72, Tryz.ntmps72
  go_wp2_with (go_at_call 71; refine (clone_any w.heap.size c A xs n HN.out _ HR.out (by simp; omega) HL.out).mono ?_; rintro e w2 ⟨A2, c2, rfl, ho, hb⟩; obtain ⟨hc, hf⟩ := bcell hb; have HO := Lib.hid ho; have HB2 := Lib.hid hb; (have hk1 := (((Blk.new w 46 #[.string key, .int .i64 s, .int .i64 u, .int .i64 o, .bool has, .slice A n c]).alloc (.cells #[.string .empty, .int .i64 0, .int .i64 0, .int .i64 0, .bool false, .slice none 0 0] 46)).below hb (by simp; omega))); (have c5 : w2.cell? ⟨w.heap.size, 5, none⟩ = some (.slice A n c) := hk1.cell 5); clear ho hb hk1)
  refine bodyPost_ret (v := entV key s u o has A2 xs.length c2) (by simp [results, Tryz.results72, go_sem, hc]) rfl ⟨A2, c2, rfl, ?_, ?_⟩
  · have h1 := own_put HO.out (g := w.heap.size) (by simp; omega)
    refine own_base (B := w.heap.size + 2) ?_ (by omega)
    have h0 : (w.heap.size + 2) = ((w.alloc (entO key s u o has A n c)).alloc (.cells #[.string .empty, .int .i64 0, .int .i64 0, .int .i64 0, .bool false, .slice none 0 0] 46)).heap.size := by simp
    have HO2 := HO.out
    rw [← h0] at HO2
    exact own_put (own_put (own_put (own_put (own_put (own_put (own_put HO2 (by omega) _ _) (by omega) _ _) (by omega) _ _) (by omega) _ _) (by omega) _ _) (by omega) _ _) (by omega) _ _
  · exact below_set (below_set (below_set (below_set (below_set (below_set (below_set (below_after2 HB2.out) (by omega) _ _) (by omega) _ _) (by omega) _ _) (by omega) _ _) (by omega) _ _) (by omega) _ _) (by omega) _ _
end Go.Proofs.YtkdpfjenjcpcfaaGreatDoor
namespace Go.Proofs.YtkdpfjenjcpcfaaGreatDoor
open Go.RowKit Mem
set_option maxRecDepth 10000
set_option maxHeartbeats 2000000
theorem cmpT_range (a b c x y z : Int) : cmpT a b c x y z = -1 ∨ cmpT a b c x y z = 0 ∨ cmpT a b c x y z = 1 := by
  unfold cmpT
  rcases cmpI_cases a x with ⟨_, h⟩ | ⟨_, h⟩ | ⟨_, h⟩ <;> rcases cmpI_cases b y with ⟨_, h'⟩ | ⟨_, h'⟩ | ⟨_, h'⟩ <;> rcases cmpI_cases c z with ⟨_, h''⟩ | ⟨_, h''⟩ | ⟨_, h''⟩ <;> rw [h, h', h''] <;> simp
theorem compare_val (a b c x y z n : Int) (h : Hid (cmpT a b c x y z = n)) (w : World) : Calls Tryz.prog 114 #[tagV a b c, tagV x y z] w (IsI n w) := by
  have := compare_any a b c x y z w
  rw [h.out] at this; exact this
theorem refcompare_val (a b c x y z n : Int) (h : Hid (cmpT a b c x y z = n)) (w : World) : Calls Tryz.prog 22 #[tagV a b c, tagV x y z] w (IsI n w) := by
  have := refcompare_any a b c x y z w
  rw [h.out] at this; exact this
abbrev ent0 : Obj := .cells #[.string .empty, .int .i64 0, .int .i64 0, .int .i64 0, .bool false, .slice none 0 0] 46
theorem newer_res {w w1 w2 : World} {key : ByteArray} {s u o : Int} {has : Bool} {xs : List UInt8} {A : Option Addr} {c g : Nat} {v0 v1 v2 v3 v4 v5 : Value}
    (hb : Below w.heap.size w w1) (ho : w2.ownsRow w1.heap.size 5 1 (.slice A xs.length c) xs.length (xs.map byteV)) (hb2 : Below w1.heap.size w1 w2) (hg : w.heap.size ≤ g) (hg1 : g < w1.heap.size) :
    MadeE w.heap.size key s u o has xs w (.returned (entV key s u o has A xs.length c)) ((((((w2.setCell ⟨g, 0, none⟩ v0).setCell ⟨g, 1, none⟩ v1).setCell ⟨g, 2, none⟩ v2).setCell ⟨g, 3, none⟩ v3).setCell ⟨g, 4, none⟩ v4).setCell ⟨g, 5, none⟩ v5) :=
  ⟨A, c, rfl, own_base (own_put (own_put (own_put (own_put (own_put (own_put ho hg1 _ _) hg1 _ _) hg1 _ _) hg1 _ _) hg1 _ _) hg1 _ _) hb.size,
    below_set (below_set (below_set (below_set (below_set (below_set (hb.trans (hb2.mono hb.size)) hg _ _) hg _ _) hg _ _) hg _ _) hg _ _) hg _ _⟩
theorem newer_lt (key key2 : ByteArray) (s u o s2 u2 o2 : Int) (has has2 : Bool) (A A2 : Option Addr) (xs ys : List UInt8) (n c n2 c2 : Nat) (hn : n = xs.length) (hn2 : n2 = ys.length) (w : World) (h : ValOk w has A xs c) (h2 : ValOk w has2 A2 ys c2) (hc : cmpT s u o s2 u2 o2 = -1) :
    Calls Tryz.prog 155 #[entV key s u o has A n c, entV key2 s2 u2 o2 has2 A2 n2 c2] w (MadeE w.heap.size key2 s2 u2 o2 has2 ys w) := by
  have HV := Lib.hid h
  have HV2 := Lib.hid h2
  have HN := Lib.hid hn
  have HN2 := Lib.hid hn2
  clear h h2 hn hn2
  · have HC := Lib.hid hc
    clear hc
    go_enter Tryz.func155, Tryz.ntmps155
    go_wp2_with fail
    refine (compare_val _ _ _ _ _ _ _ (by assumption) _).mono ?_
    rintro e w1 ⟨rfl, hb⟩
    obtain ⟨hc, hf⟩ := bcell hb
    have HB1 := Lib.hid (below_after3 hb)
    have HZ : w.heap.size + 2 < w1.heap.size := by have := hb.size; simp at this; omega
    clear hb
    go_wp2_with fail
    refine (copyE_any key2 s2 u2 o2 has2 A2 ys n2 c2 HN2.out _ (HV2.out.below HB1.out)).mono ?_
    rintro e w2 ⟨A3, c3, rfl, ho, hb⟩
    obtain ⟨hc2, hf2⟩ := bcell hb
    have HO := Lib.hid ho
    have HB2 := Lib.hid hb
    clear ho hb
    go_wp2
    exact bodyPost_ret (v := entV key2 s2 u2 o2 has2 A3 ys.length c3) (by simp [results, Tryz.results155, go_sem, hc, hc2, HZ]) rfl (newer_res HB1.out HO.out HB2.out (by omega) HZ)
theorem newer_ge (key key2 : ByteArray) (s u o s2 u2 o2 : Int) (has has2 : Bool) (A A2 : Option Addr) (xs ys : List UInt8) (n c n2 c2 : Nat) (hn : n = xs.length) (hn2 : n2 = ys.length) (w : World) (h : ValOk w has A xs c) (h2 : ValOk w has2 A2 ys c2) (hc : cmpT s u o s2 u2 o2 ≠ -1) :
    Calls Tryz.prog 155 #[entV key s u o has A n c, entV key2 s2 u2 o2 has2 A2 n2 c2] w (MadeE w.heap.size key s u o has xs w) := by
  have HV := Lib.hid h
  have HV2 := Lib.hid h2
  have HN := Lib.hid hn
  have HN2 := Lib.hid hn2
  clear h h2 hn hn2
  rcases cmpT_range s u o s2 u2 o2 with hq | hq | hq
  · exact absurd hq hc
  · have HC := Lib.hid hq
    clear hq hc
    go_enter Tryz.func155, Tryz.ntmps155
    go_wp2_with fail
    refine (compare_val _ _ _ _ _ _ _ (by assumption) _).mono ?_
    rintro e w1 ⟨rfl, hb⟩
    obtain ⟨hc, hf⟩ := bcell hb
    have HB1 := Lib.hid (below_after3 hb)
    have HZ : w.heap.size + 2 < w1.heap.size := by have := hb.size; simp at this; omega
    clear hb
    go_wp2_with fail
    refine (copyE_any key s u o has A xs n c HN.out _ (HV.out.below HB1.out)).mono ?_
    rintro e w2 ⟨A3, c3, rfl, ho, hb⟩
    obtain ⟨hc2, hf2⟩ := bcell hb
    have HO := Lib.hid ho
    have HB2 := Lib.hid hb
    clear ho hb
    go_wp2
    exact bodyPost_ret (v := entV key s u o has A3 xs.length c3) (by simp [results, Tryz.results155, go_sem, hc, hc2, HZ]) rfl (newer_res HB1.out HO.out HB2.out (by omega) HZ)
  · have HC := Lib.hid hq
    clear hq hc
    go_enter Tryz.func155, Tryz.ntmps155
    go_wp2_with fail
    refine (compare_val _ _ _ _ _ _ _ (by assumption) _).mono ?_
    rintro e w1 ⟨rfl, hb⟩
    obtain ⟨hc, hf⟩ := bcell hb
    have HB1 := Lib.hid (below_after3 hb)
    have HZ : w.heap.size + 2 < w1.heap.size := by have := hb.size; simp at this; omega
    clear hb
    go_wp2_with fail
    refine (copyE_any key s u o has A xs n c HN.out _ (HV.out.below HB1.out)).mono ?_
    rintro e w2 ⟨A3, c3, rfl, ho, hb⟩
    obtain ⟨hc2, hf2⟩ := bcell hb
    have HO := Lib.hid ho
    have HB2 := Lib.hid hb
    clear ho hb
    go_wp2
    exact bodyPost_ret (v := entV key s u o has A3 xs.length c3) (by simp [results, Tryz.results155, go_sem, hc, hc2, HZ]) rfl (newer_res HB1.out HO.out HB2.out (by omega) HZ)
end Go.Proofs.YtkdpfjenjcpcfaaGreatDoor
namespace Go.Proofs.YtkdpfjenjcpcfaaGreatDoor
open Go.RowKit Mem Be
set_option maxRecDepth 10000
set_option maxHeartbeats 4000000
def tagB (s u o : Int) : List UInt8 := numB s ++ (numB u ++ numB o)
theorem tagB_le (s u o : Int) : (tagB s u o).length ≤ 27 := by
  have := numB_le s; have := numB_le u; have := numB_le o
  unfold tagB; rw [List.length_append, List.length_append]; omega
def entB (k : List UInt8) (s u o : Int) (has : Bool) (xs : List UInt8) : List UInt8 := rowB k ++ (tagB s u o ++ (truthB has ++ (if has = true then rowB xs else [])))
theorem entB_le (k : List UInt8) (s u o : Int) (has : Bool) (xs : List UInt8) : (entB k s u o has xs).length ≤ k.length + xs.length + 46 := by
  have h1 := numB_le (k.length : Int); have h2 := numB_le (xs.length : Int); have h3 := tagB_le s u o
  unfold entB rowB truthB
  cases has <;> simp only [List.length_append, List.length_cons, List.length_nil, if_true, Bool.false_eq_true, if_false] <;> omega
def bytesE (k : List UInt8) (s u o : Int) (has : Bool) (xs : List UInt8) : List UInt8 × Int := if rightE k.length xs.length s u o has = 0 then (entB k s u o has xs, 0) else ([], 2)
theorem concat_to (bs : List UInt8) (B n c : Nat) (A : Option Addr) (rs : List RowV) (hn : n = rs.length) (w : World) (h : Row w B A (rs.map rowV)) (hB : B ≤ w.heap.size) (hx : Rows_ w rs) (hc : catB rs = bs) (hl : bs.length ≤ 1073741824) (hn2 : n ≤ 1000000) :
    Calls Tryz.prog 56 #[.slice A n c] w (Made w.heap.size bs w) := by
  subst hc
  exact concat_any B n c A rs hn w h hB hx hl hn2
theorem bytes_err (key : ByteArray) (s u o : Int) (has : Bool) (A : Option Addr) (m c : Nat) (hm : (m : Int) ≤ 1073741824) (hsz : (key.size : Int) ≤ 1073741824) (hr : rightE key.size m s u o has = 2) (w : World) :
    Calls Tryz.prog 121 #[entV key s u o has A m c] w (Made2 w.heap.size [] 2 w) := by
  have HR : Hid (∀ W, Calls Tryz.prog 107 #[entV key s u o has A m c] W (IsI 2 W)) := Lib.hid fun W => by
    rw [← hr]; exact right_any key s u o has A m c hm hsz W
  clear hr
  go_enter Tryz.func121, Tryz.ntmps121
  go_wp2_with fail
  refine (HR.out _).mono ?_
  rintro e w1 ⟨rfl, hb⟩
  have HB := Lib.hid (below_after1 hb)
  clear hb
  go_wp2
  go_ret2
  exact ⟨none, 0, rfl, World.ownsRow_nil _ _ _ _, HB.out⟩
theorem bytes_yes (key : ByteArray) (s u o : Int) (A : Option Addr) (xs : List UInt8) (n c : Nat) (hn : n = xs.length) (hr : rightE key.size n s u o true = 0) (w : World) (h : ValOk w true A xs c) :
    Calls Tryz.prog 121 #[entV key s u o true A n c] w (Made2 w.heap.size (entB (kb key) s u o true xs) 0 w) := by
  have hyes := rightE_yes hr
  have HK : Hid (key.size ≤ 250) := Lib.hid hyes.2.1
  have HX : Hid (xs.length ≤ 60000) := Lib.hid (by omega)
  have HR : Hid (∀ W, Calls Tryz.prog 107 #[entV key s u o true A n c] W (IsI 0 W)) := Lib.hid fun W => by
    rw [← hr]; exact right_any key s u o true A n c (by omega) (by omega) W
  have HV := Lib.hid h
  have HN := Lib.hid hn
  clear hr h hn hyes
  have hblk := Blk.new w 46 #[.string key, .int .i64 s, .int .i64 u, .int .i64 o, .bool true, .slice A n c]
  have HBK := Lib.hid hblk
  clear hblk
  go_enter Tryz.func121, Tryz.ntmps121
  go_wp2_with fail
  refine (HR.out _).mono ?_
  rintro e w1 ⟨rfl, hb⟩
  have HB1 := Lib.hid (below_after1 hb)
  have HK1 := Lib.hid (HBK.out.below hb (by simp))
  have k0 : w1.cell? ⟨w.heap.size, 0, none⟩ = some (.string key) := HK1.out.cell 0
  clear hb
  go_wp2_with (with_reducible refine wpList_conv _ rfl _ _ _ _ rfl key rfl Tryz.underlying9 Tryz.underlying27 Tryz.underlying5 ?_)
  intro A1 c1 w2 hrow hb _
  have HB2 : Hid (Below w.heap.size w w2) := Lib.hid (HB1.out.trans (hb.mono HB1.out.size))
  have HK2 := Lib.hid (HK1.out.below hb HK1.out.lt)
  have HRO := Lib.hid hrow
  clear k0 hrow hb
  go_wp2_with fail
  refine (row_any _ c1 _ A1 (kb key) (kb_len key).symm _ HRO.out (Nat.le_refl _) (by rw [kb_len]; have := HK.out; omega)).mono ?_
  rintro e w3 ⟨A3, c3, rfl, ho, hb⟩
  have HB3 : Hid (Below w.heap.size w w3) := Lib.hid (HB2.out.trans (hb.mono HB2.out.size))
  have HK3 := Lib.hid (HK2.out.below hb HK2.out.lt)
  have HS1 := Lib.hid (rows_add (rows_nil w2) hb ho)
  have s1 : w3.cell? ⟨w.heap.size, 1, none⟩ = some (.int .i64 s) := HK3.out.cell 1
  have s2 : w3.cell? ⟨w.heap.size, 2, none⟩ = some (.int .i64 u) := HK3.out.cell 2
  have s3 : w3.cell? ⟨w.heap.size, 3, none⟩ = some (.int .i64 o) := HK3.out.cell 3
  clear ho hb
  go_wp2_with fail
  have HA : Hid (Below w3.heap.size w3 w3.drew) := Lib.hid (Below.refl _ _).drew
  have HS2 : Hid (Rows_ w3.drew []) := Lib.hid (rows_nil _)
  have hlt : w.heap.size < w3.heap.size := HK3.out.lt
  go_region_held3 (fun w' => w'.cell? ⟨w.heap.size, 1, none⟩ = some (.int .i64 s) ∧ w'.cell? ⟨w.heap.size, 2, none⟩ = some (.int .i64 u) ∧ w'.cell? ⟨w.heap.size, 3, none⟩ = some (.int .i64 o))
    (first | go_keep | exact ⟨(HA.out.cell (p := ⟨w.heap.size, 1, none⟩) hlt).trans s1, (HA.out.cell (p := ⟨w.heap.size, 2, none⟩) hlt).trans s2, (HA.out.cell (p := ⟨w.heap.size, 3, none⟩) hlt).trans s3⟩)
    (first
      | (go_at_call 149; refine (num_any _ _).mono ?_; rintro e w4 ⟨A4, c4, rfl, ho, hb⟩; have HS2 := Lib.hid (rows_add HS2.out hb ho); have HA := Lib.hid (HA.out.trans (hb.mono HA.out.size)); clear ho hb)
      | (go_at_call 56; refine (concat_to (tagB s u o) _ _ _ _ _ rfl _ (row_cells rfl) (by simp) (rows_alloc HS2.out _) (by simp [catB, tagB]) (by have := tagB_le s u o; omega) (by simp)).mono ?_; rintro e w5 ⟨A5, c5, rfl, ho, hb⟩; have HO5 := Lib.hid ho; have HA := Lib.hid (HA.out.trans (below_after1 hb |>.mono HA.out.size)); clear ho hb))
  have HA3 : Hid (Below w3.heap.size w3 w5) := HA
  have HB5 : Hid (Below w.heap.size w w5) := Lib.hid (HB3.out.trans (HA3.out.mono HB3.out.size))
  have HK5 := Lib.hid (HK3.out.below HA3.out HK3.out.lt)
  have HS5 := Lib.hid (rows_add HS1.out HA3.out HO5.out)
  clear s1 s2 s3
  have s4 : w5.cell? ⟨w.heap.size, 4, none⟩ = some (.bool true) := HK5.out.cell 4
  have s5 : w5.cell? ⟨w.heap.size, 5, none⟩ = some (.slice A n c) := HK5.out.cell 5
  go_wp2_with fail
  refine (row_any w.heap.size c n A xs HN.out _ (HV.out.row.below HB5.out) HB5.out.size (by have := HX.out; omega)).mono ?_
  rintro e w6 ⟨A6, c6, rfl, ho, hb⟩
  have HB6 : Hid (Below w.heap.size w w6) := Lib.hid (HB5.out.trans (hb.mono HB5.out.size))
  have HK6 := Lib.hid (HK5.out.below hb HK5.out.lt)
  have HS6 := Lib.hid (rows_add HS5.out hb ho)
  have q4 : w6.cell? ⟨w.heap.size, 4, none⟩ = some (.bool true) := HK6.out.cell 4
  clear ho hb s4 s5
  go_wp2_with fail
  refine (puttruth_any true _).mono ?_
  rintro e w7 ⟨A7, c7, rfl, ho, hb⟩
  have HB7 : Hid (Below w.heap.size w w7) := Lib.hid (HB6.out.trans (hb.mono HB6.out.size))
  have HS7 := Lib.hid (rows_add HS6.out hb ho)
  clear ho hb
  go_wp2_with fail
  refine (concat_to (entB (kb key) s u o true xs) _ _ _ _ [(A3, rowB (kb key), c3), (A5, tagB s u o, c5), (A7, truthB true, c7), (A6, rowB xs, c6)] rfl _ (row_cells rfl) (by simp) (rows_alloc (rows_perm HS7.out (by intro r hr; simp at hr ⊢; rcases hr with h | h | h | h <;> simp [h])) _) (by simp [catB, entB]) (by have := entB_le (kb key) s u o true xs; have := HK.out; have := HX.out; have := kb_len key; omega) (by simp)).mono ?_
  rintro e w8 ⟨A8, c8, rfl, ho, hb⟩
  have HB8 : Hid (Below w.heap.size w w8) := Lib.hid (HB7.out.trans ((below_after1 hb).mono HB7.out.size))
  have HO8 := Lib.hid (own_base ho (Nat.le_trans HB7.out.size (by simp) : w.heap.size ≤ _))
  clear ho hb
  go_wp2
  go_ret2
  exact ⟨A8, c8, rfl, HO8.out, HB8.out⟩
theorem bytes_no (key : ByteArray) (s u o : Int) (A : Option Addr) (xs : List UInt8) (n c : Nat) (hn : n = xs.length) (hr : rightE key.size n s u o false = 0) (w : World) (h : ValOk w false A xs c) :
    Calls Tryz.prog 121 #[entV key s u o false A n c] w (Made2 w.heap.size (entB (kb key) s u o false xs) 0 w) := by
  have hyes := rightE_yes hr
  have HK : Hid (key.size ≤ 250) := Lib.hid hyes.2.1
  have HX : Hid (xs.length ≤ 60000) := Lib.hid (by omega)
  have HR : Hid (∀ W, Calls Tryz.prog 107 #[entV key s u o false A n c] W (IsI 0 W)) := Lib.hid fun W => by
    rw [← hr]; exact right_any key s u o false A n c (by omega) (by omega) W
  have HV := Lib.hid h
  have HN := Lib.hid hn
  clear hr h hn hyes
  have hblk := Blk.new w 46 #[.string key, .int .i64 s, .int .i64 u, .int .i64 o, .bool false, .slice A n c]
  have HBK := Lib.hid hblk
  clear hblk
  go_enter Tryz.func121, Tryz.ntmps121
  go_wp2_with fail
  refine (HR.out _).mono ?_
  rintro e w1 ⟨rfl, hb⟩
  have HB1 := Lib.hid (below_after1 hb)
  have HK1 := Lib.hid (HBK.out.below hb (by simp))
  have k0 : w1.cell? ⟨w.heap.size, 0, none⟩ = some (.string key) := HK1.out.cell 0
  clear hb
  go_wp2_with (with_reducible refine wpList_conv _ rfl _ _ _ _ rfl key rfl Tryz.underlying9 Tryz.underlying27 Tryz.underlying5 ?_)
  intro A1 c1 w2 hrow hb _
  have HB2 : Hid (Below w.heap.size w w2) := Lib.hid (HB1.out.trans (hb.mono HB1.out.size))
  have HK2 := Lib.hid (HK1.out.below hb HK1.out.lt)
  have HRO := Lib.hid hrow
  clear k0 hrow hb
  go_wp2_with fail
  refine (row_any _ c1 _ A1 (kb key) (kb_len key).symm _ HRO.out (Nat.le_refl _) (by rw [kb_len]; have := HK.out; omega)).mono ?_
  rintro e w3 ⟨A3, c3, rfl, ho, hb⟩
  have HB3 : Hid (Below w.heap.size w w3) := Lib.hid (HB2.out.trans (hb.mono HB2.out.size))
  have HK3 := Lib.hid (HK2.out.below hb HK2.out.lt)
  have HS1 := Lib.hid (rows_add (rows_nil w2) hb ho)
  have s1 : w3.cell? ⟨w.heap.size, 1, none⟩ = some (.int .i64 s) := HK3.out.cell 1
  have s2 : w3.cell? ⟨w.heap.size, 2, none⟩ = some (.int .i64 u) := HK3.out.cell 2
  have s3 : w3.cell? ⟨w.heap.size, 3, none⟩ = some (.int .i64 o) := HK3.out.cell 3
  clear ho hb
  go_wp2_with fail
  have HA : Hid (Below w3.heap.size w3 w3.drew) := Lib.hid (Below.refl _ _).drew
  have HS2 : Hid (Rows_ w3.drew []) := Lib.hid (rows_nil _)
  have hlt : w.heap.size < w3.heap.size := HK3.out.lt
  go_region_held3 (fun w' => w'.cell? ⟨w.heap.size, 1, none⟩ = some (.int .i64 s) ∧ w'.cell? ⟨w.heap.size, 2, none⟩ = some (.int .i64 u) ∧ w'.cell? ⟨w.heap.size, 3, none⟩ = some (.int .i64 o))
    (first | go_keep | exact ⟨(HA.out.cell (p := ⟨w.heap.size, 1, none⟩) hlt).trans s1, (HA.out.cell (p := ⟨w.heap.size, 2, none⟩) hlt).trans s2, (HA.out.cell (p := ⟨w.heap.size, 3, none⟩) hlt).trans s3⟩)
    (first
      | (go_at_call 149; refine (num_any _ _).mono ?_; rintro e w4 ⟨A4, c4, rfl, ho, hb⟩; have HS2 := Lib.hid (rows_add HS2.out hb ho); have HA := Lib.hid (HA.out.trans (hb.mono HA.out.size)); clear ho hb)
      | (go_at_call 56; refine (concat_to (tagB s u o) _ _ _ _ _ rfl _ (row_cells rfl) (by simp) (rows_alloc HS2.out _) (by simp [catB, tagB]) (by have := tagB_le s u o; omega) (by simp)).mono ?_; rintro e w5 ⟨A5, c5, rfl, ho, hb⟩; have HO5 := Lib.hid ho; have HA := Lib.hid (HA.out.trans (below_after1 hb |>.mono HA.out.size)); clear ho hb))
  have HA3 : Hid (Below w3.heap.size w3 w5) := HA
  have HB5 : Hid (Below w.heap.size w w5) := Lib.hid (HB3.out.trans (HA3.out.mono HB3.out.size))
  have HK5 := Lib.hid (HK3.out.below HA3.out HK3.out.lt)
  have HS5 := Lib.hid (rows_add HS1.out HA3.out HO5.out)
  clear s1 s2 s3
  have s4 : w5.cell? ⟨w.heap.size, 4, none⟩ = some (.bool false) := HK5.out.cell 4
  have HB6 := HB5
  have HS6 := Lib.hid (rows_none HS5.out)
  go_wp2_with fail
  refine (puttruth_any false _).mono ?_
  rintro e w7 ⟨A7, c7, rfl, ho, hb⟩
  have HB7 : Hid (Below w.heap.size w w7) := Lib.hid (HB6.out.trans (hb.mono HB6.out.size))
  have HS7 := Lib.hid (rows_add HS6.out hb ho)
  clear ho hb
  go_wp2_with fail
  refine (concat_to (entB (kb key) s u o false xs) _ _ _ _ [(A3, rowB (kb key), c3), (A5, tagB s u o, c5), (A7, truthB false, c7), (none, [], 0)] rfl _ (row_cells rfl) (by simp) (rows_alloc (rows_perm HS7.out (by intro r hr; simp at hr ⊢; rcases hr with h | h | h | h <;> simp [h])) _) (by simp [catB, entB]) (by have := entB_le (kb key) s u o false xs; have := HK.out; have := HX.out; have := kb_len key; omega) (by simp)).mono ?_
  rintro e w8 ⟨A8, c8, rfl, ho, hb⟩
  have HB8 : Hid (Below w.heap.size w w8) := Lib.hid (HB7.out.trans ((below_after1 hb).mono HB7.out.size))
  have HO8 := Lib.hid (own_base ho (Nat.le_trans HB7.out.size (by simp) : w.heap.size ≤ _))
  clear ho hb
  go_wp2
  go_ret2
  exact ⟨A8, c8, rfl, HO8.out, HB8.out⟩
end Go.Proofs.YtkdpfjenjcpcfaaGreatDoor
namespace Go.Proofs.YtkdpfjenjcpcfaaGreatDoor
open Go.RowKit Mem Be
set_option maxRecDepth 10000
set_option maxHeartbeats 4000000
theorem blk_ownE {w w' : World} {g : Nat} {t : TypeId} {cs : Array Value} {B : Nat} {v : Value} {n : Nat} {e : TypeId} {xs : List Value} (hk : Blk w g t cs) (hg : w.grownBy w' v.ownBlock) (ho : w.ownsRow B e 1 v n xs) (hB : g < B) : Blk w' g t cs :=
  hk.grown hg (fun e => by have := (ho.lt g e.symm).1; omega)
theorem below_own {w0 w w' : World} {B C : Nat} {v : Value} {n : Nat} {e : TypeId} {xs : List Value} (hb : Below C w0 w) (hg : w.grownBy w' v.ownBlock) (ho : w.ownsRow B e 1 v n xs) (hC : C ≤ w0.heap.size) (hB : C ≤ B) : Below C w0 w' :=
  hb.grown hg (Nat.le_trans hC hb.size) (fun k hk => Nat.le_trans hB (ho.lt k hk).1)
theorem own_other {w w' : World} {B n : Nat} {e : TypeId} {u v : Value} {xs : List Value} (h : w.ownsRow B e 1 v n xs) (hg : w.grownBy w' u.ownBlock) (hu : ∀ k, u.ownBlock = some k → k < B) : w'.ownsRow B e 1 v n xs := by
  refine h.kept hg ?_
  cases hv : v.ownBlock with
  | none => exact Or.inl rfl
  | some k => exact Or.inr (fun e => by have := (h.lt k hv).1; have := hu k e.symm; omega)
theorem refbytes_err (key : ByteArray) (s u o : Int) (has : Bool) (A : Option Addr) (m c : Nat) (hm : (m : Int) ≤ 1073741824) (hsz : (key.size : Int) ≤ 1073741824) (hr : rightE key.size m s u o has = 2) (w : World) :
    Calls Tryz.prog 66 #[entV key s u o has A m c] w (Made2 w.heap.size [] 2 w) := by
  have HR : Hid (∀ W, Calls Tryz.prog 30 #[entV key s u o has A m c] W (IsI 2 W)) := Lib.hid fun W => by
    rw [← hr]; exact refright_any key s u o has A m c hm hsz W
  clear hr
  go_enter Tryz.func66, Tryz.ntmps66
  go_wp2_with fail
  refine (HR.out _).mono ?_
  rintro e w1 ⟨rfl, hb⟩
  have HB := Lib.hid (below_after1 hb)
  clear hb
  go_wp2
  go_ret2
  exact ⟨none, 0, rfl, World.ownsRow_nil _ _ _ _, HB.out⟩
theorem refbytes_no (key : ByteArray) (s u o : Int) (A : Option Addr) (xs : List UInt8) (n c : Nat) (hn : n = xs.length) (hr : rightE key.size n s u o false = 0) (w : World) (h : ValOk w false A xs c) :
    Calls Tryz.prog 66 #[entV key s u o false A n c] w (Made2 w.heap.size (entB (kb key) s u o false xs) 0 w) := by
  obtain ⟨i0, hi0, hz0, hz1, hz2⟩ := info_parts info_b
  have hyes := rightE_yes hr
  have HK : Hid (key.size ≤ 250) := Lib.hid hyes.2.1
  have HX : Hid (xs.length ≤ 60000) := Lib.hid (by omega)
  have HR : Hid (∀ W, Calls Tryz.prog 30 #[entV key s u o false A n c] W (IsI 0 W)) := Lib.hid fun W => by
    rw [← hr]; exact refright_any key s u o false A n c (by omega) (by omega) W
  have HV := Lib.hid h
  have HN := Lib.hid hn
  clear hr h hn hyes
  have hblk := Blk.new w 46 #[.string key, .int .i64 s, .int .i64 u, .int .i64 o, .bool false, .slice A n c]
  have HBK := Lib.hid hblk
  clear hblk
  have h90 := numB_le ((kb key).length : Int)
  have h91 := numB_le s
  have h92 := numB_le u
  have h93 := numB_le o
  obtain ⟨R0, hR0⟩ : ∃ R0, R0 = rowB (kb key) := ⟨_, rfl⟩
  obtain ⟨N1, hN1⟩ : ∃ N1, N1 = numB s := ⟨_, rfl⟩
  obtain ⟨N2, hN2⟩ : ∃ N2, N2 = numB u := ⟨_, rfl⟩
  obtain ⟨N3, hN3⟩ : ∃ N3, N3 = numB o := ⟨_, rfl⟩
  obtain ⟨R1, hR1⟩ : ∃ R1, R1 = R0 ++ N1 := ⟨_, rfl⟩
  obtain ⟨R2, hR2⟩ : ∃ R2, R2 = R1 ++ N2 := ⟨_, rfl⟩
  obtain ⟨R3, hR3⟩ : ∃ R3, R3 = R2 ++ N3 := ⟨_, rfl⟩
  obtain ⟨R4, hR4⟩ : ∃ R4, R4 = R3 ++ truthB false := ⟨_, rfl⟩
  have L0 : Hid (R0.length ≤ 300) := Lib.hid (by rw [hR0]; unfold rowB; rw [List.length_append, kb_len] at *; have := HK.out; omega)
  have M1 : Hid (N1.length ≤ 9) := Lib.hid (by rw [hN1]; exact h91)
  have M2 : Hid (N2.length ≤ 9) := Lib.hid (by rw [hN2]; exact h92)
  have M3 : Hid (N3.length ≤ 9) := Lib.hid (by rw [hN3]; exact h93)
  have L1 : Hid (R1.length ≤ 400) := Lib.hid (by rw [hR1, List.length_append]; have := L0.out; have := M1.out; omega)
  have L2 : Hid (R2.length ≤ 500) := Lib.hid (by rw [hR2, List.length_append]; have := L1.out; have := M2.out; omega)
  have L3 : Hid (R3.length ≤ 600) := Lib.hid (by rw [hR3, List.length_append]; have := L2.out; have := M3.out; omega)
  have L4 : Hid (R4.length ≤ 700) := Lib.hid (by rw [hR4, List.length_append]; have := L3.out; unfold truthB; simp; omega)
  have X1 : Hid (R0.map byteV ++ N1.map byteV = R1.map byteV) := Lib.hid (by rw [hR1, List.map_append])
  have X2 : Hid (R1.map byteV ++ N2.map byteV = R2.map byteV) := Lib.hid (by rw [hR2, List.map_append])
  have X3 : Hid (R2.map byteV ++ N3.map byteV = R3.map byteV) := Lib.hid (by rw [hR3, List.map_append])
  have X4 : Hid (R3.map byteV ++ [byteV 0] = R4.map byteV) := Lib.hid (by rw [hR4, List.map_append]; rfl)
  have HE : Hid (entB (kb key) s u o false xs = R4) := Lib.hid (by rw [hR4, hR3, hR2, hR1, hR0, hN1, hN2, hN3]; simp [entB, tagB])
  have HR0 := Lib.hid hR0
  have HN1 := Lib.hid hN1
  have HN2 := Lib.hid hN2
  have HN3 := Lib.hid hN3
  rw [HE.out]
  clear hR0 hN1 hN2 hN3 hR1 hR2 hR3 hR4 h90 h91 h92 h93
  go_enter Tryz.func66, Tryz.ntmps66
  go_wp2_with fail
  refine (HR.out _).mono ?_
  rintro e w1 ⟨rfl, hb⟩
  have HB1 := Lib.hid (below_after1 hb)
  have HK1 := Lib.hid (HBK.out.below hb (by simp))
  have k0 : w1.cell? ⟨w.heap.size, 0, none⟩ = some (.string key) := HK1.out.cell 0
  clear hb
  go_wp2_with (with_reducible refine wpList_conv _ rfl _ _ _ _ rfl key rfl Tryz.underlying9 Tryz.underlying27 Tryz.underlying5 ?_)
  intro A1 c1 w2 hrow hb _
  have HB2 : Hid (Below w.heap.size w w2) := Lib.hid (HB1.out.trans (hb.mono HB1.out.size))
  have HK2 := Lib.hid (HK1.out.below hb HK1.out.lt)
  have HRO := Lib.hid hrow
  clear k0 hrow hb
  go_wp2_with fail
  refine (refrow_any _ c1 _ A1 (kb key) (kb_len key).symm _ HRO.out (Nat.le_refl _) (by rw [kb_len]; have := HK.out; omega)).mono ?_
  rw [← HR0.out]
  rintro e w3 ⟨A3, c3, rfl, ho, hb⟩
  have HB3 : Hid (Below w.heap.size w w3) := Lib.hid (HB2.out.trans (hb.mono HB2.out.size))
  have HK3 := Lib.hid (HK2.out.below hb HK2.out.lt)
  have HO3 : Hid (w3.ownsRow (w.heap.size + 1) 5 1 (.slice A3 R0.length c3) R0.length (R0.map byteV)) := Lib.hid (own_base ho HK2.out.lt)
  clear ho hb
  have q1 : w3.cell? ⟨w.heap.size, 1, none⟩ = some (.int .i64 s) := HK3.out.cell 1
  go_wp2_with fail
  refine (refnum_any s _).mono ?_
  rw [← HN1.out]
  rintro e w4 ⟨A4, c4, rfl, ho, hb⟩
  have HB4 : Hid (Below w.heap.size w w4) := Lib.hid (HB3.out.trans (hb.mono HB3.out.size))
  have HK4 := Lib.hid (HK3.out.below hb HK3.out.lt)
  have HP4 := Lib.hid (own_below HO3.out hb)
  have HQ4 := Lib.hid (Row.of_own ho)
  clear ho hb q1
  go_wp2_with (at_builtin; refine wpList_app _ rfl _ _ 27 rfl (w.heap.size + 1) 5 i0 (.int .u8 0) 1 Tryz.underlying27 hi0 hz0 hz1 hz2 rfl _ _ _ rfl HP4.out w4.heap.size _ N1.length c4 (N1.map byteV) rfl (by simp) HQ4.out (byte_one N1) (by have := L0.out; have := M1.out; unfold maxLen; omega) (by have := L0.out; have := M1.out; omega) HK4.out.lt ?_)
  intro v' w5 hown hgr _
  have HB5 : Hid (Below w.heap.size w w5) := Lib.hid (below_own HB4.out hgr HP4.out (Nat.le_refl _) (by omega))
  have HK5 := Lib.hid (blk_ownE HK4.out hgr HP4.out (by omega))
  obtain ⟨A5, c5, rfl, ho5⟩ := own_of R1 hown X1.out
  have HO5 := Lib.hid ho5
  clear hown hgr ho5
  have q2 : w5.cell? ⟨w.heap.size, 2, none⟩ = some (.int .i64 u) := HK5.out.cell 2
  go_wp2_with fail
  refine (refnum_any u _).mono ?_
  rw [← HN2.out]
  rintro e w6 ⟨A6, c6, rfl, ho, hb⟩
  have HB6 : Hid (Below w.heap.size w w6) := Lib.hid (HB5.out.trans (hb.mono HB5.out.size))
  have HK6 := Lib.hid (HK5.out.below hb HK5.out.lt)
  have HP6 := Lib.hid (own_below HO5.out hb)
  have HQ6 := Lib.hid (Row.of_own ho)
  clear ho hb q2
  go_wp2_with (at_builtin; refine wpList_app _ rfl _ _ 27 rfl (w.heap.size + 1) 5 i0 (.int .u8 0) 1 Tryz.underlying27 hi0 hz0 hz1 hz2 rfl _ _ _ rfl HP6.out w6.heap.size _ N2.length c6 (N2.map byteV) rfl (by simp) HQ6.out (byte_one N2) (by have := L1.out; have := M2.out; unfold maxLen; omega) (by have := L1.out; have := M2.out; omega) HK6.out.lt ?_)
  intro v' w7 hown hgr _
  have HB7 : Hid (Below w.heap.size w w7) := Lib.hid (below_own HB6.out hgr HP6.out (Nat.le_refl _) (by omega))
  have HK7 := Lib.hid (blk_ownE HK6.out hgr HP6.out (by omega))
  obtain ⟨A7, c7, rfl, ho7⟩ := own_of R2 hown X2.out
  have HO7 := Lib.hid ho7
  clear hown hgr ho7
  have q3 : w7.cell? ⟨w.heap.size, 3, none⟩ = some (.int .i64 o) := HK7.out.cell 3
  go_wp2_with fail
  refine (refnum_any o _).mono ?_
  rw [← HN3.out]
  rintro e w8 ⟨A8, c8, rfl, ho, hb⟩
  have HB8 : Hid (Below w.heap.size w w8) := Lib.hid (HB7.out.trans (hb.mono HB7.out.size))
  have HK8 := Lib.hid (HK7.out.below hb HK7.out.lt)
  have HP8 := Lib.hid (own_below HO7.out hb)
  have HQ8 := Lib.hid (Row.of_own ho)
  clear ho hb q3
  go_wp2_with (at_builtin; refine wpList_app _ rfl _ _ 27 rfl (w.heap.size + 1) 5 i0 (.int .u8 0) 1 Tryz.underlying27 hi0 hz0 hz1 hz2 rfl _ _ _ rfl HP8.out w8.heap.size _ N3.length c8 (N3.map byteV) rfl (by simp) HQ8.out (byte_one N3) (by have := L2.out; have := M3.out; unfold maxLen; omega) (by have := L2.out; have := M3.out; omega) HK8.out.lt ?_)
  intro v' w9 hown hgr _
  have HB9 : Hid (Below w.heap.size w w9) := Lib.hid (below_own HB8.out hgr HP8.out (Nat.le_refl _) (by omega))
  have HK9 := Lib.hid (blk_ownE HK8.out hgr HP8.out (by omega))
  obtain ⟨A9, c9, rfl, ho9⟩ := own_of R3 hown X3.out
  have HO9 := Lib.hid ho9
  clear hown hgr ho9
  have q4 : w9.cell? ⟨w.heap.size, 4, none⟩ = some (.bool false) := HK9.out.cell 4
  go_wp2_with (at_builtin; refine wpList_app _ rfl _ _ 27 rfl (w.heap.size + 1) 5 i0 (.int .u8 0) 1 Tryz.underlying27 hi0 hz0 hz1 hz2 rfl _ _ _ rfl (HO9.out.alloc _) (w9.heap.size + 1) _ 1 1 [byteV 0] rfl rfl (row_cells rfl) (by simp [byteV, Value.oneCell']) (by have := L3.out; unfold maxLen; omega) (by have := L3.out; omega) (by have := HK9.out.lt; simp; omega) ?_)
  intro v' w11 hown hgr _
  have HB11 : Hid (Below w.heap.size w w11) := Lib.hid (below_own (HB9.out.alloc HB9.out.size _) hgr (HO9.out.alloc _) (Nat.le_refl _) (by omega))
  obtain ⟨A11, c11, rfl, ho11⟩ := own_of R4 hown X4.out
  have HO11 := Lib.hid (own_base ho11 (by omega : w.heap.size ≤ _))
  clear hown hgr ho11
  go_wp2
  go_ret2
  exact made2_of HO11.out rfl HB11.out
theorem refbytes_yes (key : ByteArray) (s u o : Int) (A : Option Addr) (xs : List UInt8) (n c : Nat) (hn : n = xs.length) (hr : rightE key.size n s u o true = 0) (w : World) (h : ValOk w true A xs c) :
    Calls Tryz.prog 66 #[entV key s u o true A n c] w (Made2 w.heap.size (entB (kb key) s u o true xs) 0 w) := by
  obtain ⟨i0, hi0, hz0, hz1, hz2⟩ := info_parts info_b
  have hyes := rightE_yes hr
  have HK : Hid (key.size ≤ 250) := Lib.hid hyes.2.1
  have HX : Hid (xs.length ≤ 60000) := Lib.hid (by omega)
  have HR : Hid (∀ W, Calls Tryz.prog 30 #[entV key s u o true A n c] W (IsI 0 W)) := Lib.hid fun W => by
    rw [← hr]; exact refright_any key s u o true A n c (by omega) (by omega) W
  have HV := Lib.hid h
  have HN := Lib.hid hn
  clear hr h hn hyes
  have hblk := Blk.new w 46 #[.string key, .int .i64 s, .int .i64 u, .int .i64 o, .bool true, .slice A n c]
  have HBK := Lib.hid hblk
  clear hblk
  have h90 := numB_le ((kb key).length : Int)
  have h91 := numB_le s
  have h92 := numB_le u
  have h93 := numB_le o
  obtain ⟨R0, hR0⟩ : ∃ R0, R0 = rowB (kb key) := ⟨_, rfl⟩
  obtain ⟨N1, hN1⟩ : ∃ N1, N1 = numB s := ⟨_, rfl⟩
  obtain ⟨N2, hN2⟩ : ∃ N2, N2 = numB u := ⟨_, rfl⟩
  obtain ⟨N3, hN3⟩ : ∃ N3, N3 = numB o := ⟨_, rfl⟩
  obtain ⟨R1, hR1⟩ : ∃ R1, R1 = R0 ++ N1 := ⟨_, rfl⟩
  obtain ⟨R2, hR2⟩ : ∃ R2, R2 = R1 ++ N2 := ⟨_, rfl⟩
  obtain ⟨R3, hR3⟩ : ∃ R3, R3 = R2 ++ N3 := ⟨_, rfl⟩
  obtain ⟨R4, hR4⟩ : ∃ R4, R4 = R3 ++ truthB true := ⟨_, rfl⟩
  have L0 : Hid (R0.length ≤ 300) := Lib.hid (by rw [hR0]; unfold rowB; rw [List.length_append, kb_len] at *; have := HK.out; omega)
  have M1 : Hid (N1.length ≤ 9) := Lib.hid (by rw [hN1]; exact h91)
  have M2 : Hid (N2.length ≤ 9) := Lib.hid (by rw [hN2]; exact h92)
  have M3 : Hid (N3.length ≤ 9) := Lib.hid (by rw [hN3]; exact h93)
  have L1 : Hid (R1.length ≤ 400) := Lib.hid (by rw [hR1, List.length_append]; have := L0.out; have := M1.out; omega)
  have L2 : Hid (R2.length ≤ 500) := Lib.hid (by rw [hR2, List.length_append]; have := L1.out; have := M2.out; omega)
  have L3 : Hid (R3.length ≤ 600) := Lib.hid (by rw [hR3, List.length_append]; have := L2.out; have := M3.out; omega)
  have L4 : Hid (R4.length ≤ 700) := Lib.hid (by rw [hR4, List.length_append]; have := L3.out; unfold truthB; simp; omega)
  have X1 : Hid (R0.map byteV ++ N1.map byteV = R1.map byteV) := Lib.hid (by rw [hR1, List.map_append])
  have X2 : Hid (R1.map byteV ++ N2.map byteV = R2.map byteV) := Lib.hid (by rw [hR2, List.map_append])
  have X3 : Hid (R2.map byteV ++ N3.map byteV = R3.map byteV) := Lib.hid (by rw [hR3, List.map_append])
  have X4 : Hid (R3.map byteV ++ [byteV 1] = R4.map byteV) := Lib.hid (by rw [hR4, List.map_append]; rfl)
  have HE : Hid (entB (kb key) s u o true xs = R4 ++ rowB xs) := Lib.hid (by rw [hR4, hR3, hR2, hR1, hR0, hN1, hN2, hN3]; simp [entB, tagB])
  have HR0 := Lib.hid hR0
  have HN1 := Lib.hid hN1
  have HN2 := Lib.hid hN2
  have HN3 := Lib.hid hN3
  rw [HE.out]
  clear hR0 hN1 hN2 hN3 hR1 hR2 hR3 hR4 h90 h91 h92 h93
  go_enter Tryz.func66, Tryz.ntmps66
  go_wp2_with fail
  refine (HR.out _).mono ?_
  rintro e w1 ⟨rfl, hb⟩
  have HB1 := Lib.hid (below_after1 hb)
  have HK1 := Lib.hid (HBK.out.below hb (by simp))
  have k0 : w1.cell? ⟨w.heap.size, 0, none⟩ = some (.string key) := HK1.out.cell 0
  clear hb
  go_wp2_with (with_reducible refine wpList_conv _ rfl _ _ _ _ rfl key rfl Tryz.underlying9 Tryz.underlying27 Tryz.underlying5 ?_)
  intro A1 c1 w2 hrow hb _
  have HB2 : Hid (Below w.heap.size w w2) := Lib.hid (HB1.out.trans (hb.mono HB1.out.size))
  have HK2 := Lib.hid (HK1.out.below hb HK1.out.lt)
  have HRO := Lib.hid hrow
  clear k0 hrow hb
  go_wp2_with fail
  refine (refrow_any _ c1 _ A1 (kb key) (kb_len key).symm _ HRO.out (Nat.le_refl _) (by rw [kb_len]; have := HK.out; omega)).mono ?_
  rw [← HR0.out]
  rintro e w3 ⟨A3, c3, rfl, ho, hb⟩
  have HB3 : Hid (Below w.heap.size w w3) := Lib.hid (HB2.out.trans (hb.mono HB2.out.size))
  have HK3 := Lib.hid (HK2.out.below hb HK2.out.lt)
  have HO3 : Hid (w3.ownsRow (w.heap.size + 1) 5 1 (.slice A3 R0.length c3) R0.length (R0.map byteV)) := Lib.hid (own_base ho HK2.out.lt)
  clear ho hb
  have q1 : w3.cell? ⟨w.heap.size, 1, none⟩ = some (.int .i64 s) := HK3.out.cell 1
  go_wp2_with fail
  refine (refnum_any s _).mono ?_
  rw [← HN1.out]
  rintro e w4 ⟨A4, c4, rfl, ho, hb⟩
  have HB4 : Hid (Below w.heap.size w w4) := Lib.hid (HB3.out.trans (hb.mono HB3.out.size))
  have HK4 := Lib.hid (HK3.out.below hb HK3.out.lt)
  have HP4 := Lib.hid (own_below HO3.out hb)
  have HQ4 := Lib.hid (Row.of_own ho)
  clear ho hb q1
  go_wp2_with (at_builtin; refine wpList_app _ rfl _ _ 27 rfl (w.heap.size + 1) 5 i0 (.int .u8 0) 1 Tryz.underlying27 hi0 hz0 hz1 hz2 rfl _ _ _ rfl HP4.out w4.heap.size _ N1.length c4 (N1.map byteV) rfl (by simp) HQ4.out (byte_one N1) (by have := L0.out; have := M1.out; unfold maxLen; omega) (by have := L0.out; have := M1.out; omega) HK4.out.lt ?_)
  intro v' w5 hown hgr _
  have HB5 : Hid (Below w.heap.size w w5) := Lib.hid (below_own HB4.out hgr HP4.out (Nat.le_refl _) (by omega))
  have HK5 := Lib.hid (blk_ownE HK4.out hgr HP4.out (by omega))
  obtain ⟨A5, c5, rfl, ho5⟩ := own_of R1 hown X1.out
  have HO5 := Lib.hid ho5
  clear hown hgr ho5
  have q2 : w5.cell? ⟨w.heap.size, 2, none⟩ = some (.int .i64 u) := HK5.out.cell 2
  go_wp2_with fail
  refine (refnum_any u _).mono ?_
  rw [← HN2.out]
  rintro e w6 ⟨A6, c6, rfl, ho, hb⟩
  have HB6 : Hid (Below w.heap.size w w6) := Lib.hid (HB5.out.trans (hb.mono HB5.out.size))
  have HK6 := Lib.hid (HK5.out.below hb HK5.out.lt)
  have HP6 := Lib.hid (own_below HO5.out hb)
  have HQ6 := Lib.hid (Row.of_own ho)
  clear ho hb q2
  go_wp2_with (at_builtin; refine wpList_app _ rfl _ _ 27 rfl (w.heap.size + 1) 5 i0 (.int .u8 0) 1 Tryz.underlying27 hi0 hz0 hz1 hz2 rfl _ _ _ rfl HP6.out w6.heap.size _ N2.length c6 (N2.map byteV) rfl (by simp) HQ6.out (byte_one N2) (by have := L1.out; have := M2.out; unfold maxLen; omega) (by have := L1.out; have := M2.out; omega) HK6.out.lt ?_)
  intro v' w7 hown hgr _
  have HB7 : Hid (Below w.heap.size w w7) := Lib.hid (below_own HB6.out hgr HP6.out (Nat.le_refl _) (by omega))
  have HK7 := Lib.hid (blk_ownE HK6.out hgr HP6.out (by omega))
  obtain ⟨A7, c7, rfl, ho7⟩ := own_of R2 hown X2.out
  have HO7 := Lib.hid ho7
  clear hown hgr ho7
  have q3 : w7.cell? ⟨w.heap.size, 3, none⟩ = some (.int .i64 o) := HK7.out.cell 3
  go_wp2_with fail
  refine (refnum_any o _).mono ?_
  rw [← HN3.out]
  rintro e w8 ⟨A8, c8, rfl, ho, hb⟩
  have HB8 : Hid (Below w.heap.size w w8) := Lib.hid (HB7.out.trans (hb.mono HB7.out.size))
  have HK8 := Lib.hid (HK7.out.below hb HK7.out.lt)
  have HP8 := Lib.hid (own_below HO7.out hb)
  have HQ8 := Lib.hid (Row.of_own ho)
  clear ho hb q3
  go_wp2_with (at_builtin; refine wpList_app _ rfl _ _ 27 rfl (w.heap.size + 1) 5 i0 (.int .u8 0) 1 Tryz.underlying27 hi0 hz0 hz1 hz2 rfl _ _ _ rfl HP8.out w8.heap.size _ N3.length c8 (N3.map byteV) rfl (by simp) HQ8.out (byte_one N3) (by have := L2.out; have := M3.out; unfold maxLen; omega) (by have := L2.out; have := M3.out; omega) HK8.out.lt ?_)
  intro v' w9 hown hgr _
  have HB9 : Hid (Below w.heap.size w w9) := Lib.hid (below_own HB8.out hgr HP8.out (Nat.le_refl _) (by omega))
  have HK9 := Lib.hid (blk_ownE HK8.out hgr HP8.out (by omega))
  obtain ⟨A9, c9, rfl, ho9⟩ := own_of R3 hown X3.out
  have HO9 := Lib.hid ho9
  clear hown hgr ho9
  have q4 : w9.cell? ⟨w.heap.size, 4, none⟩ = some (.bool true) := HK9.out.cell 4
  have q5 : w9.cell? ⟨w.heap.size, 5, none⟩ = some (.slice A n c) := HK9.out.cell 5
  go_wp2_with fail
  refine (refrow_any w.heap.size c n A xs HN.out _ (HV.out.row.below HB9.out) HB9.out.size (by have := HX.out; omega)).mono ?_
  rintro e w10 ⟨A10, c10, rfl, ho, hb⟩
  have HB10 : Hid (Below w.heap.size w w10) := Lib.hid (HB9.out.trans (hb.mono HB9.out.size))
  have HK10 := Lib.hid (HK9.out.below hb HK9.out.lt)
  have HP10 := Lib.hid (own_below HO9.out hb)
  have HQ10 := Lib.hid ho
  clear ho hb q4 q5
  go_wp2_with (at_builtin; refine wpList_app _ rfl _ _ 27 rfl (w.heap.size + 1) 5 i0 (.int .u8 0) 1 Tryz.underlying27 hi0 hz0 hz1 hz2 rfl _ _ _ rfl (HP10.out.alloc _) (w10.heap.size + 1) _ 1 1 [byteV 1] rfl rfl (row_cells rfl) (by simp [byteV, Value.oneCell']) (by have := L3.out; unfold maxLen; omega) (by have := L3.out; omega) (by have := HK10.out.lt; simp; omega) ?_)
  intro v' w11 hown hgr _
  have HB11 : Hid (Below w.heap.size w w11) := Lib.hid (below_own (HB10.out.alloc HB10.out.size _) hgr (HP10.out.alloc _) (Nat.le_refl _) (by omega))
  have HQ11 := Lib.hid (Row.of_own (own_other (HQ10.out.alloc _) hgr (fun k hk => (HO9.out.lt k hk).2)))
  obtain ⟨A11, c11, rfl, ho11⟩ := own_of R4 hown X4.out
  have HO11 := Lib.hid ho11
  have HS11 : Hid (w.heap.size + 1 ≤ w11.heap.size) := Lib.hid (by have := HK10.out.lt; have := hgr.size; simp at this; omega)
  clear hown hgr ho11
  have hx9 := numB_le (xs.length : Int)
  have LX : Hid ((rowB xs).length ≤ 60009) := Lib.hid (by unfold rowB; rw [List.length_append]; have := HX.out; omega)
  clear hx9
  go_wp2_with (at_builtin; refine wpList_app _ rfl _ _ 27 rfl (w.heap.size + 1) 5 i0 (.int .u8 0) 1 Tryz.underlying27 hi0 hz0 hz1 hz2 rfl _ _ _ rfl HO11.out w11.heap.size _ (rowB xs).length c10 ((rowB xs).map byteV) rfl (by simp) HQ11.out (byte_one (rowB xs)) (by have := L4.out; have := LX.out; unfold maxLen; omega) (by have := L4.out; have := LX.out; omega) HS11.out ?_)
  intro v' w12 hown hgr _
  have HB12 : Hid (Below w.heap.size w w12) := Lib.hid (below_own HB11.out hgr HO11.out (Nat.le_refl _) (by omega))
  have HO12 := Lib.hid (own_base hown (by omega : w.heap.size ≤ _))
  clear hown hgr
  go_wp2
  go_ret2
  exact made2_of HO12.out (by rw [List.map_append]) HB12.out
end Go.Proofs.YtkdpfjenjcpcfaaGreatDoor
namespace Go.Proofs.YtkdpfjenjcpcfaaGreatDoor
open Go.RowKit Mem Be
set_option maxRecDepth 10000
set_option maxHeartbeats 4000000
def stepTag (bs : List UInt8) (e : Int) : (Int × Int × Int) × List UInt8 × Int :=
  (((stepB 1099511627776 bs e).1, (stepB 1048576 (stepB 1099511627776 bs e).2.1 (stepB 1099511627776 bs e).2.2).1,
    (stepB 1048576 (stepB 1048576 (stepB 1099511627776 bs e).2.1 (stepB 1099511627776 bs e).2.2).2.1 (stepB 1048576 (stepB 1099511627776 bs e).2.1 (stepB 1099511627776 bs e).2.2).2.2).1),
   (stepB 1048576 (stepB 1048576 (stepB 1099511627776 bs e).2.1 (stepB 1099511627776 bs e).2.2).2.1 (stepB 1048576 (stepB 1099511627776 bs e).2.1 (stepB 1099511627776 bs e).2.2).2.2).2)
theorem rd_put {w : World} {g L : Nat} {bs : List UInt8} {e : Int} (h : Rd w g bs e) (hg : g < L) (i : Nat) (u : Value) : Rd (w.setCell ⟨L, i, none⟩ u) g bs e :=
  rd_grownBy h (grown_set w L i u) (fun k e => by injection e with e; omega)
/-- Nothing that was there is changed but block g, where what is written lies behind what was there. -/
theorem grown_put {w w' : World} {g L : Nat} (h : w.grownBy w' (some g)) (hL : w.heap.size ≤ L) (i : Nat) (u : Value) : w.grownBy (w'.setCell ⟨L, i, none⟩ u) (some g) :=
  ⟨h.os, h.tape, h.output, by simpa [World.setCell] using h.size, fun k hk hne => (Below.heap_setCell w' _ u k (by show k ≠ L; omega)).trans (h.block k hk hne)⟩
theorem grown_alloc1 {w w' : World} {o : Obj} {g : Nat} (h : (w.alloc o).grownBy w' (some g)) : w.grownBy w' (some g) := grown_trans (World.grownBy_alloc w o (some g)) h
/-- A tag, and the reader behind it. -/
def ReadsTag (g : Nat) (r : (Int × Int × Int) × List UInt8 × Int) (w : World) (E : Ending) (w' : World) : Prop := E = .returned (tagV r.1.1 r.1.2.1 r.1.2.2) ∧ Rd w' g r.2.1 r.2.2 ∧ w.grownBy w' (some g)
theorem gettag_any (g : Nat) (bs : List UInt8) (e0 : Int) (w : World) (h : Rd w g bs e0) : Calls Tryz.prog 215 #[.pointer (some ⟨g, 0, none⟩)] w (ReadsTag g (stepTag bs e0) w) := by
  have hlt := rd_lt h
  obtain ⟨⟨x1, b1, e1⟩, h1⟩ : ∃ y, stepB 1099511627776 bs e0 = y := ⟨_, rfl⟩
  obtain ⟨⟨x2, b2, e2⟩, h2⟩ : ∃ y, stepB 1048576 b1 e1 = y := ⟨_, rfl⟩
  obtain ⟨⟨x3, b3, e3⟩, h3⟩ : ∃ y, stepB 1048576 b2 e2 = y := ⟨_, rfl⟩
  have HT : Hid (stepTag bs e0 = ((x1, x2, x3), b3, e3)) := Lib.hid (by unfold stepTag; rw [h1]; simp only; rw [h2]; simp only; rw [h3])
  have H1 := Lib.hid h1
  have H2 := Lib.hid h2
  have H3 := Lib.hid h3
  have HD := Lib.hid (rd_alloc h (.cells #[.int .i64 0, .int .i64 0, .int .i64 0] 42))
  have HB := Lib.hid (Blk.new w 42 #[.int .i64 0, .int .i64 0, .int .i64 0])
  clear h h1 h2 h3
  rw [HT.out]
  go_enter Tryz.func215, Tryz.ntmps215
  go_wp2_with fail
  refine (below_call g bs 1099511627776 e0 _ HD.out).mono ?_
  rw [H1.out]
  rintro e w1 ⟨rfl, hrd, hgr⟩
  have HD1 := Lib.hid hrd
  have HG1 := Lib.hid (grown_alloc1 hgr)
  have HB1 := Lib.hid (HB.out.grown hgr (by simp; omega))
  clear hrd hgr
  go_wp2_with fail
  refine (below_call g b1 1048576 e1 _ HD1.out).mono ?_
  rw [H2.out]
  rintro e w2 ⟨rfl, hrd, hgr⟩
  have HD2 := Lib.hid hrd
  have HG2 := Lib.hid (grown_trans HG1.out hgr)
  have HB2 := Lib.hid (HB1.out.grown hgr (by simp; omega))
  clear hrd hgr
  go_wp2_with fail
  refine (below_call g b2 1048576 e2 _ HD2.out).mono ?_
  rw [H3.out]
  rintro e w3 ⟨rfl, hrd, hgr⟩
  have HD3 := Lib.hid hrd
  have HG3 := Lib.hid (grown_trans HG2.out hgr)
  have HB3 := HB2.out.grown hgr (by simp; omega)
  have q0 : w3.cell? ⟨w.heap.size, 0, none⟩ = some (.int .i64 0) := HB3.cell 0
  have q1 : w3.cell? ⟨w.heap.size, 1, none⟩ = some (.int .i64 0) := HB3.cell 1
  have q2 : w3.cell? ⟨w.heap.size, 2, none⟩ = some (.int .i64 0) := HB3.cell 2
  have z0 := HB3.frozen 0
  have z1 := HB3.frozen 1
  have z2 := HB3.frozen 2
  clear hrd hgr HB3
  go_wp2
  refine bodyPost_ret (v := tagV x1 x2 x3) (by simp [results, Tryz.results215, go_sem, q0, q1, q2]) rfl ⟨rfl, ?_, ?_⟩
  · exact rd_put (rd_put (rd_put HD3.out hlt _ _) hlt _ _) hlt _ _
  · exact grown_put (grown_put (grown_put HG3.out (Nat.le_refl _) _ _) (Nat.le_refl _) _ _) (Nat.le_refl _) _ _
def stepV (bs : List UInt8) (e : Int) : (Bool × List UInt8) × List UInt8 × Int :=
  if (stepT bs e).1 = true then ((true, (stepR (stepT bs e).2.1 (stepT bs e).2.2).1), (stepR (stepT bs e).2.1 (stepT bs e).2.2).2) else ((false, []), (stepT bs e).2)
/-- A value, its bytes in new memory, and the reader behind it. -/
def ReadsVal (g : Nat) (r : (Bool × List UInt8) × List UInt8 × Int) (w : World) (E : Ending) (w' : World) : Prop :=
  ∃ A c, E = .returned (valV r.1.1 A r.1.2.length c) ∧ w'.ownsRow w.heap.size 5 1 (.slice A r.1.2.length c) r.1.2.length (r.1.2.map byteV) ∧ Rd w' g r.2.1 r.2.2 ∧ w.grownBy w' (some g)
theorem getval_any (g : Nat) (bs : List UInt8) (e0 : Int) (w : World) (h : Rd w g bs e0) : Calls Tryz.prog 216 #[.pointer (some ⟨g, 0, none⟩)] w (ReadsVal g (stepV bs e0) w) := by
  have hlt := rd_lt h
  obtain ⟨⟨t, b1, e1⟩, h1⟩ : ∃ y, stepT bs e0 = y := ⟨_, rfl⟩
  have HD := Lib.hid (rd_alloc h (.cells #[.bool false, .slice none 0 0] 44))
  have HB := Lib.hid (Blk.new w 44 #[.bool false, .slice none 0 0])
  clear h
  cases t
  · have HT : Hid (stepV bs e0 = ((false, []), b1, e1)) := Lib.hid (by unfold stepV; rw [h1]; simp)
    have H1 := Lib.hid h1
    clear h1
    rw [HT.out]
    go_enter Tryz.func216, Tryz.ntmps216
    go_wp2_with fail
    refine (truth_call g bs e0 _ HD.out).mono ?_
    rw [H1.out]
    rintro e w1 ⟨rfl, hrd, hgr⟩
    have HD1 := Lib.hid hrd
    have HG1 := Lib.hid (grown_alloc1 hgr)
    have HB1 := HB.out.grown hgr (by simp; omega)
    have q0 : w1.cell? ⟨w.heap.size, 0, none⟩ = some (.bool false) := HB1.cell 0
    have q1 : w1.cell? ⟨w.heap.size, 1, none⟩ = some (.slice none 0 0) := HB1.cell 1
    have z0 := HB1.frozen 0
    have z1 := HB1.frozen 1
    clear hrd hgr HB1
    go_wp2
    refine bodyPost_ret (v := valV false none 0 0) (by simp [results, Tryz.results216, go_sem, q0, q1]) rfl ⟨none, 0, rfl, World.ownsRow_nil _ _ _ _, ?_, ?_⟩
    · exact rd_put (rd_put HD1.out hlt _ _) hlt _ _
    · exact grown_put (grown_put HG1.out (Nat.le_refl _) _ _) (Nat.le_refl _) _ _
  · obtain ⟨⟨ys, b2, e2⟩, h2⟩ : ∃ y, stepR b1 e1 = y := ⟨_, rfl⟩
    have HT : Hid (stepV bs e0 = ((true, ys), b2, e2)) := Lib.hid (by unfold stepV; rw [h1]; simp only [if_true]; rw [h2])
    have H1 := Lib.hid h1
    have H2 := Lib.hid h2
    clear h1 h2
    rw [HT.out]
    go_enter Tryz.func216, Tryz.ntmps216
    go_wp2_with fail
    refine (truth_call g bs e0 _ HD.out).mono ?_
    rw [H1.out]
    rintro e w1 ⟨rfl, hrd, hgr⟩
    have HD1 := Lib.hid hrd
    have HG1 := Lib.hid (grown_alloc1 hgr)
    have HB1 := Lib.hid (HB.out.grown hgr (by simp; omega))
    clear hrd hgr
    go_wp2_with fail
    refine (row_call g b1 e1 _ HD1.out).mono ?_
    rw [H2.out]
    rintro e w2 ⟨A2, c2, rfl, ho, hrd, hgr⟩
    have HD2 := Lib.hid hrd
    have HG2 := Lib.hid (grown_trans HG1.out hgr)
    have HB2 := HB1.out.grown hgr (by simp; omega)
    have HO2 : Hid (w2.ownsRow w1.heap.size 5 1 (.slice A2 ys.length c2) ys.length (ys.map byteV)) := Lib.hid ho
    have q0 : w2.cell? ⟨w.heap.size, 0, none⟩ = some (.bool false) := HB2.cell 0
    have q1 : w2.cell? ⟨w.heap.size, 1, none⟩ = some (.slice none 0 0) := HB2.cell 1
    have z0 := HB2.frozen 0
    have z1 := HB2.frozen 1
    clear hrd hgr HB2 ho
    go_wp2
    have hs := HG1.out.size
    have hl := HB1.out.lt
    refine bodyPost_ret (v := valV true A2 ys.length c2) (by simp [results, Tryz.results216, go_sem, q0, q1]) rfl ⟨A2, c2, rfl, ?_, ?_, ?_⟩
    · exact own_base (own_put (own_put HO2.out hl _ _) hl _ _) hs
    · exact rd_put (rd_put HD2.out hlt _ _) hlt _ _
    · exact grown_put (grown_put HG2.out (Nat.le_refl _) _ _) (Nat.le_refl _) _ _
end Go.Proofs.YtkdpfjenjcpcfaaGreatDoor
namespace Go.Proofs.YtkdpfjenjcpcfaaGreatDoor
open Go.RowKit Mem Be
set_option maxRecDepth 10000
set_option maxHeartbeats 4000000
structure EntP where
  k : List UInt8
  s : Int
  u : Int
  o : Int
  has : Bool
  v : List UInt8
def entP0 : EntP := ⟨[], 0, 0, 0, false, []⟩
abbrev zeroC : Array Value := #[.string ⟨#[]⟩, .int .i64 0, .int .i64 0, .int .i64 0, .bool false, .slice none 0 0]
theorem getR_len (bs : List UInt8) : (getR bs).1.length ≤ 65536 := by
  unfold getR
  split
  · simp
  split
  · simp
  split
  · simp
  · rename_i h1 h2 h3
    simp only [List.length_take]
    omega
theorem stepR_len (bs : List UInt8) (e : Int) : (stepR bs e).1.length ≤ 65536 := by
  unfold stepR; split
  · exact getR_len bs
  · simp
theorem stepV_len (bs : List UInt8) (e : Int) : (stepV bs e).1.2.length ≤ 65536 := by
  unfold stepV; split
  · exact stepR_len _ _
  · simp
def ReadE (g : Nat) (w : World) (x : EntP) (bs : List UInt8) (e : Int) (p : Value) (wx : World) : Prop :=
  ∃ L A c, p = .pointer (some ⟨L, 0, none⟩) ∧ Blk wx L 46 #[.string ⟨x.k.toArray⟩, .int .i64 x.s, .int .i64 x.u, .int .i64 x.o, .bool x.has, .slice A x.v.length c] ∧
    wx.ownsRow (w.heap.size + 1) 5 1 (.slice A x.v.length c) x.v.length (x.v.map byteV) ∧ Rd wx g bs e ∧ w.grownBy wx (some g) ∧ w.heap.size < L ∧ Blk wx w.heap.size 46 zeroC
theorem gcell {w w' : World} {g : Nat} (h : w.grownBy w' (some g)) : (∀ b o, b < w.heap.size → b ≠ g → w'.cell? ⟨b, o, none⟩ = w.cell? ⟨b, o, none⟩) ∧ (∀ b o, b < w.heap.size → b ≠ g → w'.frozen? ⟨b, o, none⟩ = w.frozen? ⟨b, o, none⟩) :=
  ⟨fun b o hb hne => World.cell?_of_block (w := w) (a := ⟨b, o, none⟩) (h.block b hb (fun e => hne (by injection e))), fun b o hb hne => World.frozen?_of_block (w := w) (a := ⟨b, o, none⟩) (h.block b hb (fun e => hne (by injection e)))⟩
def stepE1 (bs : List UInt8) (e : Int) : EntP × List UInt8 × Int :=
  (⟨(stepR bs e).1, (stepTag (stepR bs e).2.1 (stepR bs e).2.2).1.1, (stepTag (stepR bs e).2.1 (stepR bs e).2.2).1.2.1, (stepTag (stepR bs e).2.1 (stepR bs e).2.2).1.2.2,
    (stepV (stepTag (stepR bs e).2.1 (stepR bs e).2.2).2.1 (stepTag (stepR bs e).2.1 (stepR bs e).2.2).2.2).1.1, (stepV (stepTag (stepR bs e).2.1 (stepR bs e).2.2).2.1 (stepTag (stepR bs e).2.1 (stepR bs e).2.2).2.2).1.2⟩,
   (stepV (stepTag (stepR bs e).2.1 (stepR bs e).2.2).2.1 (stepTag (stepR bs e).2.1 (stepR bs e).2.2).2.2).2)
theorem own_keep {w w' : World} {B g n : Nat} {e : TypeId} {v : Value} {xs : List Value} (h : w.ownsRow B e 1 v n xs) (hg : w.grownBy w' (some g)) (hB : g < B) : w'.ownsRow B e 1 v n xs := by
  refine h.kept hg ?_
  cases hv : v.ownBlock with
  | none => exact Or.inl rfl
  | some k => exact Or.inr (fun e => by injection e with e; have := (h.lt k hv).1; omega)
theorem conv_own {w : World} {B c : Nat} {A : Option Addr} {xs : List UInt8} (h : w.ownsRow B 5 1 (.slice A xs.length c) xs.length (xs.map byteV)) : (convert 27 9 (.slice A xs.length c)).run Tryz.prog w = .ok (.string ⟨xs.toArray⟩) w :=
  conv_row c 27 9 5 Tryz.underlying27 Tryz.underlying5 Tryz.underlying9 (Row.of_own h)
theorem own_typ {w : World} {B L n : Nat} {v : Value} {xs : List Value} {cs : Array Value} (h : w.ownsRow B 5 1 v n xs) (hL : Blk w L 46 cs) (i : Nat) (u : Value) : (w.setCell ⟨L, i, none⟩ u).ownsRow B 5 1 v n xs := by
  refine h.kept (grown_set w L i u) ?_
  rcases h.2 with ⟨rfl, _⟩ | ⟨g', cap, cur, rfl, _, hh, _⟩
  · exact Or.inl rfl
  · refine Or.inr (fun he => ?_)
    have : g' = L := by simpa [Value.ownBlock] using he
    subst this
    exact Blk.ne_ (t := 5) hh hL (by decide) rfl
theorem leafA {w w4 : World} {g : Nat} {ks xs : List UInt8} {s u o e : Int} {has : Bool} {bs : List UInt8} {A : Option Addr} {c : Nat} (hV : w4.ownsRow (w.heap.size + 1) 5 1 (.slice A xs.length c) xs.length (xs.map byteV)) (hD : Rd w4 g bs e) (hG : w.grownBy w4 (some g)) (hR : Blk w4 w.heap.size 46 zeroC) :
    ReadE g w ⟨ks, s, u, o, has, xs⟩ bs e (.pointer (some ⟨w4.heap.size, 0, none⟩)) (w4.alloc (.cells #[.string ⟨ks.toArray⟩, .int .i64 s, .int .i64 u, .int .i64 o, .bool has, .slice A xs.length c] 46)) :=
  ⟨w4.heap.size, A, c, rfl, Blk.new _ _ _, hV.alloc _, rd_alloc hD _, grown_trans hG (World.grownBy_alloc _ _ _), hR.lt, hR.alloc _⟩
theorem leafB {w w4 : World} {g L : Nat} {ks xs : List UInt8} {s u o e : Int} {has : Bool} {bs : List UInt8} {A : Option Addr} {c : Nat} (hL : Blk w4 L 46 zeroC) (hV : w4.ownsRow (w.heap.size + 1) 5 1 (.slice A xs.length c) xs.length (xs.map byteV)) (hD : Rd w4 g bs e) (hG : w.grownBy w4 (some g)) (hR : Blk w4 w.heap.size 46 zeroC) (hg : g < L) (hw : w.heap.size < L) :
    ReadE g w ⟨ks, s, u, o, has, xs⟩ bs e (.pointer (some ⟨L, 0, none⟩)) ((((((w4.setCell ⟨L, 0, none⟩ (.string ⟨ks.toArray⟩)).setCell ⟨L, 1, none⟩ (.int .i64 s)).setCell ⟨L, 2, none⟩ (.int .i64 u)).setCell ⟨L, 3, none⟩ (.int .i64 o)).setCell ⟨L, 4, none⟩ (.bool has)).setCell ⟨L, 5, none⟩ (.slice A xs.length c)) := by
  have k1 := hL.set_ 0 (.string ⟨ks.toArray⟩)
  have k2 := k1.set_ 1 (.int .i64 s)
  have k3 := k2.set_ 2 (.int .i64 u)
  have k4 := k3.set_ 3 (.int .i64 o)
  have k5 := k4.set_ 4 (.bool has)
  have k6 := k5.set_ 5 (.slice A xs.length c)
  refine ⟨L, A, c, rfl, k6, ?_, ?_, ?_, hw, ?_⟩
  · exact own_typ (own_typ (own_typ (own_typ (own_typ (own_typ hV hL _ _) k1 _ _) k2 _ _) k3 _ _) k4 _ _) k5 _ _
  · exact rd_put (rd_put (rd_put (rd_put (rd_put (rd_put hD hg _ _) hg _ _) hg _ _) hg _ _) hg _ _) hg _ _
  · exact grown_put (grown_put (grown_put (grown_put (grown_put (grown_put hG (Nat.le_of_lt hw) _ _) (Nat.le_of_lt hw) _ _) (Nat.le_of_lt hw) _ _) (Nat.le_of_lt hw) _ _) (Nat.le_of_lt hw) _ _) (Nat.le_of_lt hw) _ _
  · have hne : w.heap.size ≠ L := by omega
    exact (((((hR.far (p := ⟨L, 0, none⟩) hne _).far (p := ⟨L, 1, none⟩) hne _).far (p := ⟨L, 2, none⟩) hne _).far (p := ⟨L, 3, none⟩) hne _).far (p := ⟨L, 4, none⟩) hne _).far (p := ⟨L, 5, none⟩) hne _
theorem alloc_first {w w2 : World} {g : Nat} (hgr : ((w.alloc (.cells zeroC 46)).alloc (.cells zeroC 46)).drew.grownBy w2 (some g)) (hlt : g < w.heap.size) : Blk w2 (w.heap.size + 1) 46 zeroC := by
  have h := ((Blk.new (w.alloc (.cells zeroC 46)) 46 zeroC).drew).grown hgr (by simp; omega)
  have e : (w.alloc (.cells zeroC 46)).heap.size = w.heap.size + 1 := by simp
  rw [e] at h
  exact h
end Go.Proofs.YtkdpfjenjcpcfaaGreatDoor
namespace Go.Proofs.YtkdpfjenjcpcfaaGreatDoor
open Go.RowKit Mem Be
set_option maxRecDepth 10000
set_option maxHeartbeats 8000000
theorem blk_up {w w' : World} {L g : Nat} {t : TypeId} {cs : Array Value} (h : Blk w L t cs) (hb : w.grownBy w' (some g)) (hg : g < L) : Blk w' L t cs := h.grown hb (fun e => by injection e with e; omega)
def errE (x : EntP) (e : Int) : Int := if rightE x.k.length x.v.length x.s x.u x.o x.has = 0 then e else if e = 0 then 11 else e
def endE (r : EntP × List UInt8 × Int) : EntP × List UInt8 × Int := if errE r.1 r.2.2 = 0 then (r.1, r.2.1, 0) else (entP0, r.2.1, errE r.1 r.2.2)
def stepE (bs : List UInt8) (e : Int) : EntP × List UInt8 × Int := endE (stepE1 bs e)
/-- An entry, its bytes in new memory, and the reader behind it. -/
def GotE (g : Nat) (r : EntP × List UInt8 × Int) (w : World) (E : Ending) (w' : World) : Prop :=
  ∃ A c, E = .returned (entV ⟨r.1.k.toArray⟩ r.1.s r.1.u r.1.o r.1.has A r.1.v.length c) ∧ w'.ownsRow w.heap.size 5 1 (.slice A r.1.v.length c) r.1.v.length (r.1.v.map byteV) ∧ Rd w' g r.2.1 r.2.2 ∧ w.grownBy w' (some g)
theorem get_any (g : Nat) (bs : List UInt8) (e0 : Int) (w : World) (h : Rd w g bs e0) : Calls Tryz.prog 204 #[.pointer (some ⟨g, 0, none⟩)] w (GotE g (stepE bs e0) w) := by
  have hlt := rd_lt h
  obtain ⟨⟨ks, b1, e1⟩, h1⟩ : ∃ y, stepR bs e0 = y := ⟨_, rfl⟩
  obtain ⟨⟨⟨s, u, o⟩, b2, e2⟩, h2⟩ : ∃ y, stepTag b1 e1 = y := ⟨_, rfl⟩
  obtain ⟨⟨⟨has, xs⟩, b3, e3⟩, h3⟩ : ∃ y, stepV b2 e2 = y := ⟨_, rfl⟩
  have HT : Hid (stepE1 bs e0 = (⟨ks, s, u, o, has, xs⟩, b3, e3)) := Lib.hid (by unfold stepE1; rw [h1]; simp only; rw [h2]; simp only; rw [h3])
  have H1 := Lib.hid h1
  have H2 := Lib.hid h2
  have H3 := Lib.hid h3
  have H0 := Lib.hid h
  have HD := Lib.hid (rd_drew (rd_alloc h (.cells zeroC 46)))
  have HG : Hid (w.grownBy (w.alloc (.cells zeroC 46)).drew (some g)) := Lib.hid (grown_alloc1 (drew_grown _ 1 _))
  have HR := Lib.hid (Blk.new w 46 zeroC).drew
  have HE : Hid (stepE bs e0 = endE (⟨ks, s, u, o, has, xs⟩, b3, e3)) := Lib.hid (by unfold stepE; rw [HT.out])
  rw [HE.out]
  obtain ⟨R, hRR⟩ : ∃ R, endE (⟨ks, s, u, o, has, xs⟩, b3, e3) = R := ⟨_, rfl⟩
  rw [hRR]
  have HRR := Lib.hid hRR
  clear h h1 h2 h3 hRR
  go_enter Tryz.func204, Tryz.ntmps204
  go_upto_region 1 with fail
  go_cut [3] (fun p wx => ReadE g w ⟨ks, s, u, o, has, xs⟩ b3 e3 p wx)
  case first =>
    go_region_with (first
      | (go_at_call 201; refine (row_call g bs e0 _ (by first | exact HD.out | exact rd_drew (rd_alloc (rd_alloc H0.out _) _))).mono ?_; rw [H1.out]; rintro e w2 ⟨A2, c2, rfl, ho, hrd, hgr⟩; (have HD := Lib.hid hrd); (first | have HL := Lib.hid (alloc_first hgr hlt) | skip); (have HR := Lib.hid (by first | exact blk_up HR.out hgr hlt | exact blk_up (((Blk.new w 46 zeroC).alloc _).drew) hgr hlt : Blk w2 w.heap.size 46 zeroC)); (have hm2 : w.heap.size < w2.heap.size := HR.out.lt); (have HG := Lib.hid (grown_trans (by first | exact HG.out | exact grown_alloc1 (grown_alloc1 (drew_grown _ 1 _))) hgr)); (have HY := Lib.hid (own_base (B' := w.heap.size + 1) ho (by simp))); (have cv := conv_own HY.out); (have cva := fun z => conv_own (HY.out.alloc z)); (have hl2 : g < w2.heap.size := rd_lt HD.out); clear ho hrd hgr)
      | (go_at_call 215; refine (gettag_any g b1 e1 _ (by first | exact HD.out | exact rd_alloc HD.out _)).mono ?_; rw [H2.out]; rintro e w3 ⟨rfl, hrd, hgr⟩; clear cv cva; (have HD := Lib.hid hrd); (first | have HL := Lib.hid (blk_up HL.out hgr (by omega)) | have HL := Lib.hid (blk_up (Blk.new _ _ _) hgr hl2) | skip); (have HR := Lib.hid (by first | exact blk_up HR.out hgr hlt | exact blk_up (HR.out.alloc _) hgr hlt : Blk w3 w.heap.size 46 zeroC)); (have hm3 : w.heap.size < w3.heap.size := HR.out.lt); (have HG := Lib.hid (grown_trans (by first | exact HG.out | exact grown_trans HG.out (World.grownBy_alloc _ _ _)) hgr)); (have HY := Lib.hid (own_keep (by first | exact HY.out | exact HY.out.alloc _) hgr (by omega))); (have cv := conv_own HY.out); (have cva := fun z => conv_own (HY.out.alloc z)); (have hl3 : g < w3.heap.size := rd_lt HD.out); clear hrd hgr)
      | (go_at_call 216; refine (getval_any g b2 e2 _ (by first | exact HD.out | exact rd_alloc HD.out _)).mono ?_; rw [H3.out]; rintro e w4 ⟨A4, c4, rfl, ho, hrd, hgr⟩; clear cv cva; (have HD := Lib.hid hrd); (have HV := Lib.hid (own_base (B' := w.heap.size + 1) ho (by first | exact HR.out.lt | (have := HR.out.lt; simp; omega)))); (first | have HL := Lib.hid (blk_up HL.out hgr (by omega)) | have HL := Lib.hid (blk_up (Blk.new _ _ _) hgr hl3) | skip); (have HR := Lib.hid (by first | exact blk_up HR.out hgr hlt | exact blk_up (HR.out.alloc _) hgr hlt : Blk w4 w.heap.size 46 zeroC)); (first | (have l0 : w4.cell? ⟨_, 0, none⟩ = some (.string ⟨#[]⟩) := HL.out.cell 0; have y0 := HL.out.frozen 0; have l1 : w4.cell? ⟨_, 1, none⟩ = some (.int .i64 0) := HL.out.cell 1; have y1 := HL.out.frozen 1; have l2 : w4.cell? ⟨_, 2, none⟩ = some (.int .i64 0) := HL.out.cell 2; have y2 := HL.out.frozen 2; have l3 : w4.cell? ⟨_, 3, none⟩ = some (.int .i64 0) := HL.out.cell 3; have y3 := HL.out.frozen 3; have l4 : w4.cell? ⟨_, 4, none⟩ = some (.bool false) := HL.out.cell 4; have y4 := HL.out.frozen 4; have l5 : w4.cell? ⟨_, 5, none⟩ = some (.slice none 0 0) := HL.out.cell 5; have y5 := HL.out.frozen 5) | skip); (have HG := Lib.hid (grown_trans (by first | exact HG.out | exact grown_trans HG.out (World.grownBy_alloc _ _ _)) hgr)); (have HY := Lib.hid (own_keep (by first | exact HY.out | exact HY.out.alloc _) hgr (by omega))); (have cv := conv_own HY.out); (have cva := fun z => conv_own (HY.out.alloc z)); clear ho hrd hgr))
    all_goals
      go_wp2_with fail
      go_meet
      first
        | with_reducible exact leafA HV.out HD.out HG.out HR.out
        | with_reducible exact leafB HL.out HV.out HD.out HG.out HR.out (by omega) (by omega)
  case rest =>
    obtain ⟨L, A, c, rfl, hL, hV, hD, hG, hwL, hR⟩ := hcut
    have HL := Lib.hid hL
    have HV := Lib.hid hV
    have HD1 := Lib.hid hD
    have HG1 := Lib.hid hG
    have HR1 := Lib.hid hR
    have c0 : wc.cell? ⟨L, 0, none⟩ = some (.string ⟨ks.toArray⟩) := hL.cell 0
    have c1 : wc.cell? ⟨L, 1, none⟩ = some (.int .i64 s) := hL.cell 1
    have c2 : wc.cell? ⟨L, 2, none⟩ = some (.int .i64 u) := hL.cell 2
    have c3 : wc.cell? ⟨L, 3, none⟩ = some (.int .i64 o) := hL.cell 3
    have c4 : wc.cell? ⟨L, 4, none⟩ = some (.bool has) := hL.cell 4
    have c5 : wc.cell? ⟨L, 5, none⟩ = some (.slice A xs.length c) := hL.cell 5
    have hkl := stepR_len bs e0
    rw [H1.out] at hkl
    have hxl := stepV_len b2 e2
    rw [H3.out] at hxl
    simp only at hkl hxl
    have hcall : ∀ W, Calls Tryz.prog 107 #[entV ⟨ks.toArray⟩ s u o has A xs.length c] W (IsI (rightE ks.length xs.length s u o has) W) := fun W => right_any ⟨ks.toArray⟩ s u o has A xs.length c (by omega) (by show (ks.length : Int) ≤ _; omega) W
    clear hL hV hD hG hR hkl hxl
    rcases rightE_02 ks.length xs.length s u o has with hq | hq
    · rw [hq] at hcall
      have HC := Lib.hid hcall
      have he : errE ⟨ks, s, u, o, has, xs⟩ e3 = e3 := if_pos hq
      clear hcall
      by_cases h0 : e3 = 0
      · subst h0
        have HF : Hid (endE (⟨ks, s, u, o, has, xs⟩, b3, 0) = (⟨ks, s, u, o, has, xs⟩, b3, 0)) := Lib.hid (if_pos he)
        (have hRv := HRR.out.symm.trans HF.out); (subst hRv)
        clear he hq
        go_wp2_with fail
        refine (HC.out _).mono ?_
        rintro e w5 ⟨rfl, hb⟩
        have HL5 := Lib.hid (HL.out.below hb HL.out.lt)
        have HV5 := Lib.hid (own_below HV.out hb)
        have HD5 := Lib.hid (rd_below HD1.out hb)
        have HG5 := Lib.hid (grown_trans HG1.out (grown_below hb (Nat.le_refl _) (some g)))
        have HR5 := Lib.hid (HR1.out.below hb HR1.out.lt)
        clear hb c0 c1 c2 c3 c4 c5
        go_wp2_with fail
        refine (failed_no g b3 _ HD5.out).mono ?_
        rintro e w' ⟨rfl, rfl⟩
        have c0 : w5.cell? ⟨L, 0, none⟩ = some (.string ⟨ks.toArray⟩) := HL5.out.cell 0
        have c1 : w5.cell? ⟨L, 1, none⟩ = some (.int .i64 s) := HL5.out.cell 1
        have c2 : w5.cell? ⟨L, 2, none⟩ = some (.int .i64 u) := HL5.out.cell 2
        have c3 : w5.cell? ⟨L, 3, none⟩ = some (.int .i64 o) := HL5.out.cell 3
        have c4 : w5.cell? ⟨L, 4, none⟩ = some (.bool has) := HL5.out.cell 4
        have c5 : w5.cell? ⟨L, 5, none⟩ = some (.slice A xs.length c) := HL5.out.cell 5
        have r0 : w5.cell? ⟨w.heap.size, 0, none⟩ = some (.string ⟨#[]⟩) := HR5.out.cell 0
        have r1 : w5.cell? ⟨w.heap.size, 1, none⟩ = some (.int .i64 0) := HR5.out.cell 1
        have r2 : w5.cell? ⟨w.heap.size, 2, none⟩ = some (.int .i64 0) := HR5.out.cell 2
        have r3 : w5.cell? ⟨w.heap.size, 3, none⟩ = some (.int .i64 0) := HR5.out.cell 3
        have r4 : w5.cell? ⟨w.heap.size, 4, none⟩ = some (.bool false) := HR5.out.cell 4
        have r5 : w5.cell? ⟨w.heap.size, 5, none⟩ = some (.slice none 0 0) := HR5.out.cell 5
        have z0 := HR5.out.frozen 0
        have z1 := HR5.out.frozen 1
        have z2 := HR5.out.frozen 2
        have z3 := HR5.out.frozen 3
        have z4 := HR5.out.frozen 4
        have z5 := HR5.out.frozen 5
        go_wp2
        refine bodyPost_ret (v := entV ⟨ks.toArray⟩ s u o has A xs.length c) (by simp [results, Tryz.results204, go_sem, r0, r1, r2, r3, r4, r5]) rfl ⟨A, c, rfl, ?_, ?_, ?_⟩
        · exact own_base (own_put (own_put (own_put (own_put (own_put (own_put HV5.out (by omega) _ _) (by omega) _ _) (by omega) _ _) (by omega) _ _) (by omega) _ _) (by omega) _ _) (by omega)
        · exact rd_put (rd_put (rd_put (rd_put (rd_put (rd_put HD5.out hlt _ _) hlt _ _) hlt _ _) hlt _ _) hlt _ _) hlt _ _
        · exact grown_put (grown_put (grown_put (grown_put (grown_put (grown_put HG5.out (Nat.le_refl _) _ _) (Nat.le_refl _) _ _) (Nat.le_refl _) _ _) (Nat.le_refl _) _ _) (Nat.le_refl _) _ _) (Nat.le_refl _) _ _
      · have HF : Hid (endE (⟨ks, s, u, o, has, xs⟩, b3, e3) = (entP0, b3, e3)) := Lib.hid (by unfold endE; rw [he]; exact if_neg h0)
        (have hRv := HRR.out.symm.trans HF.out); (subst hRv)
        have HN := Lib.hid h0
        clear he hq h0
        go_wp2_with fail
        refine (HC.out _).mono ?_
        rintro e w5 ⟨rfl, hb⟩
        have HD5 := Lib.hid (rd_below HD1.out hb)
        have HG5 := Lib.hid (grown_trans HG1.out (grown_below hb (Nat.le_refl _) (some g)))
        have HR5 := Lib.hid (HR1.out.below hb HR1.out.lt)
        clear hb c0 c1 c2 c3 c4 c5
        go_wp2_with fail
        refine (failed_yes g b3 e3 HN.out _ HD5.out).mono ?_
        rintro e w' ⟨rfl, rfl⟩
        have r0 : w5.cell? ⟨w.heap.size, 0, none⟩ = some (.string ⟨#[]⟩) := HR5.out.cell 0
        have r1 : w5.cell? ⟨w.heap.size, 1, none⟩ = some (.int .i64 0) := HR5.out.cell 1
        have r2 : w5.cell? ⟨w.heap.size, 2, none⟩ = some (.int .i64 0) := HR5.out.cell 2
        have r3 : w5.cell? ⟨w.heap.size, 3, none⟩ = some (.int .i64 0) := HR5.out.cell 3
        have r4 : w5.cell? ⟨w.heap.size, 4, none⟩ = some (.bool false) := HR5.out.cell 4
        have r5 : w5.cell? ⟨w.heap.size, 5, none⟩ = some (.slice none 0 0) := HR5.out.cell 5
        have z0 := HR5.out.frozen 0
        have z1 := HR5.out.frozen 1
        have z2 := HR5.out.frozen 2
        have z3 := HR5.out.frozen 3
        have z4 := HR5.out.frozen 4
        have z5 := HR5.out.frozen 5
        go_wp2
        refine bodyPost_ret (v := entV ⟨#[]⟩ 0 0 0 false none 0 0) (by simp [results, Tryz.results204, go_sem, r0, r1, r2, r3, r4, r5]) rfl ⟨none, 0, rfl, World.ownsRow_nil _ _ _ _, ?_, ?_⟩
        · exact rd_put (rd_put (rd_put (rd_put (rd_put (rd_put HD5.out hlt _ _) hlt _ _) hlt _ _) hlt _ _) hlt _ _) hlt _ _
        · exact grown_put (grown_put (grown_put (grown_put (grown_put (grown_put HG5.out (Nat.le_refl _) _ _) (Nat.le_refl _) _ _) (Nat.le_refl _) _ _) (Nat.le_refl _) _ _) (Nat.le_refl _) _ _) (Nat.le_refl _) _ _
    · rw [hq] at hcall
      have HC := Lib.hid hcall
      have he : errE ⟨ks, s, u, o, has, xs⟩ e3 = if e3 = 0 then 11 else e3 := if_neg (by show ¬ rightE ks.length xs.length s u o has = 0; rw [hq]; simp)
      clear hcall
      obtain ⟨e4, he4⟩ : ∃ e4, (if e3 = 0 then 11 else e3) = e4 := ⟨_, rfl⟩
      have h4 : e4 ≠ 0 := by rw [← he4]; split <;> omega
      have HF : Hid (endE (⟨ks, s, u, o, has, xs⟩, b3, e3) = (entP0, b3, e4)) := Lib.hid (by unfold endE; rw [he, he4]; exact if_neg h4)
      (have hRv := HRR.out.symm.trans HF.out); (subst hRv)
      have HN := Lib.hid h4
      have HE4 := Lib.hid he4
      clear he hq h4 he4
      go_wp2_with fail
      refine (HC.out _).mono ?_
      rintro e w4 ⟨rfl, hb⟩
      have HD4 := Lib.hid (rd_below HD1.out hb)
      have HG4 := Lib.hid (grown_trans HG1.out (grown_below hb (Nat.le_refl _) (some g)))
      have HR4 := Lib.hid (HR1.out.below hb HR1.out.lt)
      clear hb c0 c1 c2 c3 c4 c5
      go_wp2_with fail
      refine (fail_call g b3 e3 _ HD4.out).mono ?_
      rw [HE4.out]
      rintro e w5 ⟨rfl, hrd, hgr⟩
      have HD5 := Lib.hid hrd
      have HG5 := Lib.hid (grown_trans HG4.out hgr)
      have HR5 := Lib.hid (blk_up HR4.out hgr hlt)
      clear hrd hgr
      go_wp2_with fail
      refine (failed_yes g b3 e4 HN.out _ HD5.out).mono ?_
      rintro e w' ⟨rfl, rfl⟩
      have r0 : w5.cell? ⟨w.heap.size, 0, none⟩ = some (.string ⟨#[]⟩) := HR5.out.cell 0
      have r1 : w5.cell? ⟨w.heap.size, 1, none⟩ = some (.int .i64 0) := HR5.out.cell 1
      have r2 : w5.cell? ⟨w.heap.size, 2, none⟩ = some (.int .i64 0) := HR5.out.cell 2
      have r3 : w5.cell? ⟨w.heap.size, 3, none⟩ = some (.int .i64 0) := HR5.out.cell 3
      have r4 : w5.cell? ⟨w.heap.size, 4, none⟩ = some (.bool false) := HR5.out.cell 4
      have r5 : w5.cell? ⟨w.heap.size, 5, none⟩ = some (.slice none 0 0) := HR5.out.cell 5
      have z0 := HR5.out.frozen 0
      have z1 := HR5.out.frozen 1
      have z2 := HR5.out.frozen 2
      have z3 := HR5.out.frozen 3
      have z4 := HR5.out.frozen 4
      have z5 := HR5.out.frozen 5
      go_wp2
      refine bodyPost_ret (v := entV ⟨#[]⟩ 0 0 0 false none 0 0) (by simp [results, Tryz.results204, go_sem, r0, r1, r2, r3, r4, r5]) rfl ⟨none, 0, rfl, World.ownsRow_nil _ _ _ _, ?_, ?_⟩
      · exact rd_put (rd_put (rd_put (rd_put (rd_put (rd_put HD5.out hlt _ _) hlt _ _) hlt _ _) hlt _ _) hlt _ _) hlt _ _
      · exact grown_put (grown_put (grown_put (grown_put (grown_put (grown_put HG5.out (Nat.le_refl _) _ _) (Nat.le_refl _) _ _) (Nat.le_refl _) _ _) (Nat.le_refl _) _ _) (Nat.le_refl _) _ _) (Nat.le_refl _) _ _
end Go.Proofs.YtkdpfjenjcpcfaaGreatDoor
namespace Go.Proofs.YtkdpfjenjcpcfaaGreatDoor
open Go.RowKit Mem Be
set_option maxRecDepth 10000
set_option maxHeartbeats 4000000
theorem getB_of {m : Int} {bs : List UInt8} {x : Int} {k : Nat} {e : Int} (hg : getN bs = (x, k, e)) : getB m bs = if e = 0 ∧ (x < 0 ∨ m ≤ x) then (0, 0, 11) else (x, k, e) := by unfold getB; rw [hg]
theorem refgetnum_any (B c n at_ : Nat) (m : Int) (A : Option Addr) (bs : List UInt8) (w : World) (h : Row w B A (bs.map byteV)) (hn : n = bs.length) (hl : n ≤ 1073741824) :
    Calls Tryz.prog 162 #[.slice A n c, .int .i64 at_, .int .i64 m] w (At3 (getB (m + 1) (bs.drop at_)) at_ w) := by
  obtain ⟨x, k, e, hg⟩ : ∃ x k e, getN (bs.drop at_) = (x, k, e) := ⟨_, _, _, rfl⟩
  have HC : Hid (Calls Tryz.prog 161 #[.slice A n c, .int .i64 at_] w (At3 (x, k, e) at_ w)) := Lib.hid (by rw [← hg]; exact refget_any B c n at_ A bs w h hn hl)
  have hB := getB_of (m := m + 1) hg
  clear hg h hn
  by_cases h0 : e = 0
  · subst h0
    cases hr : inR x m
    · have HB : Hid (getB (m + 1) (bs.drop at_) = (0, 0, 11)) := Lib.hid (by rw [hB, if_pos ⟨rfl, by have := inR_no hr; omega⟩])
      have HR := Lib.hid hr
      clear hB hr
      go_enter Tryz.func162, Tryz.ntmps162
      go_wp2_with (first | (go_at_call 161; refine HC.out.mono ?_; rintro e w' ⟨rfl, rfl⟩; unfold three) | (go_at_call 85; refine (within_val _ _ _ (by assumption) _).mono ?_; rintro e w' ⟨rfl, rfl⟩))
      go_ret3
      exact at3_end HB.out rfl (by omega) w
    · have HB : Hid (getB (m + 1) (bs.drop at_) = (x, k, 0)) := Lib.hid (by rw [hB, if_neg (by rintro ⟨_, h⟩; have := inR_yes hr; omega)])
      have HR := Lib.hid hr
      clear hB hr
      go_enter Tryz.func162, Tryz.ntmps162
      go_wp2_with (first | (go_at_call 161; refine HC.out.mono ?_; rintro e w' ⟨rfl, rfl⟩; unfold three) | (go_at_call 85; refine (within_val _ _ _ (by assumption) _).mono ?_; rintro e w' ⟨rfl, rfl⟩))
      go_ret3
      exact at3_end HB.out rfl rfl w
  · have HB : Hid (getB (m + 1) (bs.drop at_) = (x, k, e)) := Lib.hid (by rw [hB, if_neg (by rintro ⟨h, _⟩; exact h0 h)])
    have hb : (e == 0) = false := by simpa using h0
    clear hB h0
    go_enter Tryz.func162, Tryz.ntmps162
    go_wp2_with (go_at_call 161; refine HC.out.mono ?_; rintro e w' ⟨rfl, rfl⟩; unfold three)
    go_ret3
    exact at3_end HB.out rfl rfl w
/-- A truth at a place. -/
def AtT (r : Bool × Nat × Int) (at_ : Nat) (w : World) (e : Ending) (w' : World) : Prop := e = .returned (.tuple #[.bool r.1, .int .i64 ((at_ + r.2.1 : Nat) : Int), .int .i64 r.2.2]) ∧ w = w'
theorem att_end {r : Bool × Nat × Int} {b : Bool} {k : Nat} {e : Int} (hr : r = (b, k, e)) {at_ : Nat} {b' : Bool} {k' : Int} (h1 : b' = b) (h2 : k' = ((at_ + k : Nat) : Int)) (w : World) : AtT r at_ w (.returned (.tuple #[.bool b', .int .i64 k', .int .i64 e])) w := by
  subst hr; subst h1; subst h2; exact ⟨rfl, rfl⟩
theorem refgettruth_any (B c n at_ : Nat) (A : Option Addr) (bs : List UInt8) (w : World) (h : Row w B A (bs.map byteV)) (hn : n = bs.length) (hl : n ≤ 1073741824) :
    Calls Tryz.prog 163 #[.slice A n c, .int .i64 at_] w (AtT (getT (bs.drop at_)) at_ w) := by
  subst hn
  rcases Nat.lt_or_ge at_ bs.length with ha | ha
  · obtain ⟨b, o, rfl, _, hcell⟩ := h.open_ (by simp; omega)
    have h0 : w.cell? ⟨b, o + at_, none⟩ = some (.int .u8 (bs[at_].toNat : Int)) := (hcell at_ (by simpa using ha)).trans (congrArg some (by rw [List.getElem_map]; rfl))
    obtain ⟨b0, rest, hd⟩ : ∃ b0 rest, bs.drop at_ = b0 :: rest := ⟨_, _, List.drop_eq_getElem_cons ha⟩
    have hb0 : bs[at_] = b0 := by
      have := List.drop_eq_getElem_cons ha
      rw [hd] at this
      exact (List.cons.inj this).1.symm
    rw [hb0] at h0
    rw [hd]
    have hai : (at_ : Int) < (bs.length : Int) := by omega
    have hal : (bs.length : Int) ≤ 1073741824 := by omega
    have hlt := b0.toNat_lt
    clear hcell h hd hb0
    by_cases h1 : 1 < b0.toNat
    · have HG : Hid (getT (b0 :: rest) = (false, 0, 11)) := Lib.hid (by unfold getT; rw [if_neg (by simp), if_pos (by simpa using h1)])
      have hl2 : (1 : Int) < (b0.toNat : Int) := by omega
      clear h1
      go_enter Tryz.func163, Tryz.ntmps163
      go_wp2
      go_ret3
      exact att_end HG.out rfl (by omega) w
    · have HG : Hid (getT (b0 :: rest) = (b0.toNat == 1, 1, 0)) := Lib.hid (by unfold getT; rw [if_neg (by simp), if_neg (by simpa using h1)]; rfl)
      have hl2 : (b0.toNat : Int) ≤ 1 := by omega
      clear h1
      go_enter Tryz.func163, Tryz.ntmps163
      go_wp2
      go_ret3
      have e : (((b0.toNat : Int)) == 1) = (b0.toNat == 1) := by rw [Bool.eq_iff_iff]; simp; omega
      exact att_end HG.out e (by omega) w
  · rw [List.drop_of_length_le ha]
    have hai : (bs.length : Int) ≤ (at_ : Int) := by omega
    clear h
    go_enter Tryz.func163, Tryz.ntmps163
    go_wp2
    go_ret3
    exact att_end (show getT [] = (false, 0, 12) from rfl) rfl (by omega) w
end Go.Proofs.YtkdpfjenjcpcfaaGreatDoor
namespace Go.Proofs.YtkdpfjenjcpcfaaGreatDoor
open Go.RowKit Mem Be
set_option maxRecDepth 100000
set_option maxHeartbeats 8000000
/-- What the document reads: the entry, the place behind, what is wrong. -/
def refE (bs : List UInt8) : EntP × Nat × Int :=
  let r := getR bs
  if r.2.2 ≠ 0 then (entP0, 0, r.2.2) else
  let a := getB 1099511627776 (bs.drop r.2.1)
  if a.2.2 ≠ 0 then (entP0, 0, a.2.2) else
  let b := getB 1048576 (bs.drop (r.2.1 + a.2.1))
  if b.2.2 ≠ 0 then (entP0, 0, b.2.2) else
  let c := getB 1048576 (bs.drop (r.2.1 + a.2.1 + b.2.1))
  if c.2.2 ≠ 0 then (entP0, 0, c.2.2) else
  let t := getT (bs.drop (r.2.1 + a.2.1 + b.2.1 + c.2.1))
  if t.2.2 ≠ 0 then (entP0, 0, t.2.2) else
  if t.1 = true then
    let v := getR (bs.drop (r.2.1 + a.2.1 + b.2.1 + c.2.1 + t.2.1))
    if v.2.2 ≠ 0 then (entP0, 0, v.2.2) else
    if rightE r.1.length v.1.length a.1 b.1 c.1 true ≠ 0 then (entP0, 0, 11) else (⟨r.1, a.1, b.1, c.1, true, v.1⟩, r.2.1 + a.2.1 + b.2.1 + c.2.1 + t.2.1 + v.2.1, 0)
  else
    if rightE r.1.length 0 a.1 b.1 c.1 false ≠ 0 then (entP0, 0, 11) else (⟨r.1, a.1, b.1, c.1, false, []⟩, r.2.1 + a.2.1 + b.2.1 + c.2.1 + t.2.1, 0)
def RefGot (r : EntP × Nat × Int) (w : World) (E : Ending) (w' : World) : Prop :=
  ∃ A c, E = .returned (.tuple #[entV ⟨r.1.k.toArray⟩ r.1.s r.1.u r.1.o r.1.has A r.1.v.length c, .int .i64 (r.2.1 : Int), .int .i64 r.2.2]) ∧ w'.ownsRow w.heap.size 5 1 (.slice A r.1.v.length c) r.1.v.length (r.1.v.map byteV) ∧ Below w.heap.size w w'
theorem refgot_err {r : EntP × Nat × Int} {e : Int} (hr : r = (entP0, 0, e)) {w w' : World} (hb : Below w.heap.size w w') : RefGot r w (.returned (.tuple #[entV ⟨#[]⟩ 0 0 0 false none 0 0, .int .i64 0, .int .i64 e])) w' := by
  subst hr; exact ⟨none, 0, rfl, World.ownsRow_nil _ _ _ _, hb⟩
theorem below_res (w : World) (o1 o2 : Obj) (v0 v1 v2 v3 v4 v5 : Value) : Below w.heap.size w ((((((((w.alloc o1).alloc o2).setCell ⟨w.heap.size, 0, none⟩ v0).setCell ⟨w.heap.size, 1, none⟩ v1).setCell ⟨w.heap.size, 2, none⟩ v2).setCell ⟨w.heap.size, 3, none⟩ v3).setCell ⟨w.heap.size, 4, none⟩ v4).setCell ⟨w.heap.size, 5, none⟩ v5) :=
  below_set (below_set (below_set (below_set (below_set (below_set (((Below.refl _ _).alloc (Nat.le_refl _) _).alloc (by simp) _) (Nat.le_refl _) _ _) (Nat.le_refl _) _ _) (Nat.le_refl _) _ _) (Nat.le_refl _) _ _) (Nat.le_refl _) _ _) (Nat.le_refl _) _ _
theorem blk_at {w : World} {g g' : Nat} {t : TypeId} {cs : Array Value} (e : g = g') (h : Blk w g t cs) : Blk w g' t cs := by subst e; exact h
theorem below_res5 {w w5 : World} {v0 v1 v2 v3 v4 v5 : Value} (hb : Below w.heap.size w w5) : Below w.heap.size w ((((((w5.setCell ⟨w.heap.size, 0, none⟩ v0).setCell ⟨w.heap.size, 1, none⟩ v1).setCell ⟨w.heap.size, 2, none⟩ v2).setCell ⟨w.heap.size, 3, none⟩ v3).setCell ⟨w.heap.size, 4, none⟩ v4).setCell ⟨w.heap.size, 5, none⟩ v5) :=
  below_set (below_set (below_set (below_set (below_set (below_set hb (Nat.le_refl _) _ _) (Nat.le_refl _) _ _) (Nat.le_refl _) _ _) (Nat.le_refl _) _ _) (Nat.le_refl _) _ _) (Nat.le_refl _) _ _
theorem refgot_ok {r : EntP × Nat × Int} {ks xs : List UInt8} {s u o : Int} {has : Bool} {q : Nat} (hr : r = (⟨ks, s, u, o, has, xs⟩, q, 0)) {w w5 : World} {A : Option Addr} {c n : Nat} {v0 v1 v2 v3 v4 v5 : Value} (hn : n = xs.length) (ho : w5.ownsRow (w.heap.size + 1) 5 1 (.slice A n c) n (xs.map byteV)) (hb : Below w.heap.size w w5) :
    RefGot r w (.returned (.tuple #[entV ⟨ks.toArray⟩ s u o has A n c, .int .i64 q, .int .i64 0])) ((((((w5.setCell ⟨w.heap.size, 0, none⟩ v0).setCell ⟨w.heap.size, 1, none⟩ v1).setCell ⟨w.heap.size, 2, none⟩ v2).setCell ⟨w.heap.size, 3, none⟩ v3).setCell ⟨w.heap.size, 4, none⟩ v4).setCell ⟨w.heap.size, 5, none⟩ v5) := by
  subst hr; subst hn
  exact ⟨A, c, rfl, own_base (own_put (own_put (own_put (own_put (own_put (own_put ho (by omega) _ _) (by omega) _ _) (by omega) _ _) (by omega) _ _) (by omega) _ _) (by omega) _ _) (by omega), below_res5 hb⟩
def RowAt (B : Nat) (x : List UInt8) (q : Nat) (e : Int) (w : World) (E : Ending) (w' : World) : Prop := ∃ A c, E = .returned (.tuple #[.slice A x.length c, .int .i64 (q : Int), .int .i64 e]) ∧ Row w B A (x.map byteV) ∧ w = w'
theorem row_at {B c n p q k : Nat} {A : Option Addr} {bs x : List UInt8} {e : Int} {w : World} (h : Row w B A (bs.map byteV)) (hn : n = bs.length) (hl : n ≤ 1000000) (hc : n ≤ c) (hp : p ≤ n) (hr : getR (bs.drop p) = (x, k, e)) (hq : p + k = q) :
    Calls Tryz.prog 134 #[.slice A n c, .int .i64 (p : Int)] w (RowAt B x q e w) :=
  (refgetrow_any B c n p A bs w h hn (by omega) hc hp).mono fun _ _ ⟨A1, c1, he, h1, h2⟩ => by
    rw [hr] at he h1
    exact ⟨A1, c1, by rw [he, ← hq], h1, h2⟩
theorem num_at {B c n p q k : Nat} {m : Int} {A : Option Addr} {bs : List UInt8} {x e : Int} {w : World} (h : Row w B A (bs.map byteV)) (hn : n = bs.length) (hl : n ≤ 1000000) (hr : getB (m + 1) (bs.drop p) = (x, k, e)) (hq : p + k = q) :
    Calls Tryz.prog 162 #[.slice A n c, .int .i64 (p : Int), .int .i64 m] w fun E w' => E = .returned (.tuple #[.int .i64 x, .int .i64 (q : Int), .int .i64 e]) ∧ w = w' :=
  (refgetnum_any B c n p m A bs w h hn (by omega)).mono fun _ _ ⟨he, h2⟩ => by
    rw [hr] at he
    exact ⟨by rw [he, ← hq]; rfl, h2⟩
theorem truth_at {B c n p q k : Nat} {A : Option Addr} {bs : List UInt8} {x : Bool} {e : Int} {w : World} (h : Row w B A (bs.map byteV)) (hn : n = bs.length) (hl : n ≤ 1000000) (hr : getT (bs.drop p) = (x, k, e)) (hq : p + k = q) :
    Calls Tryz.prog 163 #[.slice A n c, .int .i64 (p : Int)] w fun E w' => E = .returned (.tuple #[.bool x, .int .i64 (q : Int), .int .i64 e]) ∧ w = w' :=
  (refgettruth_any B c n p A bs w h hn (by omega)).mono fun _ _ ⟨he, h2⟩ => by
    rw [hr] at he
    exact ⟨by rw [he, ← hq], h2⟩
theorem refgete_any (n c : Nat) (A : Option Addr) (bs : List UInt8) (hn : n = bs.length) (hl : n ≤ 1000000) (hc : n ≤ c) (w : World) (h : Row w w.heap.size A (bs.map byteV)) :
    Calls Tryz.prog 135 #[.slice A n c, .int .i64 0] w (RefGot (refE bs) w) := by
  obtain ⟨i0, hi0, hz0, hz1, hz2⟩ := info_parts info_b
  obtain ⟨⟨ks, k1, e1⟩, h1⟩ : ∃ y, getR bs = y := ⟨_, rfl⟩
  obtain ⟨⟨s, k2, e2⟩, h2⟩ : ∃ y, getB 1099511627776 (bs.drop k1) = y := ⟨_, rfl⟩
  obtain ⟨⟨u, k3, e3⟩, h3⟩ : ∃ y, getB 1048576 (bs.drop (k1 + k2)) = y := ⟨_, rfl⟩
  obtain ⟨⟨o, k4, e4⟩, h4⟩ : ∃ y, getB 1048576 (bs.drop (k1 + k2 + k3)) = y := ⟨_, rfl⟩
  obtain ⟨⟨has, k5, e5⟩, h5⟩ : ∃ y, getT (bs.drop (k1 + k2 + k3 + k4)) = y := ⟨_, rfl⟩
  obtain ⟨⟨xs, k6, e6⟩, h6⟩ : ∃ y, getR (bs.drop (k1 + k2 + k3 + k4 + k5)) = y := ⟨_, rfl⟩
  have hE : refE bs = if e1 ≠ 0 then (entP0, 0, e1) else if e2 ≠ 0 then (entP0, 0, e2) else if e3 ≠ 0 then (entP0, 0, e3) else if e4 ≠ 0 then (entP0, 0, e4) else if e5 ≠ 0 then (entP0, 0, e5) else
      if has = true then (if e6 ≠ 0 then (entP0, 0, e6) else if rightE ks.length xs.length s u o true ≠ 0 then (entP0, 0, 11) else (⟨ks, s, u, o, true, xs⟩, k1 + k2 + k3 + k4 + k5 + k6, 0))
      else (if rightE ks.length 0 s u o false ≠ 0 then (entP0, 0, 11) else (⟨ks, s, u, o, false, []⟩, k1 + k2 + k3 + k4 + k5, 0)) := by
    unfold refE; simp only [h1, h2, h3, h4, h5, h6]
  have l1 := getR_err bs
  have l2 := getB_err 1099511627776 (bs.drop k1)
  have l3 := getB_err 1048576 (bs.drop (k1 + k2))
  have l4 := getB_err 1048576 (bs.drop (k1 + k2 + k3))
  have l5 := getT_err (bs.drop (k1 + k2 + k3 + k4))
  have l6 := getR_len bs
  have l7 := getR_len (bs.drop (k1 + k2 + k3 + k4 + k5))
  rw [h1] at l1 l6
  rw [h2] at l2
  rw [h3] at l3
  rw [h4] at l4
  rw [h5] at l5
  rw [h6] at l7
  simp only [List.length_drop] at l1 l2 l3 l4 l5 l6 l7
  have hb0 : Below w.heap.size w ((w.alloc (.cells zeroC 46)).alloc (.cells zeroC 46)) := ((Below.refl _ _).alloc (Nat.le_refl _) _).alloc (by simp) _
  have hr0 := h.below hb0
  obtain ⟨q2, hq2⟩ : ∃ q, k1 + k2 = q := ⟨_, rfl⟩
  rw [hq2] at h3 h4 h5 h6 l3 l4 l5 hE
  obtain ⟨q3, hq3⟩ : ∃ q, q2 + k3 = q := ⟨_, rfl⟩
  rw [hq3] at h4 h5 h6 l4 l5 hE
  obtain ⟨q4, hq4⟩ : ∃ q, q3 + k4 = q := ⟨_, rfl⟩
  rw [hq4] at h5 h6 l5 hE
  obtain ⟨q5, hq5⟩ : ∃ q, q4 + k5 = q := ⟨_, rfl⟩
  rw [hq5] at h6 hE
  obtain ⟨q6, hq6⟩ : ∃ q, q5 + k6 = q := ⟨_, rfl⟩
  rw [hq6] at hE
  have HC1 := Lib.hid (row_at (p := 0) hr0 hn hl hc (Nat.zero_le _) (by rw [List.drop_zero]; exact h1) (Nat.zero_add k1))
  have HC2 := Lib.hid (num_at (c := c) (m := 1099511627775) hr0 hn hl (by rw [show (1099511627775 : Int) + 1 = 1099511627776 by omega]; exact h2) hq2)
  have HC3 := Lib.hid (num_at (c := c) (m := 1048575) hr0 hn hl (by rw [show (1048575 : Int) + 1 = 1048576 by omega]; exact h3) hq3)
  have HC4 := Lib.hid (num_at (c := c) (m := 1048575) hr0 hn hl (by rw [show (1048575 : Int) + 1 = 1048576 by omega]; exact h4) hq4)
  have HC5 := Lib.hid (truth_at (c := c) hr0 hn hl h5 hq5)
  have HCW : Hid (∀ W, Row W w.heap.size A (bs.map byteV) → q5 ≤ n → Calls Tryz.prog 134 #[.slice A n c, .int .i64 (q5 : Int)] W (RowAt w.heap.size xs q6 e6 W)) := Lib.hid (fun W hW h5n => row_at hW hn hl hc h5n h6 hq6)
  have HROW := Lib.hid h
  have HQ : Hid (e1 = 0 → e2 = 0 → e3 = 0 → e4 = 0 → e5 = 0 → q5 ≤ n) := Lib.hid (by omega)
  have HK := Lib.hid l6
  have HX := Lib.hid l7
  have HE := Lib.hid hE
  have HB0 := Lib.hid hb0
  clear h h1 h2 h3 h4 h5 h6 l1 l2 l3 l4 l5 l6 l7 hr0 hq2 hq3 hq4 hq5 hq6 hn hl hc hE hb0
  go_enter Tryz.func135, Tryz.ntmps135
  go_wp2_with fail
  refine HC1.out.mono ?_
  rintro e w1 ⟨A1, c1, rfl, hrow1, rfl⟩
  have HRK := Lib.hid hrow1
  clear hrow1
  by_cases hx1 : e1 = 0
  case neg =>
    have HV : Hid (refE bs = (entP0, 0, e1)) := Lib.hid (HE.out.trans (if_pos hx1))
    have hne : (e1 != 0) = true := by simpa using hx1
    clear hx1
    go_wp2
    exact bodyPost_ret (v := .tuple #[entV ⟨#[]⟩ 0 0 0 false none 0 0, .int .i64 0, .int .i64 e1]) (by simp [results, Tryz.results135, go_sem]) rfl (refgot_err HV.out HB0.out)
  subst hx1
  go_wp2_with fail
  refine HC2.out.mono ?_
  rintro e w' ⟨rfl, rfl⟩
  by_cases hx2 : e2 = 0
  case neg =>
    have HV : Hid (refE bs = (entP0, 0, e2)) := Lib.hid (HE.out.trans ((if_neg (by simp)).trans (if_pos hx2)))
    have hne : (e2 != 0) = true := by simpa using hx2
    clear hx2
    go_wp2
    exact bodyPost_ret (v := .tuple #[entV ⟨#[]⟩ 0 0 0 false none 0 0, .int .i64 0, .int .i64 e2]) (by simp [results, Tryz.results135, go_sem]) rfl (refgot_err HV.out HB0.out)
  subst hx2
  go_wp2_with fail
  refine HC3.out.mono ?_
  rintro e w' ⟨rfl, rfl⟩
  by_cases hx3 : e3 = 0
  case neg =>
    have HV : Hid (refE bs = (entP0, 0, e3)) := Lib.hid (HE.out.trans ((if_neg (by simp)).trans ((if_neg (by simp)).trans (if_pos hx3))))
    have hne : (e3 != 0) = true := by simpa using hx3
    clear hx3
    go_wp2
    exact bodyPost_ret (v := .tuple #[entV ⟨#[]⟩ 0 0 0 false none 0 0, .int .i64 0, .int .i64 e3]) (by simp [results, Tryz.results135, go_sem]) rfl (refgot_err HV.out HB0.out)
  subst hx3
  go_wp2_with fail
  refine HC4.out.mono ?_
  rintro e w' ⟨rfl, rfl⟩
  by_cases hx4 : e4 = 0
  case neg =>
    have HV : Hid (refE bs = (entP0, 0, e4)) := Lib.hid (HE.out.trans ((if_neg (by simp)).trans ((if_neg (by simp)).trans ((if_neg (by simp)).trans (if_pos hx4)))))
    have hne : (e4 != 0) = true := by simpa using hx4
    clear hx4
    go_wp2
    exact bodyPost_ret (v := .tuple #[entV ⟨#[]⟩ 0 0 0 false none 0 0, .int .i64 0, .int .i64 e4]) (by simp [results, Tryz.results135, go_sem]) rfl (refgot_err HV.out HB0.out)
  subst hx4
  go_wp2_with fail
  refine HC5.out.mono ?_
  rintro e w' ⟨rfl, rfl⟩
  by_cases hx5 : e5 = 0
  case neg =>
    have HV : Hid (refE bs = (entP0, 0, e5)) := Lib.hid (HE.out.trans ((if_neg (by simp)).trans ((if_neg (by simp)).trans ((if_neg (by simp)).trans ((if_neg (by simp)).trans (if_pos hx5))))))
    have hne : (e5 != 0) = true := by simpa using hx5
    clear hx5
    go_wp2
    exact bodyPost_ret (v := .tuple #[entV ⟨#[]⟩ 0 0 0 false none 0 0, .int .i64 0, .int .i64 e5]) (by simp [results, Tryz.results135, go_sem]) rfl (refgot_err HV.out HB0.out)
  subst hx5
  have cv := conv_row (P := Tryz.prog) c1 27 9 5 Tryz.underlying27 Tryz.underlying5 Tryz.underlying9 HRK.out
  have HV0 : Hid (refE bs = if has = true then (if e6 ≠ 0 then (entP0, 0, e6) else if rightE ks.length xs.length s u o true ≠ 0 then (entP0, 0, 11) else (⟨ks, s, u, o, true, xs⟩, q6, 0))
      else (if rightE ks.length 0 s u o false ≠ 0 then (entP0, 0, 11) else (⟨ks, s, u, o, false, []⟩, q5, 0))) := Lib.hid (HE.out.trans ((if_neg (by simp)).trans ((if_neg (by simp)).trans ((if_neg (by simp)).trans ((if_neg (by simp)).trans (if_neg (by simp)))))))
  have hl0 := HQ.out (by simp) (by simp) (by simp) (by simp) (by simp)
  cases has
  · have HF : Hid (refE bs = if rightE ks.length 0 s u o false ≠ 0 then (entP0, 0, 11) else (⟨ks, s, u, o, false, []⟩, q5, 0)) := Lib.hid (HV0.out.trans (if_neg (by simp)))
    have HBX : Hid (Below w.heap.size w (((w.alloc (.cells zeroC 46)).alloc (.cells zeroC 46)).alloc (.cells #[.string ⟨ks.toArray⟩, .int .i64 s, .int .i64 u, .int .i64 o, .bool false, .slice none 0 0] 46))) := Lib.hid (HB0.out.alloc HB0.out.size _)
    have HRX : Hid (Blk (((w.alloc (.cells zeroC 46)).alloc (.cells zeroC 46)).alloc (.cells #[.string ⟨ks.toArray⟩, .int .i64 s, .int .i64 u, .int .i64 o, .bool false, .slice none 0 0] 46)) w.heap.size 46 zeroC) := Lib.hid (((Blk.new w _ _).alloc _).alloc _)
    have HNX : Hid (Blk (((w.alloc (.cells zeroC 46)).alloc (.cells zeroC 46)).alloc (.cells #[.string ⟨ks.toArray⟩, .int .i64 s, .int .i64 u, .int .i64 o, .bool false, .slice none 0 0] 46)) (w.heap.size + 1) 46 zeroC) := Lib.hid (blk_at (by simp) ((Blk.new (w.alloc _) _ _).alloc _))
    have HLX : Hid (Blk (((w.alloc (.cells zeroC 46)).alloc (.cells zeroC 46)).alloc (.cells #[.string ⟨ks.toArray⟩, .int .i64 s, .int .i64 u, .int .i64 o, .bool false, .slice none 0 0] 46)) (w.heap.size + 2) 46 #[.string ⟨ks.toArray⟩, .int .i64 s, .int .i64 u, .int .i64 o, .bool false, .slice none 0 0]) := Lib.hid (blk_at (by simp) (Blk.new _ _ _))
    have hcall : ∀ W, Calls Tryz.prog 30 #[entV ⟨ks.toArray⟩ s u o false none 0 0] W (IsI (rightE ks.length 0 s u o false) W) := fun W => refright_any ⟨ks.toArray⟩ s u o false none 0 0 (by omega) (by show (ks.length : Int) ≤ _; have := HK.out; omega) W
    clear hl0
    rcases rightE_02 ks.length 0 s u o false with hq | hq
    · have HV : Hid (refE bs = (⟨ks, s, u, o, false, []⟩, q5, 0)) := Lib.hid (HF.out.trans (if_neg (by rw [hq]; simp)))
      rw [hq] at hcall
      have HC := Lib.hid hcall
      clear hcall hq
      go_wp2_with fail
      refine (HC.out _).mono ?_
      rintro e w5 ⟨rfl, hb⟩
      have HL5 := Lib.hid (HLX.out.below hb HLX.out.lt)
      have HR5 := Lib.hid (HRX.out.below hb HRX.out.lt)
      have HB5 : Hid (Below w.heap.size w w5) := Lib.hid (HBX.out.trans (hb.mono HBX.out.size))
      clear hb
      have c0 : w5.cell? ⟨w.heap.size + 2, 0, none⟩ = some (.string ⟨ks.toArray⟩) := HL5.out.cell 0
      have c1 : w5.cell? ⟨w.heap.size + 2, 1, none⟩ = some (.int .i64 s) := HL5.out.cell 1
      have c2 : w5.cell? ⟨w.heap.size + 2, 2, none⟩ = some (.int .i64 u) := HL5.out.cell 2
      have c3 : w5.cell? ⟨w.heap.size + 2, 3, none⟩ = some (.int .i64 o) := HL5.out.cell 3
      have c4 : w5.cell? ⟨w.heap.size + 2, 4, none⟩ = some (.bool false) := HL5.out.cell 4
      have c5 : w5.cell? ⟨w.heap.size + 2, 5, none⟩ = some (.slice none 0 0) := HL5.out.cell 5
      have r0 : w5.cell? ⟨w.heap.size, 0, none⟩ = some (.string ⟨#[]⟩) := HR5.out.cell 0
      have r1 : w5.cell? ⟨w.heap.size, 1, none⟩ = some (.int .i64 0) := HR5.out.cell 1
      have r2 : w5.cell? ⟨w.heap.size, 2, none⟩ = some (.int .i64 0) := HR5.out.cell 2
      have r3 : w5.cell? ⟨w.heap.size, 3, none⟩ = some (.int .i64 0) := HR5.out.cell 3
      have r4 : w5.cell? ⟨w.heap.size, 4, none⟩ = some (.bool false) := HR5.out.cell 4
      have r5 : w5.cell? ⟨w.heap.size, 5, none⟩ = some (.slice none 0 0) := HR5.out.cell 5
      have z0 := HR5.out.frozen 0
      have z1 := HR5.out.frozen 1
      have z2 := HR5.out.frozen 2
      have z3 := HR5.out.frozen 3
      have z4 := HR5.out.frozen 4
      have z5 := HR5.out.frozen 5
      go_wp2
      exact bodyPost_ret (v := .tuple #[entV ⟨ks.toArray⟩ s u o false none 0 0, .int .i64 q5, .int .i64 0]) (by simp [results, Tryz.results135, go_sem, r0, r1, r2, r3, r4, r5]) rfl (refgot_ok HV.out rfl (World.ownsRow_nil _ _ _ _) HB5.out)
    · have HV : Hid (refE bs = (entP0, 0, 11)) := Lib.hid (HF.out.trans (if_pos (by rw [hq]; simp)))
      rw [hq] at hcall
      have HC := Lib.hid hcall
      clear hcall hq
      go_wp2_with fail
      refine (HC.out _).mono ?_
      rintro e w5 ⟨rfl, hb⟩
      have HN5 := Lib.hid (HNX.out.below hb HNX.out.lt)
      have HR5 := Lib.hid (HRX.out.below hb HRX.out.lt)
      have HB5 : Hid (Below w.heap.size w w5) := Lib.hid (HBX.out.trans (hb.mono HBX.out.size))
      clear hb
      have d0 : w5.cell? ⟨w.heap.size + 1, 0, none⟩ = some (.string ⟨#[]⟩) := HN5.out.cell 0
      have d1 : w5.cell? ⟨w.heap.size + 1, 1, none⟩ = some (.int .i64 0) := HN5.out.cell 1
      have d2 : w5.cell? ⟨w.heap.size + 1, 2, none⟩ = some (.int .i64 0) := HN5.out.cell 2
      have d3 : w5.cell? ⟨w.heap.size + 1, 3, none⟩ = some (.int .i64 0) := HN5.out.cell 3
      have d4 : w5.cell? ⟨w.heap.size + 1, 4, none⟩ = some (.bool false) := HN5.out.cell 4
      have d5 : w5.cell? ⟨w.heap.size + 1, 5, none⟩ = some (.slice none 0 0) := HN5.out.cell 5
      have r0 : w5.cell? ⟨w.heap.size, 0, none⟩ = some (.string ⟨#[]⟩) := HR5.out.cell 0
      have r1 : w5.cell? ⟨w.heap.size, 1, none⟩ = some (.int .i64 0) := HR5.out.cell 1
      have r2 : w5.cell? ⟨w.heap.size, 2, none⟩ = some (.int .i64 0) := HR5.out.cell 2
      have r3 : w5.cell? ⟨w.heap.size, 3, none⟩ = some (.int .i64 0) := HR5.out.cell 3
      have r4 : w5.cell? ⟨w.heap.size, 4, none⟩ = some (.bool false) := HR5.out.cell 4
      have r5 : w5.cell? ⟨w.heap.size, 5, none⟩ = some (.slice none 0 0) := HR5.out.cell 5
      have z0 := HR5.out.frozen 0
      have z1 := HR5.out.frozen 1
      have z2 := HR5.out.frozen 2
      have z3 := HR5.out.frozen 3
      have z4 := HR5.out.frozen 4
      have z5 := HR5.out.frozen 5
      go_wp2
      exact bodyPost_ret (v := .tuple #[entV ⟨#[]⟩ 0 0 0 false none 0 0, .int .i64 0, .int .i64 11]) (by simp [results, Tryz.results135, go_sem, r0, r1, r2, r3, r4, r5]) rfl (refgot_err HV.out (below_res5 HB5.out))
  · have HF0 : Hid (refE bs = if e6 ≠ 0 then (entP0, 0, e6) else if rightE ks.length xs.length s u o true ≠ 0 then (entP0, 0, 11) else (⟨ks, s, u, o, true, xs⟩, q6, 0)) := Lib.hid (HV0.out.trans (if_pos (by simp)))
    have HBX : Hid (Below w.heap.size w (((w.alloc (.cells zeroC 46)).alloc (.cells zeroC 46)).alloc (.cells #[.string ⟨ks.toArray⟩, .int .i64 s, .int .i64 u, .int .i64 o, .bool true, .slice none 0 0] 46))) := Lib.hid (HB0.out.alloc HB0.out.size _)
    have HRX : Hid (Blk (((w.alloc (.cells zeroC 46)).alloc (.cells zeroC 46)).alloc (.cells #[.string ⟨ks.toArray⟩, .int .i64 s, .int .i64 u, .int .i64 o, .bool true, .slice none 0 0] 46)) w.heap.size 46 zeroC) := Lib.hid (((Blk.new w _ _).alloc _).alloc _)
    have HNX : Hid (Blk (((w.alloc (.cells zeroC 46)).alloc (.cells zeroC 46)).alloc (.cells #[.string ⟨ks.toArray⟩, .int .i64 s, .int .i64 u, .int .i64 o, .bool true, .slice none 0 0] 46)) (w.heap.size + 1) 46 zeroC) := Lib.hid (blk_at (by simp) ((Blk.new (w.alloc _) _ _).alloc _))
    have HLX : Hid (Blk (((w.alloc (.cells zeroC 46)).alloc (.cells zeroC 46)).alloc (.cells #[.string ⟨ks.toArray⟩, .int .i64 s, .int .i64 u, .int .i64 o, .bool true, .slice none 0 0] 46)) (w.heap.size + 2) 46 #[.string ⟨ks.toArray⟩, .int .i64 s, .int .i64 u, .int .i64 o, .bool true, .slice none 0 0]) := Lib.hid (blk_at (by simp) (Blk.new _ _ _))
    have HC6 := Lib.hid (HCW.out (((w.alloc (.cells zeroC 46)).alloc (.cells zeroC 46)).alloc (.cells #[.string ⟨ks.toArray⟩, .int .i64 s, .int .i64 u, .int .i64 o, .bool true, .slice none 0 0] 46)) (HROW.out.below HBX.out) hl0)
    clear hl0
    go_wp2_with fail
    refine HC6.out.mono ?_
    rintro e w6 ⟨A6, c6, rfl, hrow6, rfl⟩
    have HX6 := Lib.hid hrow6
    clear hrow6
    by_cases hx6 : e6 = 0
    case neg =>
      have HV : Hid (refE bs = (entP0, 0, e6)) := Lib.hid (HF0.out.trans (if_pos hx6))
      have hne : (e6 != 0) = true := by simpa using hx6
      clear hx6
      go_wp2
      exact bodyPost_ret (v := .tuple #[entV ⟨#[]⟩ 0 0 0 false none 0 0, .int .i64 0, .int .i64 e6]) (by simp [results, Tryz.results135, go_sem]) rfl (refgot_err HV.out HBX.out)
    subst hx6
    have HF : Hid (refE bs = if rightE ks.length xs.length s u o true ≠ 0 then (entP0, 0, 11) else (⟨ks, s, u, o, true, xs⟩, q6, 0)) := Lib.hid (HF0.out.trans (if_neg (by simp)))
    go_wp2_with (at_builtin; refine wpList_app _ rfl _ _ 27 rfl (w.heap.size + 3) 5 i0 (.int .u8 0) 1 Tryz.underlying27 hi0 hz0 hz1 hz2 rfl (.slice none 0 0) 0 [] rfl (World.ownsRow_nil _ _ _ _) w.heap.size _ xs.length c6 (xs.map byteV) rfl (by simp) HX6.out (byte_one xs) (by have := HX.out; unfold maxLen; omega) (by have := HX.out; omega) (by simp) ?_)
    intro v' w3 hown hgr _
    obtain ⟨A7, c7, rfl, ho7⟩ := own_of xs hown (by simp)
    have hb3 : Below (((w.alloc (.cells zeroC 46)).alloc (.cells zeroC 46)).alloc (.cells #[.string ⟨ks.toArray⟩, .int .i64 s, .int .i64 u, .int .i64 o, .bool true, .slice none 0 0] 46)).heap.size (((w.alloc (.cells zeroC 46)).alloc (.cells zeroC 46)).alloc (.cells #[.string ⟨ks.toArray⟩, .int .i64 s, .int .i64 u, .int .i64 o, .bool true, .slice none 0 0] 46)) w3 := ⟨hgr.os, hgr.tape, hgr.output, hgr.size, fun k hk => hgr.block k hk (by simp [Value.ownBlock])⟩
    have HO3 := Lib.hid ho7
    have HL3 := Lib.hid (HLX.out.below hb3 (by simp))
    have HN3 := Lib.hid (HNX.out.below hb3 (by simp))
    have HR3 := Lib.hid (HRX.out.below hb3 (by simp; omega))
    have HB3 : Hid (Below w.heap.size w w3) := Lib.hid (HBX.out.trans (hb3.mono HBX.out.size))
    clear hown hgr ho7 hb3
    have c0 : w3.cell? ⟨w.heap.size + 2, 0, none⟩ = some (.string ⟨ks.toArray⟩) := HL3.out.cell 0
    have c1x : w3.cell? ⟨w.heap.size + 2, 1, none⟩ = some (.int .i64 s) := HL3.out.cell 1
    have c2 : w3.cell? ⟨w.heap.size + 2, 2, none⟩ = some (.int .i64 u) := HL3.out.cell 2
    have c3 : w3.cell? ⟨w.heap.size + 2, 3, none⟩ = some (.int .i64 o) := HL3.out.cell 3
    have c4 : w3.cell? ⟨w.heap.size + 2, 4, none⟩ = some (.bool true) := HL3.out.cell 4
    have c5 : w3.cell? ⟨w.heap.size + 2, 5, none⟩ = some (.slice none 0 0) := HL3.out.cell 5
    have y5 := HL3.out.frozen 5
    have hcall : ∀ W, Calls Tryz.prog 30 #[entV ⟨ks.toArray⟩ s u o true A7 xs.length c7] W (IsI (rightE ks.length xs.length s u o true) W) := fun W => refright_any ⟨ks.toArray⟩ s u o true A7 xs.length c7 (by have := HX.out; omega) (by show (ks.length : Int) ≤ _; have := HK.out; omega) W
    have HO4 := Lib.hid (own_put HO3.out (g := w.heap.size + 2) (by omega) 5 (.slice A7 xs.length c7))
    have HL4 := Lib.hid (HL3.out.set_ 5 (.slice A7 xs.length c7))
    have HN4 := Lib.hid (HN3.out.far (p := ⟨w.heap.size + 2, 5, none⟩) (by show w.heap.size + 1 ≠ w.heap.size + 2; omega) (.slice A7 xs.length c7))
    have HR4 := Lib.hid (HR3.out.far (p := ⟨w.heap.size + 2, 5, none⟩) (by show w.heap.size ≠ w.heap.size + 2; omega) (.slice A7 xs.length c7))
    have HB4 := Lib.hid (below_set HB3.out (g := w.heap.size + 2) (by omega) 5 (.slice A7 xs.length c7))
    rcases rightE_02 ks.length xs.length s u o true with hq | hq
    · have HV : Hid (refE bs = (⟨ks, s, u, o, true, xs⟩, q6, 0)) := Lib.hid (HF.out.trans (if_neg (by rw [hq]; simp)))
      rw [hq] at hcall
      have HC := Lib.hid hcall
      clear hcall hq
      go_wp2_with fail
      refine (HC.out _).mono ?_
      rintro e w5 ⟨rfl, hb⟩
      have HL5 : Hid (Blk w5 (w.heap.size + 2) 46 #[.string ⟨ks.toArray⟩, .int .i64 s, .int .i64 u, .int .i64 o, .bool true, .slice A7 xs.length c7]) := Lib.hid (HL4.out.below hb HL4.out.lt)
      have HR5 := Lib.hid (HR4.out.below hb HR4.out.lt)
      have HO5 := Lib.hid (own_below HO4.out hb)
      have HB5 : Hid (Below w.heap.size w w5) := Lib.hid (HB4.out.trans (hb.mono HB4.out.size))
      clear hb c0 c1x c2 c3 c4 c5 y5
      have d0 : w5.cell? ⟨w.heap.size + 2, 0, none⟩ = some (.string ⟨ks.toArray⟩) := HL5.out.cell 0
      have d1 : w5.cell? ⟨w.heap.size + 2, 1, none⟩ = some (.int .i64 s) := HL5.out.cell 1
      have d2 : w5.cell? ⟨w.heap.size + 2, 2, none⟩ = some (.int .i64 u) := HL5.out.cell 2
      have d3 : w5.cell? ⟨w.heap.size + 2, 3, none⟩ = some (.int .i64 o) := HL5.out.cell 3
      have d4 : w5.cell? ⟨w.heap.size + 2, 4, none⟩ = some (.bool true) := HL5.out.cell 4
      have d5 : w5.cell? ⟨w.heap.size + 2, 5, none⟩ = some (.slice A7 xs.length c7) := HL5.out.cell 5
      have r0 : w5.cell? ⟨w.heap.size, 0, none⟩ = some (.string ⟨#[]⟩) := HR5.out.cell 0
      have r1 : w5.cell? ⟨w.heap.size, 1, none⟩ = some (.int .i64 0) := HR5.out.cell 1
      have r2 : w5.cell? ⟨w.heap.size, 2, none⟩ = some (.int .i64 0) := HR5.out.cell 2
      have r3 : w5.cell? ⟨w.heap.size, 3, none⟩ = some (.int .i64 0) := HR5.out.cell 3
      have r4 : w5.cell? ⟨w.heap.size, 4, none⟩ = some (.bool false) := HR5.out.cell 4
      have r5 : w5.cell? ⟨w.heap.size, 5, none⟩ = some (.slice none 0 0) := HR5.out.cell 5
      have z0 := HR5.out.frozen 0
      have z1 := HR5.out.frozen 1
      have z2 := HR5.out.frozen 2
      have z3 := HR5.out.frozen 3
      have z4 := HR5.out.frozen 4
      have z5 := HR5.out.frozen 5
      go_wp2
      exact bodyPost_ret (v := .tuple #[entV ⟨ks.toArray⟩ s u o true A7 xs.length c7, .int .i64 q6, .int .i64 0]) (by simp [results, Tryz.results135, go_sem, r0, r1, r2, r3, r4, r5]) rfl (refgot_ok HV.out rfl (own_base HO5.out (by omega)) HB5.out)
    · have HV : Hid (refE bs = (entP0, 0, 11)) := Lib.hid (HF.out.trans (if_pos (by rw [hq]; simp)))
      rw [hq] at hcall
      have HC := Lib.hid hcall
      clear hcall hq
      go_wp2_with fail
      refine (HC.out _).mono ?_
      rintro e w5 ⟨rfl, hb⟩
      have HN5 := Lib.hid (HN4.out.below hb HN4.out.lt)
      have HR5 := Lib.hid (HR4.out.below hb HR4.out.lt)
      have HB5 : Hid (Below w.heap.size w w5) := Lib.hid (HB4.out.trans (hb.mono HB4.out.size))
      clear hb c0 c1x c2 c3 c4 c5 y5
      have d0 : w5.cell? ⟨w.heap.size + 1, 0, none⟩ = some (.string ⟨#[]⟩) := HN5.out.cell 0
      have d1 : w5.cell? ⟨w.heap.size + 1, 1, none⟩ = some (.int .i64 0) := HN5.out.cell 1
      have d2 : w5.cell? ⟨w.heap.size + 1, 2, none⟩ = some (.int .i64 0) := HN5.out.cell 2
      have d3 : w5.cell? ⟨w.heap.size + 1, 3, none⟩ = some (.int .i64 0) := HN5.out.cell 3
      have d4 : w5.cell? ⟨w.heap.size + 1, 4, none⟩ = some (.bool false) := HN5.out.cell 4
      have d5 : w5.cell? ⟨w.heap.size + 1, 5, none⟩ = some (.slice none 0 0) := HN5.out.cell 5
      have r0 : w5.cell? ⟨w.heap.size, 0, none⟩ = some (.string ⟨#[]⟩) := HR5.out.cell 0
      have r1 : w5.cell? ⟨w.heap.size, 1, none⟩ = some (.int .i64 0) := HR5.out.cell 1
      have r2 : w5.cell? ⟨w.heap.size, 2, none⟩ = some (.int .i64 0) := HR5.out.cell 2
      have r3 : w5.cell? ⟨w.heap.size, 3, none⟩ = some (.int .i64 0) := HR5.out.cell 3
      have r4 : w5.cell? ⟨w.heap.size, 4, none⟩ = some (.bool false) := HR5.out.cell 4
      have r5 : w5.cell? ⟨w.heap.size, 5, none⟩ = some (.slice none 0 0) := HR5.out.cell 5
      have z0 := HR5.out.frozen 0
      have z1 := HR5.out.frozen 1
      have z2 := HR5.out.frozen 2
      have z3 := HR5.out.frozen 3
      have z4 := HR5.out.frozen 4
      have z5 := HR5.out.frozen 5
      go_wp2
      exact bodyPost_ret (v := .tuple #[entV ⟨#[]⟩ 0 0 0 false none 0 0, .int .i64 0, .int .i64 11]) (by simp [results, Tryz.results135, go_sem, r0, r1, r2, r3, r4, r5]) rfl (refgot_err HV.out (below_res5 HB5.out))
end Go.Proofs.YtkdpfjenjcpcfaaGreatDoor
namespace Go.Proofs.YtkdpfjenjcpcfaaGreatDoor
open Go.RowKit Mem Be
set_option maxRecDepth 10000
set_option maxHeartbeats 2000000
theorem stepTag_no (b : List UInt8) (e : Int) (he : e ≠ 0) : stepTag b e = ((0, 0, 0), b, e) := by
  unfold stepTag; simp only [step_below_no _ _ e he]
theorem stepV_no (b : List UInt8) (e : Int) (he : e ≠ 0) : stepV b e = ((false, []), b, e) := by
  unfold stepV; simp only [step_truth_no _ e he]; simp
theorem endE_bad {r : EntP × List UInt8 × Int} (he : r.2.2 ≠ 0) : endE r = (entP0, r.2.1, r.2.2) := by
  have h : errE r.1 r.2.2 = r.2.2 := by simp [errE, he]
  unfold endE; rw [h, if_neg he]
theorem stepB0 (m : Int) (b : List UInt8) : stepB m b 0 = ((getB m b).1, b.drop (getB m b).2.1, (getB m b).2.2) := if_pos rfl
theorem stepR0 (b : List UInt8) : stepR b 0 = ((getR b).1, b.drop (getR b).2.1, (getR b).2.2) := if_pos rfl
theorem stepT0 (b : List UInt8) : stepT b 0 = ((getT b).1, b.drop (getT b).2.1, (getT b).2.2) := if_pos rfl
def StepRef (bs : List UInt8) : Prop := (stepE bs 0).1 = (refE bs).1 ∧ (stepE bs 0).2.2 = (refE bs).2.2 ∧ ((refE bs).2.2 = 0 → (stepE bs 0).2.1 = bs.drop (refE bs).2.1)
theorem bad_ref {bs b : List UInt8} {e : Int} {x : EntP} (he : e ≠ 0) (h1 : stepE1 bs 0 = (x, b, e)) (h2 : refE bs = (entP0, 0, e)) : StepRef bs := by
  have h3 : stepE bs 0 = (entP0, b, e) := by unfold stepE; rw [h1]; exact endE_bad he
  unfold StepRef
  rw [h3, h2]
  exact ⟨rfl, rfl, fun h => absurd h he⟩
theorem step_ref (bs : List UInt8) : StepRef bs := by
  obtain ⟨⟨ks, k1, e1⟩, h1⟩ : ∃ y, getR bs = y := ⟨_, rfl⟩
  have r1 : stepR bs 0 = (ks, bs.drop k1, e1) := by rw [stepR0, h1]
  by_cases hx1 : e1 = 0
  case neg =>
    refine bad_ref (x := ⟨ks, 0, 0, 0, false, []⟩) (b := bs.drop k1) hx1 ?_ ?_
    · unfold stepE1; simp only [r1, stepTag_no _ e1 hx1, stepV_no _ e1 hx1]
    · unfold refE; simp only [h1]; exact if_pos hx1
  subst hx1
  obtain ⟨⟨s, k2, e2⟩, h2⟩ : ∃ y, getB 1099511627776 (bs.drop k1) = y := ⟨_, rfl⟩
  have r2 : stepB 1099511627776 (bs.drop k1) 0 = (s, bs.drop (k1 + k2), e2) := by rw [stepB0, h2, List.drop_drop]
  by_cases hx2 : e2 = 0
  case neg =>
    have ht : stepTag (bs.drop k1) 0 = ((s, 0, 0), bs.drop (k1 + k2), e2) := by unfold stepTag; simp only [r2, step_below_no _ _ e2 hx2]
    refine bad_ref (x := ⟨ks, s, 0, 0, false, []⟩) (b := bs.drop (k1 + k2)) hx2 ?_ ?_
    · unfold stepE1; simp only [r1, ht, stepV_no _ e2 hx2]
    · unfold refE; simp only [h1, h2]; exact (if_neg (by simp)).trans (if_pos hx2)
  subst hx2
  obtain ⟨⟨u, k3, e3⟩, h3⟩ : ∃ y, getB 1048576 (bs.drop (k1 + k2)) = y := ⟨_, rfl⟩
  have r3 : stepB 1048576 (bs.drop (k1 + k2)) 0 = (u, bs.drop (k1 + k2 + k3), e3) := by rw [stepB0, h3, List.drop_drop]
  by_cases hx3 : e3 = 0
  case neg =>
    have ht : stepTag (bs.drop k1) 0 = ((s, u, 0), bs.drop (k1 + k2 + k3), e3) := by unfold stepTag; simp only [r2, r3, step_below_no _ _ e3 hx3]
    refine bad_ref (x := ⟨ks, s, u, 0, false, []⟩) (b := bs.drop (k1 + k2 + k3)) hx3 ?_ ?_
    · unfold stepE1; simp only [r1, ht, stepV_no _ e3 hx3]
    · unfold refE; simp only [h1, h2, h3]; exact (if_neg (by simp)).trans ((if_neg (by simp)).trans (if_pos hx3))
  subst hx3
  obtain ⟨⟨o, k4, e4⟩, h4⟩ : ∃ y, getB 1048576 (bs.drop (k1 + k2 + k3)) = y := ⟨_, rfl⟩
  have r4 : stepB 1048576 (bs.drop (k1 + k2 + k3)) 0 = (o, bs.drop (k1 + k2 + k3 + k4), e4) := by rw [stepB0, h4, List.drop_drop]
  have ht : stepTag (bs.drop k1) 0 = ((s, u, o), bs.drop (k1 + k2 + k3 + k4), e4) := by unfold stepTag; simp only [r2, r3, r4]
  by_cases hx4 : e4 = 0
  case neg =>
    refine bad_ref (x := ⟨ks, s, u, o, false, []⟩) (b := bs.drop (k1 + k2 + k3 + k4)) hx4 ?_ ?_
    · unfold stepE1; simp only [r1, ht, stepV_no _ e4 hx4]
    · unfold refE; simp only [h1, h2, h3, h4]; exact (if_neg (by simp)).trans ((if_neg (by simp)).trans ((if_neg (by simp)).trans (if_pos hx4)))
  subst hx4
  obtain ⟨⟨has, k5, e5⟩, h5⟩ : ∃ y, getT (bs.drop (k1 + k2 + k3 + k4)) = y := ⟨_, rfl⟩
  have r5 : stepT (bs.drop (k1 + k2 + k3 + k4)) 0 = (has, bs.drop (k1 + k2 + k3 + k4 + k5), e5) := by rw [stepT0, h5, List.drop_drop]
  have l5 := getT_err (bs.drop (k1 + k2 + k3 + k4))
  rw [h5] at l5
  simp only at l5
  by_cases hx5 : e5 = 0
  case neg =>
    have hf : has = false := by rcases l5 with ⟨h, _⟩ | ⟨h, _⟩; exact absurd h hx5; exact h
    subst hf
    have hv : stepV (bs.drop (k1 + k2 + k3 + k4)) 0 = ((false, []), bs.drop (k1 + k2 + k3 + k4 + k5), e5) := by unfold stepV; simp only [r5]; rfl
    refine bad_ref (x := ⟨ks, s, u, o, false, []⟩) (b := bs.drop (k1 + k2 + k3 + k4 + k5)) hx5 ?_ ?_
    · unfold stepE1; simp only [r1, ht, hv]
    · unfold refE; simp only [h1, h2, h3, h4, h5]; exact (if_neg (by simp)).trans ((if_neg (by simp)).trans ((if_neg (by simp)).trans ((if_neg (by simp)).trans (if_pos hx5))))
  subst hx5
  cases has
  · have hv : stepV (bs.drop (k1 + k2 + k3 + k4)) 0 = ((false, []), bs.drop (k1 + k2 + k3 + k4 + k5), 0) := by unfold stepV; simp only [r5]; rfl
    have hs : stepE1 bs 0 = (⟨ks, s, u, o, false, []⟩, bs.drop (k1 + k2 + k3 + k4 + k5), 0) := by unfold stepE1; simp only [r1, ht, hv]
    have hr : refE bs = if rightE ks.length 0 s u o false ≠ 0 then (entP0, 0, 11) else (⟨ks, s, u, o, false, []⟩, k1 + k2 + k3 + k4 + k5, 0) := by
      unfold refE; simp only [h1, h2, h3, h4, h5]
      exact (if_neg (by simp)).trans ((if_neg (by simp)).trans ((if_neg (by simp)).trans ((if_neg (by simp)).trans ((if_neg (by simp)).trans (if_neg (by simp))))))
    by_cases hq : rightE ks.length 0 s u o false = 0
    · rw [if_neg (by rw [hq]; simp)] at hr
      have he : errE ⟨ks, s, u, o, false, []⟩ 0 = 0 := if_pos hq
      have h : stepE bs 0 = (⟨ks, s, u, o, false, []⟩, bs.drop (k1 + k2 + k3 + k4 + k5), 0) := by unfold stepE; rw [hs]; exact if_pos he
      unfold StepRef; rw [h, hr]; exact ⟨rfl, rfl, fun _ => rfl⟩
    · rw [if_pos hq] at hr
      have he : errE ⟨ks, s, u, o, false, []⟩ 0 = 11 := (if_neg hq).trans (if_pos rfl)
      have h : stepE bs 0 = (entP0, bs.drop (k1 + k2 + k3 + k4 + k5), 11) := by unfold stepE; rw [hs]; unfold endE; rw [he]; exact if_neg (by decide)
      unfold StepRef; rw [h, hr]; exact ⟨rfl, rfl, fun h => absurd h (by decide)⟩
  · obtain ⟨⟨xs, k6, e6⟩, h6⟩ : ∃ y, getR (bs.drop (k1 + k2 + k3 + k4 + k5)) = y := ⟨_, rfl⟩
    have r6 : stepR (bs.drop (k1 + k2 + k3 + k4 + k5)) 0 = (xs, bs.drop (k1 + k2 + k3 + k4 + k5 + k6), e6) := by rw [stepR0, h6, List.drop_drop]
    have hv : stepV (bs.drop (k1 + k2 + k3 + k4)) 0 = ((true, xs), bs.drop (k1 + k2 + k3 + k4 + k5 + k6), e6) := by unfold stepV; simp only [r5, if_true, r6]
    have hs : stepE1 bs 0 = (⟨ks, s, u, o, true, xs⟩, bs.drop (k1 + k2 + k3 + k4 + k5 + k6), e6) := by unfold stepE1; simp only [r1, ht, hv]
    have hr : refE bs = if e6 ≠ 0 then (entP0, 0, e6) else if rightE ks.length xs.length s u o true ≠ 0 then (entP0, 0, 11) else (⟨ks, s, u, o, true, xs⟩, k1 + k2 + k3 + k4 + k5 + k6, 0) := by
      unfold refE; simp only [h1, h2, h3, h4, h5, h6]
      exact (if_neg (by simp)).trans ((if_neg (by simp)).trans ((if_neg (by simp)).trans ((if_neg (by simp)).trans ((if_neg (by simp)).trans (if_pos (by simp))))))
    by_cases hx6 : e6 = 0
    case neg =>
      rw [if_pos hx6] at hr
      exact bad_ref hx6 hs hr
    subst hx6
    rw [if_neg (by simp)] at hr
    by_cases hq : rightE ks.length xs.length s u o true = 0
    · rw [if_neg (by rw [hq]; simp)] at hr
      have he : errE ⟨ks, s, u, o, true, xs⟩ 0 = 0 := if_pos hq
      have h : stepE bs 0 = (⟨ks, s, u, o, true, xs⟩, bs.drop (k1 + k2 + k3 + k4 + k5 + k6), 0) := by unfold stepE; rw [hs]; exact if_pos he
      unfold StepRef; rw [h, hr]; exact ⟨rfl, rfl, fun _ => rfl⟩
    · rw [if_pos hq] at hr
      have he : errE ⟨ks, s, u, o, true, xs⟩ 0 = 11 := (if_neg hq).trans (if_pos rfl)
      have h : stepE bs 0 = (entP0, bs.drop (k1 + k2 + k3 + k4 + k5 + k6), 11) := by unfold stepE; rw [hs]; unfold endE; rw [he]; exact if_neg (by decide)
      unfold StepRef; rw [h, hr]; exact ⟨rfl, rfl, fun h => absurd h (by decide)⟩
/-- What Read answers. -/
def readP (bs : List UInt8) : EntP × Int := if endZ (stepE bs 0).2.1 (stepE bs 0).2.2 = 0 then ((stepE bs 0).1, 0) else (entP0, endZ (stepE bs 0).2.1 (stepE bs 0).2.2)
def refReadP (bs : List UInt8) : EntP × Int := if (refE bs).2.2 ≠ 0 then (entP0, (refE bs).2.2) else if (refE bs).2.1 < bs.length then (entP0, 11) else ((refE bs).1, 0)
theorem read_ref (bs : List UInt8) : readP bs = refReadP bs := by
  obtain ⟨h1, h2, h3⟩ := step_ref bs
  unfold readP refReadP endZ
  rw [h2, h1]
  by_cases h0 : (refE bs).2.2 = 0
  · rw [h0, h3 h0]
    simp only [if_true, List.length_drop]
    by_cases hl : (refE bs).2.1 < bs.length
    · have hz : ¬ (bs.length - (refE bs).2.1 = 0) := by omega
      simp [hz, hl]
    · have hz : bs.length - (refE bs).2.1 = 0 := by omega
      simp [hz, hl]
  · rw [if_neg h0, if_neg h0, if_pos h0]
end Go.Proofs.YtkdpfjenjcpcfaaGreatDoor
namespace Go.Proofs.YtkdpfjenjcpcfaaGreatDoor
open Go.RowKit Mem Be
set_option maxRecDepth 10000
set_option maxHeartbeats 4000000
def ReadGot (r : EntP × Int) (w : World) (E : Ending) (w' : World) : Prop :=
  ∃ A c, E = .returned (.tuple #[entV ⟨r.1.k.toArray⟩ r.1.s r.1.u r.1.o r.1.has A r.1.v.length c, .int .i64 r.2]) ∧ w'.ownsRow w.heap.size 5 1 (.slice A r.1.v.length c) r.1.v.length (r.1.v.map byteV) ∧ Below w.heap.size w w'
theorem readgot_err {r : EntP × Int} {e : Int} (hr : r = (entP0, e)) {w w5 : World} {v0 v1 v2 v3 v4 v5 : Value} {o5 : Obj} (hb : Below w.heap.size w w5) : ReadGot r w (.returned (.tuple #[entV ⟨#[]⟩ 0 0 0 false none 0 0, .int .i64 e])) (((((((w5.setCell ⟨w.heap.size, 0, none⟩ v0).setCell ⟨w.heap.size, 1, none⟩ v1).setCell ⟨w.heap.size, 2, none⟩ v2).setCell ⟨w.heap.size, 3, none⟩ v3).setCell ⟨w.heap.size, 4, none⟩ v4).setCell ⟨w.heap.size, 5, none⟩ v5).alloc o5) := by
  subst hr; exact ⟨none, 0, rfl, World.ownsRow_nil _ _ _ _, (below_res5 hb).alloc (below_res5 hb).size _⟩
theorem readgot_ok {r : EntP × Int} {x : EntP} (hr : r = (x, 0)) {w w5 : World} {A : Option Addr} {c : Nat} {v0 v1 v2 v3 v4 v5 : Value} {o5 : Obj} (ho : w5.ownsRow (w.heap.size + 1) 5 1 (.slice A x.v.length c) x.v.length (x.v.map byteV)) (hb : Below w.heap.size w w5) :
    ReadGot r w (.returned (.tuple #[entV ⟨x.k.toArray⟩ x.s x.u x.o x.has A x.v.length c, .int .i64 0])) (((((((w5.setCell ⟨w.heap.size, 0, none⟩ v0).setCell ⟨w.heap.size, 1, none⟩ v1).setCell ⟨w.heap.size, 2, none⟩ v2).setCell ⟨w.heap.size, 3, none⟩ v3).setCell ⟨w.heap.size, 4, none⟩ v4).setCell ⟨w.heap.size, 5, none⟩ v5).alloc o5) := by
  subst hr
  exact ⟨A, c, rfl, (own_base (own_put (own_put (own_put (own_put (own_put (own_put ho (by omega) _ _) (by omega) _ _) (by omega) _ _) (by omega) _ _) (by omega) _ _) (by omega) _ _) (by omega)).alloc _, (below_res5 hb).alloc (below_res5 hb).size _⟩
theorem read_any (B n c : Nat) (A : Option Addr) (bs : List UInt8) (hn : n = bs.length) (hl : n ≤ 1000000) (w : World) (h : Row w B A (bs.map byteV)) (hB : B ≤ w.heap.size) :
    Calls Tryz.prog 180 #[.slice A n c] w (ReadGot (readP bs) w) := by
  have HR0 := Lib.hid (h.below ((Below.refl w.heap.size w).alloc (Nat.le_refl _) (.cells zeroC 46) |>.mono hB))
  have HN := Lib.hid hn
  have HL : Hid (bs.length ≤ 1073741824) := Lib.hid (by omega)
  have HBK := Lib.hid (Blk.new w 46 zeroC)
  obtain ⟨⟨x, rest, e⟩, hs⟩ : ∃ y, stepE bs 0 = y := ⟨_, rfl⟩
  have HS := Lib.hid hs
  have hP : readP bs = if endZ rest e = 0 then (x, 0) else (entP0, endZ rest e) := by unfold readP; rw [hs]
  clear h hn hl hs
  obtain ⟨ez, hez⟩ : ∃ z, endZ rest e = z := ⟨_, rfl⟩
  rw [hez] at hP
  have HEZ := Lib.hid hez
  clear hez
  obtain ⟨R, hR⟩ : ∃ R, readP bs = R := ⟨_, rfl⟩
  rw [hR] at hP ⊢
  have HP := Lib.hid hP
  clear hP hR
  go_enter Tryz.func180, Tryz.ntmps180
  go_wp2_with fail
  refine (new_any B c n A bs HN.out _ HR0.out (by simp; omega) HL.out).mono ?_
  rintro e w1 ⟨g, rfl, hg, hrd, hb⟩
  have HB1 := Lib.hid (below_after1 hb)
  have HK1 := Lib.hid (HBK.out.below hb (by simp))
  have HD1 := Lib.hid hrd
  have hg0 : w.heap.size + 1 ≤ g := by simpa using hg
  clear hg hb hrd
  go_wp2_with fail
  refine (get_any g bs 0 _ HD1.out).mono ?_
  rw [HS.out]
  rintro e w2 ⟨A2, c2, rfl, ho, hrd, hgr⟩
  have HD2 := Lib.hid hrd
  have HB2 : Hid (Below w.heap.size w w2) := Lib.hid (below_grown HB1.out hgr HB1.out.size (by omega))
  have HR2 := Lib.hid (HK1.out.grown hgr (fun e => by injection e with e; omega))
  have HO2 := Lib.hid (own_base (B' := w.heap.size + 1) ho HK1.out.lt)
  clear ho hrd hgr
  have r0 : w2.cell? ⟨w.heap.size, 0, none⟩ = some (.string ⟨#[]⟩) := HR2.out.cell 0
  have r1 : w2.cell? ⟨w.heap.size, 1, none⟩ = some (.int .i64 0) := HR2.out.cell 1
  have r2 : w2.cell? ⟨w.heap.size, 2, none⟩ = some (.int .i64 0) := HR2.out.cell 2
  have r3 : w2.cell? ⟨w.heap.size, 3, none⟩ = some (.int .i64 0) := HR2.out.cell 3
  have r4 : w2.cell? ⟨w.heap.size, 4, none⟩ = some (.bool false) := HR2.out.cell 4
  have r5 : w2.cell? ⟨w.heap.size, 5, none⟩ = some (.slice none 0 0) := HR2.out.cell 5
  have z0 := HR2.out.frozen 0
  have z1 := HR2.out.frozen 1
  have z2 := HR2.out.frozen 2
  have z3 := HR2.out.frozen 3
  have z4 := HR2.out.frozen 4
  have z5 := HR2.out.frozen 5
  have HZ : w.heap.size < w2.heap.size := HR2.out.lt
  go_wp2_with fail
  refine (end_any g rest _ _ (rd_alloc HD2.out _)).mono ?_
  rw [HEZ.out]
  rintro e w' ⟨rfl, rfl⟩
  by_cases h0 : ez = 0
  · have hb : (ez != 0) = false := by simpa using h0
    have HV : Hid (R = (x, 0)) := Lib.hid (HP.out.trans (if_pos h0))
    clear h0
    go_wp2
    exact bodyPost_ret (v := .tuple #[entV ⟨x.k.toArray⟩ x.s x.u x.o x.has A2 x.v.length c2, .int .i64 0]) (by simp [results, Tryz.results180, go_sem, r0, r1, r2, r3, r4, r5, HZ]) rfl (readgot_ok HV.out HO2.out HB2.out)
  · have hb : (ez != 0) = true := by simpa using h0
    have HV : Hid (R = (entP0, ez)) := Lib.hid (HP.out.trans (if_neg h0))
    clear h0
    go_wp2
    exact bodyPost_ret (v := .tuple #[entV ⟨#[]⟩ 0 0 0 false none 0 0, .int .i64 ez]) (by simp [results, Tryz.results180, go_sem, r0, r1, r2, r3, r4, r5, HZ]) rfl (readgot_err HV.out HB2.out)
theorem refread_any (n c : Nat) (A : Option Addr) (bs : List UInt8) (hn : n = bs.length) (hl : n ≤ 1000000) (hc : n ≤ c) (w : World) (h : Row w w.heap.size A (bs.map byteV)) :
    Calls Tryz.prog 105 #[.slice A n c] w (ReadGot (refReadP bs) w) := by
  have HR0 : Hid (Row (w.alloc (.cells zeroC 46)) (w.alloc (.cells zeroC 46)).heap.size A (bs.map byteV)) := Lib.hid ((h.alloc (Nat.le_refl _) _).more (by simp))
  have HN := Lib.hid hn
  have HL := Lib.hid hl
  have HC := Lib.hid hc
  have HBK := Lib.hid (Blk.new w 46 zeroC)
  have hnl : (n : Int) ≤ 1000000 := by omega
  obtain ⟨⟨x, q, e⟩, hs⟩ : ∃ y, refE bs = y := ⟨_, rfl⟩
  have HS := Lib.hid hs
  have hP : refReadP bs = if e ≠ 0 then (entP0, e) else if q < n then (entP0, 11) else (x, 0) := by unfold refReadP; rw [hs, hn]
  clear h hn hl hc hs
  obtain ⟨R, hR⟩ : ∃ R, refReadP bs = R := ⟨_, rfl⟩
  rw [hR] at hP ⊢
  have HP := Lib.hid hP
  clear hP hR
  go_enter Tryz.func105, Tryz.ntmps105
  go_wp2_with fail
  refine (refgete_any n c A bs HN.out HL.out HC.out _ HR0.out).mono ?_
  rw [HS.out]
  rintro e' w2 ⟨A2, c2, rfl, ho, hb⟩
  have HB2 : Hid (Below w.heap.size w w2) := Lib.hid (below_after1 hb)
  have HR2 := Lib.hid (HBK.out.below hb (by simp))
  have HO2 := Lib.hid (own_base (B' := w.heap.size + 1) ho (by simp))
  clear ho hb
  have r0 : w2.cell? ⟨w.heap.size, 0, none⟩ = some (.string ⟨#[]⟩) := HR2.out.cell 0
  have r1 : w2.cell? ⟨w.heap.size, 1, none⟩ = some (.int .i64 0) := HR2.out.cell 1
  have r2 : w2.cell? ⟨w.heap.size, 2, none⟩ = some (.int .i64 0) := HR2.out.cell 2
  have r3 : w2.cell? ⟨w.heap.size, 3, none⟩ = some (.int .i64 0) := HR2.out.cell 3
  have r4 : w2.cell? ⟨w.heap.size, 4, none⟩ = some (.bool false) := HR2.out.cell 4
  have r5 : w2.cell? ⟨w.heap.size, 5, none⟩ = some (.slice none 0 0) := HR2.out.cell 5
  have z0 := HR2.out.frozen 0
  have z1 := HR2.out.frozen 1
  have z2 := HR2.out.frozen 2
  have z3 := HR2.out.frozen 3
  have z4 := HR2.out.frozen 4
  have z5 := HR2.out.frozen 5
  have HZ : w.heap.size < w2.heap.size := HR2.out.lt
  by_cases h0 : e = 0
  · subst h0
    by_cases hq : q < n
    · have HV : Hid (R = (entP0, 11)) := Lib.hid (HP.out.trans ((if_neg (by simp)).trans (if_pos hq)))
      have hqi : (q : Int) < (n : Int) := by omega
      clear hq
      go_wp2
      exact bodyPost_ret (v := .tuple #[entV ⟨#[]⟩ 0 0 0 false none 0 0, .int .i64 11]) (by simp [results, Tryz.results105, go_sem, r0, r1, r2, r3, r4, r5, HZ]) rfl (readgot_err HV.out HB2.out)
    · have HV : Hid (R = (x, 0)) := Lib.hid (HP.out.trans ((if_neg (by simp)).trans (if_neg hq)))
      have hqi : (n : Int) ≤ (q : Int) := by omega
      clear hq
      go_wp2
      exact bodyPost_ret (v := .tuple #[entV ⟨x.k.toArray⟩ x.s x.u x.o x.has A2 x.v.length c2, .int .i64 0]) (by simp [results, Tryz.results105, go_sem, r0, r1, r2, r3, r4, r5, HZ]) rfl (readgot_ok HV.out HO2.out HB2.out)
  · have hb : (e != 0) = true := by simpa using h0
    have HV : Hid (R = (entP0, e)) := Lib.hid (HP.out.trans (if_pos h0))
    clear h0
    go_wp2
    exact bodyPost_ret (v := .tuple #[entV ⟨#[]⟩ 0 0 0 false none 0 0, .int .i64 e]) (by simp [results, Tryz.results105, go_sem, r0, r1, r2, r3, r4, r5, HZ]) rfl (readgot_err HV.out HB2.out)
end Go.Proofs.YtkdpfjenjcpcfaaGreatDoor
