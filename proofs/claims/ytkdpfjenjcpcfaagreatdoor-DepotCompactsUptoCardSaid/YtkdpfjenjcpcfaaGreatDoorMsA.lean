/- MsA: Package msgs: the table of kinds, as it lies in memory; which fields a kind has; small calls; the one back. -/
import Derived.Test.YtkdpfjenjcpcfaaGreatDoorMsP
import Derived.Test.YtkdpfjenjcpcfaaGreatDoorEvc
namespace Go.Proofs.YtkdpfjenjcpcfaaGreatDoor
open Go.RowKit Mem Be Rg
set_option maxRecDepth 100000
set_option maxHeartbeats 4000000
set_option linter.unusedVariables false
def kBits : List Bool := [false, false, false, false, false, false, false, true, false, false, true, true, true, false, false, false, false, true, false, false, false, false, true, false, false, false, false, true, false, false, true, false, false, false, false, false, false, true, false, false, false, false, true, false, false, true, false, true, false, false, false, false, true, false, false, false, false, true, false, false, true, false, false, false, false, true, true, false, true, false, true, true, false, true, false, false, false, false, false, false, false, false, false, false, true, false, false, false, false, false]
/-- The table of kinds lies as it was laid. -/
def KT (w : World) : Prop := ∀ i, i < 90 → w.cell? ⟨0, i, none⟩ = some (.bool (kBits.getD i false))
theorem KT.pos {w : World} (h : KT w) : 0 < w.heap.size := block_lt (h 0 (by decide))
theorem KT.below {w w' : World} (h : KT w) (hb : Below w.heap.size w w') : KT w' := fun i hi => (hb.cell (p := ⟨0, i, none⟩) h.pos).trans (h i hi)
theorem KT.low {w w' : World} {B : Nat} (h : KT w) (hb : Below B w w') (hB : 0 < B) : KT w' := fun i hi => (hb.cell (p := ⟨0, i, none⟩) hB).trans (h i hi)
abbrev b5 (a b c d e : Bool) : Value := .agg #[.bool a, .bool b, .bool c, .bool d, .bool e]
abbrev fldV (k : Int) : Value := b5 (hasN k) (hasF k) (hasE k) (hasL k) (hasR k)
theorem exK_no {k : Int} (h : exK k = false) : k < 1 ∨ 17 < k := by unfold exK at h; have := of_decide_eq_false h; omega
theorem exK_yes {k : Int} (h : exK k = true) : 1 ≤ k ∧ k ≤ 17 := of_decide_eq_true h
theorem has_none {k : Int} (h : k < 1 ∨ 17 < k) : hasN k = false ∧ hasF k = false ∧ hasE k = false ∧ hasL k = false ∧ hasR k = false := by
  unfold hasN hasF hasE hasL hasR
  simp only [Bool.or_eq_false_iff, beq_eq_false_iff_ne]
  omega
theorem exists_any (k : Int) (w : World) : Calls Tryz.prog 75 #[.int .i64 k] w fun e w' => e = .returned (.bool (exK k)) ∧ w = w' := by
  cases h : exK k
  · rcases exK_no h with h1 | h1
    · clear h
      go_enter Tryz.func75, Tryz.ntmps75
      go_wp2
      go_ret
      exact ⟨rfl, rfl⟩
    · have h2 : 1 ≤ k := by omega
      have h3 : 18 ≤ k := by omega
      have h4 : decide (k < 18) = false := by simp; omega
      clear h
      go_enter Tryz.func75, Tryz.ntmps75
      go_wp2
      go_ret
      exact ⟨rfl, rfl⟩
  · obtain ⟨h1, h2⟩ := exK_yes h
    have h3 : k < 18 := by omega
    clear h
    go_enter Tryz.func75, Tryz.ntmps75
    go_wp2
    go_ret
    exact ⟨rfl, rfl⟩
theorem exists_val (k : Int) (b : Bool) (h : Hid (exK k = b)) (w : World) : Calls Tryz.prog 75 #[.int .i64 k] w fun e w' => e = .returned (.bool b) ∧ w = w' := by
  have := exists_any k w
  rw [h.out] at this; exact this
theorem isid_any (n : Int) (w : World) : Calls Tryz.prog 76 #[.int .i64 n] w fun e w' => e = .returned (.bool (inR n 1048575)) ∧ w = w' := by
  by_cases h : 0 ≤ n
  · by_cases h2 : n ≤ 1048575
    · rw [show inR n 1048575 = true from decide_eq_true ⟨h, h2⟩]
      go_enter Tryz.func76, Tryz.ntmps76
      go_wp2
      go_ret
      exact ⟨rfl, rfl⟩
    · rw [show inR n 1048575 = false from decide_eq_false (by omega)]
      have h3 : decide (n ≤ 1048575) = false := decide_eq_false h2
      clear h2
      go_enter Tryz.func76, Tryz.ntmps76
      go_wp2
      go_ret
      exact ⟨rfl, rfl⟩
  · rw [show inR n 1048575 = false from decide_eq_false (by omega)]
    have h3 : n < 0 := by omega
    clear h
    go_enter Tryz.func76, Tryz.ntmps76
    go_wp2
    go_ret
    exact ⟨rfl, rfl⟩
theorem isid_val (n : Int) (b : Bool) (h : Hid (inR n 1048575 = b)) (w : World) : Calls Tryz.prog 76 #[.int .i64 n] w fun e w' => e = .returned (.bool b) ∧ w = w' := by
  have := isid_any n w
  rw [h.out] at this; exact this
theorem isseq_any (n : Int) (w : World) : Calls Tryz.prog 77 #[.int .i64 n] w fun e w' => e = .returned (.bool (inR n 1099511627775)) ∧ w = w' := by
  by_cases h : 0 ≤ n
  · by_cases h2 : n ≤ 1099511627775
    · rw [show inR n 1099511627775 = true from decide_eq_true ⟨h, h2⟩]
      go_enter Tryz.func77, Tryz.ntmps77
      go_wp2
      go_ret
      exact ⟨rfl, rfl⟩
    · rw [show inR n 1099511627775 = false from decide_eq_false (by omega)]
      have h3 : decide (n ≤ 1099511627775) = false := decide_eq_false h2
      clear h2
      go_enter Tryz.func77, Tryz.ntmps77
      go_wp2
      go_ret
      exact ⟨rfl, rfl⟩
  · rw [show inR n 1099511627775 = false from decide_eq_false (by omega)]
    have h3 : n < 0 := by omega
    clear h
    go_enter Tryz.func77, Tryz.ntmps77
    go_wp2
    go_ret
    exact ⟨rfl, rfl⟩
theorem isseq_val (n : Int) (b : Bool) (h : Hid (inR n 1099511627775 = b)) (w : World) : Calls Tryz.prog 77 #[.int .i64 n] w fun e w' => e = .returned (.bool b) ∧ w = w' := by
  have := isseq_any n w
  rw [h.out] at this; exact this
/-- The fields of a kind. -/
def FldE (k : Int) (w : World) (e : Ending) (w' : World) : Prop := e = .returned (fldV k) ∧ Below w.heap.size w w'
theorem fields_1 (w : World) (h : KT w) : Calls Tryz.prog 80 #[.int .i64 1] w (FldE 1 w) := by
  have HB : Hid (Below w.heap.size w (w.alloc (.cells #[.bool false, .bool false, .bool false, .bool false, .bool false] 143))) := Lib.hid ((Below.refl _ _).alloc (Nat.le_refl _) _)
  have hk := h.below HB.out
  have HX : Hid (exK 1 = true) := Lib.hid (by decide)
  have c0 : (w.alloc (.cells #[.bool false, .bool false, .bool false, .bool false, .bool false] 143)).cell? ⟨0, 5, none⟩ = some (.bool false) := hk 5 (by decide)
  have c1 : (w.alloc (.cells #[.bool false, .bool false, .bool false, .bool false, .bool false] 143)).cell? ⟨0, 6, none⟩ = some (.bool false) := hk 6 (by decide)
  have c2 : (w.alloc (.cells #[.bool false, .bool false, .bool false, .bool false, .bool false] 143)).cell? ⟨0, 7, none⟩ = some (.bool true) := hk 7 (by decide)
  have c3 : (w.alloc (.cells #[.bool false, .bool false, .bool false, .bool false, .bool false] 143)).cell? ⟨0, 8, none⟩ = some (.bool false) := hk 8 (by decide)
  have c4 : (w.alloc (.cells #[.bool false, .bool false, .bool false, .bool false, .bool false] 143)).cell? ⟨0, 9, none⟩ = some (.bool false) := hk 9 (by decide)
  clear hk h
  go_enter Tryz.func80, Tryz.ntmps80
  go_wp2_with (go_at_call 75; refine (exists_val _ _ HX _).mono ?_; rintro e w' ⟨rfl, rfl⟩)
  exact bodyPost_ret (v := .agg #[.bool false, .bool false, .bool true, .bool false, .bool false]) (by simp [results, Tryz.results80, go_sem]) rfl ⟨rfl, (Below.refl _ _).alloc (Nat.le_refl _) _⟩
theorem fields_2 (w : World) (h : KT w) : Calls Tryz.prog 80 #[.int .i64 2] w (FldE 2 w) := by
  have HB : Hid (Below w.heap.size w (w.alloc (.cells #[.bool false, .bool false, .bool false, .bool false, .bool false] 143))) := Lib.hid ((Below.refl _ _).alloc (Nat.le_refl _) _)
  have hk := h.below HB.out
  have HX : Hid (exK 2 = true) := Lib.hid (by decide)
  have c0 : (w.alloc (.cells #[.bool false, .bool false, .bool false, .bool false, .bool false] 143)).cell? ⟨0, 10, none⟩ = some (.bool true) := hk 10 (by decide)
  have c1 : (w.alloc (.cells #[.bool false, .bool false, .bool false, .bool false, .bool false] 143)).cell? ⟨0, 11, none⟩ = some (.bool true) := hk 11 (by decide)
  have c2 : (w.alloc (.cells #[.bool false, .bool false, .bool false, .bool false, .bool false] 143)).cell? ⟨0, 12, none⟩ = some (.bool true) := hk 12 (by decide)
  have c3 : (w.alloc (.cells #[.bool false, .bool false, .bool false, .bool false, .bool false] 143)).cell? ⟨0, 13, none⟩ = some (.bool false) := hk 13 (by decide)
  have c4 : (w.alloc (.cells #[.bool false, .bool false, .bool false, .bool false, .bool false] 143)).cell? ⟨0, 14, none⟩ = some (.bool false) := hk 14 (by decide)
  clear hk h
  go_enter Tryz.func80, Tryz.ntmps80
  go_wp2_with (go_at_call 75; refine (exists_val _ _ HX _).mono ?_; rintro e w' ⟨rfl, rfl⟩)
  exact bodyPost_ret (v := .agg #[.bool true, .bool true, .bool true, .bool false, .bool false]) (by simp [results, Tryz.results80, go_sem]) rfl ⟨rfl, (Below.refl _ _).alloc (Nat.le_refl _) _⟩
theorem fields_3 (w : World) (h : KT w) : Calls Tryz.prog 80 #[.int .i64 3] w (FldE 3 w) := by
  have HB : Hid (Below w.heap.size w (w.alloc (.cells #[.bool false, .bool false, .bool false, .bool false, .bool false] 143))) := Lib.hid ((Below.refl _ _).alloc (Nat.le_refl _) _)
  have hk := h.below HB.out
  have HX : Hid (exK 3 = true) := Lib.hid (by decide)
  have c0 : (w.alloc (.cells #[.bool false, .bool false, .bool false, .bool false, .bool false] 143)).cell? ⟨0, 15, none⟩ = some (.bool false) := hk 15 (by decide)
  have c1 : (w.alloc (.cells #[.bool false, .bool false, .bool false, .bool false, .bool false] 143)).cell? ⟨0, 16, none⟩ = some (.bool false) := hk 16 (by decide)
  have c2 : (w.alloc (.cells #[.bool false, .bool false, .bool false, .bool false, .bool false] 143)).cell? ⟨0, 17, none⟩ = some (.bool true) := hk 17 (by decide)
  have c3 : (w.alloc (.cells #[.bool false, .bool false, .bool false, .bool false, .bool false] 143)).cell? ⟨0, 18, none⟩ = some (.bool false) := hk 18 (by decide)
  have c4 : (w.alloc (.cells #[.bool false, .bool false, .bool false, .bool false, .bool false] 143)).cell? ⟨0, 19, none⟩ = some (.bool false) := hk 19 (by decide)
  clear hk h
  go_enter Tryz.func80, Tryz.ntmps80
  go_wp2_with (go_at_call 75; refine (exists_val _ _ HX _).mono ?_; rintro e w' ⟨rfl, rfl⟩)
  exact bodyPost_ret (v := .agg #[.bool false, .bool false, .bool true, .bool false, .bool false]) (by simp [results, Tryz.results80, go_sem]) rfl ⟨rfl, (Below.refl _ _).alloc (Nat.le_refl _) _⟩
theorem fields_4 (w : World) (h : KT w) : Calls Tryz.prog 80 #[.int .i64 4] w (FldE 4 w) := by
  have HB : Hid (Below w.heap.size w (w.alloc (.cells #[.bool false, .bool false, .bool false, .bool false, .bool false] 143))) := Lib.hid ((Below.refl _ _).alloc (Nat.le_refl _) _)
  have hk := h.below HB.out
  have HX : Hid (exK 4 = true) := Lib.hid (by decide)
  have c0 : (w.alloc (.cells #[.bool false, .bool false, .bool false, .bool false, .bool false] 143)).cell? ⟨0, 20, none⟩ = some (.bool false) := hk 20 (by decide)
  have c1 : (w.alloc (.cells #[.bool false, .bool false, .bool false, .bool false, .bool false] 143)).cell? ⟨0, 21, none⟩ = some (.bool false) := hk 21 (by decide)
  have c2 : (w.alloc (.cells #[.bool false, .bool false, .bool false, .bool false, .bool false] 143)).cell? ⟨0, 22, none⟩ = some (.bool true) := hk 22 (by decide)
  have c3 : (w.alloc (.cells #[.bool false, .bool false, .bool false, .bool false, .bool false] 143)).cell? ⟨0, 23, none⟩ = some (.bool false) := hk 23 (by decide)
  have c4 : (w.alloc (.cells #[.bool false, .bool false, .bool false, .bool false, .bool false] 143)).cell? ⟨0, 24, none⟩ = some (.bool false) := hk 24 (by decide)
  clear hk h
  go_enter Tryz.func80, Tryz.ntmps80
  go_wp2_with (go_at_call 75; refine (exists_val _ _ HX _).mono ?_; rintro e w' ⟨rfl, rfl⟩)
  exact bodyPost_ret (v := .agg #[.bool false, .bool false, .bool true, .bool false, .bool false]) (by simp [results, Tryz.results80, go_sem]) rfl ⟨rfl, (Below.refl _ _).alloc (Nat.le_refl _) _⟩
theorem fields_5 (w : World) (h : KT w) : Calls Tryz.prog 80 #[.int .i64 5] w (FldE 5 w) := by
  have HB : Hid (Below w.heap.size w (w.alloc (.cells #[.bool false, .bool false, .bool false, .bool false, .bool false] 143))) := Lib.hid ((Below.refl _ _).alloc (Nat.le_refl _) _)
  have hk := h.below HB.out
  have HX : Hid (exK 5 = true) := Lib.hid (by decide)
  have c0 : (w.alloc (.cells #[.bool false, .bool false, .bool false, .bool false, .bool false] 143)).cell? ⟨0, 25, none⟩ = some (.bool false) := hk 25 (by decide)
  have c1 : (w.alloc (.cells #[.bool false, .bool false, .bool false, .bool false, .bool false] 143)).cell? ⟨0, 26, none⟩ = some (.bool false) := hk 26 (by decide)
  have c2 : (w.alloc (.cells #[.bool false, .bool false, .bool false, .bool false, .bool false] 143)).cell? ⟨0, 27, none⟩ = some (.bool true) := hk 27 (by decide)
  have c3 : (w.alloc (.cells #[.bool false, .bool false, .bool false, .bool false, .bool false] 143)).cell? ⟨0, 28, none⟩ = some (.bool false) := hk 28 (by decide)
  have c4 : (w.alloc (.cells #[.bool false, .bool false, .bool false, .bool false, .bool false] 143)).cell? ⟨0, 29, none⟩ = some (.bool false) := hk 29 (by decide)
  clear hk h
  go_enter Tryz.func80, Tryz.ntmps80
  go_wp2_with (go_at_call 75; refine (exists_val _ _ HX _).mono ?_; rintro e w' ⟨rfl, rfl⟩)
  exact bodyPost_ret (v := .agg #[.bool false, .bool false, .bool true, .bool false, .bool false]) (by simp [results, Tryz.results80, go_sem]) rfl ⟨rfl, (Below.refl _ _).alloc (Nat.le_refl _) _⟩
theorem fields_6 (w : World) (h : KT w) : Calls Tryz.prog 80 #[.int .i64 6] w (FldE 6 w) := by
  have HB : Hid (Below w.heap.size w (w.alloc (.cells #[.bool false, .bool false, .bool false, .bool false, .bool false] 143))) := Lib.hid ((Below.refl _ _).alloc (Nat.le_refl _) _)
  have hk := h.below HB.out
  have HX : Hid (exK 6 = true) := Lib.hid (by decide)
  have c0 : (w.alloc (.cells #[.bool false, .bool false, .bool false, .bool false, .bool false] 143)).cell? ⟨0, 30, none⟩ = some (.bool true) := hk 30 (by decide)
  have c1 : (w.alloc (.cells #[.bool false, .bool false, .bool false, .bool false, .bool false] 143)).cell? ⟨0, 31, none⟩ = some (.bool false) := hk 31 (by decide)
  have c2 : (w.alloc (.cells #[.bool false, .bool false, .bool false, .bool false, .bool false] 143)).cell? ⟨0, 32, none⟩ = some (.bool false) := hk 32 (by decide)
  have c3 : (w.alloc (.cells #[.bool false, .bool false, .bool false, .bool false, .bool false] 143)).cell? ⟨0, 33, none⟩ = some (.bool false) := hk 33 (by decide)
  have c4 : (w.alloc (.cells #[.bool false, .bool false, .bool false, .bool false, .bool false] 143)).cell? ⟨0, 34, none⟩ = some (.bool false) := hk 34 (by decide)
  clear hk h
  go_enter Tryz.func80, Tryz.ntmps80
  go_wp2_with (go_at_call 75; refine (exists_val _ _ HX _).mono ?_; rintro e w' ⟨rfl, rfl⟩)
  exact bodyPost_ret (v := .agg #[.bool true, .bool false, .bool false, .bool false, .bool false]) (by simp [results, Tryz.results80, go_sem]) rfl ⟨rfl, (Below.refl _ _).alloc (Nat.le_refl _) _⟩
theorem fields_7 (w : World) (h : KT w) : Calls Tryz.prog 80 #[.int .i64 7] w (FldE 7 w) := by
  have HB : Hid (Below w.heap.size w (w.alloc (.cells #[.bool false, .bool false, .bool false, .bool false, .bool false] 143))) := Lib.hid ((Below.refl _ _).alloc (Nat.le_refl _) _)
  have hk := h.below HB.out
  have HX : Hid (exK 7 = true) := Lib.hid (by decide)
  have c0 : (w.alloc (.cells #[.bool false, .bool false, .bool false, .bool false, .bool false] 143)).cell? ⟨0, 35, none⟩ = some (.bool false) := hk 35 (by decide)
  have c1 : (w.alloc (.cells #[.bool false, .bool false, .bool false, .bool false, .bool false] 143)).cell? ⟨0, 36, none⟩ = some (.bool false) := hk 36 (by decide)
  have c2 : (w.alloc (.cells #[.bool false, .bool false, .bool false, .bool false, .bool false] 143)).cell? ⟨0, 37, none⟩ = some (.bool true) := hk 37 (by decide)
  have c3 : (w.alloc (.cells #[.bool false, .bool false, .bool false, .bool false, .bool false] 143)).cell? ⟨0, 38, none⟩ = some (.bool false) := hk 38 (by decide)
  have c4 : (w.alloc (.cells #[.bool false, .bool false, .bool false, .bool false, .bool false] 143)).cell? ⟨0, 39, none⟩ = some (.bool false) := hk 39 (by decide)
  clear hk h
  go_enter Tryz.func80, Tryz.ntmps80
  go_wp2_with (go_at_call 75; refine (exists_val _ _ HX _).mono ?_; rintro e w' ⟨rfl, rfl⟩)
  exact bodyPost_ret (v := .agg #[.bool false, .bool false, .bool true, .bool false, .bool false]) (by simp [results, Tryz.results80, go_sem]) rfl ⟨rfl, (Below.refl _ _).alloc (Nat.le_refl _) _⟩
theorem fields_8 (w : World) (h : KT w) : Calls Tryz.prog 80 #[.int .i64 8] w (FldE 8 w) := by
  have HB : Hid (Below w.heap.size w (w.alloc (.cells #[.bool false, .bool false, .bool false, .bool false, .bool false] 143))) := Lib.hid ((Below.refl _ _).alloc (Nat.le_refl _) _)
  have hk := h.below HB.out
  have HX : Hid (exK 8 = true) := Lib.hid (by decide)
  have c0 : (w.alloc (.cells #[.bool false, .bool false, .bool false, .bool false, .bool false] 143)).cell? ⟨0, 40, none⟩ = some (.bool false) := hk 40 (by decide)
  have c1 : (w.alloc (.cells #[.bool false, .bool false, .bool false, .bool false, .bool false] 143)).cell? ⟨0, 41, none⟩ = some (.bool false) := hk 41 (by decide)
  have c2 : (w.alloc (.cells #[.bool false, .bool false, .bool false, .bool false, .bool false] 143)).cell? ⟨0, 42, none⟩ = some (.bool true) := hk 42 (by decide)
  have c3 : (w.alloc (.cells #[.bool false, .bool false, .bool false, .bool false, .bool false] 143)).cell? ⟨0, 43, none⟩ = some (.bool false) := hk 43 (by decide)
  have c4 : (w.alloc (.cells #[.bool false, .bool false, .bool false, .bool false, .bool false] 143)).cell? ⟨0, 44, none⟩ = some (.bool false) := hk 44 (by decide)
  clear hk h
  go_enter Tryz.func80, Tryz.ntmps80
  go_wp2_with (go_at_call 75; refine (exists_val _ _ HX _).mono ?_; rintro e w' ⟨rfl, rfl⟩)
  exact bodyPost_ret (v := .agg #[.bool false, .bool false, .bool true, .bool false, .bool false]) (by simp [results, Tryz.results80, go_sem]) rfl ⟨rfl, (Below.refl _ _).alloc (Nat.le_refl _) _⟩
theorem fields_9 (w : World) (h : KT w) : Calls Tryz.prog 80 #[.int .i64 9] w (FldE 9 w) := by
  have HB : Hid (Below w.heap.size w (w.alloc (.cells #[.bool false, .bool false, .bool false, .bool false, .bool false] 143))) := Lib.hid ((Below.refl _ _).alloc (Nat.le_refl _) _)
  have hk := h.below HB.out
  have HX : Hid (exK 9 = true) := Lib.hid (by decide)
  have c0 : (w.alloc (.cells #[.bool false, .bool false, .bool false, .bool false, .bool false] 143)).cell? ⟨0, 45, none⟩ = some (.bool true) := hk 45 (by decide)
  have c1 : (w.alloc (.cells #[.bool false, .bool false, .bool false, .bool false, .bool false] 143)).cell? ⟨0, 46, none⟩ = some (.bool false) := hk 46 (by decide)
  have c2 : (w.alloc (.cells #[.bool false, .bool false, .bool false, .bool false, .bool false] 143)).cell? ⟨0, 47, none⟩ = some (.bool true) := hk 47 (by decide)
  have c3 : (w.alloc (.cells #[.bool false, .bool false, .bool false, .bool false, .bool false] 143)).cell? ⟨0, 48, none⟩ = some (.bool false) := hk 48 (by decide)
  have c4 : (w.alloc (.cells #[.bool false, .bool false, .bool false, .bool false, .bool false] 143)).cell? ⟨0, 49, none⟩ = some (.bool false) := hk 49 (by decide)
  clear hk h
  go_enter Tryz.func80, Tryz.ntmps80
  go_wp2_with (go_at_call 75; refine (exists_val _ _ HX _).mono ?_; rintro e w' ⟨rfl, rfl⟩)
  exact bodyPost_ret (v := .agg #[.bool true, .bool false, .bool true, .bool false, .bool false]) (by simp [results, Tryz.results80, go_sem]) rfl ⟨rfl, (Below.refl _ _).alloc (Nat.le_refl _) _⟩
theorem fields_10 (w : World) (h : KT w) : Calls Tryz.prog 80 #[.int .i64 10] w (FldE 10 w) := by
  have HB : Hid (Below w.heap.size w (w.alloc (.cells #[.bool false, .bool false, .bool false, .bool false, .bool false] 143))) := Lib.hid ((Below.refl _ _).alloc (Nat.le_refl _) _)
  have hk := h.below HB.out
  have HX : Hid (exK 10 = true) := Lib.hid (by decide)
  have c0 : (w.alloc (.cells #[.bool false, .bool false, .bool false, .bool false, .bool false] 143)).cell? ⟨0, 50, none⟩ = some (.bool false) := hk 50 (by decide)
  have c1 : (w.alloc (.cells #[.bool false, .bool false, .bool false, .bool false, .bool false] 143)).cell? ⟨0, 51, none⟩ = some (.bool false) := hk 51 (by decide)
  have c2 : (w.alloc (.cells #[.bool false, .bool false, .bool false, .bool false, .bool false] 143)).cell? ⟨0, 52, none⟩ = some (.bool true) := hk 52 (by decide)
  have c3 : (w.alloc (.cells #[.bool false, .bool false, .bool false, .bool false, .bool false] 143)).cell? ⟨0, 53, none⟩ = some (.bool false) := hk 53 (by decide)
  have c4 : (w.alloc (.cells #[.bool false, .bool false, .bool false, .bool false, .bool false] 143)).cell? ⟨0, 54, none⟩ = some (.bool false) := hk 54 (by decide)
  clear hk h
  go_enter Tryz.func80, Tryz.ntmps80
  go_wp2_with (go_at_call 75; refine (exists_val _ _ HX _).mono ?_; rintro e w' ⟨rfl, rfl⟩)
  exact bodyPost_ret (v := .agg #[.bool false, .bool false, .bool true, .bool false, .bool false]) (by simp [results, Tryz.results80, go_sem]) rfl ⟨rfl, (Below.refl _ _).alloc (Nat.le_refl _) _⟩
theorem fields_11 (w : World) (h : KT w) : Calls Tryz.prog 80 #[.int .i64 11] w (FldE 11 w) := by
  have HB : Hid (Below w.heap.size w (w.alloc (.cells #[.bool false, .bool false, .bool false, .bool false, .bool false] 143))) := Lib.hid ((Below.refl _ _).alloc (Nat.le_refl _) _)
  have hk := h.below HB.out
  have HX : Hid (exK 11 = true) := Lib.hid (by decide)
  have c0 : (w.alloc (.cells #[.bool false, .bool false, .bool false, .bool false, .bool false] 143)).cell? ⟨0, 55, none⟩ = some (.bool false) := hk 55 (by decide)
  have c1 : (w.alloc (.cells #[.bool false, .bool false, .bool false, .bool false, .bool false] 143)).cell? ⟨0, 56, none⟩ = some (.bool false) := hk 56 (by decide)
  have c2 : (w.alloc (.cells #[.bool false, .bool false, .bool false, .bool false, .bool false] 143)).cell? ⟨0, 57, none⟩ = some (.bool true) := hk 57 (by decide)
  have c3 : (w.alloc (.cells #[.bool false, .bool false, .bool false, .bool false, .bool false] 143)).cell? ⟨0, 58, none⟩ = some (.bool false) := hk 58 (by decide)
  have c4 : (w.alloc (.cells #[.bool false, .bool false, .bool false, .bool false, .bool false] 143)).cell? ⟨0, 59, none⟩ = some (.bool false) := hk 59 (by decide)
  clear hk h
  go_enter Tryz.func80, Tryz.ntmps80
  go_wp2_with (go_at_call 75; refine (exists_val _ _ HX _).mono ?_; rintro e w' ⟨rfl, rfl⟩)
  exact bodyPost_ret (v := .agg #[.bool false, .bool false, .bool true, .bool false, .bool false]) (by simp [results, Tryz.results80, go_sem]) rfl ⟨rfl, (Below.refl _ _).alloc (Nat.le_refl _) _⟩
theorem fields_12 (w : World) (h : KT w) : Calls Tryz.prog 80 #[.int .i64 12] w (FldE 12 w) := by
  have HB : Hid (Below w.heap.size w (w.alloc (.cells #[.bool false, .bool false, .bool false, .bool false, .bool false] 143))) := Lib.hid ((Below.refl _ _).alloc (Nat.le_refl _) _)
  have hk := h.below HB.out
  have HX : Hid (exK 12 = true) := Lib.hid (by decide)
  have c0 : (w.alloc (.cells #[.bool false, .bool false, .bool false, .bool false, .bool false] 143)).cell? ⟨0, 60, none⟩ = some (.bool true) := hk 60 (by decide)
  have c1 : (w.alloc (.cells #[.bool false, .bool false, .bool false, .bool false, .bool false] 143)).cell? ⟨0, 61, none⟩ = some (.bool false) := hk 61 (by decide)
  have c2 : (w.alloc (.cells #[.bool false, .bool false, .bool false, .bool false, .bool false] 143)).cell? ⟨0, 62, none⟩ = some (.bool false) := hk 62 (by decide)
  have c3 : (w.alloc (.cells #[.bool false, .bool false, .bool false, .bool false, .bool false] 143)).cell? ⟨0, 63, none⟩ = some (.bool false) := hk 63 (by decide)
  have c4 : (w.alloc (.cells #[.bool false, .bool false, .bool false, .bool false, .bool false] 143)).cell? ⟨0, 64, none⟩ = some (.bool false) := hk 64 (by decide)
  clear hk h
  go_enter Tryz.func80, Tryz.ntmps80
  go_wp2_with (go_at_call 75; refine (exists_val _ _ HX _).mono ?_; rintro e w' ⟨rfl, rfl⟩)
  exact bodyPost_ret (v := .agg #[.bool true, .bool false, .bool false, .bool false, .bool false]) (by simp [results, Tryz.results80, go_sem]) rfl ⟨rfl, (Below.refl _ _).alloc (Nat.le_refl _) _⟩
theorem fields_13 (w : World) (h : KT w) : Calls Tryz.prog 80 #[.int .i64 13] w (FldE 13 w) := by
  have HB : Hid (Below w.heap.size w (w.alloc (.cells #[.bool false, .bool false, .bool false, .bool false, .bool false] 143))) := Lib.hid ((Below.refl _ _).alloc (Nat.le_refl _) _)
  have hk := h.below HB.out
  have HX : Hid (exK 13 = true) := Lib.hid (by decide)
  have c0 : (w.alloc (.cells #[.bool false, .bool false, .bool false, .bool false, .bool false] 143)).cell? ⟨0, 65, none⟩ = some (.bool true) := hk 65 (by decide)
  have c1 : (w.alloc (.cells #[.bool false, .bool false, .bool false, .bool false, .bool false] 143)).cell? ⟨0, 66, none⟩ = some (.bool true) := hk 66 (by decide)
  have c2 : (w.alloc (.cells #[.bool false, .bool false, .bool false, .bool false, .bool false] 143)).cell? ⟨0, 67, none⟩ = some (.bool false) := hk 67 (by decide)
  have c3 : (w.alloc (.cells #[.bool false, .bool false, .bool false, .bool false, .bool false] 143)).cell? ⟨0, 68, none⟩ = some (.bool true) := hk 68 (by decide)
  have c4 : (w.alloc (.cells #[.bool false, .bool false, .bool false, .bool false, .bool false] 143)).cell? ⟨0, 69, none⟩ = some (.bool false) := hk 69 (by decide)
  clear hk h
  go_enter Tryz.func80, Tryz.ntmps80
  go_wp2_with (go_at_call 75; refine (exists_val _ _ HX _).mono ?_; rintro e w' ⟨rfl, rfl⟩)
  exact bodyPost_ret (v := .agg #[.bool true, .bool true, .bool false, .bool true, .bool false]) (by simp [results, Tryz.results80, go_sem]) rfl ⟨rfl, (Below.refl _ _).alloc (Nat.le_refl _) _⟩
theorem fields_14 (w : World) (h : KT w) : Calls Tryz.prog 80 #[.int .i64 14] w (FldE 14 w) := by
  have HB : Hid (Below w.heap.size w (w.alloc (.cells #[.bool false, .bool false, .bool false, .bool false, .bool false] 143))) := Lib.hid ((Below.refl _ _).alloc (Nat.le_refl _) _)
  have hk := h.below HB.out
  have HX : Hid (exK 14 = true) := Lib.hid (by decide)
  have c0 : (w.alloc (.cells #[.bool false, .bool false, .bool false, .bool false, .bool false] 143)).cell? ⟨0, 70, none⟩ = some (.bool true) := hk 70 (by decide)
  have c1 : (w.alloc (.cells #[.bool false, .bool false, .bool false, .bool false, .bool false] 143)).cell? ⟨0, 71, none⟩ = some (.bool true) := hk 71 (by decide)
  have c2 : (w.alloc (.cells #[.bool false, .bool false, .bool false, .bool false, .bool false] 143)).cell? ⟨0, 72, none⟩ = some (.bool false) := hk 72 (by decide)
  have c3 : (w.alloc (.cells #[.bool false, .bool false, .bool false, .bool false, .bool false] 143)).cell? ⟨0, 73, none⟩ = some (.bool true) := hk 73 (by decide)
  have c4 : (w.alloc (.cells #[.bool false, .bool false, .bool false, .bool false, .bool false] 143)).cell? ⟨0, 74, none⟩ = some (.bool false) := hk 74 (by decide)
  clear hk h
  go_enter Tryz.func80, Tryz.ntmps80
  go_wp2_with (go_at_call 75; refine (exists_val _ _ HX _).mono ?_; rintro e w' ⟨rfl, rfl⟩)
  exact bodyPost_ret (v := .agg #[.bool true, .bool true, .bool false, .bool true, .bool false]) (by simp [results, Tryz.results80, go_sem]) rfl ⟨rfl, (Below.refl _ _).alloc (Nat.le_refl _) _⟩
theorem fields_15 (w : World) (h : KT w) : Calls Tryz.prog 80 #[.int .i64 15] w (FldE 15 w) := by
  have HB : Hid (Below w.heap.size w (w.alloc (.cells #[.bool false, .bool false, .bool false, .bool false, .bool false] 143))) := Lib.hid ((Below.refl _ _).alloc (Nat.le_refl _) _)
  have hk := h.below HB.out
  have HX : Hid (exK 15 = true) := Lib.hid (by decide)
  have c0 : (w.alloc (.cells #[.bool false, .bool false, .bool false, .bool false, .bool false] 143)).cell? ⟨0, 75, none⟩ = some (.bool false) := hk 75 (by decide)
  have c1 : (w.alloc (.cells #[.bool false, .bool false, .bool false, .bool false, .bool false] 143)).cell? ⟨0, 76, none⟩ = some (.bool false) := hk 76 (by decide)
  have c2 : (w.alloc (.cells #[.bool false, .bool false, .bool false, .bool false, .bool false] 143)).cell? ⟨0, 77, none⟩ = some (.bool false) := hk 77 (by decide)
  have c3 : (w.alloc (.cells #[.bool false, .bool false, .bool false, .bool false, .bool false] 143)).cell? ⟨0, 78, none⟩ = some (.bool false) := hk 78 (by decide)
  have c4 : (w.alloc (.cells #[.bool false, .bool false, .bool false, .bool false, .bool false] 143)).cell? ⟨0, 79, none⟩ = some (.bool false) := hk 79 (by decide)
  clear hk h
  go_enter Tryz.func80, Tryz.ntmps80
  go_wp2_with (go_at_call 75; refine (exists_val _ _ HX _).mono ?_; rintro e w' ⟨rfl, rfl⟩)
  exact bodyPost_ret (v := .agg #[.bool false, .bool false, .bool false, .bool false, .bool false]) (by simp [results, Tryz.results80, go_sem]) rfl ⟨rfl, (Below.refl _ _).alloc (Nat.le_refl _) _⟩
theorem fields_16 (w : World) (h : KT w) : Calls Tryz.prog 80 #[.int .i64 16] w (FldE 16 w) := by
  have HB : Hid (Below w.heap.size w (w.alloc (.cells #[.bool false, .bool false, .bool false, .bool false, .bool false] 143))) := Lib.hid ((Below.refl _ _).alloc (Nat.le_refl _) _)
  have hk := h.below HB.out
  have HX : Hid (exK 16 = true) := Lib.hid (by decide)
  have c0 : (w.alloc (.cells #[.bool false, .bool false, .bool false, .bool false, .bool false] 143)).cell? ⟨0, 80, none⟩ = some (.bool false) := hk 80 (by decide)
  have c1 : (w.alloc (.cells #[.bool false, .bool false, .bool false, .bool false, .bool false] 143)).cell? ⟨0, 81, none⟩ = some (.bool false) := hk 81 (by decide)
  have c2 : (w.alloc (.cells #[.bool false, .bool false, .bool false, .bool false, .bool false] 143)).cell? ⟨0, 82, none⟩ = some (.bool false) := hk 82 (by decide)
  have c3 : (w.alloc (.cells #[.bool false, .bool false, .bool false, .bool false, .bool false] 143)).cell? ⟨0, 83, none⟩ = some (.bool false) := hk 83 (by decide)
  have c4 : (w.alloc (.cells #[.bool false, .bool false, .bool false, .bool false, .bool false] 143)).cell? ⟨0, 84, none⟩ = some (.bool true) := hk 84 (by decide)
  clear hk h
  go_enter Tryz.func80, Tryz.ntmps80
  go_wp2_with (go_at_call 75; refine (exists_val _ _ HX _).mono ?_; rintro e w' ⟨rfl, rfl⟩)
  exact bodyPost_ret (v := .agg #[.bool false, .bool false, .bool false, .bool false, .bool true]) (by simp [results, Tryz.results80, go_sem]) rfl ⟨rfl, (Below.refl _ _).alloc (Nat.le_refl _) _⟩
theorem fields_17 (w : World) (h : KT w) : Calls Tryz.prog 80 #[.int .i64 17] w (FldE 17 w) := by
  have HB : Hid (Below w.heap.size w (w.alloc (.cells #[.bool false, .bool false, .bool false, .bool false, .bool false] 143))) := Lib.hid ((Below.refl _ _).alloc (Nat.le_refl _) _)
  have hk := h.below HB.out
  have HX : Hid (exK 17 = true) := Lib.hid (by decide)
  have c0 : (w.alloc (.cells #[.bool false, .bool false, .bool false, .bool false, .bool false] 143)).cell? ⟨0, 85, none⟩ = some (.bool false) := hk 85 (by decide)
  have c1 : (w.alloc (.cells #[.bool false, .bool false, .bool false, .bool false, .bool false] 143)).cell? ⟨0, 86, none⟩ = some (.bool false) := hk 86 (by decide)
  have c2 : (w.alloc (.cells #[.bool false, .bool false, .bool false, .bool false, .bool false] 143)).cell? ⟨0, 87, none⟩ = some (.bool false) := hk 87 (by decide)
  have c3 : (w.alloc (.cells #[.bool false, .bool false, .bool false, .bool false, .bool false] 143)).cell? ⟨0, 88, none⟩ = some (.bool false) := hk 88 (by decide)
  have c4 : (w.alloc (.cells #[.bool false, .bool false, .bool false, .bool false, .bool false] 143)).cell? ⟨0, 89, none⟩ = some (.bool false) := hk 89 (by decide)
  clear hk h
  go_enter Tryz.func80, Tryz.ntmps80
  go_wp2_with (go_at_call 75; refine (exists_val _ _ HX _).mono ?_; rintro e w' ⟨rfl, rfl⟩)
  exact bodyPost_ret (v := .agg #[.bool false, .bool false, .bool false, .bool false, .bool false]) (by simp [results, Tryz.results80, go_sem]) rfl ⟨rfl, (Below.refl _ _).alloc (Nat.le_refl _) _⟩
theorem fields_any (k : Int) (w : World) (h : KT w) : Calls Tryz.prog 80 #[.int .i64 k] w (FldE k w) := by
  cases hx : exK k
  · obtain ⟨e1, e2, e3, e4, e5⟩ := has_none (exK_no hx)
    have HB : Hid (Below w.heap.size w (w.alloc (.cells #[.bool false, .bool false, .bool false, .bool false, .bool false] 143))) := Lib.hid ((Below.refl _ _).alloc (Nat.le_refl _) _)
    have HX := Lib.hid hx
    have HV : Hid (fldV k = .agg #[.bool false, .bool false, .bool false, .bool false, .bool false]) := Lib.hid (by unfold fldV; rw [e1, e2, e3, e4, e5])
    clear h hx e1 e2 e3 e4 e5
    go_enter Tryz.func80, Tryz.ntmps80
    go_wp2_with (go_at_call 75; refine (exists_val _ _ HX _).mono ?_; rintro e w' ⟨rfl, rfl⟩)
    exact bodyPost_ret (v := .agg #[.bool false, .bool false, .bool false, .bool false, .bool false]) (by simp [results, Tryz.results80, go_sem]) rfl ⟨by rw [HV.out], (Below.refl _ _).alloc (Nat.le_refl _) _⟩
  · obtain ⟨h1, h2⟩ := exK_yes hx
    have hc : k = 1 ∨ k = 2 ∨ k = 3 ∨ k = 4 ∨ k = 5 ∨ k = 6 ∨ k = 7 ∨ k = 8 ∨ k = 9 ∨ k = 10 ∨ k = 11 ∨ k = 12 ∨ k = 13 ∨ k = 14 ∨ k = 15 ∨ k = 16 ∨ k = 17 := by omega
    rcases hc with rfl | rfl | rfl | rfl | rfl | rfl | rfl | rfl | rfl | rfl | rfl | rfl | rfl | rfl | rfl | rfl | rfl
    · exact fields_1 w h
    · exact fields_2 w h
    · exact fields_3 w h
    · exact fields_4 w h
    · exact fields_5 w h
    · exact fields_6 w h
    · exact fields_7 w h
    · exact fields_8 w h
    · exact fields_9 w h
    · exact fields_10 w h
    · exact fields_11 w h
    · exact fields_12 w h
    · exact fields_13 w h
    · exact fields_14 w h
    · exact fields_15 w h
    · exact fields_16 w h
    · exact fields_17 w h
end Go.Proofs.YtkdpfjenjcpcfaaGreatDoor
