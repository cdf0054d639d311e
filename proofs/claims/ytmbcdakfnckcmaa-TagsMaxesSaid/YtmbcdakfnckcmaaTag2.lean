/- The document's calls on tags: how two stand, whether one may be; the next one, by both. -/
import Derived.Test.YtmbcdakfnckcmaaTag
namespace Go.Proofs.Ytmbcdakfnckcmaa
open Go.RowKit Mem
set_option maxRecDepth 10000
set_option maxHeartbeats 1000000
theorem cmpI_lt {a x : Int} (h : a < x) : cmpI a x = -1 := if_pos h
theorem cmpI_gt {a x : Int} (h : x < a) : cmpI a x = 1 := (if_neg (by omega)).trans (if_pos h)
theorem cmpI_eq (a : Int) : cmpI a a = 0 := (if_neg (by omega)).trans (if_neg (by omega))
theorem cmpI_cases (a x : Int) : (a < x ∧ cmpI a x = -1) ∨ (x < a ∧ cmpI a x = 1) ∨ (a = x ∧ cmpI a x = 0) := by
  rcases Int.lt_trichotomy a x with h | h | h
  · exact Or.inl ⟨h, cmpI_lt h⟩
  · subst h; exact Or.inr (Or.inr ⟨rfl, cmpI_eq a⟩)
  · exact Or.inr (Or.inl ⟨h, cmpI_gt h⟩)
theorem cmpT_1 {a b c x y z : Int} (h : a ≠ x) : cmpT a b c x y z = cmpI a x := by
  unfold cmpT; rcases cmpI_cases a x with ⟨_, h2⟩ | ⟨_, h2⟩ | ⟨h2, _⟩
  · rw [h2]; rfl
  · rw [h2]; rfl
  · exact absurd h2 h
theorem cmpT_2 {a b c x y z : Int} (h0 : a = x) (h : b ≠ y) : cmpT a b c x y z = cmpI b y := by
  subst h0
  unfold cmpT; rw [cmpI_eq, if_neg (by simp)]
  rcases cmpI_cases b y with ⟨_, h2⟩ | ⟨_, h2⟩ | ⟨h2, _⟩
  · rw [h2]; rfl
  · rw [h2]; rfl
  · exact absurd h2 h
theorem cmpT_3 {a b c x y z : Int} (h0 : a = x) (h1 : b = y) : cmpT a b c x y z = cmpI c z := by
  subst h0; subst h1
  unfold cmpT; rw [cmpI_eq, cmpI_eq, if_neg (by simp), if_neg (by simp)]
theorem below4 (w : World) (o1 o2 o3 o4 : Obj) (q : Nat) : Below w.heap.size w (((((w.alloc o1).alloc o2).alloc o3).alloc o4).drewN q) :=
  (((((Below.refl _ _).alloc (Nat.le_refl _) _).alloc (by simp) _).alloc (by simp; omega) _).alloc (by simp; omega) _).trans ⟨rfl, rfl, rfl, Nat.le_refl _, fun _ _ => rfl⟩
theorem refcompare_any (a b c x y z : Int) (w : World) : Calls Try.prog 15 #[tagV a b c, tagV x y z] w (IsI (cmpT a b c x y z) w) := by
  go_enter Try.func15, Try.ntmps15
  go_wp2
  go_loopw [7] (fun i wr => ∃ k : Nat, k ≤ 3 ∧ i = .int .i64 k ∧ Hid ((0 < k → a = x) ∧ (1 < k → b = y) ∧ (2 < k → c = z)) ∧ Hid (∃ q, wr = ((((w.alloc (.cells #[.int .i64 a, .int .i64 b, .int .i64 c] 25)).alloc (.cells #[.int .i64 x, .int .i64 y, .int .i64 z] 25)).alloc (.cells #[.int .i64 a, .int .i64 b, .int .i64 c] 3)).alloc (.cells #[.int .i64 x, .int .i64 y, .int .i64 z] 3)).drewN q)) (fun i _ => 3 - (intOf i).toNat)
  case atStart => exact ⟨0, by omega, rfl, Lib.hid (by omega), Lib.hid ⟨0, rfl⟩⟩
  case round =>
    obtain ⟨k, hk, rfl, HZ, HQ⟩ := hrel
    have HB : Hid (Below w.heap.size w wr) := Lib.hid (by obtain ⟨q, rfl⟩ := HQ.out; exact below4 ..)
    match k, hk, HZ with
    | 0, _, HZ =>
      have h1 : wr.cell? ⟨w.heap.size + 1 + 1, 0, none⟩ = some (.int .i64 a) := by obtain ⟨q, rfl⟩ := HQ.out; go_simp
      have h2 : wr.cell? ⟨w.heap.size + 1 + 1 + 1, 0, none⟩ = some (.int .i64 x) := by obtain ⟨q, rfl⟩ := HQ.out; go_simp
      rcases Int.lt_trichotomy a x with hlt | heq | hgt
      · have HV : Hid (cmpT a b c x y z = -1) := Lib.hid ((cmpT_1 (by omega)).trans (cmpI_lt hlt))
        go_wp2
        go_quiet (fail)
        go_wp2
        go_ret
        exact isI_of HV.out.symm (HB.out.trans ⟨rfl, rfl, rfl, Nat.le_refl _, fun _ _ => rfl⟩)
      · have HE := Lib.hid heq
        have hn1 : a ≤ x := by omega
        have hn2 : x ≤ a := by omega
        clear heq
        go_wp2
        go_quiet (fail)
        go_wp2
        go_quiet (fail)
        go_wp2
        go_roundw
        case rel => exact ⟨1, by omega, rfl, Lib.hid ⟨fun _ => HE.out, by omega, by omega⟩, Lib.hid (by obtain ⟨q, rfl⟩ := HQ.out; exact ⟨_, by simp only [World.drewN_drewN]; rfl⟩)⟩
        case measure => simp [intOf]
      · have HV : Hid (cmpT a b c x y z = 1) := Lib.hid ((cmpT_1 (by omega)).trans (cmpI_gt hgt))
        have hn : x ≤ a := by omega
        go_wp2
        go_quiet (fail)
        go_wp2
        go_quiet (fail)
        go_wp2
        go_ret
        exact isI_of HV.out.symm (HB.out.trans ⟨rfl, rfl, rfl, Nat.le_refl _, fun _ _ => rfl⟩)
    | 1, _, HZ =>
      have h1 : wr.cell? ⟨w.heap.size + 1 + 1, 1, none⟩ = some (.int .i64 b) := by obtain ⟨q, rfl⟩ := HQ.out; go_simp
      have h2 : wr.cell? ⟨w.heap.size + 1 + 1 + 1, 1, none⟩ = some (.int .i64 y) := by obtain ⟨q, rfl⟩ := HQ.out; go_simp
      rcases Int.lt_trichotomy b y with hlt | heq | hgt
      · have HV : Hid (cmpT a b c x y z = -1) := Lib.hid ((cmpT_2 (HZ.out.1 (by omega)) (by omega)).trans (cmpI_lt hlt))
        go_wp2
        go_quiet (fail)
        go_wp2
        go_ret
        exact isI_of HV.out.symm (HB.out.trans ⟨rfl, rfl, rfl, Nat.le_refl _, fun _ _ => rfl⟩)
      · have HE := Lib.hid heq
        have hn1 : b ≤ y := by omega
        have hn2 : y ≤ b := by omega
        clear heq
        go_wp2
        go_quiet (fail)
        go_wp2
        go_quiet (fail)
        go_wp2
        go_roundw
        case rel => exact ⟨2, by omega, rfl, Lib.hid ⟨fun _ => HZ.out.1 (by omega), fun _ => HE.out, by omega⟩, Lib.hid (by obtain ⟨q, rfl⟩ := HQ.out; exact ⟨_, by simp only [World.drewN_drewN]; rfl⟩)⟩
        case measure => simp [intOf]
      · have HV : Hid (cmpT a b c x y z = 1) := Lib.hid ((cmpT_2 (HZ.out.1 (by omega)) (by omega)).trans (cmpI_gt hgt))
        have hn : y ≤ b := by omega
        go_wp2
        go_quiet (fail)
        go_wp2
        go_quiet (fail)
        go_wp2
        go_ret
        exact isI_of HV.out.symm (HB.out.trans ⟨rfl, rfl, rfl, Nat.le_refl _, fun _ _ => rfl⟩)
    | 2, _, HZ =>
      have h1 : wr.cell? ⟨w.heap.size + 1 + 1, 2, none⟩ = some (.int .i64 c) := by obtain ⟨q, rfl⟩ := HQ.out; go_simp
      have h2 : wr.cell? ⟨w.heap.size + 1 + 1 + 1, 2, none⟩ = some (.int .i64 z) := by obtain ⟨q, rfl⟩ := HQ.out; go_simp
      rcases Int.lt_trichotomy c z with hlt | heq | hgt
      · have HV : Hid (cmpT a b c x y z = -1) := Lib.hid ((cmpT_3 (HZ.out.1 (by omega)) (HZ.out.2.1 (by omega))).trans (cmpI_lt hlt))
        go_wp2
        go_quiet (fail)
        go_wp2
        go_ret
        exact isI_of HV.out.symm (HB.out.trans ⟨rfl, rfl, rfl, Nat.le_refl _, fun _ _ => rfl⟩)
      · have HE := Lib.hid heq
        have hn1 : c ≤ z := by omega
        have hn2 : z ≤ c := by omega
        clear heq
        go_wp2
        go_quiet (fail)
        go_wp2
        go_quiet (fail)
        go_wp2
        go_roundw
        case rel => exact ⟨3, by omega, rfl, Lib.hid ⟨fun _ => HZ.out.1 (by omega), fun _ => HZ.out.2.1 (by omega), fun _ => HE.out⟩, Lib.hid (by obtain ⟨q, rfl⟩ := HQ.out; exact ⟨_, by simp only [World.drewN_drewN]; rfl⟩)⟩
        case measure => simp [intOf]
      · have HV : Hid (cmpT a b c x y z = 1) := Lib.hid ((cmpT_3 (HZ.out.1 (by omega)) (HZ.out.2.1 (by omega))).trans (cmpI_gt hgt))
        have hn : z ≤ c := by omega
        go_wp2
        go_quiet (fail)
        go_wp2
        go_quiet (fail)
        go_wp2
        go_ret
        exact isI_of HV.out.symm (HB.out.trans ⟨rfl, rfl, rfl, Nat.le_refl _, fun _ _ => rfl⟩)
    | 3, _, HZ =>
      have HV : Hid (cmpT a b c x y z = 0) := Lib.hid ((cmpT_3 (HZ.out.1 (by omega)) (HZ.out.2.1 (by omega))).trans (by rw [HZ.out.2.2 (by omega)]; exact cmpI_eq z))
      go_wp2
      go_ret
      exact isI_of HV.out.symm HB.out
end Go.Proofs.Ytmbcdakfnckcmaa
