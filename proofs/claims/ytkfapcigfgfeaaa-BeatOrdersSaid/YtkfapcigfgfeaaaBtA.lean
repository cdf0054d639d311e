/- BtA: What is known of a node (beats): what it may be, and the package's and the document's checks of it. -/
import Derived.Test.YtkfapcigfgfeaaaFlm
import Derived.Test.YtkfapcigfgfeaaaShares
import Derived.Test.YtkfapcigfgfeaaaRefMean
import Derived.Test.YtkfapcigfgfeaaaLists
import Derived.Test.YtkfapcigfgfeaaaSames
namespace Go.Proofs.Ytkfapcigfgfeaaa
open Go.RowKit Flo Mem
set_option maxRecDepth 100000
set_option maxHeartbeats 4000000
set_option linter.unusedVariables false
/-- A call that hands back a value, and leaves what was there. -/
def Ret (v : Value) (w : World) (e : Ending) (w' : World) : Prop := e = .returned v ∧ Below w.heap.size w w'
theorem Ret.mk {v : Value} {w w' : World} (h : Below w.heap.size w w') : Ret v w (.returned v) w' := ⟨rfl, h⟩
/-- A time that may be: finite, and no sign. -/
def okT (x : Int) : Prop := x < 9218868437227405312
instance (x : Int) : Decidable (okT x) := inferInstanceAs (Decidable (x < 9218868437227405312))
def OkB (last : Int) (xs : List Int) : Prop := 0 ≤ last ∧ last ≤ 1099511627775 ∧ xs.length ≤ 16 ∧ ∀ x ∈ xs, okT x
instance (last : Int) (xs : List Int) : Decidable (OkB last xs) := by unfold OkB; infer_instance
def chkE (last : Int) (xs : List Int) : Int := if OkB last xs then 0 else 2
theorem chk_cases (last : Int) (xs : List Int) : (chkE last xs = 0 ∧ OkB last xs) ∨ (chkE last xs = 2 ∧ ¬ OkB last xs) := by
  unfold chkE; by_cases h : OkB last xs
  · rw [if_pos h]; exact Or.inl ⟨rfl, h⟩
  · rw [if_neg h]; exact Or.inr ⟨rfl, h⟩
theorem okT_cases {x : Int} (h : Word x) : (okT x ∧ x < 9223372036854775808 ∧ kindZ x ≠ 3 ∧ kindZ x ≠ 2 ∧ kindZ x ≤ 1) ∨ (¬ okT x ∧ (9223372036854775808 ≤ x ∨ (x < 9223372036854775808 ∧ (kindZ x = 3 ∨ (kindZ x ≠ 3 ∧ kindZ x = 2))))) := by
  have h1 := h.1; have h2 := h.2
  unfold okT
  have := kind_cases h
  omega
theorem not_okT {x : Int} {xs : List Int} (hm : x ∈ xs) (h : ¬ okT x) (last : Int) : ¬ OkB last xs := fun ok => h (ok.2.2.2 x hm)
theorem take_okT {xs : List Int} {k : Nat} (h : ∀ x ∈ xs.take k, okT x) (hk : k < xs.length) (hx : okT xs[k]) : ∀ x ∈ xs.take (k + 1), okT x := by
  rw [List.take_succ_eq_append_getElem hk]
  intro x hm
  rcases List.mem_append.1 hm with hm | hm
  · exact h x hm
  · rw [List.mem_singleton.1 hm]; exact hx
def bC (last : Int) (A : Option Addr) (n c : Nat) : Array Value := #[.int .i64 last, .slice A n c]
theorem wrap_sign {x : Int} (h : Word x) : IntKind.i64.wrap x = if 9223372036854775808 ≤ x then x - 18446744073709551616 else x := by
  have h1 := h.1; have h2 := h.2
  rw [IntKind.wrap_i64]
  split <;> omega
theorem signbit_any (x : Int) (h : Word x) (w : World) :
    Calls Try.prog 39 #[.float .f64 (fnat x)] w fun e w' => e = .returned (.bool (decide (9223372036854775808 ≤ x))) ∧ w = w' := by
  have hb := run_bits x h
  obtain ⟨y, hy⟩ : ∃ y, IntKind.i64.wrap x = y := ⟨_, rfl⟩
  have HY : Hid (decide (y < 0) = decide (9223372036854775808 ≤ x)) := Lib.hid (by
    rw [wrap_sign h] at hy
    have h1 := h.1; have h2 := h.2
    subst hy
    by_cases hs : 9223372036854775808 ≤ x
    · rw [if_pos hs, decide_eq_true (by omega), decide_eq_true hs]
    · rw [if_neg hs, decide_eq_false (by omega), decide_eq_false hs])
  clear h
  go_enter Try.func39, Try.ntmps39
  go_wp2
  go_ret
  exact ⟨ret_bool HY.out, rfl⟩
theorem check_any (last : Int) (xs : List Int) (n c : Nat) (A : Option Addr) (hn : n = xs.length) (hl : xs.length ≤ 200) (hw : ∀ x ∈ xs, Word x) (w : World) (h : Row w w.heap.size A (xs.map fv)) :
    Calls Try.prog 18 #[.agg (bC last A n c)] w (Ret (.int .i64 (chkE last xs)) w) := by
  subst hn
  unfold bC
  have HB0 : Hid (Below w.heap.size w (w.alloc (.cells #[.int .i64 last, .slice A xs.length c] 27))) := Lib.hid ((Below.refl _ _).alloc (Nat.le_refl _) _)
  have HR := Lib.hid (h.alloc (Nat.le_refl _) (.cells #[.int .i64 last, .slice A xs.length c] 27))
  have HW := Lib.hid hw
  have hnl : (xs.length : Int) ≤ 200 := by omega
  clear h hw
  by_cases h1 : last < 0
  · have HE : Hid (chkE last xs = 2) := Lib.hid (if_neg (fun ok => by have := ok.1; omega))
    go_enter Try.func18, Try.ntmps18
    go_wp2
    go_step3
    go_wp2
    go_ret
    rw [HE.out]; exact ⟨rfl, HB0.out⟩
  by_cases h2 : 1099511627775 < last
  · have HE : Hid (chkE last xs = 2) := Lib.hid (if_neg (fun ok => by have := ok.2.1; omega))
    go_enter Try.func18, Try.ntmps18
    go_wp2
    go_step3
    go_wp2
    go_ret
    rw [HE.out]; exact ⟨rfl, HB0.out⟩
  by_cases h3 : 16 < xs.length
  · have HE : Hid (chkE last xs = 2) := Lib.hid (if_neg (fun ok => by have := ok.2.2.1; omega))
    have h3' : (16 : Int) < (xs.length : Int) := by omega
    go_enter Try.func18, Try.ntmps18
    go_wp2
    go_step3
    go_wp2
    go_ret
    rw [HE.out]; exact ⟨rfl, HB0.out⟩
  have h3' : (xs.length : Int) ≤ 16 := by omega
  go_enter Try.func18, Try.ntmps18
  go_wp2
  go_step3
  go_wp2
  go_step3
  go_wp2
  go_loop [3, 23] (fun z i => ∃ k : Nat, k ≤ xs.length ∧ z = .int .i64 0 ∧ i = .int .i64 k ∧ Hid (∀ x ∈ xs.take k, okT x)) (fun _ i => xs.length - (intOf i).toNat)
  case atStart => exact ⟨0, by omega, rfl, rfl, Lib.hid (fun x hx => by simp at hx)⟩
  case round =>
    obtain ⟨k, hk, rfl, rfl, hok⟩ := hrel
    by_cases hlt : k < xs.length
    · obtain ⟨b, o, rfl, _, hc⟩ := HR.out.open_ (by simp; omega)
      obtain ⟨x, hx⟩ : ∃ x, xs[k] = x := ⟨_, rfl⟩
      have hcell : (w.alloc (.cells #[.int .i64 last, .slice (some ⟨b, o, none⟩) xs.length c] 27)).cell? ⟨b, o + k, none⟩ = some (.float .f64 (fnat x)) := (hc k (by simpa using hlt)).trans (by rw [← hx]; exact congrArg some (List.getElem_map (f := fv) (h := by simpa using hlt)))
      have hwx : Word x := by rw [← hx]; exact HW.out _ (List.getElem_mem hlt)
      have hki : (0 : Int) ≤ (k : Int) := by omega
      have hki2 : (k : Int) < (xs.length : Int) := by omega
      have HX := Lib.hid hx
      have HWX := Lib.hid hwx
      have hm : x ∈ xs := by rw [← hx]; exact List.getElem_mem hlt
      have hsel := okT_cases hwx
      have HBAD : Hid (¬ okT x → chkE last xs = 2) := Lib.hid (fun h => if_neg (not_okT hm h last))
      clear hc hx hwx hm
      rcases hsel with ⟨g0, g1, g3, g2, _⟩ | ⟨g0, g1 | ⟨g1, g3 | ⟨g3, g2⟩⟩⟩
      · have hd1 : decide (9223372036854775808 ≤ x) = false := decide_eq_false (by omega)
        have hd3 : decide (kindZ x = 3) = false := decide_eq_false g3
        have hd2 : decide (kindZ x = 2) = false := decide_eq_false g2
        have HOK : Hid (∀ x ∈ xs.take (k + 1), okT x) := Lib.hid (take_okT hok.out hlt (by rw [HX.out]; exact g0))
        clear g0 g1 g3 g2
        go_wp2_with (first
          | (go_at_call 39; refine (signbit_any _ HWX.out _).mono ?_; rintro e w' ⟨rfl, rfl⟩)
          | (go_at_call 37; refine (isnan_any _ HWX.out _).mono ?_; rintro e w' ⟨rfl, rfl⟩)
          | (go_at_call 40; refine (isinf_zero _ HWX.out _).mono ?_; rintro e w' ⟨rfl, rfl⟩))
        go_round
        case rel => exact ⟨k + 1, by omega, rfl, by go_num, HOK⟩
        case measure => simp [intOf]; omega
      all_goals (have HE := Lib.hid (HBAD.out g0); clear g0)
      · have hd1 : decide (9223372036854775808 ≤ x) = true := decide_eq_true g1
        clear g1
        go_wp2_with (first
          | (go_at_call 39; refine (signbit_any _ HWX.out _).mono ?_; rintro e w' ⟨rfl, rfl⟩))
        rw [Exit.noGoto_ret]
        go_ret
        rw [HE.out]; exact ⟨rfl, HB0.out⟩
      · have hd1 : decide (9223372036854775808 ≤ x) = false := decide_eq_false (by omega)
        have hd3 : decide (kindZ x = 3) = true := decide_eq_true g3
        clear g1 g3
        go_wp2_with (first
          | (go_at_call 39; refine (signbit_any _ HWX.out _).mono ?_; rintro e w' ⟨rfl, rfl⟩)
          | (go_at_call 37; refine (isnan_any _ HWX.out _).mono ?_; rintro e w' ⟨rfl, rfl⟩))
        rw [Exit.noGoto_ret]
        go_ret
        rw [HE.out]; exact ⟨rfl, HB0.out⟩
      · have hd1 : decide (9223372036854775808 ≤ x) = false := decide_eq_false (by omega)
        have hd3 : decide (kindZ x = 3) = false := decide_eq_false g3
        have hd2 : decide (kindZ x = 2) = true := decide_eq_true g2
        clear g1 g3 g2
        go_wp2_with (first
          | (go_at_call 39; refine (signbit_any _ HWX.out _).mono ?_; rintro e w' ⟨rfl, rfl⟩)
          | (go_at_call 37; refine (isnan_any _ HWX.out _).mono ?_; rintro e w' ⟨rfl, rfl⟩)
          | (go_at_call 40; refine (isinf_zero _ HWX.out _).mono ?_; rintro e w' ⟨rfl, rfl⟩))
        rw [Exit.noGoto_ret]
        go_ret
        rw [HE.out]; exact ⟨rfl, HB0.out⟩
    · have HE : Hid (chkE last xs = 0) := Lib.hid (if_pos ⟨by omega, by omega, by omega, by have := hok.out; rw [List.take_of_length_le (by omega)] at this; exact this⟩)
      go_wp2
      go_ret
      rw [HE.out]; exact ⟨rfl, HB0.out⟩
end Go.Proofs.Ytkfapcigfgfeaaa
