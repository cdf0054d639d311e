/- What layer 1's Least answers, the program's and the document's, of any list of numbers. -/
import Derived.Test.YtbklpnpgmhnggaaLists
import Derived.Test.YtbklpnpgmhnggaaShares
import Derived.Deep.LoopGhost
import Derived.Deep.QuietTactic
import Derived.BigQuiet
namespace Go.Proofs.Ytbklpnpgmhnggaa
open Go.RowKit Flo Mem
set_option maxRecDepth 10000
set_option maxHeartbeats 800000
def NInf : Int := 18442240474082181120
def PInf : Int := 9218868437227405312
def negZ (n : Int) : Int := if 9223372036854775808 ≤ n then n - 9223372036854775808 else n + 9223372036854775808
theorem word_negZ {n : Int} (h : Word n) : Word (negZ n) := by
  have h1 := h.1; have h2 := h.2
  unfold negZ Word; split <;> omega
theorem neg_bits {n : Int} (h : Word n) : Op.negFloat .f64 (fnat n) = fnat (negZ n) := by
  have h1 := h.1; have h2 := h.2
  have e : FloatKind.f64.format.exponentBits + FloatKind.f64.format.fractionBits = 63 := rfl
  unfold Op.negFloat
  rw [e]
  have hb : fnat n < 2 ^ 64 := by have := fnat_lt h; omega
  unfold negZ
  by_cases hs : 9223372036854775808 ≤ n
  · rw [if_pos hs]
    obtain ⟨m, hm, hlt⟩ : ∃ m, fnat n = 2 ^ 63 * 1 + m ∧ m < 2 ^ 63 := ⟨fnat n - 2 ^ 63, by unfold fnat; omega, by omega⟩
    have e1 : fnat n = 2 ^ 63 * 1 ||| m := by rw [hm]; exact Nat.two_pow_add_eq_or_of_lt hlt 1
    have e2 : 2 ^ 63 * 1 ||| m = (2 ^ 63) ^^^ m := by
      rw [Nat.mul_one]
      apply Nat.eq_of_testBit_eq
      intro i
      rw [Nat.testBit_or, Nat.testBit_xor, Nat.testBit_two_pow]
      by_cases hi : 63 = i
      · subst hi; rw [Nat.testBit_lt_two_pow hlt]; rfl
      · simp [hi]
    rw [e1, e2, Nat.xor_comm, ← Nat.xor_assoc, Nat.xor_self, Nat.zero_xor]
    unfold fnat at hm ⊢; omega
  · rw [if_neg hs]
    have hlt : fnat n < 2 ^ 63 := by unfold fnat; omega
    have e1 : 2 ^ 63 * 1 + fnat n = 2 ^ 63 * 1 ||| fnat n := Nat.two_pow_add_eq_or_of_lt hlt 1
    have e2 : fnat n ^^^ 2 ^ 63 = 2 ^ 63 * 1 ||| fnat n := by
      rw [Nat.mul_one]
      apply Nat.eq_of_testBit_eq
      intro i
      rw [Nat.testBit_or, Nat.testBit_xor, Nat.testBit_two_pow]
      by_cases hi : 63 = i
      · subst hi; rw [Nat.testBit_lt_two_pow hlt]; rfl
      · simp [hi]
    rw [e2, ← e1]
    unfold fnat at *; omega
theorem run_neg {P : Program} {n : Int} (h : Word n) (w : World) : (Op.unary .neg (.float .f64 (fnat n))).run P w = .ok (.float .f64 (fnat (negZ n))) w := by
  show Result.ok (Value.float .f64 (Op.negFloat .f64 (fnat n))) w = _
  rw [neg_bits h]
theorem gt_top_neg {n : Int} (h : Word n) : (FloatKind.f64.format.order (fnat (negZ n)) 9218868437227405311 == some .gt) = decide (n = NInf) := by
  have h1 := h.1; have h2 := h.2
  have hm := word_negZ h
  have hc := kind_cases hm
  have e0 : (9218868437227405311 : Nat) = fnat 9218868437227405311 := rfl
  by_cases h3 : kindZ (negZ n) = 3
  · rw [order_nan _ hm h3]
    have : ¬ n = NInf := by intro e; rw [e] at h3; exact absurd h3 (by decide)
    rw [decide_eq_false this]; rfl
  · rw [e0, gt_num hm word_top h3 (by decide)]
    have e2 : plZ 9218868437227405311 = 9218868437227405311 := by decide
    rw [e2]
    have hp := pl_le hm h3
    by_cases he : n = NInf
    · rw [he]; decide
    · rw [decide_eq_false he]
      refine decide_eq_false ?_
      intro hlt
      have hpe : plZ (negZ n) = 9218868437227405312 := by omega
      apply he
      unfold NInf
      unfold plZ negZ at hpe
      by_cases hs : 9223372036854775808 ≤ n
      · simp only [if_pos hs] at hpe
        by_cases hs2 : 9223372036854775808 ≤ n - 9223372036854775808
        · simp only [if_pos hs2] at hpe; omega
        · simp only [if_neg hs2] at hpe; omega
      · simp only [if_neg hs] at hpe
        by_cases hs2 : 9223372036854775808 ≤ n + 9223372036854775808
        · simp only [if_pos hs2] at hpe; omega
        · simp only [if_neg hs2] at hpe; omega
theorem isinf_neg (n : Int) (h : Word n) (w : World) :
    Calls Try.prog 43 #[.float .f64 (fnat n), .int .i64 (-1)] w fun e w' => e = .returned (.bool (decide (n = NInf))) ∧ w = w' := by
  have hn := run_neg (P := Try.prog) h
  have H := Lib.hid h; clear h
  go_enter Try.func43, Try.ntmps43
  go_wp2
  go_ret
  exact ⟨ret_bool (gt_top_neg H.out), rfl⟩

/-! the least one -/
def lessF (m x : Int) : Int := if cmpZ x m < 0 then x else m
def leastZ (xs : List Int) : Int := xs.foldl lessF (xs.headD 0)
def upto (xs : List Int) (k : Nat) : Int := (xs.take k).foldl lessF (xs.headD 0)
theorem upto_snoc (xs : List Int) (k : Nat) (h : k < xs.length) : upto xs (k + 1) = lessF (upto xs k) xs[k] := by
  unfold upto; rw [List.take_succ_eq_append_getElem h, List.foldl_append]; rfl
theorem upto_all (xs : List Int) (k : Nat) (h : xs.length ≤ k) : upto xs k = leastZ xs := by
  unfold upto leastZ; rw [List.take_of_length_le h]
theorem upto_word (xs : List Int) (hw : ∀ x ∈ xs, Word x) (h0 : 0 < xs.length) (k : Nat) : Word (upto xs k) := by
  induction k with
  | zero =>
    cases xs with
    | nil => simp at h0
    | cons x xs => exact hw x (by simp)
  | succ k ih =>
    rcases Nat.lt_or_ge k xs.length with h | h
    · rw [upto_snoc xs k h]
      unfold lessF; split
      · exact hw _ (List.getElem_mem h)
      · exact ih
    · have e : upto xs (k + 1) = upto xs k := by rw [upto_all xs k h, upto_all xs (k + 1) (by omega)]
      rw [e]; exact ih
theorem low_key {a : Int} (h : Word a) : 4503599627370495 ≤ keyZ (canZ a) := by
  by_cases h3 : kindZ a = 3
  · rw [can_nan_key h3]; decide
  · have h1 := h.1; have h2 := h.2
    have hc := kind_cases h
    rw [can_key h h3]
    have : -9218868437227405312 ≤ plZ a := by unfold plZ; split <;> omega
    split <;> omega
theorem not_less {a : Int} (h : Word a) : ¬ cmpZ a NInf < 0 := by
  have h1 := low_key h
  have e : keyZ (canZ NInf) = 4503599627370495 := by decide
  have := cmp3_range (keyZ (canZ a)) (keyZ (canZ NInf))
  unfold cmpZ
  omega
theorem fold_low (ys : List Int) (hw : ∀ y ∈ ys, Word y) : ys.foldl lessF NInf = NInf := by
  induction ys with
  | nil => rfl
  | cons y ys ih =>
    rw [List.foldl_cons]
    have : lessF NInf y = NInf := by unfold lessF; rw [if_neg (not_less (hw y (by simp)))]
    rw [this]
    exact ih fun z hz => hw z (by simp [hz])
theorem upto_break (xs : List Int) (hw : ∀ x ∈ xs, Word x) (k : Nat) (h : upto xs k = NInf) : leastZ xs = NInf := by
  unfold leastZ
  conv => lhs; rw [← List.take_append_drop k xs]
  rw [List.foldl_append]
  have e : (xs.take k).foldl lessF ((xs.take k ++ xs.drop k).headD 0) = NInf := by rw [List.take_append_drop]; exact h
  rw [e]
  exact fold_low _ fun y hy => hw y (List.mem_of_mem_drop hy)
theorem least_nil (c : Nat) (A : Option Addr) (w : World) :
    Calls Try.prog 25 #[.slice A 0 c] w fun e w' => e = .returned (.tuple #[.float .f64 0, .int .i64 4]) ∧ w = w' := by
  go_enter Try.func25, Try.ntmps25
  go_wp2
  go_step3
  go_wp2
  first | rw [Exit.noGoto_ret] | skip
  go_ret2
  exact ⟨rfl, rfl⟩
theorem least_any (B c n : Nat) (A : Option Addr) (xs : List Int) (w : World) (hn : n = xs.length) (h : Row w B A (xs.map fv)) (hw : ∀ x ∈ xs, Word x) (h0 : 0 < xs.length) (h1 : xs.length ≤ 400) :
    Calls Try.prog 25 #[.slice A n c] w fun e w' => e = .returned (.tuple #[.float .f64 (fnat (leastZ xs)), .int .i64 0]) ∧ w = w' := by
  subst hn
  obtain ⟨b, o, rfl, _, hc⟩ := h.open_ (by simpa using h0)
  have hcell : ∀ k (h : k < xs.length), w.cell? ⟨b, o + k, none⟩ = some (.float .f64 (fnat xs[k])) := fun k hk => (hc k (by simpa using hk)).trans (congrArg some (List.getElem_map (f := fv) (h := by simpa using hk)))
  have hc0 : w.cell? ⟨b, o, none⟩ = some (.float .f64 (fnat xs[0])) := hcell 0 h0
  have h0' : (0 : Int) < (xs.length : Int) := by omega
  have hne : ((xs.length : Int) == 0) = false := beq_false_of_ne (by omega)
  have HC := Lib.hid hcell
  have HW := Lib.hid hw
  have HU : Hid (∀ k, Word (upto xs k)) := fun k => upto_word xs hw h0 k
  have hs0 : Hid (upto xs 0 = xs[0]) := by
    cases xs with
    | nil => simp at h0
    | cons x xs => rfl
  clear hc hcell hw h
  go_enter Try.func25, Try.ntmps25
  go_wp2
  go_step3
  go_wp2
  go_step3
  go_wp2
  go_loop [4, 15] (fun m i => ∃ k : Nat, k ≤ xs.length ∧ i = .int .i64 k ∧ m = .float .f64 (fnat (upto xs k))) (fun _ i => xs.length - (intOf i).toNat)
  case atStart => exact ⟨0, by omega, rfl, by rw [hs0.out]⟩
  case round =>
    obtain ⟨k, hk, rfl, rfl⟩ := hrel
    by_cases hlt : k < xs.length
    · have hcx := HC.out k hlt
      obtain ⟨x, hx⟩ : ∃ x, xs[k] = x := ⟨_, rfl⟩
      have hwx : Hid (Word x) := by rw [← hx]; exact HW.out _ (List.getElem_mem hlt)
      rw [hx] at hcx
      have HX := Lib.hid hx
      clear hx
      by_cases hb : upto xs k = NInf
      · have hd : decide (upto xs k = NInf) = true := decide_eq_true hb
        have HB := Lib.hid (upto_break xs HW.out k hb)
        have HE := Lib.hid hb
        clear hb
        go_wp2_with (first
          | (go_at_call 43; refine (isinf_neg _ (HU.out _) _).mono ?_; rintro e w' ⟨rfl, rfl⟩)
          | (go_at_call 20; refine (compare_any _ _ hwx.out (HU.out _) _).mono ?_; rintro e w' ⟨rfl, rfl⟩))
        rw [Exit.noGoto_ret]
        go_ret2
        exact ⟨mean_pair (HE.out.trans HB.out.symm) rfl, rfl⟩
      · have hd : decide (upto xs k = NInf) = false := decide_eq_false hb
        clear hb
        by_cases hl : cmpZ x (upto xs k) < 0
        · go_wp2_with (first
            | (go_at_call 43; refine (isinf_neg _ (HU.out _) _).mono ?_; rintro e w' ⟨rfl, rfl⟩)
            | (go_at_call 20; refine (compare_any _ _ hwx.out (HU.out _) _).mono ?_; rintro e w' ⟨rfl, rfl⟩))
          go_round
          case rel => exact ⟨k + 1, by omega, by go_num, by rw [upto_snoc xs k hlt, HX.out]; unfold lessF; rw [if_pos hl]⟩
          case measure => simp [intOf]; omega
        · go_wp2_with (first
            | (go_at_call 43; refine (isinf_neg _ (HU.out _) _).mono ?_; rintro e w' ⟨rfl, rfl⟩)
            | (go_at_call 20; refine (compare_any _ _ hwx.out (HU.out _) _).mono ?_; rintro e w' ⟨rfl, rfl⟩))
          go_round
          case rel => exact ⟨k + 1, by omega, by go_num, by rw [upto_snoc xs k hlt, HX.out]; unfold lessF; rw [if_neg (by omega)]⟩
          case measure => simp [intOf]; omega
    · have hall := Lib.hid (upto_all xs k (by omega))
      go_wp2
      go_ret2
      exact ⟨mean_pair hall.out rfl, rfl⟩
/-! where it is -/
def stepP (xs : List Int) (p k : Nat) : Nat := if cmpZ (xs.getD k 0) (xs.getD p 0) < 0 then k else p
def placeU (xs : List Int) (k : Nat) : Nat := (List.range k).foldl (stepP xs) 0
def placeZ (xs : List Int) : Nat := placeU xs xs.length
theorem place_succ (xs : List Int) (k : Nat) : placeU xs (k + 1) = stepP xs (placeU xs k) k := by
  unfold placeU; rw [List.range_succ, List.foldl_append]; rfl
theorem cmp_self (a : Int) : cmpZ a a = 0 := cmp3_eq (Int.le_refl _) (Int.le_refl _)
theorem place_lt (xs : List Int) (h0 : 0 < xs.length) (k : Nat) (hk : k ≤ xs.length) : placeU xs k < xs.length := by
  induction k with
  | zero => exact h0
  | succ k ih =>
    rw [place_succ]; unfold stepP; split
    · omega
    · exact ih (by omega)
theorem place_upto (xs : List Int) (h0 : 0 < xs.length) (k : Nat) (hk : k ≤ xs.length) : xs.getD (placeU xs k) 0 = upto xs k := by
  induction k with
  | zero =>
    cases xs with
    | nil => simp at h0
    | cons x xs => rfl
  | succ k ih =>
    have hlt : k < xs.length := by omega
    have hg : xs.getD k 0 = xs[k] := by rw [List.getD_eq_getElem?_getD, List.getElem?_eq_getElem hlt]; rfl
    rw [place_succ, upto_snoc xs k hlt, ← ih (by omega), ← hg]
    unfold stepP lessF
    split <;> rfl
theorem place_one (xs : List Int) : placeU xs 1 = 0 := by
  unfold placeU stepP; simp [List.range_succ]
theorem refleast_any (B c n : Nat) (A : Option Addr) (xs : List Int) (w : World) (hn : n = xs.length) (h : Row w B A (xs.map iv)) (hw : ∀ x ∈ xs, Word x) (h0 : 0 < xs.length) (h1 : xs.length ≤ 200) :
    Calls Try.prog 28 #[.slice A n c] w fun e w' => e = .returned (.int .i64 (placeZ xs)) ∧ ∃ q, w' = w.drewN q := by
  subst hn
  obtain ⟨b, o, rfl, _, hc⟩ := h.open_ (by simpa using h0)
  have hcell : ∀ k (h : k < xs.length), w.cell? ⟨b, o + k, none⟩ = some (.int .u64 (xs.getD k 0)) := fun k hk => (hc k (by simpa using hk)).trans (by
    rw [List.getElem_map, List.getD_eq_getElem?_getD, List.getElem?_eq_getElem hk]; rfl)
  have HC := Lib.hid hcell
  have HW : Hid (∀ k, k < xs.length → Word (xs.getD k 0)) := fun k hk => by
    rw [List.getD_eq_getElem?_getD, List.getElem?_eq_getElem hk]; exact hw _ (List.getElem_mem hk)
  have HP : Hid (∀ k, k ≤ xs.length → placeU xs k < xs.length) := fun k hk => place_lt xs h0 k hk
  have H1 := Lib.hid (place_one xs)
  clear hc hcell hw h
  go_enter Try.func28, Try.ntmps28
  go_wp2
  go_loopw [3, 4] (fun p i wr => ∃ k q : Nat, 1 ≤ k ∧ k ≤ xs.length ∧ i = .int .i64 k ∧ p = .int .i64 (placeU xs k) ∧ wr = w.drewN q) (fun _ i _ => xs.length - (intOf i).toNat)
  case atStart => exact ⟨1, 0, by omega, by omega, rfl, by rw [H1.out]; rfl, rfl⟩
  case round =>
    obtain ⟨k, q, hk1, hk, rfl, rfl, hwr⟩ := hrel
    have HWR := Lib.hid hwr
    by_cases hlt : k < xs.length
    · have hp := HP.out k hk
      obtain ⟨p, hpe⟩ : ∃ p, placeU xs k = p := ⟨_, rfl⟩
      rw [hpe] at hp ⊢
      have HPE := Lib.hid hpe
      clear hpe
      obtain ⟨x, hx⟩ : ∃ x, xs.getD k 0 = x := ⟨_, rfl⟩
      obtain ⟨y, hy⟩ : ∃ y, xs.getD p 0 = y := ⟨_, rfl⟩
      have hcx : wr.cell? ⟨b, o + k, none⟩ = some (.int .u64 x) := by rw [← hx, hwr]; exact HC.out k hlt
      have hcy : wr.cell? ⟨b, o + p, none⟩ = some (.int .u64 y) := by rw [← hy, hwr]; exact HC.out p hp
      have hwx : Hid (Word x) := by rw [← hx]; exact HW.out k hlt
      have hwy : Hid (Word y) := by rw [← hy]; exact HW.out p hp
      have HX := Lib.hid hx; have HY := Lib.hid hy
      clear hx hy
      have hpi : (p : Int) < (xs.length : Int) := by omega
      clear hwr
      by_cases hl : cmpZ x y < 0
      · go_wp2
        go_quiet ((go_at_call 21; exact Calls.quiet_of_same ((refcompare_any _ _ hwx.out hwy.out _).mono fun _ _ ⟨h1, h2⟩ => ⟨h1, h2.symm⟩)))
        go_wp2
        go_roundw
        case rel => exact ⟨k + 1, q + nq, by omega, by omega, by go_num, by rw [place_succ, HPE.out]; unfold stepP; rw [HX.out, HY.out, if_pos hl], by rw [HWR.out, World.drewN_drewN]⟩
        case measure => simp [intOf]; omega
      · go_wp2
        go_quiet ((go_at_call 21; exact Calls.quiet_of_same ((refcompare_any _ _ hwx.out hwy.out _).mono fun _ _ ⟨h1, h2⟩ => ⟨h1, h2.symm⟩)))
        go_wp2
        go_roundw
        case rel => exact ⟨k + 1, q + nq, by omega, by omega, by go_num, by rw [place_succ, HPE.out]; unfold stepP; rw [HX.out, HY.out, if_neg (by omega)], by rw [HWR.out, World.drewN_drewN]⟩
        case measure => simp [intOf]; omega
    · have e : k = xs.length := by omega
      clear hwr
      go_wp2
      go_ret
      subst e
      exact ⟨rfl, q, HWR.out⟩
end Go.Proofs.Ytbklpnpgmhnggaa
