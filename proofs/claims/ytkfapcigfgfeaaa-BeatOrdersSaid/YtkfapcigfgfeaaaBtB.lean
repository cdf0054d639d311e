/- BtB: What is known of a node: the document's check, and whether it may be asked now; the time since; what a score is. -/
import Derived.Test.YtkfapcigfgfeaaaBtA
import Derived.Test.YtkfapcigfgfeaaaFlq
namespace Go.Proofs.Ytkfapcigfgfeaaa
open Go.RowKit Flo Mem
set_option maxRecDepth 100000
set_option maxHeartbeats 4000000
set_option linter.unusedVariables false
theorem refcheck_any (last : Int) (xs : List Int) (n c : Nat) (A : Option Addr) (hn : n = xs.length) (hl : xs.length ≤ 200) (hw : ∀ x ∈ xs, Word x) (w : World) (h : Row w w.heap.size A (xs.map fv)) :
    Calls Try.prog 19 #[.agg (bC last A n c)] w (Ret (.int .i64 (chkE last xs)) w) := by
  subst hn
  unfold bC
  have HB0 : Hid (Below w.heap.size w (w.alloc (.cells #[.int .i64 last, .slice A xs.length c] 27))) := Lib.hid ((Below.refl _ _).alloc (Nat.le_refl _) _)
  have HR := Lib.hid (h.alloc (Nat.le_refl _) (.cells #[.int .i64 last, .slice A xs.length c] 27))
  have HW := Lib.hid hw
  have hnl : (xs.length : Int) ≤ 200 := by omega
  clear h hw
  by_cases h1 : last < 0
  · have HE : Hid (chkE last xs = 2) := Lib.hid (if_neg (fun ok => by have := ok.1; omega))
    go_enter Try.func19, Try.ntmps19
    go_wp2
    go_ret
    rw [HE.out]; exact ⟨rfl, HB0.out⟩
  by_cases h2 : 1099511627775 < last
  · have HE : Hid (chkE last xs = 2) := Lib.hid (if_neg (fun ok => by have := ok.2.1; omega))
    go_enter Try.func19, Try.ntmps19
    go_wp2
    go_ret
    rw [HE.out]; exact ⟨rfl, HB0.out⟩
  by_cases h3 : 16 < xs.length
  · have HE : Hid (chkE last xs = 2) := Lib.hid (if_neg (fun ok => by have := ok.2.2.1; omega))
    have h3' : (16 : Int) < (xs.length : Int) := by omega
    go_enter Try.func19, Try.ntmps19
    go_wp2
    go_ret
    rw [HE.out]; exact ⟨rfl, HB0.out⟩
  have h3' : (xs.length : Int) ≤ 16 := by omega
  go_enter Try.func19, Try.ntmps19
  go_wp2
  go_loop [3] (fun i => ∃ k : Nat, k ≤ xs.length ∧ i = .int .i64 k ∧ Hid (∀ x ∈ xs.take k, okT x)) (fun i => xs.length - (intOf i).toNat)
  case atStart => exact ⟨0, by omega, rfl, Lib.hid (fun x hx => by simp at hx)⟩
  case round =>
    obtain ⟨k, hk, rfl, hok⟩ := hrel
    by_cases hlt : k < xs.length
    · obtain ⟨b, o, rfl, _, hc⟩ := HR.out.open_ (by simp; omega)
      obtain ⟨x, hx⟩ : ∃ x, xs[k] = x := ⟨_, rfl⟩
      have hcell : (w.alloc (.cells #[.int .i64 last, .slice (some ⟨b, o, none⟩) xs.length c] 27)).cell? ⟨b, o + k, none⟩ = some (.float .f64 (fnat x)) := (hc k (by simpa using hlt)).trans (by rw [← hx]; exact congrArg some (List.getElem_map (f := fv) (h := by simpa using hlt)))
      have hwx : Word x := by rw [← hx]; exact HW.out _ (List.getElem_mem hlt)
      have hki : (0 : Int) ≤ (k : Int) := by omega
      have hki2 : (k : Int) < (xs.length : Int) := by omega
      have HX := Lib.hid hx
      have hm : x ∈ xs := by rw [← hx]; exact List.getElem_mem hlt
      have hsel := okT_cases hwx
      have hbits := run_bits x hwx
      have HBAD : Hid (¬ okT x → chkE last xs = 2) := Lib.hid (fun h => if_neg (not_okT hm h last))
      clear hc hx hwx hm
      rcases hsel with ⟨g0, g1, g3, g2, g4⟩ | ⟨g0, g1⟩
      · have HOK : Hid (∀ x ∈ xs.take (k + 1), okT x) := Lib.hid (take_okT hok.out hlt (by rw [HX.out]; exact g0))
        clear g0 g3 g2
        go_wp2_with (go_at_call 20; refine (kind_any _ _).mono ?_; rintro e w' ⟨rfl, rfl⟩)
        go_round
        case rel => exact ⟨k + 1, by omega, by go_num, HOK⟩
        case measure => simp [intOf]; omega
      · have HE := Lib.hid (HBAD.out g0)
        clear g0
        rcases g1 with g1 | ⟨g1, g3⟩
        · go_wp2_with (go_at_call 20; refine (kind_any _ _).mono ?_; rintro e w' ⟨rfl, rfl⟩)
          go_ret
          rw [HE.out]; exact ⟨rfl, HB0.out⟩
        · have g4 : 1 < kindZ x := by omega
          clear g3
          go_wp2_with (go_at_call 20; refine (kind_any _ _).mono ?_; rintro e w' ⟨rfl, rfl⟩)
          go_ret
          rw [HE.out]; exact ⟨rfl, HB0.out⟩
    · have HE : Hid (chkE last xs = 0) := Lib.hid (if_pos ⟨by omega, by omega, by omega, by have := hok.out; rw [List.take_of_length_le (by omega)] at this; exact this⟩)
      go_wp2
      go_ret
      rw [HE.out]; exact ⟨rfl, HB0.out⟩
/-! What a score is. -/
def rgtE (last : Int) (xs : List Int) (now : Int) : Int := if OkB last xs ∧ last ≤ now ∧ now ≤ 1099511627775 then 0 else 2
theorem rgt_bad {last : Int} {xs : List Int} {now : Int} (h : chkE last xs = 2) : rgtE last xs now = 2 := by
  rcases chk_cases last xs with ⟨h1, _⟩ | ⟨_, h1⟩
  · omega
  · exact if_neg (fun h => h1 h.1)
theorem rgt_low {last : Int} {xs : List Int} {now : Int} (h : now < last) : rgtE last xs now = 2 := if_neg (fun h => by omega)
theorem rgt_high {last : Int} {xs : List Int} {now : Int} (h : 1099511627775 < now) : rgtE last xs now = 2 := if_neg (fun h => by omega)
theorem rgt_ok {last : Int} {xs : List Int} {now : Int} (h : chkE last xs = 0) (h1 : last ≤ now) (h2 : now ≤ 1099511627775) : rgtE last xs now = 0 := by
  rcases chk_cases last xs with ⟨_, h3⟩ | ⟨h3, _⟩
  · exact if_pos ⟨h3, h1, h2⟩
  · omega
theorem rgt_cases (last : Int) (xs : List Int) (now : Int) : (rgtE last xs now = 0 ∧ OkB last xs ∧ last ≤ now ∧ now ≤ 1099511627775) ∨ (rgtE last xs now = 2) := by
  unfold rgtE; split
  · rename_i h; exact Or.inl ⟨rfl, h⟩
  · exact Or.inr rfl
def tmZ (d : Int) : Int := ((floatOfInt .f64 d : Nat) : Int)
theorem tm_fnat (d : Int) : fnat (tmZ d) = floatOfInt .f64 d := rfl
theorem tm_facts {d : Int} (h0 : 0 ≤ d) (h1 : d ≤ 1099511627775) : Word (tmZ d) ∧ 0 ≤ tmZ d ∧ tmZ d < 9218868437227405312 ∧ (tmZ d = 0 ↔ d = 0) ∧ tmZ d = (rungN d.toNat : Nat) := by
  obtain ⟨n, rfl⟩ : ∃ n : Nat, d = (n : Int) := ⟨d.toNat, by omega⟩
  have e : tmZ (n : Int) = (rungN n : Nat) := by unfold tmZ; rw [float_nat (by omega)]
  have hl := rungN_lt (n := n) (by omega)
  have hz : rungN n = 0 ↔ n = 0 := by
    by_cases hn : n = 0
    · subst hn; exact ⟨fun _ => rfl, fun _ => rfl⟩
    · have := (rungN_facts hn (by omega)).2.2.1
      exact ⟨fun h => by omega, fun h => absurd h hn⟩
  rw [Int.toNat_natCast, e]
  refine ⟨⟨by omega, by omega⟩, by omega, by omega, by omega, rfl⟩
theorem rungN_le {a b : Nat} (h : a ≤ b) (hb : b < 9007199254740992) : rungN a ≤ rungN b := by
  by_cases ha : a = 0
  · subst ha; exact Nat.zero_le _
  · have f := rungN_facts ha (by omega)
    have g := rungN_facts (n := b) (by omega) hb
    have la : a.log2 ≤ b.log2 := by
      rcases Nat.lt_or_ge b.log2 a.log2 with hlt | hge
      · have h1 := (log2_spec ha).1
        have h2 := (log2_spec (n := b) (by omega)).2
        have h3 := Nat.pow_le_pow_right (n := 2) (by omega) (show b.log2 + 1 ≤ a.log2 by omega)
        omega
      · exact hge
    unfold rungN
    rw [if_neg ha, if_neg (by omega)]
    have hb52 : b.log2 ≤ 52 := log_lt (by omega) (by simpa using hb)
    have xa : a * 2 ^ (52 - a.log2) < 9007199254740992 := by
      have := (log2_spec (n := a * 2 ^ (52 - a.log2)) (Nat.mul_ne_zero ha (by have := Nat.two_pow_pos (52 - a.log2); omega))).2
      rw [f.2.2.2.2] at this; simpa using this
    have xb : 4503599627370496 ≤ b * 2 ^ (52 - b.log2) := by
      have := (log2_spec (n := b * 2 ^ (52 - b.log2)) (Nat.mul_ne_zero (by omega) (by have := Nat.two_pow_pos (52 - b.log2); omega))).1
      rw [g.2.2.2.2] at this; simpa using this
    rcases Nat.lt_or_ge a.log2 b.log2 with hlt | hge
    · have : (1022 + a.log2) * 4503599627370496 + 4503599627370496 ≤ (1022 + b.log2) * 4503599627370496 := by omega
      omega
    · have e : a.log2 = b.log2 := by omega
      rw [e]
      have := Nat.mul_le_mul_right (2 ^ (52 - b.log2)) h
      omega
/-- The sum of times that may be. -/
theorem sum_plain (xs : List Int) (hw : ∀ x ∈ xs, Word x) (hok : ∀ x ∈ xs, okT x) : ∃ t : Int, sumO xs = some t ∧ 0 ≤ t ∧ t ≤ 9218868437227405312 := by
  have gen : ∀ (xs : List Int) (s : Int), (∀ x ∈ xs, Word x) → (∀ x ∈ xs, okT x) → 0 ≤ s → s ≤ 9218868437227405312 → ∃ t : Int, xs.foldl addO (some s) = some t ∧ 0 ≤ t ∧ t ≤ 9218868437227405312 := by
    intro xs
    induction xs with
    | nil => intro s _ _ h0 h1; exact ⟨s, rfl, h0, h1⟩
    | cons x xs ih =>
      intro s hw hok h0 h1
      have hx := hok x (by simp)
      have hwx := hw x (by simp)
      obtain ⟨r, hr, hr2⟩ := add_plain (a := fnat s) (b := fnat x) (by unfold fnat; omega) (by unfold fnat; unfold okT at hx; omega)
      rw [List.foldl_cons, addO_some hr]
      exact ih (r : Int) (fun y hy => hw y (by simp [hy])) (fun y hy => hok y (by simp [hy])) (by omega) (by omega)
  exact gen xs 0 hw hok (by omega) (by omega)
/-- The usual time. -/
def usZ (xs : List Int) : Int := if xs.length = 0 then 4607182418800017408 else meanV xs
theorem us_facts {last : Int} {xs : List Int} (hw : ∀ x ∈ xs, Word x) (ok : OkB last xs) : 0 ≤ usZ xs ∧ usZ xs ≤ 9218868437227405312 ∧ meanE xs = 0 := by
  obtain ⟨t, ht, h0, h1⟩ := sum_plain xs hw ok.2.2.2
  have hl := ok.2.2.1
  refine ⟨?_, ?_, mean_some ht⟩
  all_goals
    unfold usZ
    by_cases hz : xs.length = 0
    · rw [if_pos hz]; omega
    · rw [if_neg hz]
      obtain ⟨c, hc, wc, kc⟩ := count_float xs.length (by omega) (by omega)
      have hcr : floatOfInt .f64 (xs.length : Int) = rungN xs.length := float_nat (by omega)
      have f := rungN_facts hz (by omega)
      have hd : ∃ r, Ieee.double.div (fnat t) (rungN xs.length) = some r ∧ r ≤ 9218868437227405312 := by
        rcases (show t < 9218868437227405312 ∨ 9218868437227405312 ≤ t by omega) with h | h
        · exact div_plain (by unfold fnat; omega) f.2.2.1 (by omega)
        · have e : fnat t = 9218868437227405312 := by unfold fnat; omega
          rw [e]
          exact ⟨_, div_inf_plain f.2.2.2.1, by omega⟩
      obtain ⟨r, hr, hr2⟩ := hd
      have : meanV xs = (r : Int) := by unfold meanV; rw [ht]; simp only [hcr, hr]; rfl
      omega
def scZ (xs : List Int) (d : Int) : Int := if 0 < usZ xs then canZ (quoZ (tmZ d) (usZ xs)) else if 0 < tmZ d then 9218868437227405312 else 0
theorem can_plain {x : Int} (h0 : 0 ≤ x) (h1 : x ≤ 9218868437227405312) : canZ x = x := by
  have hw : Word x := ⟨h0, by omega⟩
  have := kind_cases hw
  by_cases hz : kindZ x = 0
  · have : x = 0 := by omega
    subst this; decide
  · exact can_same hz (by omega)
theorem plain_word {x : Int} (h0 : 0 ≤ x) (h1 : x ≤ 9218868437227405312) : Word x ∧ kindZ x ≠ 3 ∧ plZ x = x := by
  have hw : Word x := ⟨h0, by omega⟩
  have := kind_cases hw
  refine ⟨hw, by omega, ?_⟩
  unfold plZ; rw [if_neg (by omega)]
theorem quo_plain {a u : Int} (ha : 0 ≤ a) (ha2 : a < 9218868437227405312) (hu : 0 < u) (hu2 : u ≤ 9218868437227405312) : 0 ≤ quoZ a u ∧ quoZ a u ≤ 9218868437227405312 := by
  obtain ⟨r, hr, h2⟩ := div_plain (a := fnat a) (u := fnat u) (by unfold fnat; omega) (by unfold fnat; omega) (by unfold fnat; omega)
  have : quoZ a u = (r : Int) := by unfold quoZ; rw [hr]; rfl
  omega
theorem quo_mono {a b u : Int} (ha : 0 ≤ a) (hab : a ≤ b) (hb : b < 9218868437227405312) (hu : 0 < u) (hu2 : u ≤ 9218868437227405312) : quoZ a u ≤ quoZ b u := by
  obtain ⟨r, s, h1, h2, h3, _⟩ := div_mono (a := fnat a) (b := fnat b) (u := fnat u) (by unfold fnat; omega) (by unfold fnat; omega) (by unfold fnat; omega) (by unfold fnat; omega)
  have e1 : quoZ a u = (r : Int) := by unfold quoZ; rw [h1]; rfl
  have e2 : quoZ b u = (s : Int) := by unfold quoZ; rw [h2]; rfl
  omega
theorem quo_nought {u : Int} (hu : 0 < u) (hu2 : u ≤ 9218868437227405312) : quoZ 0 u = 0 := by
  unfold quoZ
  rw [show fnat 0 = 0 from rfl, div_nought (b := fnat u) (by unfold fnat; omega) (by unfold fnat; omega)]; rfl
theorem bad_plain {a u : Int} (ha : 0 ≤ a) (ha2 : a < 9218868437227405312) (hu : 0 < u) (hu2 : u ≤ 9218868437227405312) : badB a u = false := by
  have ka := kind_cases (show Word a from ⟨ha, by omega⟩)
  have ku := kind_cases (show Word u from ⟨by omega, by omega⟩)
  unfold badB
  rw [decide_eq_false (by omega), decide_eq_false (by omega), decide_eq_false (by omega), decide_eq_false (show ¬ kindZ a = 2 by omega)]; rfl
theorem sc_facts {last : Int} {xs : List Int} (hw : ∀ x ∈ xs, Word x) (ok : OkB last xs) {d : Int} (h0 : 0 ≤ d) (h1 : d ≤ 1099511627775) : 0 ≤ scZ xs d ∧ scZ xs d ≤ 9218868437227405312 := by
  obtain ⟨u0, u1, _⟩ := us_facts hw ok
  obtain ⟨_, t0, t1, _⟩ := tm_facts h0 h1
  unfold scZ
  split
  · rename_i hu
    obtain ⟨q0, q1⟩ := quo_plain t0 t1 hu u1
    rw [can_plain q0 q1]; exact ⟨q0, q1⟩
  · split <;> omega
theorem sc_nought {last : Int} {xs : List Int} (hw : ∀ x ∈ xs, Word x) (ok : OkB last xs) : scZ xs 0 = 0 := by
  obtain ⟨u0, u1, _⟩ := us_facts hw ok
  have t0 : tmZ 0 = 0 := (tm_facts (by omega) (by omega)).2.2.2.1.2 rfl
  unfold scZ
  rw [t0]
  split
  · rename_i hu
    rw [quo_nought hu u1]; decide
  · rw [if_neg (by omega)]
/-- The longer, the greater, or the same. -/
theorem sc_mono {last : Int} {xs : List Int} (hw : ∀ x ∈ xs, Word x) (ok : OkB last xs) {d d' : Int} (h0 : 0 ≤ d) (h : d ≤ d') (h1 : d' ≤ 1099511627775) : scZ xs d ≤ scZ xs d' := by
  obtain ⟨u0, u1, _⟩ := us_facts hw ok
  obtain ⟨_, t0, t1, t2, t3⟩ := tm_facts h0 (show d ≤ 1099511627775 by omega)
  obtain ⟨_, s0, s1, s2, s3⟩ := tm_facts (show 0 ≤ d' by omega) h1
  have hts : tmZ d ≤ tmZ d' := by
    have := rungN_le (a := d.toNat) (b := d'.toNat) (by omega) (by omega)
    omega
  unfold scZ
  by_cases hu : 0 < usZ xs
  · rw [if_pos hu, if_pos hu]
    obtain ⟨a0, a1⟩ := quo_plain t0 t1 hu u1
    obtain ⟨b0, b1⟩ := quo_plain s0 s1 hu u1
    rw [can_plain a0 a1, can_plain b0 b1]
    exact quo_mono t0 hts s1 hu u1
  · rw [if_neg hu, if_neg hu]
    split <;> split <;> omega
end Go.Proofs.Ytkfapcigfgfeaaa
