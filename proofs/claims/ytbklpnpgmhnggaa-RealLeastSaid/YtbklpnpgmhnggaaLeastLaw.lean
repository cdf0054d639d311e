/- RealLeast returns true, whatever the words; nothing that was there is changed. -/
import Derived.Test.YtbklpnpgmhnggaaLeast
namespace Go.Proofs.Ytbklpnpgmhnggaa
open Go.RowKit Flo Mem
set_option maxRecDepth 10000
set_option maxHeartbeats 1600000
def keyC (a : Int) : Int := keyZ (canZ a)
theorem cmp_key (a b : Int) : (cmpZ a b < 0 ↔ keyC a < keyC b) ∧ (0 < cmpZ a b ↔ keyC b < keyC a) := by
  unfold cmpZ keyC
  have := cmp3_range (keyZ (canZ a)) (keyZ (canZ b))
  omega
theorem less_key (m x : Int) : keyC (lessF m x) ≤ keyC m ∧ keyC (lessF m x) ≤ keyC x := by
  have := cmp_key x m
  unfold lessF; split <;> omega
theorem fold_key (ys : List Int) : ∀ m, keyC (ys.foldl lessF m) ≤ keyC m ∧ ∀ y ∈ ys, keyC (ys.foldl lessF m) ≤ keyC y := by
  induction ys with
  | nil => intro m; exact ⟨Int.le_refl _, by simp⟩
  | cons y ys ih =>
    intro m
    obtain ⟨h1, h2⟩ := ih (lessF m y)
    obtain ⟨h3, h4⟩ := less_key m y
    rw [List.foldl_cons]
    refine ⟨by omega, fun z hz => ?_⟩
    rcases List.mem_cons.1 hz with rfl | hz
    · omega
    · exact h2 z hz
theorem least_low (xs : List Int) (x : Int) (h : x ∈ xs) : ¬ 0 < cmpZ (leastZ xs) x := by
  have := (fold_key xs (xs.headD 0)).2 x h
  have := cmp_key (leastZ xs) x
  unfold leastZ at *
  omega
theorem fold_mem (ys : List Int) : ∀ m, ys.foldl lessF m = m ∨ ys.foldl lessF m ∈ ys := by
  induction ys with
  | nil => intro m; exact Or.inl rfl
  | cons y ys ih =>
    intro m
    rw [List.foldl_cons]
    rcases ih (lessF m y) with h | h
    · rw [h]; unfold lessF; split
      · right; simp
      · left; rfl
    · right; exact List.mem_cons_of_mem _ h
theorem least_mem (xs : List Int) (h0 : 0 < xs.length) : leastZ xs ∈ xs := by
  cases xs with
  | nil => simp at h0
  | cons x xs =>
    unfold leastZ
    rcases fold_mem (x :: xs) ((x :: xs).headD 0) with h | h
    · rw [h]; simp
    · exact h
theorem fold_stays (m : Int) (ys : List Int) (h : ∀ y ∈ ys, ¬ cmpZ y m < 0) : ys.foldl lessF m = m := by
  induction ys with
  | nil => rfl
  | cons y ys ih =>
    rw [List.foldl_cons]
    have : lessF m y = m := by unfold lessF; rw [if_neg (h y (by simp))]
    rw [this]
    exact ih fun z hz => h z (by simp [hz])
theorem least_twice (xs : List Int) (h0 : 0 < xs.length) : leastZ (xs ++ xs) = leastZ xs := by
  have e : (xs ++ xs).headD 0 = xs.headD 0 := by
    cases xs with
    | nil => simp at h0
    | cons x xs => rfl
  unfold leastZ
  rw [e, List.foldl_append]
  refine fold_stays _ _ fun y hy => ?_
  have := (fold_key xs (xs.headD 0)).2 y hy
  have := cmp_key y (xs.foldl lessF (xs.headD 0))
  omega
def hit (xs : List Int) (k : Nat) : Bool := (xs.take k).contains (leastZ xs)
theorem hit_succ (xs : List Int) (k : Nat) (h : k < xs.length) (x : Int) (hx : xs[k] = x) : hit xs (k + 1) = (hit xs k || (x == leastZ xs)) := by
  have e : (x == leastZ xs) = (leastZ xs == x) := by
    rw [Bool.eq_iff_iff, beq_iff_eq, beq_iff_eq]; exact eq_comm
  unfold hit; rw [List.take_succ_eq_append_getElem h, List.contains_append, hx, e]; simp; rfl
theorem hit_all (xs : List Int) (h0 : 0 < xs.length) : hit xs xs.length = true := by
  unfold hit; rw [List.take_length]; simpa using least_mem xs h0
theorem own_below {base : Nat} {e : TypeId} {s n : Nat} {v : Value} {ys : List Value} {w w' : World} (h : w.ownsRow base e s v n ys) (hb : Below w.heap.size w w') : w'.ownsRow base e s v n ys := by
  refine ⟨h.1, ?_⟩
  rcases h.2 with h2 | ⟨g, cap, cur, hv, hg, hh, hr⟩
  · exact Or.inl h2
  · refine Or.inr ⟨g, cap, cur, hv, hg, ?_, hr⟩
    have hlt : g < w.heap.size := by
      rcases Nat.lt_or_ge g w.heap.size with hlt | hge
      · exact hlt
      · rw [Array.getElem?_eq_none hge] at hh; cases hh
    rw [hb.block g hlt]; exact hh
theorem below_drewN' {B : Nat} {w w' : World} (h : Below B w w') (q : Nat) : Below B w (w'.drewN q) := ⟨h.os, h.tape, h.output, h.size, h.block⟩
theorem leastlaw_walk (xs : List Int) (hw : ∀ x ∈ xs, Word x) (A : Option Addr) (n c : Nat) (hn : n = xs.length) (w : World) (h : Row w w.heap.size A (xs.map iv)) :
    Calls Try.prog 9 #[.slice A n c] w fun e w' => e = .returned (.bool true) ∧ Below w.heap.size w w' := by
  subst hn
  by_cases h100 : 100 < xs.length
  · have hg : (100 : Int) < (xs.length : Int) := by omega
    clear h hw h100
    go_enter Try.func9, Try.ntmps9
    go_wp2_with (go_at_call 23; refine (known_any _).mono ?_; rintro e w' ⟨rfl, rfl⟩)
    go_ret
    exact ⟨rfl, Below.refl _ _⟩
  · have hg : ¬ (100 : Int) < (xs.length : Int) := by omega
    have h1 : xs.length ≤ 100 := by omega
    rcases Nat.eq_zero_or_pos xs.length with h0 | h0
    · have hx : xs = [] := List.eq_nil_of_length_eq_zero h0
      subst hx
      clear h hw h100 h0 hg h1
      go_enter Try.func9, Try.ntmps9
      go_wp2_with (go_at_call 23; refine (known_any _).mono ?_; rintro e w' ⟨rfl, rfl⟩)
      go_ret
      exact ⟨rfl, Below.refl _ _⟩
    · have hd : decide (100 < (xs.length : Int)) = false := decide_eq_false hg
      have HW := Lib.hid hw
      have HR := Lib.hid h
      have hwl : Word (leastZ xs) := by rw [← upto_all xs xs.length (Nat.le_refl _)]; exact upto_word xs hw h0 _
      have HWL := Lib.hid hwl
      have hbl := run_bits (leastZ xs) hwl
      have hne : ((xs.length : Int) == 0) = false := beq_false_of_ne (by omega)
      obtain ⟨b, o, rfl, hbB, hc⟩ := h.open_ (by simpa using h0)
      have HC : Hid (∀ k (hk : k < xs.length), w.cell? ⟨b, o + k, none⟩ = some (.int .u64 xs[k])) := fun k hk => (hc k (by simpa using hk)).trans (congrArg some (List.getElem_map (f := iv) (h := by simpa using hk)))
      have HBB := Lib.hid hbB
      have H0 := Lib.hid h0
      have HT := Lib.hid (least_twice xs h0)
      have HWW : Hid (∀ x ∈ xs ++ xs, Word x) := fun x hx => hw x (by simpa using hx)
      have HALL := Lib.hid (hit_all xs h0)
      obtain ⟨i0, hi0, hz0, hz1, hz2⟩ := info_parts info_f
      clear h hw h100 hc hbB h0 hwl
      go_enter Try.func9, Try.ntmps9
      go_wp2_with fail
      refine (all_row w.heap.size _ _ xs _ HR.out (Nat.le_refl _) (by omega)).mono ?_
      rintro e w1 ⟨A1, c1, rfl, hown, hrow, hbw⟩
      have HO := Lib.hid hown
      have HF := Lib.hid hrow
      have HRW := Lib.hid (HR.out.below hbw)
      have HB := Lib.hid hbw
      clear hown hrow hbw
      go_wp2_with fail
      refine (least_any w1.heap.size _ _ _ xs _ rfl HF.out HW.out H0.out (by omega)).mono ?_
      rintro e w' ⟨rfl, rfl⟩
      go_wp2_with fail
      refine (all_row w1.heap.size _ _ xs _ (HRW.out.more HB.out.size) (Nat.le_refl _) (by omega)).mono ?_
      rintro e w2 ⟨A2, c2, rfl, hown2, hrow2, hbw2⟩
      obtain ⟨g, o2, rfl, hg2, hc2⟩ := hrow2.open_ (by have := H0.out; simpa using this)
      have HO1 := Lib.hid (own_below HO.out hbw2)
      have HC2 : Hid (∀ j u, (xs.map fv)[j]? = some u → w2.cell? ((⟨g, o2, none⟩ : Addr).add j) = some u) := by
        intro j u hu
        have hj : j < (xs.map fv).length := (List.getElem?_eq_some_iff.1 hu).1
        have e : (⟨g, o2, none⟩ : Addr).add j = ⟨g, o2 + j, none⟩ := by
          unfold Addr.add; split
          · subst_vars; rfl
          · rfl
        rw [e, hc2 j hj, ← hu, List.getElem?_eq_getElem hj]
      have HB2 := Lib.hid (HB.out.trans (hbw2.mono HB.out.size))
      clear hown2 hrow2 hbw2 hc2 hg2
      go_wp2_with (at_builtin; refine wpList_append_own _ rfl _ _ 34 rfl w.heap.size 23 i0 (.float .f64 0) 1 8 Try.underlying34 hi0 hz0 hz1 hz2 rfl (by decide) _ xs.length _ rfl HO1.out ⟨g, o2, none⟩ xs.length c2 (xs.map fv) rfl ?d1 HC2.out ?d2 ?d3 ?d4 ?d5 ?_)
      case d1 => simp
      case d2 => intro u hu; simp only [List.mem_map] at hu; obtain ⟨x, _, rfl⟩ := hu; rfl
      case d3 => unfold maxLen; omega
      case d4 => omega
      case d5 => exact HB2.out.size
      intro v3 w3 hown3 hgr _
      obtain ⟨A3, c3, rfl, _⟩ := own_shape hown3
      have HB3 := Lib.hid (HB2.out.grown hgr HB2.out.size fun k hk => (HO1.out.lt k hk).1)
      have hr3 : Row w3 w3.heap.size A3 ((xs ++ xs).map fv) := by rw [List.map_append]; exact Row.of_own hown3
      have HR3 := Lib.hid hr3
      obtain ⟨g3, o3, rfl, _, hc3⟩ := hr3.open_ (by have := H0.out; simp; omega)
      have HC3 : Hid (∀ k (hk : k < xs.length), w3.cell? ⟨g3, o3 + k, none⟩ = some (.float .f64 (fnat xs[k]))) := by
        intro k hk
        rw [hc3 k (by simp; omega), List.getElem_map, List.getElem_append_left hk]; rfl
      have HCL : Hid (∀ k (hk : k < xs.length), w3.cell? ⟨b, o + k, none⟩ = some (.int .u64 xs[k])) := fun k hk => (HB3.out.cell (p := ⟨b, o + k, none⟩) HBB.out).trans (HC.out k hk)
      clear hown3 hgr hr3 hc3
      go_wp2_with fail
      refine (least_any w3.heap.size _ _ _ (xs ++ xs) _ (by simp) HR3.out HWW.out (by have := H0.out; simp; omega) (by simp; omega)).mono ?_
      rw [HT.out]
      rintro e w' ⟨rfl, rfl⟩
      go_wp2
      go_loopw [8, 9] (fun f i wr => ∃ k q : Nat, k ≤ xs.length ∧ i = .int .i64 k ∧ f = .bool (hit xs k) ∧ wr = w3.drewN q) (fun _ i _ => xs.length - (intOf i).toNat)
      case atStart => exact ⟨0, 0, by omega, rfl, rfl, rfl⟩
      case round =>
        obtain ⟨k, q, hk, rfl, rfl, hwr⟩ := hrel
        have HWR := Lib.hid hwr
        by_cases hlt : k < xs.length
        · obtain ⟨x, hx⟩ : ∃ x, xs[k] = x := ⟨_, rfl⟩
          have hcl : wr.cell? ⟨b, o + k, none⟩ = some (.int .u64 x) := by rw [hwr, World.cell?_drewN, HCL.out k hlt, hx]
          have hcf : wr.cell? ⟨g3, o3 + k, none⟩ = some (.float .f64 (fnat x)) := by rw [hwr, World.cell?_drewN, HC3.out k hlt, hx]
          have hwx : Hid (Word x) := by rw [← hx]; exact HW.out _ (List.getElem_mem hlt)
          have hlow : ¬ 0 < cmpZ (leastZ xs) x := by rw [← hx]; exact least_low xs _ (List.getElem_mem hlt)
          have hl2 : (k : Int) < (xs.length : Int) + (xs.length : Int) := by omega
          have HH := Lib.hid (hit_succ xs k hlt x hx)
          clear hx hwr
          rcases hfl : hit xs k with _ | _
          · have HFL := Lib.hid hfl
            clear hfl
            go_wp2
            go_quiet (fail)
            go_wp2_with (go_at_call 20; refine (compare_any _ _ HWL.out hwx.out _).mono ?_; rintro e w' ⟨rfl, rfl⟩)
            go_roundw
            case rel => exact ⟨k + 1, q + nq, by omega, by go_num, by rw [HH.out, HFL.out, Bool.false_or], by rw [HWR.out, World.drewN_drewN]⟩
            case measure => simp [intOf]; omega
          · have HFL := Lib.hid hfl
            clear hfl
            go_wp2
            go_quiet (fail)
            go_wp2_with (go_at_call 20; refine (compare_any _ _ HWL.out hwx.out _).mono ?_; rintro e w' ⟨rfl, rfl⟩)
            go_roundw
            case rel => exact ⟨k + 1, q + nq, by omega, by go_num, by rw [HH.out, HFL.out, Bool.true_or], by rw [HWR.out, World.drewN_drewN]⟩
            case measure => simp [intOf]; omega
        · have e : k = xs.length := by omega
          subst e
          have hall := HALL.out
          have HB4 : Hid (Below w.heap.size w wr) := by rw [hwr]; exact below_drewN' HB3.out q
          clear hwr
          go_wp2_with (first
            | (go_at_call 22; refine (same_any _ _ HWL.out HWL.out _).mono ?_; rintro e w' ⟨rfl, rfl⟩)
            | (go_at_call 23; refine (known_any _).mono ?_; rintro e w' ⟨rfl, rfl⟩))
          go_ret
          exact ⟨rfl, HB4.out⟩
end Go.Proofs.Ytbklpnpgmhnggaa
