/- BtC: The time since, the usual one, the score, and whether a node is suspected: by the package, and by the document. -/
import Derived.Test.YtkfapcigfgfeaaaBtB
namespace Go.Proofs.Ytkfapcigfgfeaaa
open Go.RowKit Flo Mem
set_option maxRecDepth 100000
set_option maxHeartbeats 600000
set_option linter.unusedVariables false
theorem mean_ret (n c : Nat) (A : Option Addr) (xs : List Int) (hn : n = xs.length) (w : World) (h : Row w w.heap.size A (xs.map fv)) (h0 : 0 < xs.length) (h1 : xs.length ≤ 200) (he : meanE xs = 0) :
    Calls Try.prog 30 #[.slice A n c] w (Ret (.tuple #[.float .f64 (fnat (meanV xs)), .int .i64 0]) w) := by
  subst hn
  exact (mean_any _ c A xs w h h0 h1).mono fun e w' ⟨h1, h2⟩ => ⟨by rw [h1, he], quiet_below h2⟩
theorem refmean_ret (n c : Nat) (A : Option Addr) (xs : List Int) (hn : n = xs.length) (w : World) (h : Row w w.heap.size A (xs.map fv)) (hw : ∀ x ∈ xs, Word x) (h0 : 0 < xs.length) (h1 : xs.length ≤ 200) (he : meanE xs = 0) :
    Calls Try.prog 31 #[.slice A n c] w (Ret (.tuple #[.float .f64 (fnat (meanV xs)), .int .i64 0]) w) := by
  subst hn
  exact (refmean_any _ c A xs w h hw h0 h1).mono fun e w' ⟨h1, h2⟩ => ⟨by rw [h1, he], quiet_below h2⟩
theorem us_nil {xs : List Int} (h : xs.length = 0) : usZ xs = 4607182418800017408 := if_pos h
theorem us_some {xs : List Int} (h : ¬ xs.length = 0) : usZ xs = meanV xs := if_neg h
theorem order_gt0 {x : Int} (h0 : 0 ≤ x) (h1 : x ≤ 9218868437227405312) : (FloatKind.f64.format.order (fnat x) 0 == some .gt) = decide (0 < x) := by
  obtain ⟨a, b, c⟩ := plain_word h0 h1
  have := gt_num a word_zero b (by decide)
  rw [pl_zero, c] at this
  exact this
theorem not_bad {u : Int} (h0 : 0 ≤ u) (h1 : u ≤ 9218868437227405312) : (kindZ u = 0 ↔ u = 0) := by
  have := kind_cases (show Word u from ⟨h0, by omega⟩)
  omega

theorem since_bad (last : Int) (xs : List Int) (n c : Nat) (A : Option Addr) (hn : n = xs.length) (hl : xs.length ≤ 200) (hw : ∀ x ∈ xs, Word x) (now : Int) (hb2 : rgtE last xs now = 2) (w : World) (h : Row w w.heap.size A (xs.map fv)) :
    Calls Try.prog 32 #[.agg (bC last A n c), .int .i64 now] w (Ret (.tuple #[.float .f64 0, .int .i64 2]) w) := by
  subst hn
  have HC1 := Lib.hid fun W (hb : Below w.heap.size w W) => (check_any last xs xs.length c A rfl hl hw W ((h.below hb).more hb.size))
  unfold bC at *
  have HB0 : Hid (Below w.heap.size w (w.alloc (.cells #[.int .i64 last, .slice A xs.length c] 27))) := Lib.hid ((Below.refl _ _).alloc (Nat.le_refl _) _)
  have HK0 : Hid (Blk (w.alloc (.cells #[.int .i64 last, .slice A xs.length c] 27)) w.heap.size 27 #[.int .i64 last, .slice A xs.length c]) := Lib.hid (Blk.new _ _ _)
  have HW := Lib.hid hw
  have HR0 := Lib.hid h
  have hnl : (xs.length : Int) ≤ 200 := by omega
  clear h hw
  rcases chk_cases last xs with ⟨hc, ok⟩ | ⟨hc, _⟩
  · have hsel : now < last ∨ (last ≤ now ∧ 1099511627775 < now) := by
      unfold rgtE at hb2
      by_cases h1 : now < last
      · exact Or.inl h1
      · right; refine ⟨by omega, ?_⟩; by_cases h2 : 1099511627775 < now
        · exact h2
        · rw [if_pos ⟨ok, by omega, by omega⟩] at hb2; omega
    have o1 := ok.1; have o2 := ok.2.1
    rw [hc] at HC1
    clear hb2 ok hc
    rcases hsel with h1 | ⟨h1, h2⟩
    all_goals
      go_enter Try.func32, Try.ntmps32
      go_wp2_with fail
      refine (HC1.out _ HB0.out).mono ?_
      rintro e1 w1 ⟨rfl, hb1⟩
      have HB1 := Lib.hid (HB0.out.trans (hb1.mono HB0.out.size))
      have hk1 := HK0.out.below hb1 HK0.out.lt
      have HK1 := Lib.hid hk1
      have c0_1 : w1.cell? ⟨w.heap.size, 0, none⟩ = some (.int .i64 last) := hk1.cell 0
      have c1_1 : w1.cell? ⟨w.heap.size, 1, none⟩ = some (.slice A xs.length c) := hk1.cell 1
      clear hb1 hk1
      go_wp2
      go_ret2
      exact ⟨rfl, HB1.out⟩
  · rw [hc] at HC1
    clear hb2 hc
    go_enter Try.func32, Try.ntmps32
    go_wp2_with fail
    refine (HC1.out _ HB0.out).mono ?_
    rintro e1 w1 ⟨rfl, hb1⟩
    have HB1 := Lib.hid (HB0.out.trans (hb1.mono HB0.out.size))
    have hk1 := HK0.out.below hb1 HK0.out.lt
    have HK1 := Lib.hid hk1
    have c0_1 : w1.cell? ⟨w.heap.size, 0, none⟩ = some (.int .i64 last) := hk1.cell 0
    have c1_1 : w1.cell? ⟨w.heap.size, 1, none⟩ = some (.slice A xs.length c) := hk1.cell 1
    clear hb1 hk1
    go_wp2
    go_ret2
    exact ⟨rfl, HB1.out⟩
theorem since_ok (last : Int) (xs : List Int) (n c : Nat) (A : Option Addr) (hn : n = xs.length) (hl : xs.length ≤ 200) (hw : ∀ x ∈ xs, Word x) (now : Int) (hb2 : rgtE last xs now = 0) (w : World) (h : Row w w.heap.size A (xs.map fv)) :
    Calls Try.prog 32 #[.agg (bC last A n c), .int .i64 now] w (Ret (.tuple #[.float .f64 (fnat (tmZ (now - last))), .int .i64 0]) w) := by
  subst hn
  have HC1 := Lib.hid fun W (hb : Below w.heap.size w W) => (check_any last xs xs.length c A rfl hl hw W ((h.below hb).more hb.size))
  unfold bC at *
  have HB0 : Hid (Below w.heap.size w (w.alloc (.cells #[.int .i64 last, .slice A xs.length c] 27))) := Lib.hid ((Below.refl _ _).alloc (Nat.le_refl _) _)
  have HK0 : Hid (Blk (w.alloc (.cells #[.int .i64 last, .slice A xs.length c] 27)) w.heap.size 27 #[.int .i64 last, .slice A xs.length c]) := Lib.hid (Blk.new _ _ _)
  have HW := Lib.hid hw
  have HR0 := Lib.hid h
  have hnl : (xs.length : Int) ≤ 200 := by omega
  clear h hw
  rcases rgt_cases last xs now with ⟨_, ok, h1, h2⟩ | h0
  · have o1 := ok.1; have o2 := ok.2.1
    rw [show chkE last xs = 0 from if_pos ok] at HC1
    clear hb2 ok
    go_enter Try.func32, Try.ntmps32
    go_wp2_with fail
    refine (HC1.out _ HB0.out).mono ?_
    rintro e1 w1 ⟨rfl, hb1⟩
    have HB1 := Lib.hid (HB0.out.trans (hb1.mono HB0.out.size))
    have hk1 := HK0.out.below hb1 HK0.out.lt
    have HK1 := Lib.hid hk1
    have c0_1 : w1.cell? ⟨w.heap.size, 0, none⟩ = some (.int .i64 last) := hk1.cell 0
    have c1_1 : w1.cell? ⟨w.heap.size, 1, none⟩ = some (.slice A xs.length c) := hk1.cell 1
    clear hb1 hk1
    go_wp2
    go_ret2
    exact ⟨rfl, HB1.out⟩
  · omega
theorem right_any (last : Int) (xs : List Int) (n c : Nat) (A : Option Addr) (hn : n = xs.length) (hl : xs.length ≤ 200) (hw : ∀ x ∈ xs, Word x) (now : Int) (w : World) (h : Row w w.heap.size A (xs.map fv)) :
    Calls Try.prog 35 #[.agg (bC last A n c), .int .i64 now] w (Ret (.int .i64 (rgtE last xs now)) w) := by
  subst hn
  have HC1 := Lib.hid fun W (hb : Below w.heap.size w W) => (refcheck_any last xs xs.length c A rfl hl hw W ((h.below hb).more hb.size))
  unfold bC at *
  have HB0 : Hid (Below w.heap.size w (w.alloc (.cells #[.int .i64 last, .slice A xs.length c] 27))) := Lib.hid ((Below.refl _ _).alloc (Nat.le_refl _) _)
  have HK0 : Hid (Blk (w.alloc (.cells #[.int .i64 last, .slice A xs.length c] 27)) w.heap.size 27 #[.int .i64 last, .slice A xs.length c]) := Lib.hid (Blk.new _ _ _)
  have HW := Lib.hid hw
  have HR0 := Lib.hid h
  have hnl : (xs.length : Int) ≤ 200 := by omega
  clear h hw
  rcases chk_cases last xs with ⟨hc, ok⟩ | ⟨hc, _⟩
  · have hsel : (now < last ∧ rgtE last xs now = 2) ∨ (last ≤ now ∧ 1099511627775 < now ∧ rgtE last xs now = 2) ∨ (last ≤ now ∧ now ≤ 1099511627775 ∧ rgtE last xs now = 0) := by
      by_cases h1 : now < last
      · exact Or.inl ⟨h1, rgt_low h1⟩
      · by_cases h2 : 1099511627775 < now
        · exact Or.inr (Or.inl ⟨by omega, h2, rgt_high h2⟩)
        · exact Or.inr (Or.inr ⟨by omega, by omega, rgt_ok hc (by omega) (by omega)⟩)
    rw [hc] at HC1
    clear ok hc
    rcases hsel with ⟨h1, hr⟩ | ⟨h1, h2, hr⟩ | ⟨h1, h2, hr⟩
    all_goals
      rw [hr]; clear hr
      go_enter Try.func35, Try.ntmps35
      go_wp2_with fail
      refine (HC1.out _ HB0.out).mono ?_
      rintro e1 w1 ⟨rfl, hb1⟩
      have HB1 := Lib.hid (HB0.out.trans (hb1.mono HB0.out.size))
      have hk1 := HK0.out.below hb1 HK0.out.lt
      have HK1 := Lib.hid hk1
      have c0_1 : w1.cell? ⟨w.heap.size, 0, none⟩ = some (.int .i64 last) := hk1.cell 0
      have c1_1 : w1.cell? ⟨w.heap.size, 1, none⟩ = some (.slice A xs.length c) := hk1.cell 1
      clear hb1 hk1
      go_wp2
      go_ret
      exact ⟨rfl, HB1.out⟩
  · rw [rgt_bad hc]
    rw [hc] at HC1
    clear hc
    go_enter Try.func35, Try.ntmps35
    go_wp2_with fail
    refine (HC1.out _ HB0.out).mono ?_
    rintro e1 w1 ⟨rfl, hb1⟩
    have HB1 := Lib.hid (HB0.out.trans (hb1.mono HB0.out.size))
    have hk1 := HK0.out.below hb1 HK0.out.lt
    have HK1 := Lib.hid hk1
    have c0_1 : w1.cell? ⟨w.heap.size, 0, none⟩ = some (.int .i64 last) := hk1.cell 0
    have c1_1 : w1.cell? ⟨w.heap.size, 1, none⟩ = some (.slice A xs.length c) := hk1.cell 1
    clear hb1 hk1
    go_wp2
    go_ret
    exact ⟨rfl, HB1.out⟩
theorem usual_bad (last : Int) (xs : List Int) (n c : Nat) (A : Option Addr) (hn : n = xs.length) (hl : xs.length ≤ 200) (hw : ∀ x ∈ xs, Word x) (hc : ¬ OkB last xs) (w : World) (h : Row w w.heap.size A (xs.map fv)) :
    Calls Try.prog 11 #[.agg (bC last A n c)] w (Ret (.tuple #[.float .f64 0, .int .i64 2]) w) := by
  subst hn
  have HC1 := Lib.hid fun W (hb : Below w.heap.size w W) => (check_any last xs xs.length c A rfl hl hw W ((h.below hb).more hb.size))
  unfold bC at *
  have HB0 : Hid (Below w.heap.size w (w.alloc (.cells #[.int .i64 last, .slice A xs.length c] 27))) := Lib.hid ((Below.refl _ _).alloc (Nat.le_refl _) _)
  have HK0 : Hid (Blk (w.alloc (.cells #[.int .i64 last, .slice A xs.length c] 27)) w.heap.size 27 #[.int .i64 last, .slice A xs.length c]) := Lib.hid (Blk.new _ _ _)
  have HW := Lib.hid hw
  have HR0 := Lib.hid h
  have hnl : (xs.length : Int) ≤ 200 := by omega
  clear h hw
  rw [show chkE last xs = 2 from if_neg hc] at HC1
  clear hc
  go_enter Try.func11, Try.ntmps11
  go_wp2_with fail
  refine (HC1.out _ HB0.out).mono ?_
  rintro e1 w1 ⟨rfl, hb1⟩
  have HB1 := Lib.hid (HB0.out.trans (hb1.mono HB0.out.size))
  have hk1 := HK0.out.below hb1 HK0.out.lt
  have HK1 := Lib.hid hk1
  have c0_1 : w1.cell? ⟨w.heap.size, 0, none⟩ = some (.int .i64 last) := hk1.cell 0
  have c1_1 : w1.cell? ⟨w.heap.size, 1, none⟩ = some (.slice A xs.length c) := hk1.cell 1
  clear hb1 hk1
  go_wp2
  go_ret2
  exact ⟨rfl, HB1.out⟩
theorem usual_ok (last : Int) (xs : List Int) (n c : Nat) (A : Option Addr) (hn : n = xs.length) (hl : xs.length ≤ 200) (hw : ∀ x ∈ xs, Word x) (ok : OkB last xs) (w : World) (h : Row w w.heap.size A (xs.map fv)) :
    Calls Try.prog 11 #[.agg (bC last A n c)] w (Ret (.tuple #[.float .f64 (fnat (usZ xs)), .int .i64 0]) w) := by
  subst hn
  have HC1 := Lib.hid fun W (hb : Below w.heap.size w W) => (check_any last xs xs.length c A rfl hl hw W ((h.below hb).more hb.size))
  have HC2 := Lib.hid fun W (hb : Below w.heap.size w W) => fun (h0 : 0 < xs.length) (he : meanE xs = 0) => mean_ret xs.length c A xs rfl W ((h.below hb).more hb.size) h0 hl he
  unfold bC at *
  have HB0 : Hid (Below w.heap.size w (w.alloc (.cells #[.int .i64 last, .slice A xs.length c] 27))) := Lib.hid ((Below.refl _ _).alloc (Nat.le_refl _) _)
  have HK0 : Hid (Blk (w.alloc (.cells #[.int .i64 last, .slice A xs.length c] 27)) w.heap.size 27 #[.int .i64 last, .slice A xs.length c]) := Lib.hid (Blk.new _ _ _)
  have HW := Lib.hid hw
  have HR0 := Lib.hid h
  have hnl : (xs.length : Int) ≤ 200 := by omega
  clear h hw
  rw [show chkE last xs = 0 from if_pos ok] at HC1
  have hus := (us_facts HW.out ok).2.2
  clear ok
  obtain ⟨u, hu⟩ : ∃ u, usZ xs = u := ⟨_, rfl⟩
  rw [hu]
  by_cases hz : xs.length = 0
  · have HU : Hid (fnat u = 4607182418800017408) := Lib.hid (by rw [← hu, us_nil hz]; rfl)
    clear hus hu HC2
    have hz1 : ((xs.length : Int) == 0) = true := beq_iff_eq.2 (by omega)
    clear hz
    go_enter Try.func11, Try.ntmps11
    go_wp2_with fail
    refine (HC1.out _ HB0.out).mono ?_
    rintro e1 w1 ⟨rfl, hb1⟩
    have HB1 := Lib.hid (HB0.out.trans (hb1.mono HB0.out.size))
    have hk1 := HK0.out.below hb1 HK0.out.lt
    have HK1 := Lib.hid hk1
    have c0_1 : w1.cell? ⟨w.heap.size, 0, none⟩ = some (.int .i64 last) := hk1.cell 0
    have c1_1 : w1.cell? ⟨w.heap.size, 1, none⟩ = some (.slice A xs.length c) := hk1.cell 1
    clear hb1 hk1
    go_wp2
    go_ret2
    rw [HU.out]; exact ⟨rfl, HB1.out⟩
  · have hu2 : meanV xs = u := by rw [← hu, us_some hz]
    have HC2 := Lib.hid fun W hb => HC2.out W hb (by omega) hus
    rw [hu2] at HC2
    clear hu hu2
    have hz1 : ((xs.length : Int) == 0) = false := beq_false_of_ne (by omega)
    clear hus hz
    go_enter Try.func11, Try.ntmps11
    go_wp2_with fail
    refine (HC1.out _ HB0.out).mono ?_
    rintro e1 w1 ⟨rfl, hb1⟩
    have HB1 := Lib.hid (HB0.out.trans (hb1.mono HB0.out.size))
    have hk1 := HK0.out.below hb1 HK0.out.lt
    have HK1 := Lib.hid hk1
    have c0_1 : w1.cell? ⟨w.heap.size, 0, none⟩ = some (.int .i64 last) := hk1.cell 0
    have c1_1 : w1.cell? ⟨w.heap.size, 1, none⟩ = some (.slice A xs.length c) := hk1.cell 1
    clear hb1 hk1
    go_wp2_with fail
    refine (HC2.out _ HB1.out).mono ?_
    rintro e2 w2 ⟨rfl, hb2⟩
    have HB2 := Lib.hid (HB1.out.trans (hb2.mono HB1.out.size))
    have hk2 := HK1.out.below hb2 HK1.out.lt
    have HK2 := Lib.hid hk2
    have c0_2 : w2.cell? ⟨w.heap.size, 0, none⟩ = some (.int .i64 last) := hk2.cell 0
    have c1_2 : w2.cell? ⟨w.heap.size, 1, none⟩ = some (.slice A xs.length c) := hk2.cell 1
    clear hb2 hk2
    go_wp2
    go_ret2
    exact ⟨rfl, HB2.out⟩
theorem refusual_bad (last : Int) (xs : List Int) (n c : Nat) (A : Option Addr) (hn : n = xs.length) (hl : xs.length ≤ 200) (hw : ∀ x ∈ xs, Word x) (hc : ¬ OkB last xs) (w : World) (h : Row w w.heap.size A (xs.map fv)) :
    Calls Try.prog 12 #[.agg (bC last A n c)] w (Ret (.tuple #[.float .f64 0, .int .i64 2]) w) := by
  subst hn
  have HC1 := Lib.hid fun W (hb : Below w.heap.size w W) => (refcheck_any last xs xs.length c A rfl hl hw W ((h.below hb).more hb.size))
  unfold bC at *
  have HB0 : Hid (Below w.heap.size w (w.alloc (.cells #[.int .i64 last, .slice A xs.length c] 27))) := Lib.hid ((Below.refl _ _).alloc (Nat.le_refl _) _)
  have HK0 : Hid (Blk (w.alloc (.cells #[.int .i64 last, .slice A xs.length c] 27)) w.heap.size 27 #[.int .i64 last, .slice A xs.length c]) := Lib.hid (Blk.new _ _ _)
  have HW := Lib.hid hw
  have HR0 := Lib.hid h
  have hnl : (xs.length : Int) ≤ 200 := by omega
  clear h hw
  rw [show chkE last xs = 2 from if_neg hc] at HC1
  clear hc
  go_enter Try.func12, Try.ntmps12
  go_wp2_with fail
  refine (HC1.out _ HB0.out).mono ?_
  rintro e1 w1 ⟨rfl, hb1⟩
  have HB1 := Lib.hid (HB0.out.trans (hb1.mono HB0.out.size))
  have hk1 := HK0.out.below hb1 HK0.out.lt
  have HK1 := Lib.hid hk1
  have c0_1 : w1.cell? ⟨w.heap.size, 0, none⟩ = some (.int .i64 last) := hk1.cell 0
  have c1_1 : w1.cell? ⟨w.heap.size, 1, none⟩ = some (.slice A xs.length c) := hk1.cell 1
  clear hb1 hk1
  go_wp2
  go_ret2
  exact ⟨rfl, HB1.out⟩
theorem refusual_ok (last : Int) (xs : List Int) (n c : Nat) (A : Option Addr) (hn : n = xs.length) (hl : xs.length ≤ 200) (hw : ∀ x ∈ xs, Word x) (ok : OkB last xs) (w : World) (h : Row w w.heap.size A (xs.map fv)) :
    Calls Try.prog 12 #[.agg (bC last A n c)] w (Ret (.tuple #[.float .f64 (fnat (usZ xs)), .int .i64 0]) w) := by
  subst hn
  have HC1 := Lib.hid fun W (hb : Below w.heap.size w W) => (refcheck_any last xs xs.length c A rfl hl hw W ((h.below hb).more hb.size))
  have HC2 := Lib.hid fun W (hb : Below w.heap.size w W) => fun (h0 : 0 < xs.length) (he : meanE xs = 0) => refmean_ret xs.length c A xs rfl W ((h.below hb).more hb.size) hw h0 hl he
  unfold bC at *
  have HB0 : Hid (Below w.heap.size w (w.alloc (.cells #[.int .i64 last, .slice A xs.length c] 27))) := Lib.hid ((Below.refl _ _).alloc (Nat.le_refl _) _)
  have HK0 : Hid (Blk (w.alloc (.cells #[.int .i64 last, .slice A xs.length c] 27)) w.heap.size 27 #[.int .i64 last, .slice A xs.length c]) := Lib.hid (Blk.new _ _ _)
  have HW := Lib.hid hw
  have HR0 := Lib.hid h
  have hnl : (xs.length : Int) ≤ 200 := by omega
  clear h hw
  rw [show chkE last xs = 0 from if_pos ok] at HC1
  have hus := (us_facts HW.out ok).2.2
  clear ok
  obtain ⟨u, hu⟩ : ∃ u, usZ xs = u := ⟨_, rfl⟩
  rw [hu]
  by_cases hz : xs.length = 0
  · have HU : Hid (fnat u = 4607182418800017408) := Lib.hid (by rw [← hu, us_nil hz]; rfl)
    clear hus hu HC2
    have hz1 : ((xs.length : Int) == 0) = true := beq_iff_eq.2 (by omega)
    clear hz
    go_enter Try.func12, Try.ntmps12
    go_wp2_with fail
    refine (HC1.out _ HB0.out).mono ?_
    rintro e1 w1 ⟨rfl, hb1⟩
    have HB1 := Lib.hid (HB0.out.trans (hb1.mono HB0.out.size))
    have hk1 := HK0.out.below hb1 HK0.out.lt
    have HK1 := Lib.hid hk1
    have c0_1 : w1.cell? ⟨w.heap.size, 0, none⟩ = some (.int .i64 last) := hk1.cell 0
    have c1_1 : w1.cell? ⟨w.heap.size, 1, none⟩ = some (.slice A xs.length c) := hk1.cell 1
    clear hb1 hk1
    go_wp2
    go_ret2
    rw [HU.out]; exact ⟨rfl, HB1.out⟩
  · have hu2 : meanV xs = u := by rw [← hu, us_some hz]
    have HC2 := Lib.hid fun W hb => HC2.out W hb (by omega) hus
    rw [hu2] at HC2
    clear hu hu2
    have hz1 : ((xs.length : Int) == 0) = false := beq_false_of_ne (by omega)
    clear hus hz
    go_enter Try.func12, Try.ntmps12
    go_wp2_with fail
    refine (HC1.out _ HB0.out).mono ?_
    rintro e1 w1 ⟨rfl, hb1⟩
    have HB1 := Lib.hid (HB0.out.trans (hb1.mono HB0.out.size))
    have hk1 := HK0.out.below hb1 HK0.out.lt
    have HK1 := Lib.hid hk1
    have c0_1 : w1.cell? ⟨w.heap.size, 0, none⟩ = some (.int .i64 last) := hk1.cell 0
    have c1_1 : w1.cell? ⟨w.heap.size, 1, none⟩ = some (.slice A xs.length c) := hk1.cell 1
    clear hb1 hk1
    go_wp2_with fail
    refine (HC2.out _ HB1.out).mono ?_
    rintro e2 w2 ⟨rfl, hb2⟩
    have HB2 := Lib.hid (HB1.out.trans (hb2.mono HB1.out.size))
    have hk2 := HK1.out.below hb2 HK1.out.lt
    have HK2 := Lib.hid hk2
    have c0_2 : w2.cell? ⟨w.heap.size, 0, none⟩ = some (.int .i64 last) := hk2.cell 0
    have c1_2 : w2.cell? ⟨w.heap.size, 1, none⟩ = some (.slice A xs.length c) := hk2.cell 1
    clear hb2 hk2
    go_wp2
    go_ret2
    exact ⟨rfl, HB2.out⟩
theorem score_bad (last : Int) (xs : List Int) (n c : Nat) (A : Option Addr) (hn : n = xs.length) (hl : xs.length ≤ 200) (hw : ∀ x ∈ xs, Word x) (now : Int) (hr : rgtE last xs now = 2) (w : World) (h : Row w w.heap.size A (xs.map fv)) :
    Calls Try.prog 13 #[.agg (bC last A n c), .int .i64 now] w (Ret (.tuple #[.float .f64 0, .int .i64 2]) w) := by
  subst hn
  have HC1 := Lib.hid fun W (hb : Below w.heap.size w W) => since_bad last xs xs.length c A rfl hl hw now hr W ((h.below hb).more hb.size)
  unfold bC at *
  have HB0 : Hid (Below w.heap.size w (w.alloc (.cells #[.int .i64 last, .slice A xs.length c] 27))) := Lib.hid ((Below.refl _ _).alloc (Nat.le_refl _) _)
  have HK0 : Hid (Blk (w.alloc (.cells #[.int .i64 last, .slice A xs.length c] 27)) w.heap.size 27 #[.int .i64 last, .slice A xs.length c]) := Lib.hid (Blk.new _ _ _)
  have HW := Lib.hid hw
  have HR0 := Lib.hid h
  have hnl : (xs.length : Int) ≤ 200 := by omega
  clear h hw
  clear hr
  go_enter Try.func13, Try.ntmps13
  go_wp2_with fail
  refine (HC1.out _ HB0.out).mono ?_
  rintro e1 w1 ⟨rfl, hb1⟩
  have HB1 := Lib.hid (HB0.out.trans (hb1.mono HB0.out.size))
  have hk1 := HK0.out.below hb1 HK0.out.lt
  have HK1 := Lib.hid hk1
  have c0_1 : w1.cell? ⟨w.heap.size, 0, none⟩ = some (.int .i64 last) := hk1.cell 0
  have c1_1 : w1.cell? ⟨w.heap.size, 1, none⟩ = some (.slice A xs.length c) := hk1.cell 1
  clear hb1 hk1
  go_wp2
  go_ret2
  exact ⟨rfl, HB1.out⟩
theorem score_ok (last : Int) (xs : List Int) (n c : Nat) (A : Option Addr) (hn : n = xs.length) (hl : xs.length ≤ 200) (hw : ∀ x ∈ xs, Word x) (now : Int) (hr : rgtE last xs now = 0) (w : World) (h : Row w w.heap.size A (xs.map fv)) :
    Calls Try.prog 13 #[.agg (bC last A n c), .int .i64 now] w (Ret (.tuple #[.float .f64 (fnat (scZ xs (now - last))), .int .i64 0]) w) := by
  subst hn
  have HC1 := Lib.hid fun W (hb : Below w.heap.size w W) => since_ok last xs xs.length c A rfl hl hw now hr W ((h.below hb).more hb.size)
  have HC2 := Lib.hid fun W (hb : Below w.heap.size w W) => fun (ok : OkB last xs) => usual_ok last xs xs.length c A rfl hl hw ok W ((h.below hb).more hb.size)
  unfold bC at *
  have HB0 : Hid (Below w.heap.size w (w.alloc (.cells #[.int .i64 last, .slice A xs.length c] 27))) := Lib.hid ((Below.refl _ _).alloc (Nat.le_refl _) _)
  have HK0 : Hid (Blk (w.alloc (.cells #[.int .i64 last, .slice A xs.length c] 27)) w.heap.size 27 #[.int .i64 last, .slice A xs.length c]) := Lib.hid (Blk.new _ _ _)
  have HW := Lib.hid hw
  have HR0 := Lib.hid h
  have hnl : (xs.length : Int) ≤ 200 := by omega
  clear h hw
  rcases rgt_cases last xs now with ⟨_, ok, h1, h2⟩ | h0
  rotate_left
  · omega
  have HC2 := Lib.hid fun W hb => HC2.out W hb ok
  obtain ⟨u0, u1, _⟩ := us_facts HW.out ok
  obtain ⟨tw, t0, t1, _⟩ := tm_facts (d := now - last) (by omega) (by have := ok.1; omega)
  have HSC : Hid (scZ xs (now - last) = if 0 < usZ xs then canZ (quoZ (tmZ (now - last)) (usZ xs)) else if 0 < tmZ (now - last) then 9218868437227405312 else 0) := Lib.hid rfl
  obtain ⟨u, hu⟩ : ∃ u, usZ xs = u := ⟨_, rfl⟩
  obtain ⟨t, ht⟩ : ∃ t, tmZ (now - last) = t := ⟨_, rfl⟩
  obtain ⟨z, hz⟩ : ∃ z, scZ xs (now - last) = z := ⟨_, rfl⟩
  rw [hu, ht, hz] at HSC
  rw [ht] at HC1 t0 t1 tw
  rw [hu] at HC2 u0 u1
  rw [hz]
  have g1 := order_gt0 u0 u1
  have g2 := order_gt0 (x := t) t0 (by omega)
  have HU0 := Lib.hid u0; have HU1 := Lib.hid u1; have HT0 := Lib.hid t0; have HT1 := Lib.hid t1; have HTW := Lib.hid tw
  clear ok hr h1 h2 hu ht hz u0 u1 t0 t1 tw
  by_cases hup : 0 < u
  · have HZ : Hid (canZ (quoZ t u) = z) := Lib.hid (by have := HSC.out; rw [if_pos hup] at this; exact this.symm)
    have HSH := Lib.hid fun W => share_good t u HTW.out ⟨HU0.out, by have := HU1.out; omega⟩ (bad_plain HT0.out HT1.out hup HU1.out) W
    have hd : decide (0 < u) = true := decide_eq_true hup
    rw [HZ.out] at HSH
    clear hup g2
    go_enter Try.func13, Try.ntmps13
    go_wp2_with fail
    refine (HC1.out _ HB0.out).mono ?_
    rintro e1 w1 ⟨rfl, hb1⟩
    have HB1 := Lib.hid (HB0.out.trans (hb1.mono HB0.out.size))
    have hk1 := HK0.out.below hb1 HK0.out.lt
    have HK1 := Lib.hid hk1
    have c0_1 : w1.cell? ⟨w.heap.size, 0, none⟩ = some (.int .i64 last) := hk1.cell 0
    have c1_1 : w1.cell? ⟨w.heap.size, 1, none⟩ = some (.slice A xs.length c) := hk1.cell 1
    clear hb1 hk1
    go_wp2_with fail
    refine (HC2.out _ HB1.out).mono ?_
    rintro e2 w2 ⟨rfl, hb2⟩
    have HB2 := Lib.hid (HB1.out.trans (hb2.mono HB1.out.size))
    have hk2 := HK1.out.below hb2 HK1.out.lt
    have HK2 := Lib.hid hk2
    have c0_2 : w2.cell? ⟨w.heap.size, 0, none⟩ = some (.int .i64 last) := hk2.cell 0
    have c1_2 : w2.cell? ⟨w.heap.size, 1, none⟩ = some (.slice A xs.length c) := hk2.cell 1
    clear hb2 hk2
    go_wp2_with fail
    refine (HSH.out _).mono ?_
    rintro e3 w3 ⟨rfl, rfl⟩
    go_wp2
    go_ret2
    exact ⟨rfl, HB2.out⟩
  · have hd : decide (0 < u) = false := decide_eq_false hup
    by_cases htp : 0 < t
    · have hzz : z = 9218868437227405312 := by have := HSC.out; rw [if_neg hup, if_pos htp] at this; exact this
      have HINF : Hid (∀ W, Calls Try.prog 34 #[.int .i64 1] W fun e w2 => e = .returned (.float .f64 (fnat z)) ∧ W = w2) := Lib.hid (by rw [hzz]; exact inf_one)
      have hd2 : decide (0 < t) = true := decide_eq_true htp
      clear hup htp hzz HSC
      go_enter Try.func13, Try.ntmps13
      go_wp2_with fail
      refine (HC1.out _ HB0.out).mono ?_
      rintro e1 w1 ⟨rfl, hb1⟩
      have HB1 := Lib.hid (HB0.out.trans (hb1.mono HB0.out.size))
      have hk1 := HK0.out.below hb1 HK0.out.lt
      have HK1 := Lib.hid hk1
      have c0_1 : w1.cell? ⟨w.heap.size, 0, none⟩ = some (.int .i64 last) := hk1.cell 0
      have c1_1 : w1.cell? ⟨w.heap.size, 1, none⟩ = some (.slice A xs.length c) := hk1.cell 1
      clear hb1 hk1
      go_wp2_with fail
      refine (HC2.out _ HB1.out).mono ?_
      rintro e2 w2 ⟨rfl, hb2⟩
      have HB2 := Lib.hid (HB1.out.trans (hb2.mono HB1.out.size))
      have hk2 := HK1.out.below hb2 HK1.out.lt
      have HK2 := Lib.hid hk2
      have c0_2 : w2.cell? ⟨w.heap.size, 0, none⟩ = some (.int .i64 last) := hk2.cell 0
      have c1_2 : w2.cell? ⟨w.heap.size, 1, none⟩ = some (.slice A xs.length c) := hk2.cell 1
      clear hb2 hk2
      go_wp2_with fail
      refine (HINF.out _).mono ?_
      rintro e3 w3 ⟨rfl, rfl⟩
      go_wp2
      go_ret2
      exact ⟨rfl, HB2.out⟩
    · have HZ : Hid (fnat z = 0) := Lib.hid (by have := HSC.out; rw [if_neg hup, if_neg htp] at this; rw [this]; rfl)
      have hd2 : decide (0 < t) = false := decide_eq_false htp
      clear hup htp HSC
      go_enter Try.func13, Try.ntmps13
      go_wp2_with fail
      refine (HC1.out _ HB0.out).mono ?_
      rintro e1 w1 ⟨rfl, hb1⟩
      have HB1 := Lib.hid (HB0.out.trans (hb1.mono HB0.out.size))
      have hk1 := HK0.out.below hb1 HK0.out.lt
      have HK1 := Lib.hid hk1
      have c0_1 : w1.cell? ⟨w.heap.size, 0, none⟩ = some (.int .i64 last) := hk1.cell 0
      have c1_1 : w1.cell? ⟨w.heap.size, 1, none⟩ = some (.slice A xs.length c) := hk1.cell 1
      clear hb1 hk1
      go_wp2_with fail
      refine (HC2.out _ HB1.out).mono ?_
      rintro e2 w2 ⟨rfl, hb2⟩
      have HB2 := Lib.hid (HB1.out.trans (hb2.mono HB1.out.size))
      have hk2 := HK1.out.below hb2 HK1.out.lt
      have HK2 := Lib.hid hk2
      have c0_2 : w2.cell? ⟨w.heap.size, 0, none⟩ = some (.int .i64 last) := hk2.cell 0
      have c1_2 : w2.cell? ⟨w.heap.size, 1, none⟩ = some (.slice A xs.length c) := hk2.cell 1
      clear hb2 hk2
      go_wp2
      go_ret2
      rw [HZ.out]; exact ⟨rfl, HB2.out⟩
theorem refscore_bad (last : Int) (xs : List Int) (n c : Nat) (A : Option Addr) (hn : n = xs.length) (hl : xs.length ≤ 200) (hw : ∀ x ∈ xs, Word x) (now : Int) (hr : rgtE last xs now = 2) (w : World) (h : Row w w.heap.size A (xs.map fv)) :
    Calls Try.prog 14 #[.agg (bC last A n c), .int .i64 now] w (Ret (.tuple #[.float .f64 0, .int .i64 2]) w) := by
  subst hn
  have HC1 := Lib.hid fun W (hb : Below w.heap.size w W) => right_any last xs xs.length c A rfl hl hw now W ((h.below hb).more hb.size)
  unfold bC at *
  have HB0 : Hid (Below w.heap.size w (w.alloc (.cells #[.int .i64 last, .slice A xs.length c] 27))) := Lib.hid ((Below.refl _ _).alloc (Nat.le_refl _) _)
  have HK0 : Hid (Blk (w.alloc (.cells #[.int .i64 last, .slice A xs.length c] 27)) w.heap.size 27 #[.int .i64 last, .slice A xs.length c]) := Lib.hid (Blk.new _ _ _)
  have HW := Lib.hid hw
  have HR0 := Lib.hid h
  have hnl : (xs.length : Int) ≤ 200 := by omega
  clear h hw
  rw [hr] at HC1
  clear hr
  go_enter Try.func14, Try.ntmps14
  go_wp2_with fail
  refine (HC1.out _ HB0.out).mono ?_
  rintro e1 w1 ⟨rfl, hb1⟩
  have HB1 := Lib.hid (HB0.out.trans (hb1.mono HB0.out.size))
  have hk1 := HK0.out.below hb1 HK0.out.lt
  have HK1 := Lib.hid hk1
  have c0_1 : w1.cell? ⟨w.heap.size, 0, none⟩ = some (.int .i64 last) := hk1.cell 0
  have c1_1 : w1.cell? ⟨w.heap.size, 1, none⟩ = some (.slice A xs.length c) := hk1.cell 1
  clear hb1 hk1
  go_wp2
  go_ret2
  exact ⟨rfl, HB1.out⟩
theorem refscore_ok (last : Int) (xs : List Int) (n c : Nat) (A : Option Addr) (hn : n = xs.length) (hl : xs.length ≤ 200) (hw : ∀ x ∈ xs, Word x) (now : Int) (hr : rgtE last xs now = 0) (w : World) (h : Row w w.heap.size A (xs.map fv)) :
    Calls Try.prog 14 #[.agg (bC last A n c), .int .i64 now] w (Ret (.tuple #[.float .f64 (fnat (scZ xs (now - last))), .int .i64 0]) w) := by
  subst hn
  have HC1 := Lib.hid fun W (hb : Below w.heap.size w W) => right_any last xs xs.length c A rfl hl hw now W ((h.below hb).more hb.size)
  have HC2 := Lib.hid fun W (hb : Below w.heap.size w W) => fun (ok : OkB last xs) => refusual_ok last xs xs.length c A rfl hl hw ok W ((h.below hb).more hb.size)
  unfold bC at *
  have HB0 : Hid (Below w.heap.size w (w.alloc (.cells #[.int .i64 last, .slice A xs.length c] 27))) := Lib.hid ((Below.refl _ _).alloc (Nat.le_refl _) _)
  have HK0 : Hid (Blk (w.alloc (.cells #[.int .i64 last, .slice A xs.length c] 27)) w.heap.size 27 #[.int .i64 last, .slice A xs.length c]) := Lib.hid (Blk.new _ _ _)
  have HW := Lib.hid hw
  have HR0 := Lib.hid h
  have hnl : (xs.length : Int) ≤ 200 := by omega
  clear h hw
  rcases rgt_cases last xs now with ⟨_, ok, h1, h2⟩ | h0
  rotate_left
  · omega
  rw [hr] at HC1
  have HC2 := Lib.hid fun W hb => HC2.out W hb ok
  obtain ⟨u0, u1, _⟩ := us_facts HW.out ok
  have HS0 := Lib.hid (sc_nought HW.out ok)
  obtain ⟨tw, t0, t1, t2, _⟩ := tm_facts (d := now - last) (by omega) (by have := ok.1; omega)
  have HSC : Hid (scZ xs (now - last) = if 0 < usZ xs then canZ (quoZ (tmZ (now - last)) (usZ xs)) else if 0 < tmZ (now - last) then 9218868437227405312 else 0) := Lib.hid rfl
  have o1 := ok.1; have o2 := ok.2.1
  obtain ⟨z, hz⟩ : ∃ z, scZ xs (now - last) = z := ⟨_, rfl⟩
  rw [hz] at HSC
  rw [hz]
  obtain ⟨u, hu⟩ : ∃ u, usZ xs = u := ⟨_, rfl⟩
  rw [hu] at HC2 u0 u1 HSC
  have hk0 := not_bad u0 u1
  have hbits := run_bits u ⟨u0, by omega⟩
  have hf := run_frombits
  have HU0 := Lib.hid u0; have HU1 := Lib.hid u1; have HT0 := Lib.hid t0; have HT1 := Lib.hid t1; have HTW := Lib.hid tw; have HT2 := Lib.hid t2; have HK := Lib.hid hk0
  clear ok hr hu u0 u1 t0 t1 t2 tw hk0
  by_cases hnl2 : now = last
  · have HZ : Hid (fnat z = 0) := Lib.hid (by rw [← hz, show now - last = 0 by omega, HS0.out]; rfl)
    have hd : (now == last) = true := beq_iff_eq.2 hnl2
    clear HSC HT2 h1 hf hbits hz hnl2
    go_enter Try.func14, Try.ntmps14
    go_wp2_with fail
    refine (HC1.out _ HB0.out).mono ?_
    rintro e1 w1 ⟨rfl, hb1⟩
    have HB1 := Lib.hid (HB0.out.trans (hb1.mono HB0.out.size))
    have hk1 := HK0.out.below hb1 HK0.out.lt
    have HK1 := Lib.hid hk1
    have c0_1 : w1.cell? ⟨w.heap.size, 0, none⟩ = some (.int .i64 last) := hk1.cell 0
    have c1_1 : w1.cell? ⟨w.heap.size, 1, none⟩ = some (.slice A xs.length c) := hk1.cell 1
    clear hb1 hk1
    go_wp2_with fail
    refine (HC2.out _ HB1.out).mono ?_
    rintro e2 w2 ⟨rfl, hb2⟩
    have HB2 := Lib.hid (HB1.out.trans (hb2.mono HB1.out.size))
    have hk2 := HK1.out.below hb2 HK1.out.lt
    have HK2 := Lib.hid hk2
    have c0_2 : w2.cell? ⟨w.heap.size, 0, none⟩ = some (.int .i64 last) := hk2.cell 0
    have c1_2 : w2.cell? ⟨w.heap.size, 1, none⟩ = some (.slice A xs.length c) := hk2.cell 1
    clear hb2 hk2
    go_wp2
    go_ret2
    rw [HZ.out]; exact ⟨rfl, HB2.out⟩
  · have hd : (now == last) = false := beq_false_of_ne hnl2
    have HNL := Lib.hid hnl2
    clear hnl2
    by_cases hup : 0 < u
    · have HZ : Hid (canZ (quoZ (tmZ (now - last)) u) = z) := Lib.hid (by have := HSC.out; rw [if_pos hup] at this; exact this.symm)
      have HSH := Lib.hid fun W => refshare_good (tmZ (now - last)) u HTW.out ⟨HU0.out, by have := HU1.out; omega⟩ (bad_plain HT0.out HT1.out hup HU1.out) W
      rw [HZ.out, tm_fnat] at HSH
      have hkk : (kindZ u == 0) = false := beq_false_of_ne (fun e => by have := HK.out.1 e; omega)
      clear hup hz HSC hf
      go_enter Try.func14, Try.ntmps14
      go_wp2_with fail
      refine (HC1.out _ HB0.out).mono ?_
      rintro e1 w1 ⟨rfl, hb1⟩
      have HB1 := Lib.hid (HB0.out.trans (hb1.mono HB0.out.size))
      have hk1 := HK0.out.below hb1 HK0.out.lt
      have HK1 := Lib.hid hk1
      have c0_1 : w1.cell? ⟨w.heap.size, 0, none⟩ = some (.int .i64 last) := hk1.cell 0
      have c1_1 : w1.cell? ⟨w.heap.size, 1, none⟩ = some (.slice A xs.length c) := hk1.cell 1
      clear hb1 hk1
      go_wp2_with fail
      refine (HC2.out _ HB1.out).mono ?_
      rintro e2 w2 ⟨rfl, hb2⟩
      have HB2 := Lib.hid (HB1.out.trans (hb2.mono HB1.out.size))
      have hk2 := HK1.out.below hb2 HK1.out.lt
      have HK2 := Lib.hid hk2
      have c0_2 : w2.cell? ⟨w.heap.size, 0, none⟩ = some (.int .i64 last) := hk2.cell 0
      have c1_2 : w2.cell? ⟨w.heap.size, 1, none⟩ = some (.slice A xs.length c) := hk2.cell 1
      clear hb2 hk2
      go_wp2_with (first | (go_at_call 20; refine (kind_any _ _).mono ?_; rintro e w' ⟨rfl, rfl⟩) | (go_at_call 36; refine (HSH.out _).mono ?_; rintro e w' ⟨rfl, rfl⟩))
      go_ret2
      exact ⟨rfl, HB2.out⟩
    · have hzz : z = 9218868437227405312 := by
        have := HSC.out; rw [if_neg hup, if_pos (by have := HT0.out; have := HT2.out; have := HNL.out; omega)] at this; exact this
      have HZ : Hid (fnat z = 9218868437227405312) := Lib.hid (by rw [hzz]; rfl)
      have hkk : (kindZ u == 0) = true := beq_iff_eq.2 (HK.out.2 (by have := HU0.out; omega))
      clear hup HSC hzz hz HT2
      go_enter Try.func14, Try.ntmps14
      go_wp2_with fail
      refine (HC1.out _ HB0.out).mono ?_
      rintro e1 w1 ⟨rfl, hb1⟩
      have HB1 := Lib.hid (HB0.out.trans (hb1.mono HB0.out.size))
      have hk1 := HK0.out.below hb1 HK0.out.lt
      have HK1 := Lib.hid hk1
      have c0_1 : w1.cell? ⟨w.heap.size, 0, none⟩ = some (.int .i64 last) := hk1.cell 0
      have c1_1 : w1.cell? ⟨w.heap.size, 1, none⟩ = some (.slice A xs.length c) := hk1.cell 1
      clear hb1 hk1
      go_wp2_with fail
      refine (HC2.out _ HB1.out).mono ?_
      rintro e2 w2 ⟨rfl, hb2⟩
      have HB2 := Lib.hid (HB1.out.trans (hb2.mono HB1.out.size))
      have hk2 := HK1.out.below hb2 HK1.out.lt
      have HK2 := Lib.hid hk2
      have c0_2 : w2.cell? ⟨w.heap.size, 0, none⟩ = some (.int .i64 last) := hk2.cell 0
      have c1_2 : w2.cell? ⟨w.heap.size, 1, none⟩ = some (.slice A xs.length c) := hk2.cell 1
      clear hb2 hk2
      go_wp2_with (go_at_call 20; refine (kind_any _ _).mono ?_; rintro e w' ⟨rfl, rfl⟩)
      go_ret2
      refine ⟨?_, HB2.out⟩
      rw [HZ.out]; rfl
theorem suspect_bad (last : Int) (xs : List Int) (n c : Nat) (A : Option Addr) (hn : n = xs.length) (hl : xs.length ≤ 200) (hw : ∀ x ∈ xs, Word x) (now most : Int) (hr : rgtE last xs now = 2) (w : World) (h : Row w w.heap.size A (xs.map fv)) :
    Calls Try.prog 15 #[.agg (bC last A n c), .int .i64 now, .float .f64 (fnat most)] w (Ret (.tuple #[.bool false, .int .i64 2]) w) := by
  subst hn
  have HC1 := Lib.hid fun W (hb : Below w.heap.size w W) => score_bad last xs xs.length c A rfl hl hw now hr W ((h.below hb).more hb.size)
  unfold bC at *
  have HB0 : Hid (Below w.heap.size w (w.alloc (.cells #[.int .i64 last, .slice A xs.length c] 27))) := Lib.hid ((Below.refl _ _).alloc (Nat.le_refl _) _)
  have HK0 : Hid (Blk (w.alloc (.cells #[.int .i64 last, .slice A xs.length c] 27)) w.heap.size 27 #[.int .i64 last, .slice A xs.length c]) := Lib.hid (Blk.new _ _ _)
  have HW := Lib.hid hw
  have HR0 := Lib.hid h
  have hnl : (xs.length : Int) ≤ 200 := by omega
  clear h hw
  clear hr
  go_enter Try.func15, Try.ntmps15
  go_wp2_with fail
  refine (HC1.out _ HB0.out).mono ?_
  rintro e1 w1 ⟨rfl, hb1⟩
  have HB1 := Lib.hid (HB0.out.trans (hb1.mono HB0.out.size))
  have hk1 := HK0.out.below hb1 HK0.out.lt
  have HK1 := Lib.hid hk1
  have c0_1 : w1.cell? ⟨w.heap.size, 0, none⟩ = some (.int .i64 last) := hk1.cell 0
  have c1_1 : w1.cell? ⟨w.heap.size, 1, none⟩ = some (.slice A xs.length c) := hk1.cell 1
  clear hb1 hk1
  go_wp2
  go_ret2
  exact ⟨rfl, HB1.out⟩
def susV (xs : List Int) (d most : Int) : Bool := if kindZ most = 3 then false else decide (0 < cmpZ (scZ xs d) most)
def susE (most : Int) : Int := if kindZ most = 3 then 10 else 0
theorem suspect_ok (last : Int) (xs : List Int) (n c : Nat) (A : Option Addr) (hn : n = xs.length) (hl : xs.length ≤ 200) (hw : ∀ x ∈ xs, Word x) (now most : Int) (hm : Word most) (hr : rgtE last xs now = 0) (w : World) (h : Row w w.heap.size A (xs.map fv)) :
    Calls Try.prog 15 #[.agg (bC last A n c), .int .i64 now, .float .f64 (fnat most)] w (Ret (.tuple #[.bool (susV xs (now - last) most), .int .i64 (susE most)]) w) := by
  subst hn
  have HC1 := Lib.hid fun W (hb : Below w.heap.size w W) => score_ok last xs xs.length c A rfl hl hw now hr W ((h.below hb).more hb.size)
  unfold bC at *
  have HB0 : Hid (Below w.heap.size w (w.alloc (.cells #[.int .i64 last, .slice A xs.length c] 27))) := Lib.hid ((Below.refl _ _).alloc (Nat.le_refl _) _)
  have HK0 : Hid (Blk (w.alloc (.cells #[.int .i64 last, .slice A xs.length c] 27)) w.heap.size 27 #[.int .i64 last, .slice A xs.length c]) := Lib.hid (Blk.new _ _ _)
  have HW := Lib.hid hw
  have HR0 := Lib.hid h
  have hnl : (xs.length : Int) ≤ 200 := by omega
  clear h hw
  rcases rgt_cases last xs now with ⟨_, ok, h1, h2⟩ | h0
  rotate_left
  · omega
  have HZW : Hid (Word (scZ xs (now - last))) := Lib.hid (by have := sc_facts HW.out ok (d := now - last) (by omega) (by have := ok.1; omega); exact ⟨this.1, by omega⟩)
  have HM := Lib.hid hm
  have hcc := cmp_cases (scZ xs (now - last)) most
  have HV : Hid (susV xs (now - last) most = if kindZ most = 3 then false else decide (0 < cmpZ (scZ xs (now - last)) most)) := Lib.hid rfl
  have HE : Hid (susE most = if kindZ most = 3 then 10 else 0) := Lib.hid rfl
  generalize scZ xs (now - last) = z at *
  generalize susV xs (now - last) most = v at *
  generalize susE most = g at *
  clear ok hr h1 h2 hm hcc
  by_cases h3 : kindZ most = 3
  · have HV2 : Hid (v = false) := Lib.hid (by rw [HV.out, if_pos h3])
    have HE2 : Hid (g = 10) := Lib.hid (by rw [HE.out, if_pos h3])
    have hd : decide (kindZ most = 3) = true := decide_eq_true h3
    rw [HV2.out, HE2.out]
    clear h3
    go_enter Try.func15, Try.ntmps15
    go_wp2_with fail
    refine (HC1.out _ HB0.out).mono ?_
    rintro e1 w1 ⟨rfl, hb1⟩
    have HB1 := Lib.hid (HB0.out.trans (hb1.mono HB0.out.size))
    have hk1 := HK0.out.below hb1 HK0.out.lt
    have HK1 := Lib.hid hk1
    have c0_1 : w1.cell? ⟨w.heap.size, 0, none⟩ = some (.int .i64 last) := hk1.cell 0
    have c1_1 : w1.cell? ⟨w.heap.size, 1, none⟩ = some (.slice A xs.length c) := hk1.cell 1
    clear hb1 hk1
    go_wp2_with (go_at_call 37; refine (isnan_any _ HM.out _).mono ?_; rintro e w' ⟨rfl, rfl⟩)
    go_ret2
    exact ⟨rfl, HB1.out⟩
  · have HV2 : Hid (v = decide (0 < cmpZ z most)) := Lib.hid (by rw [HV.out, if_neg h3])
    have HE2 : Hid (g = 0) := Lib.hid (by rw [HE.out, if_neg h3])
    have hd : decide (kindZ most = 3) = false := decide_eq_false h3
    rw [HV2.out, HE2.out]
    clear h3
    go_enter Try.func15, Try.ntmps15
    go_wp2_with fail
    refine (HC1.out _ HB0.out).mono ?_
    rintro e1 w1 ⟨rfl, hb1⟩
    have HB1 := Lib.hid (HB0.out.trans (hb1.mono HB0.out.size))
    have hk1 := HK0.out.below hb1 HK0.out.lt
    have HK1 := Lib.hid hk1
    have c0_1 : w1.cell? ⟨w.heap.size, 0, none⟩ = some (.int .i64 last) := hk1.cell 0
    have c1_1 : w1.cell? ⟨w.heap.size, 1, none⟩ = some (.slice A xs.length c) := hk1.cell 1
    clear hb1 hk1
    go_wp2_with (first | (go_at_call 37; refine (isnan_any _ HM.out _).mono ?_; rintro e w' ⟨rfl, rfl⟩) | (go_at_call 38; refine (compare_any _ _ HZW.out HM.out _).mono ?_; rintro e w' ⟨rfl, rfl⟩))
    go_ret2
    exact ⟨rfl, HB1.out⟩
end Go.Proofs.Ytkfapcigfgfeaaa
