/- The law TagsOrder, walked. -/
import Derived.Test.YtnljljfopelopaaValsLaw
import Derived.Deep.DeepCutAuto
namespace Go.Proofs.Ytnljljfopelopaa
open Go.RowKit Mem Be
set_option maxRecDepth 100000
set_option maxHeartbeats 8000000
theorem cmpI_anti (a x : Int) : cmpI x a = - cmpI a x := by
  rcases cmpI_cases a x with ⟨h, h2⟩ | ⟨h, h2⟩ | ⟨h, h2⟩
  · rw [h2, cmpI_gt h]; rfl
  · rw [h2, cmpI_lt h]
  · subst h; rw [h2]; rfl
theorem cmpT_anti (a b c x y z : Int) : cmpT x y z a b c = - cmpT a b c x y z := by
  unfold cmpT
  rw [cmpI_anti a x, cmpI_anti b y, cmpI_anti c z]
  rcases cmpI_cases a x with ⟨_, h⟩ | ⟨_, h⟩ | ⟨_, h⟩ <;> rcases cmpI_cases b y with ⟨_, h'⟩ | ⟨_, h'⟩ | ⟨_, h'⟩ <;> rw [h, h'] <;> simp
theorem cmpT_zero (a b c x y z : Int) : cmpT a b c x y z = 0 ↔ eqT a b c x y z = true := by
  have e : eqT a b c x y z = true ↔ a = x ∧ b = y ∧ c = z := by unfold eqT; simp [and_assoc]
  rw [e]
  unfold cmpT
  rcases cmpI_cases a x with ⟨g, h⟩ | ⟨g, h⟩ | ⟨g, h⟩ <;> rcases cmpI_cases b y with ⟨g', h'⟩ | ⟨g', h'⟩ | ⟨g', h'⟩ <;> rcases cmpI_cases c z with ⟨g'', h''⟩ | ⟨g'', h''⟩ | ⟨g'', h''⟩ <;> rw [h, h', h''] <;> simp <;> omega
theorem cmpT_ge (a b c x y z : Int) : 0 ≤ cmpT a b c x y z ↔ (x < a ∨ (a = x ∧ (y < b ∨ (b = y ∧ z ≤ c)))) := by
  unfold cmpT
  rcases cmpI_cases a x with ⟨g, h⟩ | ⟨g, h⟩ | ⟨g, h⟩ <;> rcases cmpI_cases b y with ⟨g', h'⟩ | ⟨g', h'⟩ | ⟨g', h'⟩ <;> rcases cmpI_cases c z with ⟨g'', h''⟩ | ⟨g'', h''⟩ | ⟨g'', h''⟩ <;> rw [h, h', h''] <;> simp <;> omega
theorem cmpT_trans {a b c x y z p q r : Int} (h1 : 0 ≤ cmpT a b c x y z) (h2 : 0 ≤ cmpT x y z p q r) : 0 ≤ cmpT a b c p q r := by
  rw [cmpT_ge] at *; omega
theorem next_ways (s u o who op : Int) : (∃ e, e ≠ 0 ∧ nextT s u o who op = (0, 0, 0, e)) ∨ (nextT s u o who op = (s + 1, who, op, 0) ∧ checkT (s + 1) who op = 0) := by
  unfold nextT
  by_cases h1 : checkT s u o = 0
  · rw [if_neg (by rw [h1]; simp)]
    cases h2 : inR who 1048575
    · left; exact ⟨2, by decide, by simp⟩
    cases h3 : inR op 1048575
    · left; exact ⟨2, by decide, by simp⟩
    rw [if_neg (by simp)]
    by_cases h4 : s = 1099511627775
    · left; exact ⟨3, by decide, if_pos h4⟩
    · right
      refine ⟨if_neg h4, ?_⟩
      have hs := check_seq h1
      have hi : inR (s + 1) 1099511627775 = true := decide_eq_true (by omega)
      have hz : ((s + 1) == 0) = false := by simp; omega
      unfold checkT okT
      rw [hi, h2, h3, hz]; rfl
  · left; exact ⟨2, by decide, if_pos h1⟩
theorem cmpT_big {s w0 p x y z : Int} (h : x < s) : cmpT s w0 p x y z = 1 := by rw [cmpT_1 (by omega)]; exact cmpI_gt h
theorem order_walk (a0 a1 a2 b0 b1 b2 c0 c1 c2 who op : Int) (w : World) : Calls Try.prog 9 #[tagV a0 a1 a2, tagV b0 b1 b2, tagV c0 c1 c2, .int .i64 who, .int .i64 op] w fun e w' => e = .returned (.bool true) ∧ Below w.heap.size w w' := by
  have HB0 : Hid (Below w.heap.size w (((w.alloc (.cells #[.int .i64 a0, .int .i64 a1, .int .i64 a2] 23)).alloc (.cells #[.int .i64 b0, .int .i64 b1, .int .i64 b2] 23)).alloc (.cells #[.int .i64 c0, .int .i64 c1, .int .i64 c2] 23))) := Lib.hid ((((Below.refl _ _).alloc (Nat.le_refl _) _).alloc (by simp) _).alloc (by simp; omega) _)
  have KA : Hid (Blk (((w.alloc (.cells #[.int .i64 a0, .int .i64 a1, .int .i64 a2] 23)).alloc (.cells #[.int .i64 b0, .int .i64 b1, .int .i64 b2] 23)).alloc (.cells #[.int .i64 c0, .int .i64 c1, .int .i64 c2] 23)) w.heap.size 23 #[.int .i64 a0, .int .i64 a1, .int .i64 a2]) := Lib.hid (((Blk.new w _ _).alloc _).alloc _)
  have KB : Hid (Blk (((w.alloc (.cells #[.int .i64 a0, .int .i64 a1, .int .i64 a2] 23)).alloc (.cells #[.int .i64 b0, .int .i64 b1, .int .i64 b2] 23)).alloc (.cells #[.int .i64 c0, .int .i64 c1, .int .i64 c2] 23)) (w.heap.size + 1) 23 #[.int .i64 b0, .int .i64 b1, .int .i64 b2]) := Lib.hid (blk_at (by simp) ((Blk.new (w.alloc _) _ _).alloc _))
  have KC : Hid (Blk (((w.alloc (.cells #[.int .i64 a0, .int .i64 a1, .int .i64 a2] 23)).alloc (.cells #[.int .i64 b0, .int .i64 b1, .int .i64 b2] 23)).alloc (.cells #[.int .i64 c0, .int .i64 c1, .int .i64 c2] 23)) (w.heap.size + 2) 23 #[.int .i64 c0, .int .i64 c1, .int .i64 c2]) := Lib.hid (blk_at (by simp) (Blk.new _ _ _))
  go_enter Try.func9, Try.ntmps9
  go_upto_region 1 with fail
  go_cut [48] (fun t wx => t = .bool false ∧ Hid (Below (((w.alloc (.cells #[.int .i64 a0, .int .i64 a1, .int .i64 a2] 23)).alloc (.cells #[.int .i64 b0, .int .i64 b1, .int .i64 b2] 23)).alloc (.cells #[.int .i64 c0, .int .i64 c1, .int .i64 c2] 23)).heap.size (((w.alloc (.cells #[.int .i64 a0, .int .i64 a1, .int .i64 a2] 23)).alloc (.cells #[.int .i64 b0, .int .i64 b1, .int .i64 b2] 23)).alloc (.cells #[.int .i64 c0, .int .i64 c1, .int .i64 c2] 23)) wx))
  case first =>
    obtain ⟨p0, p1, p2⟩ := later_tag KA.out
    obtain ⟨q0, q1, q2⟩ := later_tag KB.out
    obtain ⟨r0, r1, r2⟩ := later_tag KC.out
    have hanti := cmpT_anti a0 a1 a2 b0 b1 b2
    have hzero := cmpT_zero a0 a1 a2 b0 b1 b2
    have hq := run_eqT a0 a1 a2 b0 b1 b2
    have htr := fun h1 h2 => cmpT_trans (a := a0) (b := a1) (c := a2) (x := b0) (y := b1) (z := b2) (p := c0) (q := c1) (r := c2) h1 h2
    rcases cmpT_range a0 a1 a2 b0 b1 b2 with h1 | h1 | h1
    · have HAB := Lib.hid h1
      rw [h1] at hanti hzero
      have HBA : Hid (cmpT b0 b1 b2 a0 a1 a2 = 1) := Lib.hid (hanti.trans (by decide))
      have heq : eqT a0 a1 a2 b0 b1 b2 = false := by cases hh : eqT a0 a1 a2 b0 b1 b2 <;> simp [hh] at hzero ⊢
      rw [heq] at hq
      clear h1 hanti hzero htr heq
      refine wp_region_later (by kernel_rfl) (by kernel_rfl) ?_
      repeat (go_big_quiet_step ((go_at_call 14; exact later_of (compare_val _ _ _ _ _ _ _ (by assumption) _))))
      refine wpQuiet_nil ?_
      intro w' hw'
      obtain ⟨p, rfl⟩ := hw'
      go_wp2_with fail
      go_meet
      exact ⟨rfl, Lib.hid p.bel⟩
    · have HAB := Lib.hid h1
      rw [h1] at hanti hzero
      have HBA : Hid (cmpT b0 b1 b2 a0 a1 a2 = 0) := Lib.hid (hanti.trans (by decide))
      have heq : eqT a0 a1 a2 b0 b1 b2 = true := by cases hh : eqT a0 a1 a2 b0 b1 b2 <;> simp [hh] at hzero ⊢
      rw [heq] at hq
      clear hanti hzero heq
      rcases cmpT_range b0 b1 b2 c0 c1 c2 with h2 | h2 | h2
      · have HBC := Lib.hid h2
        clear h1 h2 htr
        refine wp_region_later (by kernel_rfl) (by kernel_rfl) ?_
        repeat (go_big_quiet_step ((go_at_call 14; exact later_of (compare_val _ _ _ _ _ _ _ (by assumption) _))))
        refine wpQuiet_nil ?_
        intro w' hw'
        obtain ⟨p, rfl⟩ := hw'
        go_wp2_with fail
        go_meet
        exact ⟨rfl, Lib.hid p.bel⟩
      · have HBC := Lib.hid h2
        have h3 := htr (by rw [h1]; decide) (by rw [h2]; decide)
        clear h1 h2 htr
        rcases cmpT_range a0 a1 a2 c0 c1 c2 with h4 | h4 | h4
        · rw [h4] at h3; exact absurd h3 (by decide)
        · have HAC := Lib.hid h4
          clear h3 h4
          refine wp_region_later (by kernel_rfl) (by kernel_rfl) ?_
          repeat (go_big_quiet_step ((go_at_call 14; exact later_of (compare_val _ _ _ _ _ _ _ (by assumption) _))))
          refine wpQuiet_nil ?_
          intro w' hw'
          obtain ⟨p, rfl⟩ := hw'
          go_wp2_with fail
          go_meet
          exact ⟨rfl, Lib.hid p.bel⟩
        · have HAC := Lib.hid h4
          clear h3 h4
          refine wp_region_later (by kernel_rfl) (by kernel_rfl) ?_
          repeat (go_big_quiet_step ((go_at_call 14; exact later_of (compare_val _ _ _ _ _ _ _ (by assumption) _))))
          refine wpQuiet_nil ?_
          intro w' hw'
          obtain ⟨p, rfl⟩ := hw'
          go_wp2_with fail
          go_meet
          exact ⟨rfl, Lib.hid p.bel⟩
      · have HBC := Lib.hid h2
        have h3 := htr (by rw [h1]; decide) (by rw [h2]; decide)
        clear h1 h2 htr
        rcases cmpT_range a0 a1 a2 c0 c1 c2 with h4 | h4 | h4
        · rw [h4] at h3; exact absurd h3 (by decide)
        · have HAC := Lib.hid h4
          clear h3 h4
          refine wp_region_later (by kernel_rfl) (by kernel_rfl) ?_
          repeat (go_big_quiet_step ((go_at_call 14; exact later_of (compare_val _ _ _ _ _ _ _ (by assumption) _))))
          refine wpQuiet_nil ?_
          intro w' hw'
          obtain ⟨p, rfl⟩ := hw'
          go_wp2_with fail
          go_meet
          exact ⟨rfl, Lib.hid p.bel⟩
        · have HAC := Lib.hid h4
          clear h3 h4
          refine wp_region_later (by kernel_rfl) (by kernel_rfl) ?_
          repeat (go_big_quiet_step ((go_at_call 14; exact later_of (compare_val _ _ _ _ _ _ _ (by assumption) _))))
          refine wpQuiet_nil ?_
          intro w' hw'
          obtain ⟨p, rfl⟩ := hw'
          go_wp2_with fail
          go_meet
          exact ⟨rfl, Lib.hid p.bel⟩
    · have HAB := Lib.hid h1
      rw [h1] at hanti hzero
      have HBA : Hid (cmpT b0 b1 b2 a0 a1 a2 = -1) := Lib.hid (hanti.trans (by decide))
      have heq : eqT a0 a1 a2 b0 b1 b2 = false := by cases hh : eqT a0 a1 a2 b0 b1 b2 <;> simp [hh] at hzero ⊢
      rw [heq] at hq
      clear hanti hzero heq
      rcases cmpT_range b0 b1 b2 c0 c1 c2 with h2 | h2 | h2
      · have HBC := Lib.hid h2
        clear h1 h2 htr
        refine wp_region_later (by kernel_rfl) (by kernel_rfl) ?_
        repeat (go_big_quiet_step ((go_at_call 14; exact later_of (compare_val _ _ _ _ _ _ _ (by assumption) _))))
        refine wpQuiet_nil ?_
        intro w' hw'
        obtain ⟨p, rfl⟩ := hw'
        go_wp2_with fail
        go_meet
        exact ⟨rfl, Lib.hid p.bel⟩
      · have HBC := Lib.hid h2
        have h3 := htr (by rw [h1]; decide) (by rw [h2]; decide)
        clear h1 h2 htr
        rcases cmpT_range a0 a1 a2 c0 c1 c2 with h4 | h4 | h4
        · rw [h4] at h3; exact absurd h3 (by decide)
        · have HAC := Lib.hid h4
          clear h3 h4
          refine wp_region_later (by kernel_rfl) (by kernel_rfl) ?_
          repeat (go_big_quiet_step ((go_at_call 14; exact later_of (compare_val _ _ _ _ _ _ _ (by assumption) _))))
          refine wpQuiet_nil ?_
          intro w' hw'
          obtain ⟨p, rfl⟩ := hw'
          go_wp2_with fail
          go_meet
          exact ⟨rfl, Lib.hid p.bel⟩
        · have HAC := Lib.hid h4
          clear h3 h4
          refine wp_region_later (by kernel_rfl) (by kernel_rfl) ?_
          repeat (go_big_quiet_step ((go_at_call 14; exact later_of (compare_val _ _ _ _ _ _ _ (by assumption) _))))
          refine wpQuiet_nil ?_
          intro w' hw'
          obtain ⟨p, rfl⟩ := hw'
          go_wp2_with fail
          go_meet
          exact ⟨rfl, Lib.hid p.bel⟩
      · have HBC := Lib.hid h2
        have h3 := htr (by rw [h1]; decide) (by rw [h2]; decide)
        clear h1 h2 htr
        rcases cmpT_range a0 a1 a2 c0 c1 c2 with h4 | h4 | h4
        · rw [h4] at h3; exact absurd h3 (by decide)
        · have HAC := Lib.hid h4
          clear h3 h4
          refine wp_region_later (by kernel_rfl) (by kernel_rfl) ?_
          repeat (go_big_quiet_step ((go_at_call 14; exact later_of (compare_val _ _ _ _ _ _ _ (by assumption) _))))
          refine wpQuiet_nil ?_
          intro w' hw'
          obtain ⟨p, rfl⟩ := hw'
          go_wp2_with fail
          go_meet
          exact ⟨rfl, Lib.hid p.bel⟩
        · have HAC := Lib.hid h4
          clear h3 h4
          refine wp_region_later (by kernel_rfl) (by kernel_rfl) ?_
          repeat (go_big_quiet_step ((go_at_call 14; exact later_of (compare_val _ _ _ _ _ _ _ (by assumption) _))))
          refine wpQuiet_nil ?_
          intro w' hw'
          obtain ⟨p, rfl⟩ := hw'
          go_wp2_with fail
          go_meet
          exact ⟨rfl, Lib.hid p.bel⟩
  case rest =>
    obtain ⟨rfl, HB⟩ := hcut
    have KA1 := Lib.hid (KA.out.below HB.out KA.out.lt)
    have KB1 := Lib.hid (KB.out.below HB.out KB.out.lt)
    have HB1 : Hid (Below w.heap.size w wc) := Lib.hid (HB0.out.trans (HB.out.mono HB0.out.size))
    have x0 : wc.cell? ⟨w.heap.size, 0, none⟩ = some (.int .i64 a0) := KA1.out.cell 0
    have x1 : wc.cell? ⟨w.heap.size, 1, none⟩ = some (.int .i64 a1) := KA1.out.cell 1
    have x2 : wc.cell? ⟨w.heap.size, 2, none⟩ = some (.int .i64 a2) := KA1.out.cell 2
    rcases next_ways a0 a1 a2 who op with ⟨e, he, hn⟩ | ⟨hn, hck⟩
    · have HN : Hid (∀ W, Calls Try.prog 12 #[tagV a0 a1 a2, .int .i64 who, .int .i64 op] W (IsTE (0, 0, 0, e) W)) := Lib.hid (fun W => by rw [← hn]; exact next_any a0 a1 a2 who op W)
      have hq0 := run_eqT 0 0 0 0 0 0
      rw [show eqT 0 0 0 0 0 0 = true by decide] at hq0
      have hne : (e != 0) = true := by simpa using he
      clear he hn
      go_wp2_with fail
      refine (HN.out _).mono ?_
      rintro e' w1 ⟨rfl, hb⟩
      have HB2 : Hid (Below w.heap.size w (w1.alloc (.cells #[.int .i64 0, .int .i64 0, .int .i64 0] 23))) := Lib.hid (((HB1.out.trans (hb.mono HB1.out.size))).alloc (HB1.out.trans (hb.mono HB1.out.size)).size _)
      clear hb
      go_wp2_with fail
      refine (known_any _).mono ?_
      rintro e' w2 ⟨rfl, hb⟩
      have HB3 : Hid (Below w.heap.size w w2) := Lib.hid (HB2.out.trans (hb.mono HB2.out.size))
      clear hb
      go_wp2
      go_ret
      exact ⟨rfl, HB3.out⟩
    · have HN : Hid (∀ W, Calls Try.prog 12 #[tagV a0 a1 a2, .int .i64 who, .int .i64 op] W (IsTE (a0 + 1, who, op, 0) W)) := Lib.hid (fun W => by rw [← hn]; exact next_any a0 a1 a2 who op W)
      have HCK := Lib.hid hck
      have HTA : Hid (cmpT (a0 + 1) who op a0 a1 a2 = 1) := Lib.hid (cmpT_big (by omega))
      obtain ⟨t0, ht0⟩ : ∃ t, a0 + 1 = t := ⟨_, rfl⟩
      rw [ht0] at HN HCK HTA
      have HT0 := Lib.hid ht0
      clear hn hck ht0
      go_wp2_with fail
      refine (HN.out _).mono ?_
      rintro e' w1 ⟨rfl, hb⟩
      have HBa : Hid (Below w.heap.size w w1) := Lib.hid (HB1.out.trans (hb.mono HB1.out.size))
      have HB2 : Hid (Below w.heap.size w (w1.alloc (.cells #[.int .i64 t0, .int .i64 who, .int .i64 op] 23))) := Lib.hid (HBa.out.alloc HBa.out.size _)
      have KA2 := Lib.hid ((KA1.out.below hb KA1.out.lt).alloc (.cells #[.int .i64 t0, .int .i64 who, .int .i64 op] 23))
      have KB2 := Lib.hid ((KB1.out.below hb KB1.out.lt).alloc (.cells #[.int .i64 t0, .int .i64 who, .int .i64 op] 23))
      have KT2 := Lib.hid (Blk.new w1 23 #[.int .i64 t0, .int .i64 who, .int .i64 op])
      clear hb x0 x1 x2
      go_wp2_with fail
      refine (check_val _ _ _ _ HCK _).mono ?_
      rintro e' w2 ⟨rfl, hb⟩
      have HB3 : Hid (Below w.heap.size w w2) := Lib.hid (HB2.out.trans (hb.mono HB2.out.size))
      have KA3 := Lib.hid (KA2.out.below hb KA2.out.lt)
      have KB3 := Lib.hid (KB2.out.below hb KB2.out.lt)
      have KT3 := Lib.hid (KT2.out.below hb KT2.out.lt)
      have x0 : w2.cell? ⟨w.heap.size, 0, none⟩ = some (.int .i64 a0) := KA3.out.cell 0
      have x1 : w2.cell? ⟨w.heap.size, 1, none⟩ = some (.int .i64 a1) := KA3.out.cell 1
      have x2 : w2.cell? ⟨w.heap.size, 2, none⟩ = some (.int .i64 a2) := KA3.out.cell 2
      have t00 : w2.cell? ⟨w1.heap.size, 0, none⟩ = some (.int .i64 t0) := KT3.out.cell 0
      have t01 : w2.cell? ⟨w1.heap.size, 1, none⟩ = some (.int .i64 who) := KT3.out.cell 1
      have t02 : w2.cell? ⟨w1.heap.size, 2, none⟩ = some (.int .i64 op) := KT3.out.cell 2
      clear hb
      go_wp2_with fail
      refine (compare_val _ _ _ _ _ _ _ HTA _).mono ?_
      rintro e' w3 ⟨rfl, hb⟩
      have HB4 : Hid (Below w.heap.size w w3) := Lib.hid (HB3.out.trans (hb.mono HB3.out.size))
      have KA4 := Lib.hid (KA3.out.below hb KA3.out.lt)
      have KB4 := Lib.hid (KB3.out.below hb KB3.out.lt)
      have KT4 := Lib.hid (KT3.out.below hb KT3.out.lt)
      have y0 : w3.cell? ⟨w.heap.size, 0, none⟩ = some (.int .i64 a0) := KA4.out.cell 0
      have z0 : w3.cell? ⟨w.heap.size + 1, 0, none⟩ = some (.int .i64 b0) := KB4.out.cell 0
      have z1 : w3.cell? ⟨w.heap.size + 1, 1, none⟩ = some (.int .i64 b1) := KB4.out.cell 1
      have z2 : w3.cell? ⟨w.heap.size + 1, 2, none⟩ = some (.int .i64 b2) := KB4.out.cell 2
      have s0 : w3.cell? ⟨w1.heap.size, 0, none⟩ = some (.int .i64 t0) := KT4.out.cell 0
      have s1 : w3.cell? ⟨w1.heap.size, 1, none⟩ = some (.int .i64 who) := KT4.out.cell 1
      have s2 : w3.cell? ⟨w1.heap.size, 2, none⟩ = some (.int .i64 op) := KT4.out.cell 2
      clear hb x0 x1 x2 t00 t01 t02
      by_cases hlt : a0 < b0
      · go_wp2_with fail
        refine (known_any _).mono ?_
        rintro e' w5 ⟨rfl, hb⟩
        have HB5 : Hid (Below w.heap.size w w5) := Lib.hid (HB4.out.trans (hb.mono HB4.out.size))
        clear hb
        go_wp2
        go_ret
        exact ⟨rfl, HB5.out⟩
      · have hle : b0 ≤ a0 := by omega
        have HTB : Hid (cmpT t0 who op b0 b1 b2 = 1) := Lib.hid (cmpT_big (by have := HT0.out; omega))
        clear hlt
        go_wp2_with fail
        refine (compare_val _ _ _ _ _ _ _ HTB _).mono ?_
        rintro e' w4 ⟨rfl, hb⟩
        have HB5 : Hid (Below w.heap.size w w4) := Lib.hid (HB4.out.trans (hb.mono HB4.out.size))
        clear hb
        go_wp2_with fail
        refine (known_any _).mono ?_
        rintro e' w5 ⟨rfl, hb⟩
        have HB6 : Hid (Below w.heap.size w w5) := Lib.hid (HB5.out.trans (hb.mono HB5.out.size))
        clear hb
        go_wp2
        go_ret
        exact ⟨rfl, HB6.out⟩
end Go.Proofs.Ytnljljfopelopaa
