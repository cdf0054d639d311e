/- The law TagsTwo, walked. -/
import Derived.Test.YtnljljfopelopaaKnownT
namespace Go.Proofs.Ytnljljfopelopaa
open Go.RowKit Mem Be
set_option maxRecDepth 100000
set_option maxHeartbeats 4000000
instance laterNonempty (w : World) : Nonempty (Later w) := ⟨⟨w, Below.refl _ _⟩⟩
theorem later_tag {w : World} {g : Nat} {s u o : Int} (h : Blk w g 23 #[.int .i64 s, .int .i64 u, .int .i64 o]) :
    (∀ p : Later w, p.world.cell? ⟨g, 0, none⟩ = some (.int .i64 s)) ∧ (∀ p : Later w, p.world.cell? ⟨g, 1, none⟩ = some (.int .i64 u)) ∧ (∀ p : Later w, p.world.cell? ⟨g, 2, none⟩ = some (.int .i64 o)) :=
  ⟨later_blk_cell h 0 _ rfl, later_blk_cell h 1 _ rfl, later_blk_cell h 2 _ rfl⟩
theorem eqT_refl (a b c : Int) : eqT a b c a b c = true := by simp [eqT]
theorem two_walk (a b c x y z who op : Int) (w : World) : Calls Try.prog 3 #[tagV a b c, tagV x y z, .int .i64 who, .int .i64 op] w fun e w' => e = .returned (.bool true) ∧ Below w.heap.size w w' := by
  obtain ⟨⟨r0, r1, r2, er⟩, hr⟩ : ∃ r, nextT a b c who op = r := ⟨_, rfl⟩
  have HN : Hid (∀ W, Calls Try.prog 12 #[tagV a b c, .int .i64 who, .int .i64 op] W (IsTE (r0, r1, r2, er) W)) := Lib.hid (fun W => by rw [← hr]; exact next_any a b c who op W)
  have HM : Hid (∀ W, Calls Try.prog 13 #[tagV a b c, .int .i64 who, .int .i64 op] W (IsTE (r0, r1, r2, er) W)) := Lib.hid (fun W => by rw [← hr]; exact refnext_any a b c who op W)
  obtain ⟨cc, hcc⟩ : ∃ n, cmpT a b c x y z = n := ⟨_, rfl⟩
  have HCC := Lib.hid hcc
  obtain ⟨ck, hck⟩ : ∃ n, checkT a b c = n := ⟨_, rfl⟩
  have HCK := Lib.hid hck
  obtain ⟨nb, hnb⟩ : ∃ n, (a == 0) = n := ⟨_, rfl⟩
  have HNB := Lib.hid hnb
  have hq := run_eqT r0 r1 r2 r0 r1 r2
  rw [eqT_refl] at hq
  have HBA := Lib.hid (Blk.new w 23 #[.int .i64 a, .int .i64 b, .int .i64 c] |>.alloc (.cells #[.int .i64 x, .int .i64 y, .int .i64 z] 23))
  have HBB := Lib.hid (Blk.new (w.alloc (.cells #[.int .i64 a, .int .i64 b, .int .i64 c] 23)) 23 #[.int .i64 x, .int .i64 y, .int .i64 z])
  clear hr hcc hck
  go_enter Try.func3, Try.ntmps3
  go_wp2_with fail
  refine (HN.out _).mono ?_
  rintro e w1 ⟨rfl, hb⟩
  have HB1 := Lib.hid (below_after2 hb)
  have HA1 := Lib.hid (HBA.out.below hb (by simp; omega))
  have HX1 := Lib.hid (blk_at (by simp) (HBB.out.below hb (by simp)) : Blk w1 (w.heap.size + 1) 23 _)
  have a0 : w1.cell? ⟨w.heap.size, 0, none⟩ = some (.int .i64 a) := HA1.out.cell 0
  have a1 : w1.cell? ⟨w.heap.size, 1, none⟩ = some (.int .i64 b) := HA1.out.cell 1
  have a2 : w1.cell? ⟨w.heap.size, 2, none⟩ = some (.int .i64 c) := HA1.out.cell 2
  have hl1 : w.heap.size < w1.heap.size := HA1.out.lt
  clear hb
  go_wp2_with fail
  refine (HM.out _).mono ?_
  rintro e w2 ⟨rfl, hb⟩
  have HB2 : Hid (Below w.heap.size w w2) := Lib.hid (HB1.out.trans ((below_after1 hb).mono HB1.out.size))
  have HA2 := Lib.hid (((HA1.out.alloc _).below hb (by simp; omega)).alloc (.cells #[.int .i64 r0, .int .i64 r1, .int .i64 r2] 23))
  have HX2 := Lib.hid (((HX1.out.alloc _).below hb (by have := HX1.out.lt; simp; omega)).alloc (.cells #[.int .i64 r0, .int .i64 r1, .int .i64 r2] 23))
  have HL2 := Lib.hid (((Blk.new w1 23 #[.int .i64 r0, .int .i64 r1, .int .i64 r2]).below hb (by simp)).alloc (.cells #[.int .i64 r0, .int .i64 r1, .int .i64 r2] 23))
  have HM2 := Lib.hid (Blk.new w2 23 #[.int .i64 r0, .int .i64 r1, .int .i64 r2])
  have HB3 : Hid (Below w.heap.size w (w2.alloc (.cells #[.int .i64 r0, .int .i64 r1, .int .i64 r2] 23))) := Lib.hid (HB2.out.alloc HB2.out.size _)
  clear hb a0 a1 a2
  go_wp2_with fail
  obtain ⟨p0, p1, p2⟩ := later_tag HA2.out
  obtain ⟨q0, q1, q2⟩ := later_tag HX2.out
  obtain ⟨s0, s1, s2⟩ := later_tag HL2.out
  obtain ⟨t0, t1, t2⟩ := later_tag HM2.out
  refine wp_region_later (by kernel_rfl) (by kernel_rfl) ?_
  repeat (go_big_quiet_step (first
    | (go_at_call 14; exact later_of (compare_val _ _ _ _ _ _ _ HCC _))
    | (go_at_call 15; exact later_of (refcompare_val _ _ _ _ _ _ _ HCC _))
    | (go_at_call 16; exact later_of (check_val _ _ _ _ HCK _))
    | (go_at_call 17; exact later_of (refcheck_val _ _ _ _ HCK _))
    | (go_at_call 18; exact later_of (none_val _ _ _ _ HNB _))
    | (go_at_call 19; exact later_of (known_any _))))
  refine wpQuiet_nil ?_
  intro w' hw'
  obtain ⟨p, rfl⟩ := hw'
  go_wp2
  go_ret
  exact ⟨rfl, HB3.out.trans (p.bel.mono HB3.out.size)⟩
end Go.Proofs.Ytnljljfopelopaa
