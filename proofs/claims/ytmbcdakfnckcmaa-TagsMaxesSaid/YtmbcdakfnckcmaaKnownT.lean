/- What the chapter's examples fix is true. -/
import Derived.Test.YtmbcdakfnckcmaaReadE
namespace Go.Proofs.Ytmbcdakfnckcmaa
open Go.RowKit Mem Be
set_option maxRecDepth 10000
set_option maxHeartbeats 4000000
theorem next_c : nextT 4 1 9 7 2 = (5, 7, 2, 0) := by decide
theorem read_c : readP [] = (entP0, 12) := rfl
theorem known_any (w : World) : Calls Try.prog 5 #[] w (IsB true w) := by
  have HN : Hid (∀ W, Calls Try.prog 9 #[tagV 4 1 9, .int .i64 7, .int .i64 2] W (IsTE (5, 7, 2, 0) W)) := Lib.hid (fun W => by rw [← next_c]; exact next_any 4 1 9 7 2 W)
  have HR : Hid (∀ W, Calls Try.prog 10 #[.slice none 0 0] W (ReadGot (entP0, 12) W)) := Lib.hid (fun W => by rw [← read_c]; exact read_any 0 0 0 none [] rfl (by omega) W (Row.nil _ _ _) (Nat.zero_le _))
  have HC : Hid (cmpT 4 1 9 4 2 0 = -1) := Lib.hid (by decide)
  have HZ : Hid (((0 : Int) == 0) = true) := Lib.hid (by decide)
  have hq := run_eqT 5 7 2 5 7 2
  rw [show eqT 5 7 2 5 7 2 = true by decide] at hq
  go_enter Try.func5, Try.ntmps5
  go_wp2_with fail
  refine (HN.out _).mono ?_
  rintro e w1 ⟨rfl, hb⟩
  have HB1 := Lib.hid hb
  clear hb
  go_wp2_with fail
  refine (HR.out _).mono ?_
  rintro e w2 ⟨A2, c2, rfl, ho, hb⟩
  have hk := (Blk.new w1 25 #[.int .i64 5, .int .i64 7, .int .i64 2]).below hb (by simp)
  have l0 : w2.cell? ⟨w1.heap.size, 0, none⟩ = some (.int .i64 5) := hk.cell 0
  have l1 : w2.cell? ⟨w1.heap.size, 1, none⟩ = some (.int .i64 7) := hk.cell 1
  have l2 : w2.cell? ⟨w1.heap.size, 2, none⟩ = some (.int .i64 2) := hk.cell 2
  have hlt : w1.heap.size < w2.heap.size := hk.lt
  clear hk
  have HB2 : Hid (Below w.heap.size w w2) := Lib.hid (HB1.out.trans ((below_after1 hb).mono HB1.out.size))
  clear hb ho
  go_wp2_with (first
    | (go_at_call 7; refine (compare_val _ _ _ _ _ _ _ HC _).mono ?_; rintro e w3 ⟨rfl, hb⟩; have HB3 : Hid (Below w.heap.size w w3) := Lib.hid (HB2.out.trans ((below_after1 hb).mono HB2.out.size)); clear hb)
    | (go_at_call 11; refine (none_val _ _ _ _ HZ _).mono ?_; rintro e w4 ⟨rfl, hb⟩; have HB4 : Hid (Below w.heap.size w w4) := Lib.hid (HB3.out.trans (hb.mono HB3.out.size)); clear hb))
  go_ret
  exact ⟨rfl, HB4.out⟩
end Go.Proofs.Ytmbcdakfnckcmaa
