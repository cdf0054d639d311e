/- Layer 10's statements: what the examples fix; rows of numbers that come in; what is appended to nothing. -/
import Derived.Test.YtafajikjojpaaaaQmS
import Derived.Test.YtafajikjojpaaaaQmN
import Derived.Test.YtafajikjojpaaaaLw9
import Derived.Test.YtafajikjojpaaaaRfB
namespace Go.Proofs.Ytafajikjojpaaaa
open Go.RowKit Mem Rg
set_option maxRecDepth 100000
set_option maxHeartbeats 8000000
set_option linter.unusedVariables false
theorem add_nil (x : Int) (w : World) : Calls Try.prog 27 #[.pointer none, .int .i64 x] w fun e w' => e = .returned (.int .i64 1) ∧ w = w' := by
  go_enter Try.func27, Try.ntmps27
  go_wp2
  go_ret
  exact ⟨rfl, rfl⟩
theorem known10_any (w : World) : Calls Try.prog 10 #[] w (IsTr w) := by
  have h3 := fun W => need_any 3 (by decide) W
  have h4 := fun W => need_any 4 (by decide) W
  rw [show needZ 3 = 2 from rfl] at h3
  rw [show needZ 4 = 3 from rfl] at h4
  have H3 := Lib.hid h3
  have H4 := Lib.hid h4
  have HA := Lib.hid fun W => add_nil 1 W
  have hb1 : Below w.heap.size w (w.alloc (.cells #[.int .i64 1, .int .i64 2, .int .i64 3] 3)) := (Below.refl _ _).alloc (Nat.le_refl _) _
  have hb2 : Below w.heap.size w ((w.alloc (.cells #[.int .i64 1, .int .i64 2, .int .i64 3] 3)).alloc (.cells #[.int .i64 3, .int .i64 9, .int .i64 1] 3)) := hb1.alloc hb1.size _
  have hr1 := row_cells' (w := w) (t := 3) (cs := #[.int .i64 1, .int .i64 2, .int .i64 3]) (xs := [1, 2, 3].map iV) rfl
  have hr2 := row_cells' (w := w.alloc (.cells #[.int .i64 1, .int .i64 2, .int .i64 3] 3)) (t := 3) (cs := #[.int .i64 3, .int .i64 9, .int .i64 1]) (xs := [3, 9, 1].map iV) rfl
  have he := enough_any 3 3 3 3 _ _ [1, 2, 3] [3, 9, 1] rfl (by omega) rfl (by omega) (fun x hx => by simp at hx; rcases hx with rfl | rfl | rfl <;> rfl) _ ((hr1.alloc (Nat.le_refl _) (.cells #[.int .i64 3, .int .i64 9, .int .i64 1] 3)).more (by simp)) hr2
  rw [show enO (dd [] [1, 2, 3]) [3, 9, 1] = true by decide] at he
  rw [World.size_alloc] at he
  have HE := Lib.hid he
  have HB2 := Lib.hid hb2
  clear h3 h4 hb1 hb2 hr1 hr2 he
  go_enter Try.func10, Try.ntmps10
  go_wp2_with (first
    | (go_at_call 12; first | (with_reducible refine (H3.out _).mono ?_; rintro e w' ⟨rfl, rfl⟩) | (with_reducible refine (H4.out _).mono ?_; rintro e w' ⟨rfl, rfl⟩))
    | (go_at_call 13; refine HE.out.mono ?_; rintro e w1 ⟨rfl, hb1⟩; (have HB1 := Lib.hid (HB2.out.trans (hb1.mono HB2.out.size))); clear hb1)
    | (go_at_call 27; refine (HA.out _).mono ?_; rintro e w' ⟨rfl, rfl⟩))
  go_ret
  exact ⟨rfl, HB1.out⟩
end Go.Proofs.Ytafajikjojpaaaa
