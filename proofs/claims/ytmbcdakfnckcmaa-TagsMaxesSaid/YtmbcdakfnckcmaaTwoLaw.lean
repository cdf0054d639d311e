/- The law TagsTwo, walked. -/
import Derived.Test.YtmbcdakfnckcmaaKnownT
namespace Go.Proofs.Ytmbcdakfnckcmaa
open Go.RowKit Mem Be
set_option maxRecDepth 100000
set_option maxHeartbeats 4000000
instance laterNonempty (w : World) : Nonempty (Later w) := ⟨⟨w, Below.refl _ _⟩⟩
theorem later_tag {w : World} {g : Nat} {s u o : Int} (h : Blk w g 25 #[.int .i64 s, .int .i64 u, .int .i64 o]) :
    (∀ p : Later w, p.world.cell? ⟨g, 0, none⟩ = some (.int .i64 s)) ∧ (∀ p : Later w, p.world.cell? ⟨g, 1, none⟩ = some (.int .i64 u)) ∧ (∀ p : Later w, p.world.cell? ⟨g, 2, none⟩ = some (.int .i64 o)) :=
  ⟨later_blk_cell h 0 _ rfl, later_blk_cell h 1 _ rfl, later_blk_cell h 2 _ rfl⟩
theorem eqT_refl (a b c : Int) : eqT a b c a b c = true := by simp [eqT]
end Go.Proofs.Ytmbcdakfnckcmaa
