/- The law TagsVals, walked. -/
import Derived.Test.YtmbcdakfnckcmaaTwoLaw
namespace Go.Proofs.Ytmbcdakfnckcmaa
open Go.RowKit Mem Be
set_option maxRecDepth 100000
set_option maxHeartbeats 4000000
theorem later_isB {P : Program} {f : FuncId} {args : Array Value} {w : World} {p : Later w} {b b' : Bool} (e : Hid (b' = b)) (h : Calls P f args p.world (IsB b' p.world)) : Calls P f args p.world fun e w'' => e = .returned (.bool b) ∧ ∃ q : Later w, w'' = q.world := by
  rw [e.out] at h; exact later_of h
theorem later_isI {P : Program} {f : FuncId} {args : Array Value} {w : World} {p : Later w} {b b' : Int} (e : Hid (b' = b)) (h : Calls P f args p.world (IsI b' p.world)) : Calls P f args p.world fun e w'' => e = .returned (.int .i64 b) ∧ ∃ q : Later w, w'' = q.world := by
  rw [e.out] at h; exact later_of h
theorem later_val {w : World} {g : Nat} {h : Bool} {A : Option Addr} {n c : Nat} (hb : Blk w g 36 #[.bool h, .slice A n c]) :
    (∀ p : Later w, p.world.cell? ⟨g, 0, none⟩ = some (.bool h)) ∧ (∀ p : Later w, p.world.cell? ⟨g, 1, none⟩ = some (.slice A n c)) := ⟨later_blk_cell hb 0 _ rfl, later_blk_cell hb 1 _ rfl⟩
theorem later_ent {w : World} {g : Nat} {key : ByteArray} {s u o : Int} {h : Bool} {A : Option Addr} {n c : Nat} (hb : Blk w g 38 #[.string key, .int .i64 s, .int .i64 u, .int .i64 o, .bool h, .slice A n c]) :
    (∀ p : Later w, p.world.cell? ⟨g, 0, none⟩ = some (.string key)) ∧ (∀ p : Later w, p.world.cell? ⟨g, 1, none⟩ = some (.int .i64 s)) ∧ (∀ p : Later w, p.world.cell? ⟨g, 2, none⟩ = some (.int .i64 u)) ∧ (∀ p : Later w, p.world.cell? ⟨g, 3, none⟩ = some (.int .i64 o)) ∧
      (∀ p : Later w, p.world.cell? ⟨g, 4, none⟩ = some (.bool h)) ∧ (∀ p : Later w, p.world.cell? ⟨g, 5, none⟩ = some (.slice A n c)) :=
  ⟨later_blk_cell hb 0 _ rfl, later_blk_cell hb 1 _ rfl, later_blk_cell hb 2 _ rfl, later_blk_cell hb 3 _ rfl, later_blk_cell hb 4 _ rfl, later_blk_cell hb 5 _ rfl⟩
theorem sameE_self (k : ByteArray) (s u o : Int) (h1 h2 : Bool) (xs ys : List UInt8) : sameE k k s u o s u o h1 h2 xs ys = sameV h1 h2 xs ys := by simp [sameE, eqT_refl]
end Go.Proofs.Ytmbcdakfnckcmaa
