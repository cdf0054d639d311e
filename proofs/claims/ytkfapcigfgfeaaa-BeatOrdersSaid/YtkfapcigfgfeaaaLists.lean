/- Lists of words made into lists of numbers, and back: what the statements' own helpers give. -/
import Derived.Test.YtkfapcigfgfeaaaMean
namespace Go.Proofs.Ytkfapcigfgfeaaa
open Go.RowKit Flo Mem
set_option maxRecDepth 10000
set_option maxHeartbeats 800000
def iv (x : Int) : Value := .int .u64 x
theorem info_f : (Try.prog.info? 29).map (fun i => (i.zero, i.size, i.bytes)) = some (some (.float .f64 0), 1, 8) := by kernel_rfl
theorem info_u : (Try.prog.info? 23).map (fun i => (i.zero, i.size, i.bytes)) = some (some (.int .u64 0), 1, 8) := by kernel_rfl
theorem own_shape {w : World} {base : Nat} {e : TypeId} {v : Value} {n : Nat} {ys : List Value} (h : w.ownsRow base e 1 v n ys) : ∃ A c, v = .slice A n c ∧ (n = 0 ∨ ∀ a, A = some a → base ≤ a.block) := by
  rcases h.2 with ⟨rfl, rfl⟩ | ⟨g, cap, cur, rfl, hb, _⟩
  · exact ⟨none, 0, rfl, Or.inl rfl⟩
  · exact ⟨_, cap, rfl, Or.inr fun a ha => by injection ha with ha; subst ha; exact hb⟩
theorem all_step {xs : List Int} {k : Nat} (h : k < xs.length) (f : Int → Value) : (xs.take (k + 1)).map f = (xs.take k).map f ++ [f xs[k]] := by
  rw [List.take_succ_eq_append_getElem h, List.map_append]; rfl
end Go.Proofs.Ytkfapcigfgfeaaa
