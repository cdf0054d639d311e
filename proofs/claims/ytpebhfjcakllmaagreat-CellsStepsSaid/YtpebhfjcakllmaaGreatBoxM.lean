/- BoxM: A variable of a struct's type is laid and stored into at once: one block, with the value's cells; cells of a fresh block set one by one. -/
import Derived.Test.YtpebhfjcakllmaaGreatCore
import Derived.Deep.MidRow
import Derived.Laws.Alloc2
import Derived.Great.Walk
namespace Go.Proofs.YtpebhfjcakllmaaGreat
open Go.RowKit Mem
set_option maxRecDepth 10000
set_option maxHeartbeats 2000000
set_option linter.unusedVariables false
def setFrom (c : Array Value) : Nat → List Value → Array Value
  | _, [] => c
  | o, v :: r => setFrom (c.setIfInBounds o v) (o + 1) r
theorem setCells_fresh (w : World) (t : TypeId) : ∀ (l : List Value) (o : Nat) (c : Array Value), (w.alloc (.cells c t)).setCells w.heap.size o l = w.alloc (.cells (setFrom c o l) t)
  | [], o, c => rfl
  | v :: r, o, c => by
    show ((w.alloc (.cells c t)).setCell ⟨w.heap.size, o, none⟩ v).setCells w.heap.size (o + 1) r = _
    rw [World.setCell_alloc_new]
    exact setCells_fresh w t r (o + 1) _
theorem setFrom_get : ∀ (l : List Value) (o : Nat) (c : Array Value) (j : Nat), (setFrom c o l)[j]? = if o ≤ j ∧ j < o + l.length ∧ j < c.size then l[j - o]? else c[j]?
  | [], o, c, j => by unfold setFrom; rw [if_neg (by simp; omega)]
  | v :: r, o, c, j => by
    unfold setFrom
    rw [setFrom_get r (o + 1) _ j]
    simp only [Array.size_setIfInBounds, List.length_cons]
    by_cases h1 : j < c.size
    · by_cases h2 : o + 1 ≤ j ∧ j < o + 1 + r.length
      · rw [if_pos ⟨h2.1, h2.2, h1⟩, if_pos ⟨by omega, by omega, h1⟩]
        obtain ⟨k, hk⟩ : ∃ k, j - o = k + 1 := ⟨j - o - 1, by omega⟩
        rw [hk, List.getElem?_cons_succ, show j - (o + 1) = k by omega]
      · rw [if_neg (fun h => h2 ⟨h.1, h.2.1⟩)]
        by_cases h3 : j = o
        · subst h3
          rw [if_pos ⟨by omega, by omega, h1⟩, Nat.sub_self, Array.getElem?_setIfInBounds_self_of_lt h1]; rfl
        · rw [if_neg (by omega), Array.getElem?_setIfInBounds_ne (by omega)]
    · rw [if_neg (fun h => h1 h.2.2), if_neg (fun h => h1 h.2.2), Array.getElem?_eq_none (by simp; omega), Array.getElem?_eq_none (by omega)]
theorem setFrom_all (c cs : Array Value) (h : c.size = cs.size) : setFrom c 0 cs.toList = cs := by
  apply Array.ext_getElem?
  intro j
  rw [setFrom_get]
  by_cases hj : j < cs.size
  · rw [if_pos ⟨by omega, by simpa using hj, by omega⟩]; simp
  · rw [if_neg (fun hh => hj (by omega)), Array.getElem?_eq_none (by omega), Array.getElem?_eq_none (by omega)]
theorem there_fresh (w : World) (z : Array Value) (t : TypeId) (n : Nat) (hn : n ≤ z.size) : (w.alloc (.cells z t)).there w.heap.size 0 n := fun j hj => by
  have h := Blk.new w t z
  rw [Nat.zero_add]
  exact ⟨by rw [h.cell j, Array.getElem?_eq_getElem (by omega)]; rfl, h.frozen j⟩
/-- 'x := v' where x is a variable in memory. -/
theorem wpList_boxM {P : Program} {ops : Array Oper} {rest : List Oper} {o1 o2 : Oper} {a : Act} {w : World} {Q : Exit → Act → World → Prop} (hg1 : o1.guard = none) (hg2 : o2.guard = none) (d : Tmp) (hd : o1.dst = some d) (ty : TypeId) (z : Array Value)
    (hrun : (execOp a.eval o1).run P w = .ok (.value (.pointer (some ⟨w.heap.size, 0, none⟩))) (w.alloc (.cells z ty))) (x y : Operand) (ho2 : o2.op = .store ty x y) (cs : Array Value)
    (hx : (a.put (some d) (.pointer (some ⟨w.heap.size, 0, none⟩))).eval x = .pointer (some ⟨w.heap.size, 0, none⟩)) (hy : (a.put (some d) (.pointer (some ⟨w.heap.size, 0, none⟩))).eval y = .agg cs) (hsz : z.size = cs.size) (hi : (P.info? ty).map (·.size) = some cs.size) (h1 : cs.all (·.oneCell') = true)
    (h : wpList P ops Q rest ((a.put (some d) (.pointer (some ⟨w.heap.size, 0, none⟩))).put o2.dst undef) (w.alloc (.cells cs ty))) : wpList P ops Q (o1 :: o2 :: rest) a w := by
  refine Go.Great.wpList_allocTo hg1 (some d) hd _ _ hrun ?_
  refine wpList_store_mid hg2 ty x y ho2 w.heap.size 0 cs hx hy (there_fresh w z ty cs.size (by omega)) hi h1 ?_
  rw [setCells_fresh, setFrom_all z cs hsz]
  exact h
end Go.Proofs.YtpebhfjcakllmaaGreat
