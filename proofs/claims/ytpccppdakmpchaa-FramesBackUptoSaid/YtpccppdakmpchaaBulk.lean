/- What the bound of an '..UptoSaid' gives: how much a part holds is no more than the whole; a slice of bytes, its length. -/
import Derived.Test.YtpccppdakmpchaaRows
import Derived.Test.YtpccppdakmpchaaOpen
namespace Go.Proofs.Ytpccppdakmpchaa
open Go.RowKit Go.ChangeShapes Go.Deep Go.WideShapes Mem
namespace Bulk
theorem one_le {H : Type} (d : DataW H) : 1 ≤ Rows.uptoBulk d := by
  cases d with
  | lit l => cases l <;> simp [Rows.uptoBulk]
  | nil => simp [Rows.uptoBulk]
  | ptr d => simp [Rows.uptoBulk]
  | slice elems spare => simp [Rows.uptoBulk]
  | agg parts => simp [Rows.uptoBulk]
  | iface t d => simp [Rows.uptoBulk]
  | map entries => simp [Rows.uptoBulk]
  | held h => simp [Rows.uptoBulk]
theorem part_le {H : Type} {d : DataW H} {l : List (DataW H)} (h : d ∈ l) : Rows.uptoBulk d ≤ Rows.uptoBulkAll l := by
  induction l with
  | nil => cases h
  | cons x r ih =>
    simp only [Rows.uptoBulkAll]
    cases List.mem_cons.1 h with
    | inl e => subst e; omega
    | inr e => have := ih e; omega
theorem length_le {H : Type} (l : List (DataW H)) : l.length ≤ Rows.uptoBulkAll l := by
  induction l with
  | nil => simp [Rows.uptoBulkAll]
  | cons x r ih => have := one_le x; simp only [Rows.uptoBulkAll, List.length_cons]; omega
theorem slice_elems {H : Type} (elems spare : List (DataW H)) : Rows.uptoBulkAll elems + 1 ≤ Rows.uptoBulk (.slice elems spare) := by
  simp only [Rows.uptoBulk]
  omega
theorem agg_parts {H : Type} (parts : List (DataW H)) : Rows.uptoBulk (.agg parts) = Rows.uptoBulkAll parts + 1 := by
  simp only [Rows.uptoBulk]
theorem all_two {H : Type} (x y : DataW H) : Rows.uptoBulkAll [x, y] = Rows.uptoBulk x + Rows.uptoBulk y := by
  simp [Rows.uptoBulkAll]
/-- Elements that each hold so much. -/
theorem all_sum {H : Type} {α : Type} (f : α → Nat) (l : List (α × DataW H)) (h : ∀ p ∈ l, f p.1 ≤ Rows.uptoBulk p.2) : (l.map (fun p => f p.1)).sum ≤ Rows.uptoBulkAll (l.map (·.2)) := by
  induction l with
  | nil => simp [Rows.uptoBulkAll]
  | cons p l ih =>
    have h1 := h p (by simp)
    have h2 := ih (fun q hq => h q (by simp [hq]))
    simp only [List.map_cons, List.sum_cons, Rows.uptoBulkAll]
    omega
/-- A row of bytes that came in: its length is bound by what it holds. -/
theorem bytes_bulk {H : Type} {enc : TypeId × Value → H} {P : Program} {w : World} {base : Nat} {held : Bool} {e q : TypeId} {fuel : Nat} {A : Option Addr} {l c : Nat} {x : DataW H × List MemPlace} (he : P.underlying e = some (.slice q))
    (h : DataW.trod enc P w base (fun _ => true) held fuel e [.slice A l c] = some x) : l + 1 ≤ Rows.uptoBulk x.1 := by
  rcases DataW.trod_slice he h with ⟨hcs, hx⟩ | ⟨a, len, cap, elems, rest, n, _, hcs, hx, _, _, _, hlen, _⟩
  · simp only [List.cons.injEq, and_true] at hcs
    injection hcs with _ h2 _
    subst h2
    exact one_le _
  · simp only [List.cons.injEq, and_true] at hcs
    injection hcs with _ h2 _
    subst h2
    rw [hx]
    have h1 := slice_elems (elems.map (·.1)) (rest.map (·.1))
    have h2 := length_le (elems.map (·.1))
    rw [List.length_map] at h2
    show l + 1 ≤ Rows.uptoBulk (.slice (elems.map (·.1)) (rest.map (·.1)))
    omega
end Bulk
end Go.Proofs.Ytpccppdakmpchaa
