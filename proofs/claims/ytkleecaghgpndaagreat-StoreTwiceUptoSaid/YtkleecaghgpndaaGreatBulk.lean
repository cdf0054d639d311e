/- What the bound of an '..UptoSaid' gives: how much a part holds is no more than the whole; a slice of bytes, its length. -/
import Derived.Test.YtkleecaghgpndaaGreatRows
import Derived.Test.YtkleecaghgpndaaGreatCore
namespace Go.Proofs.YtkleecaghgpndaaGreat
open Go.RowKit Go.ChangeShapes Go.Deep Go.WideShapes Mem
namespace Bulk
/-- What a list holds is the sum of what its members hold. -/
theorem all_eq {H : Type} (l : List (DataW H)) : Rows.uptoBulkAll l = (l.map Rows.uptoBulk).sum := by
  induction l <;> simp_all [Rows.uptoBulkAll]
theorem pos {H : Type} (d : DataW H) : 0 < Rows.uptoBulk d := by
  unfold Rows.uptoBulk
  split <;> exact Nat.succ_pos _
theorem mem_sum {l : List Nat} {n : Nat} (h : n ∈ l) : n ≤ l.sum := by
  obtain ⟨a, b, rfl⟩ := List.append_of_mem h
  rw [List.sum_append, List.sum_cons]
  omega
theorem mem_bulk {H : Type} {d : DataW H} {l : List (DataW H)} (h : d ∈ l) : Rows.uptoBulk d ≤ Rows.uptoBulkAll l := by
  rw [all_eq]
  exact mem_sum (List.mem_map.2 ⟨d, h, rfl⟩)
theorem count_bulk {H : Type} (l : List (DataW H)) : l.length ≤ Rows.uptoBulkAll l := by
  rw [all_eq, ← List.length_map (f := Rows.uptoBulk)]
  have hp : ∀ n ∈ l.map Rows.uptoBulk, 0 < n := fun n hn => by
    obtain ⟨d, _, rfl⟩ := List.mem_map.1 hn
    exact pos d
  generalize l.map Rows.uptoBulk = ns at hp
  induction ns with
  | nil => exact Nat.le_refl _
  | cons n ns ih =>
    have h1 := hp n (List.mem_cons_self ..)
    have h2 := ih fun m hm => hp m (List.mem_cons_of_mem _ hm)
    rw [List.length_cons, List.sum_cons]
    omega
theorem elems_bulk {H : Type} (xs ys : List (DataW H)) : Rows.uptoBulkAll xs < Rows.uptoBulk (.slice xs ys) := by
  rw [Rows.uptoBulk]
  omega
theorem agg_parts {H : Type} (parts : List (DataW H)) : Rows.uptoBulk (.agg parts) = Rows.uptoBulkAll parts + 1 := by
  simp only [Rows.uptoBulk]
theorem all_two {H : Type} (x y : DataW H) : Rows.uptoBulkAll [x, y] = Rows.uptoBulk x + Rows.uptoBulk y := by
  simp [Rows.uptoBulkAll]
/-- Elements that each hold so much. -/
theorem all_sum {H : Type} {α : Type} (f : α → Nat) (l : List (α × DataW H)) (h : ∀ p ∈ l, f p.1 ≤ Rows.uptoBulk p.2) : (l.map (fun p => f p.1)).sum ≤ Rows.uptoBulkAll (l.map (·.2)) := by
  induction l with
  | nil => simp [Rows.uptoBulkAll]
  | cons p l ih =>
    have h1 := h p (by simp)
    have h2 := ih (fun q hq => h q (by simp [hq]))
    simp only [List.map_cons, List.sum_cons, Rows.uptoBulkAll]
    omega
/-- A row of bytes that came in: its length is bound by what it holds. -/
theorem bytes_bulk {H : Type} {enc : TypeId × Value → H} {P : Program} {w : World} {base : Nat} {held : Bool} {e q : TypeId} {fuel : Nat} {A : Option Addr} {l c : Nat} {x : DataW H × List MemPlace} (he : P.underlying e = some (.slice q))
    (h : DataW.trod enc P w base (fun _ => true) held fuel e [.slice A l c] = some x) : l + 1 ≤ Rows.uptoBulk x.1 := by
  rcases DataW.trod_slice he h with ⟨hcs, hx⟩ | ⟨a, len, cap, elems, rest, n, _, hcs, hx, _, _, _, hlen, _⟩
  · simp only [List.cons.injEq, and_true] at hcs
    injection hcs with _ h2 _
    subst h2
    exact pos _
  · simp only [List.cons.injEq, and_true] at hcs
    injection hcs with _ h2 _
    subst h2
    rw [hx]
    have h1 := elems_bulk (elems.map (·.1)) (rest.map (·.1))
    have h2 := count_bulk (elems.map (·.1))
    rw [List.length_map] at h2
    show l + 1 ≤ Rows.uptoBulk (.slice (elems.map (·.1)) (rest.map (·.1)))
    omega
end Bulk
end Go.Proofs.YtkleecaghgpndaaGreat
