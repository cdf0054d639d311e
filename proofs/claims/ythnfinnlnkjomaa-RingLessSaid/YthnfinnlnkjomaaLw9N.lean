/- A node less, of a ring that may be. -/
import Derived.Test.YthnfinnlnkjomaaLw9M
namespace Go.Proofs.Ythnfinnlnkjomaa
open Go.RowKit Mem Rg
set_option maxRecDepth 100000
set_option maxHeartbeats 4000000
set_option linter.unusedVariables false
theorem withoutL_sub (ns : List Int) (j : Nat) (hj : j < ns.length) : (withoutL ns j).Sublist ns := by
  unfold withoutL
  have h : ns.take j ++ ns.drop j = ns := List.take_append_drop j ns
  have h2 : ns.drop j = ns[j] :: ns.drop (j + 1) := List.drop_eq_getElem_cons hj
  have h3 : (ns.take j ++ ns.drop (j + 1)).Sublist (ns.take j ++ ns.drop j) := by
    rw [h2]
    exact List.Sublist.append (List.Sublist.refl _) (List.sublist_cons_self _ _)
  rw [h] at h3
  exact h3
theorem withoutL_mem {ns : List Int} (hp : ns.Pairwise (· < ·)) {j : Nat} (hj : j < ns.length) (m : Int) : m ∈ withoutL ns j ↔ m ∈ ns ∧ m ≠ ns[j] := by
  have h : ns.take j ++ ns.drop j = ns := List.take_append_drop j ns
  have h2 : ns.drop j = ns[j] :: ns.drop (j + 1) := List.drop_eq_getElem_cons hj
  have h3 : m ∈ ns ↔ m ∈ ns.take j ∨ m = ns[j] ∨ m ∈ ns.drop (j + 1) := by
    rw [← List.mem_cons, ← h2, ← List.mem_append, h]
  have hp2 := hp
  rw [← h, h2] at hp2
  have hpa := List.pairwise_append.1 hp2
  unfold withoutL
  rw [List.mem_append, h3]
  constructor
  · rintro (hm | hm)
    · refine ⟨Or.inl hm, fun e => ?_⟩
      have := hpa.2.2 m hm ns[j] (List.mem_cons.2 (Or.inl rfl))
      omega
    · refine ⟨Or.inr (Or.inr hm), fun e => ?_⟩
      have := (List.pairwise_cons.1 hpa.2.1).1 m hm
      omega
  · rintro ⟨hm | hm | hm, hne⟩
    · exact Or.inl hm
    · exact absurd hm hne
    · exact Or.inr hm
theorem without_okr (A : Option Addr) (n c : Nat) (ns : List Int) (e k y : Int) (j : Nat) (hj : j < ns.length) (hy : ns[j] = y) (ok : OkR ns e k) (hn : n = ns.length) (hnc : n ≤ c) : ∃ (l : List Int) (e1 k1 q1 : Int),
    (∀ W, Row W W.heap.size A (ns.map iV) → Calls Try.prog 28 #[.agg #[.slice A n c, .int .i64 e, .int .i64 k], .int .i64 y] W (RingX l e1 k1 q1 W)) ∧
    ((q1 = 0 ∧ (∀ m, m ∈ l ↔ m ∈ ns ∧ decide (m ≠ y) = true) ∧ e1 = e ∧ k1 = k ∧ OkR l e k) ∨ (q1 = 2 ∧ k = (n : Int))) := by
  obtain ⟨o1, o2, o3, o4, o5, o6, o7, o8⟩ := ok
  have hf : ∀ t (h : t < ns.length), t < j → ns[t] ≠ y := fun t h htj => by
    have := inc_at o8 t j h hj htj
    rw [← hy]; omega
  by_cases ok2 : OkR (withoutL ns j) e k
  · refine ⟨withoutL ns j, e, k, 0, fun W h => ?_, Or.inl ⟨rfl, fun m => ?_, rfl, rfl, ok2⟩⟩
    · refine (without_any A n c ns e k y j hj hy hf hn (by omega) hnc W h).mono ?_
      intro z w' hr
      exact ringX_e (hr.1 ok2)
    · rw [withoutL_mem o8 hj, hy]
      simp
  · refine ⟨[], 0, 0, 2, fun W h => ?_, Or.inr ⟨rfl, ?_⟩⟩
    · refine (without_any A n c ns e k y j hj hy hf hn (by omega) hnc W h).mono ?_
      intro z w' hr
      exact ringX_n (hr.2 ok2)
    · refine Classical.byContradiction fun hne => ok2 ?_
      have hl := withoutL_len ns j hj
      exact ⟨by omega, by omega, o3, o4, o5, by omega, fun x hx => o7 x ((withoutL_sub ns j hj).mem hx), o8.sublist (withoutL_sub ns j hj)⟩
end Go.Proofs.Ythnfinnlnkjomaa
