/- A ring with a node more, or less: one answer for the program and the document. -/
import Derived.Test.YthnfinnlnkjomaaLw9
import Derived.Test.YthnfinnlnkjomaaRfC
import Derived.Test.YthnfinnlnkjomaaRfG
import Derived.Test.YthnfinnlnkjomaaRfH
namespace Go.Proofs.Ythnfinnlnkjomaa
open Go.RowKit Mem Rg
set_option maxRecDepth 100000
set_option maxHeartbeats 4000000
set_option linter.unusedVariables false
theorem withL_sub (ns : List Int) (x : Int) (i : Nat) : ns.Sublist (withL ns x i) := by
  unfold withL
  have h := List.take_append_drop i ns
  have h2 : (ns.take i ++ ns.drop i).Sublist (ns.take i ++ [x] ++ ns.drop i) :=
    List.Sublist.append (List.sublist_append_left _ _) (List.Sublist.refl _)
  rw [h] at h2
  exact h2
theorem withL_mem (ns : List Int) (x y : Int) (i : Nat) : y ∈ withL ns x i ↔ y = x ∨ y ∈ ns := by
  unfold withL
  rw [List.mem_append, List.mem_append, List.mem_singleton]
  have : y ∈ ns ↔ y ∈ ns.take i ∨ y ∈ ns.drop i := by rw [← List.mem_append, List.take_append_drop]
  rw [this]
  constructor
  · rintro ((h | h) | h)
    · exact Or.inr (Or.inl h)
    · exact Or.inl h
    · exact Or.inr (Or.inr h)
  · rintro (h | h | h)
    · exact Or.inl (Or.inr h)
    · exact Or.inl (Or.inl h)
    · exact Or.inr h
theorem withL_new {ns : List Int} {x : Int} {i : Nat} (h : (withL ns x i).Pairwise (· < ·)) : x ∉ ns := by
  intro hm
  unfold withL at h
  rw [← List.take_append_drop i ns] at hm
  have h1 := List.pairwise_append.1 h
  rcases List.mem_append.1 hm with hm | hm
  · have := (List.pairwise_append.1 h1.1).2.2 x hm x (by simp)
    omega
  · have := h1.2.2 x (by simp) x hm
    omega
theorem place_one {ns : List Int} {x : Int} {i : Nat} (hp : ns.Pairwise (· < ·)) (hi : i ≤ ns.length) (h1 : ∀ t (h : t < ns.length), t + 1 = i → ns[t] < x) (h2 : ∀ h : i < ns.length, x ≤ ns[i]) : i = placeI x ns := by
  have hle := placeI_le x ns
  rcases Nat.lt_trichotomy i (placeI x ns) with h | h | h
  · have a := placeI_lt x ns i (by omega) h
    have b := h2 (by omega)
    omega
  · exact h
  · have a := placeI_ge x ns (placeI x ns) (by omega) rfl
    have b := h1 (i - 1) (by omega) (by omega)
    rcases Nat.lt_or_ge (placeI x ns) (i - 1) with h3 | h3
    · have := inc_at hp (placeI x ns) (i - 1) (by omega) (by omega) h3
      omega
    · have e : placeI x ns = i - 1 := by omega
      simp only [e] at a
      omega
theorem ok_sub {ns : List Int} {x e k : Int} {i : Nat} (ok : OkR (withL ns x i) e k) : NewN ns x ∧ ns.Pairwise (· < ·) := by
  obtain ⟨o1, o2, o3, o4, o5, o6, o7, o8⟩ := ok
  have := o7 x ((withL_mem ns x x i).2 (Or.inl rfl))
  exact ⟨⟨this.1, this.2, withL_new o8⟩, o8.sublist (withL_sub ns x i)⟩
/-- A ring that is told, with its error. -/
def RingX (l : List Int) (e k q : Int) (w : World) (x : Ending) (w' : World) : Prop :=
  ∃ A c, x = .returned (.tuple #[.agg #[.slice A l.length c, .int .i64 e, .int .i64 k], .int .i64 q]) ∧ OwnI w.heap.size l (.slice A l.length c) w' ∧ Below w.heap.size w w'
theorem ringX_e {l : List Int} {e k : Int} {w w' : World} {x : Ending} (h : RingE l e k w x w') : RingX l e k 0 w x w' := h
theorem ringX_n {q : Int} {w w' : World} {x : Ending} (h : RingN q w x w') : RingX [] 0 0 q w x w' := ⟨none, 0, h.1, World.ownsRow_nil _ _ _ _, h.2⟩
/-- One node more: what both tell. -/
theorem with_both (A : Option Addr) (n c : Nat) (ns : List Int) (e k x : Int) (hn : n = ns.length) (hl : n ≤ 1000) (hnc : n ≤ c) : ∃ (l : List Int) (e1 k1 q1 : Int),
    (∀ W, Row W W.heap.size A (ns.map iV) → Calls Try.prog 26 #[.agg #[.slice A n c, .int .i64 e, .int .i64 k], .int .i64 x] W (RingX l e1 k1 q1 W)) ∧
    (∀ W, Row W W.heap.size A (ns.map iV) → Calls Try.prog 27 #[.agg #[.slice A n c, .int .i64 e, .int .i64 k], .int .i64 x] W (RingX l e1 k1 q1 W)) ∧
    l.length ≤ 1001 ∧ ((q1 = 0 ∧ l = withL ns x (placeI x ns) ∧ e1 = e ∧ k1 = k ∧ NewN ns x ∧ OkR l e k) ∨ (q1 = 2 ∧ l = [] ∧ ¬ (NewN ns x ∧ OkR (withL ns x (placeI x ns)) e k))) := by
  by_cases hok : NewN ns x ∧ OkR (withL ns x (placeI x ns)) e k
  · refine ⟨withL ns x (placeI x ns), e, k, 0, fun W h => ?_, fun W h => ?_, ?_, Or.inl ⟨rfl, rfl, rfl, rfl, hok.1, hok.2⟩⟩
    · refine (with_any A n c ns e k x hn hl hnc W h).mono ?_
      rintro y w' ⟨i, hi, h1, h2, hr⟩
      have e1 := place_one (ok_sub hok.2).2 (by omega) h1 h2
      subst e1
      exact ringX_e (hr.1 hok.2)
    · refine (refwith_ok A n c ns e k x hok.1 hn hl hnc W h).mono ?_
      intro y w' hr
      exact ringX_e (hr.1 hok.2)
    · rw [withL_len _ _ _ (placeI_le x ns)]; omega
  · refine ⟨[], 0, 0, 2, fun W h => ?_, fun W h => ?_, by simp, Or.inr ⟨rfl, rfl, hok⟩⟩
    · refine (with_any A n c ns e k x hn hl hnc W h).mono ?_
      rintro y w' ⟨i, hi, h1, h2, hr⟩
      refine ringX_n (hr.2 fun ok => hok ?_)
      have e1 := place_one (ok_sub ok).2 (by omega) h1 h2
      subst e1
      exact ⟨(ok_sub ok).1, ok⟩
    · by_cases hx : NewN ns x
      · refine (refwith_ok A n c ns e k x hx hn hl hnc W h).mono ?_
        intro y w' hr
        exact ringX_n (hr.2 fun ok => hok ⟨hx, ok⟩)
      · refine (refwith_none A n c ns e k x hx hn hl W h).mono ?_
        intro y w' hr
        exact ringX_n hr
theorem first_of {ns : List Int} {x : Int} (h : x ∈ ns) : ∃ j, ∃ hj : j < ns.length, ns[j] = x ∧ ∀ t (h : t < ns.length), t < j → ns[t] ≠ x := by
  induction ns with
  | nil => cases h
  | cons y ns ih =>
    by_cases e : y = x
    · exact ⟨0, by simp, e, fun t _ h => absurd h (Nat.not_lt_zero _)⟩
    · have hm : x ∈ ns := by
        rcases List.mem_cons.1 h with h | h
        · exact absurd h.symm e
        · exact h
      obtain ⟨j, hj, he, hf⟩ := ih hm
      refine ⟨j + 1, by simpa using hj, by simpa using he, fun t ht htj => ?_⟩
      rcases t with _ | t
      · exact e
      · exact hf t (by simpa using ht) (by omega)
/-- One node less: what both tell. -/
theorem without_both (A : Option Addr) (n c : Nat) (ns : List Int) (e k x : Int) (hn : n = ns.length) (hl : n ≤ 1000) (hnc : n ≤ c) : ∃ (l : List Int) (e1 k1 q1 : Int),
    (∀ W, Row W W.heap.size A (ns.map iV) → Calls Try.prog 28 #[.agg #[.slice A n c, .int .i64 e, .int .i64 k], .int .i64 x] W (RingX l e1 k1 q1 W)) ∧
    (∀ W, Row W W.heap.size A (ns.map iV) → Calls Try.prog 29 #[.agg #[.slice A n c, .int .i64 e, .int .i64 k], .int .i64 x] W (RingX l e1 k1 q1 W)) ∧
    l.length ≤ 1001 := by
  by_cases hin : x ∈ ns
  · obtain ⟨j, hj, he, hf⟩ := first_of hin
    by_cases ok : OkR (withoutL ns j) e k
    · refine ⟨withoutL ns j, e, k, 0, fun W h => ?_, fun W h => ?_, by rw [withoutL_len ns j hj]; omega⟩
      · refine (without_any A n c ns e k x j hj he hf hn hl hnc W h).mono ?_
        intro y w' hr
        exact ringX_e (hr.1 ok)
      · refine (refwithout_ok A n c ns e k x j hj he hf hn hl hnc W h).mono ?_
        intro y w' hr
        exact ringX_e (hr.1 ok)
    · refine ⟨[], 0, 0, 2, fun W h => ?_, fun W h => ?_, by simp⟩
      · refine (without_any A n c ns e k x j hj he hf hn hl hnc W h).mono ?_
        intro y w' hr
        exact ringX_n (hr.2 ok)
      · refine (refwithout_ok A n c ns e k x j hj he hf hn hl hnc W h).mono ?_
        intro y w' hr
        exact ringX_n (hr.2 ok)
  · refine ⟨[], 0, 0, 4, fun W h => ?_, fun W h => ?_, by simp⟩
    · refine (without_none A n c ns e k x hin hn hl W h).mono ?_
      intro y w' hr
      exact ringX_n hr
    · refine (refwithout_none A n c ns e k x hin hn hl W h).mono ?_
      intro y w' hr
      exact ringX_n hr
/-- One more, and less again. -/
theorem back_place {ns : List Int} {x : Int} (hx : x ∉ ns) : ∃ hj : placeI x ns < (withL ns x (placeI x ns)).length, (withL ns x (placeI x ns))[placeI x ns] = x ∧ (∀ t (h : t < (withL ns x (placeI x ns)).length), t < placeI x ns → (withL ns x (placeI x ns))[t] ≠ x) ∧ withoutL (withL ns x (placeI x ns)) (placeI x ns) = ns := by
  have hle := placeI_le x ns
  generalize placeI x ns = p at hle ⊢
  have hlt : (ns.take p).length = p := by rw [List.length_take]; omega
  refine ⟨by rw [withL_len ns x p hle]; omega, ?_, fun t h htp => ?_, ?_⟩
  · unfold withL
    rw [List.getElem_append_left (by simp; omega), List.getElem_append_right (by omega)]
    simp [hlt]
  · intro e
    have h1 : (withL ns x p)[t]? = some x := by rw [List.getElem?_eq_getElem h, e]
    unfold withL at h1
    rw [List.getElem?_append_left (by simp; omega), List.getElem?_append_left (by omega)] at h1
    exact hx (List.mem_of_mem_take (List.mem_of_getElem? h1))
  · unfold withoutL withL
    rw [List.take_append_of_le_length (by simp; omega), List.take_append_of_le_length (by omega), List.drop_append_of_le_length (by simp; omega)]
    rw [List.take_of_length_le (l := ns.take p) (by omega), List.drop_of_length_le (l := ns.take p ++ [x]) (by simp; omega)]
    simp
theorem back_place2 {ns L : List Int} {x : Int} (hL : L = withL ns x (placeI x ns)) (hx : x ∉ ns) : ∃ hj : placeI x ns < L.length, L[placeI x ns] = x ∧ (∀ t (h : t < L.length), t < placeI x ns → L[t] ≠ x) ∧ withoutL L (placeI x ns) = ns := by
  subst hL
  exact back_place hx
end Go.Proofs.Ythnfinnlnkjomaa
