/- What comes in takes no more bytes than an address may reach: rows of bytes, opened with that. No dump is imported here. -/
import Derived.Test.YtpebhfjcakllmaaGreatCore
import Derived.SizedLaws
namespace Go.Proofs.YtpebhfjcakllmaaGreat
open Go.RowKit Go.ChangeShapes Go.Deep Go.WideShapes
namespace Mem
section
variable {H : Type} {enc : TypeId × Value → H} {P : Program} {w : World} {base : Nat} {held : Bool}
def SizedD (P : Program) (t : TypeId) (d : DataW H) : Prop := ∀ n ∈ d.weights P t, n ≤ reachBytes
theorem sized_each {ts : List TypeId} {ds : List (DataW H)} (h : (DataW.weightsEach P ts ds).all (· ≤ reachBytes) = true) {j : Nat} {t : TypeId} {d : DataW H} (ht : ts[j]? = some t) (hd : ds[j]? = some d) : SizedD P t d := fun n hn => by
  have := List.all_eq_true.1 h _ (DataW.weights_mem_each ht hd n hn)
  simpa using this
theorem weights_all_mem {e : TypeId} : ∀ {ds : List (DataW H)} {d : DataW H}, d ∈ ds → ∀ n ∈ d.weights P e, n ∈ DataW.weightsAll P e ds
  | [], _, h, _, _ => by cases h
  | d0 :: ds, d, h, n, hn => by
    simp only [DataW.weightsAll, List.mem_append]
    rcases List.mem_cons.1 h with rfl | h
    · exact Or.inl hn
    · exact Or.inr (weights_all_mem h n hn)
theorem SizedD.elem {t e : TypeId} {elems spare : List (DataW H)} (h : SizedD P t (.slice elems spare)) (ht : P.underlying t = some (.slice e)) {d : DataW H} (hd : d ∈ elems) : SizedD P e d := fun n hn =>
  h n (by simp only [DataW.weights, ht, List.mem_cons, List.mem_append]; exact Or.inr (Or.inl (weights_all_mem hd n hn)))
theorem SizedD.len {t e : TypeId} {elems spare : List (DataW H)} (h : SizedD P t (.slice elems spare)) (ht : P.underlying t = some (.slice e)) : (elems.length + spare.length) * P.bytesOf e ≤ reachBytes :=
  h _ (by simp [DataW.weights, ht])
/-- A slice of bytes that came in is no longer than an address may reach. -/
theorem sized_bytes {e q : TypeId} {fuel : Nat} {A : Option Addr} {l c : Nat} {d : DataW H} {ps : List MemPlace} (he : P.underlying e = some (.slice q)) (cq : P.cellsOf q = 1) (hb : P.bytesOf q = 1)
    (h : DataW.trod enc P w base (fun _ => true) held fuel e [.slice A l c] = some (d, ps)) (hs : SizedD P e d) : l ≤ reachBytes := by
  rcases open_slice1 he cq h with ⟨hcs, _⟩ | ⟨x, l', c', m, n, V, D, Pl, hcs, _, hl, hm, _, hx, _⟩
  · simp only [List.cons.injEq, and_true] at hcs
    injection hcs with _ h2 _
    subst h2
    exact Nat.zero_le _
  · simp only [List.cons.injEq, and_true] at hcs
    injection hcs with _ h2 _
    subst h2
    injection hx with hd _
    subst hd
    have := hs.len he
    rw [hb] at this
    simp only [List.length_map, List.length_range] at this
    omega
/-- A slice of whole numbers of 64 bits that came in is no longer than an address may reach. -/
theorem sized_ints {e q : TypeId} {A : Option Addr} {l c : Nat} {d : DataW H} {ps : List MemPlace} (he : P.underlying e = some (.slice q)) (cq : P.cellsOf q = 1) (hb : P.bytesOf q = 8)
    (h : DataW.Trod enc P w base (fun _ => true) held e (.slice A l c) d ps) (hs : SizedD P e d) : l * 8 ≤ reachBytes := by
  obtain ⟨fuel, hf⟩ := h
  rcases open_slice1 he cq (by simpa [Value.cells] using hf) with ⟨hcs, _⟩ | ⟨x, l', c', m, n, V, D, Pl, hcs, _, hl, hm, _, hx, _⟩
  · simp only [List.cons.injEq, and_true] at hcs
    injection hcs with _ h2 _
    subst h2
    omega
  · simp only [List.cons.injEq, and_true] at hcs
    injection hcs with _ h2 _
    subst h2
    injection hx with hd _
    subst hd
    have := hs.len he
    rw [hb] at this
    simp only [List.length_map, List.length_range] at this
    omega
/-- Rows of bytes that came in: none is longer than an address may reach. -/
theorem sized_rows {t e q : TypeId} {a : Option Addr} {len cap : Nat} {d : DataW H} {ps : List MemPlace} (ht : P.underlying t = some (.slice e)) (he : P.underlying e = some (.slice q)) (ce : P.cellsOf e = 1) (cq : P.cellsOf q = 1) (hb : P.bytesOf q = 1)
    (h : DataW.Trod enc P w base (fun _ => true) held t (.slice a len cap) d ps) (hs : SizedD P t d) {B : Nat} {rs : List RowV} (hlen : len = rs.length) (hr : Row w B a (rs.map rowV)) : ∀ r ∈ rs, r.2.1.length ≤ reachBytes := by
  obtain ⟨fuel, hf⟩ := h
  intro r hr1
  obtain ⟨j, hj, rfl⟩ := List.mem_iff_getElem.1 hr1
  obtain ⟨b, o, rfl, _, hc⟩ := hr.open_ (by rw [List.length_map]; omega)
  rcases open_slice1 ht ce (by simpa [Value.cells] using hf) with ⟨hcs, _⟩ | ⟨x, l', c', m, n, V, D, Pl, hcs, _, hl, hm, hmm, hx, hV⟩
  · simp only [List.cons.injEq, and_true] at hcs
    injection hcs with h1 _ _
    cases h1
  · simp only [List.cons.injEq, and_true] at hcs
    injection hcs with h1 h2 _
    injection h1 with h1
    subst h1; subst h2
    injection hx with hd _
    subst hd
    have hjm : j < m := by
      rw [hmm]
      simp only [if_true]
      omega
    obtain ⟨v1, v2⟩ := hV j hjm
    have v3 := hc j (by rw [List.length_map]; exact hj)
    have ea : (⟨b, o, none⟩ : Addr).add j = ⟨b, o + j, none⟩ := by
      unfold Addr.add; split
      · subst_vars; rfl
      · rfl
    rw [ea, v3, List.getElem_map] at v1
    injection v1 with v1
    rw [← v1] at v2
    exact sized_bytes he cq hb (A := rs[j].1) (l := rs[j].2.1.length) (c := rs[j].2.2) v2 (hs.elem ht (List.mem_map.2 ⟨j, List.mem_range.2 (by omega), rfl⟩))
end
end Mem
end Go.Proofs.YtpebhfjcakllmaaGreat
