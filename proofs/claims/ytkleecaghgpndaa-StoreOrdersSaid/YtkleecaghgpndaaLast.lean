/- Package wal: Last. -/
import Derived.Test.YtkleecaghgpndaaRoundHeld
import Derived.Test.YtkleecaghgpndaaIter
import Derived.Test.YtkleecaghgpndaaRecsCut
namespace Go.Proofs.Ytkleecaghgpndaa
open Go.RowKit Mem Be Word Frm
attribute [local go_sem] Oper.semAt_some
set_option maxRecDepth 100000
set_option maxHeartbeats 4000000
set_option linter.unusedVariables false
variable {J : LgK}
set_option linter.unusedSimpArgs false
/-- p: how many records there are up to the last snapshot, itself counted; 0: there is none. -/
structure LastIs (rs : List Rc) (p : Nat) : Prop where
  le : p ≤ rs.length
  no : ∀ j (h : j < rs.length), p ≤ j → rs[j].1 ≠ 0
  yes : ∀ k, p = k + 1 → ∃ h : k < rs.length, rs[k].1 = 0
theorem lastIs_unique {rs : List Rc} {p p' : Nat} (h : LastIs rs p) (h' : LastIs rs p') : p = p' := by
  rcases Nat.lt_trichotomy p p' with hl | hl | hl
  · obtain ⟨k, rfl⟩ : ∃ k, p' = k + 1 := ⟨p' - 1, by omega⟩
    obtain ⟨h1, h2⟩ := h'.yes k rfl
    exact absurd h2 (h.no k h1 (by omega))
  · exact hl
  · obtain ⟨k, rfl⟩ : ∃ k, p = k + 1 := ⟨p - 1, by omega⟩
    obtain ⟨h1, h2⟩ := h.yes k rfl
    exact absurd h2 (h'.no k h1 (by omega))
def lastB (rs : List Rc) : Nat → List UInt8
  | 0 => []
  | k + 1 => ((rs[k]?).getD (0, [])).2
/-- What Last tells: the last snapshot's bytes, all records behind it, in new memory. -/
def LastP (rs : List Rc) (w : World) (e : Ending) (w' : World) : Prop :=
  ∃ (p : Nat) (A : Option Addr) (c : Nat) (us : List RecV) (A2 : Option Addr) (c2 : Nat), LastIs rs p ∧ us.map rcOf = rs.drop p ∧ e = .returned (.tuple #[.slice A (lastB rs p).length c, .slice A2 us.length c2]) ∧
    w'.ownsRow w.heap.size 5 1 (.slice A (lastB rs p).length c) (lastB rs p).length ((lastB rs p).map byteV) ∧ w'.ownsRow w.heap.size 99 2 (.slice A2 us.length c2) us.length (recsC us) ∧ RecsO w' w.heap.size us ∧ Below w.heap.size w w'
theorem last_none (vs : List RecV) (h : ∀ x ∈ bkU vs vs.length, x.2.1 ≠ 0) : LastIs (vs.map rcOf) 0 := by
  refine ⟨Nat.zero_le _, fun j hj _ => ?_, fun k hk => by omega⟩
  rw [List.length_map] at hj
  have h1 := h _ (bkU_mem vs (show vs.length - 1 - j < vs.length by omega))
  rw [bkF_at vs _ (by omega)] at h1
  have e : vs.length - 1 - (vs.length - 1 - j) = j := by omega
  simp only [e] at h1
  rw [List.getElem_map]
  exact h1
theorem last_some (vs : List RecV) (k : Nat) (hk : k < vs.length) (h : ∀ x ∈ bkU vs k, x.2.1 ≠ 0) (h0 : (bkF vs k).2.1 = 0) : LastIs (vs.map rcOf) (vs.length - 1 - k + 1) := by
  rw [bkF_at vs k hk] at h0
  refine ⟨by rw [List.length_map]; omega, fun j hj hp => ?_, fun k' hk' => ⟨by rw [List.length_map]; omega, ?_⟩⟩
  · rw [List.length_map] at hj
    have h1 := h _ (bkU_mem vs (show vs.length - 1 - j < k by omega))
    rw [bkF_at vs _ (by omega)] at h1
    have e : vs.length - 1 - (vs.length - 1 - j) = j := by omega
    simp only [e] at h1
    rw [List.getElem_map]
    exact h1
  · obtain rfl : k' = vs.length - 1 - k := by omega
    rw [List.getElem_map]
    exact h0
/-- What stands in the two cells, where a snapshot is found at index i. -/
def LastQ (w : World) (vs : List RecV) (i : Nat) (W : World) : Prop :=
  ∃ (y : List UInt8) (A : Option Addr) (c : Nat) (us : List RecV) (A2 : Option Addr) (c2 : Nat) (h : i < vs.length), vs[i].2.2.1 = y ∧ us.map rcOf = (vs.drop (i + 1)).map rcOf ∧
    Boxed W (w.heap.size + 1) 24 (.slice A y.length c) ∧ Boxed W (w.heap.size + 1 + 1) 48 (.slice A2 us.length c2) ∧
    W.ownsRow w.heap.size 5 1 (.slice A y.length c) y.length (y.map byteV) ∧ W.ownsRow w.heap.size 99 2 (.slice A2 us.length c2) us.length (recsC us) ∧ RecsO W w.heap.size us ∧ Below w.heap.size w W
theorem own_own {β : Type} {B s n : Nat} {e : TypeId} {v : Value} {xs : List Value} : Own (fun (_ : β) W => W.ownsRow B e s v n xs) := fun s W W' row hs hg hr => hs.kept hg (by
  rcases hs.2 with ⟨h1, _⟩ | ⟨g, cap, cur, h1, _, hh, _⟩
  · rw [h1]; exact Or.inl rfl
  · refine Or.inr fun e => ?_
    rw [h1] at e
    obtain ⟨o, ho, hc⟩ := hr g e.symm
    rw [hh] at ho
    injection ho with ho
    subst ho
    cases hc)
theorem lastQ_own {β : Type} (w : World) (vs : List RecV) (f : β → Nat) (B : Nat) (hB : w.heap.size ≤ B) : OwnFrom B (fun (s : β) W => LastQ w vs (f s) W) := fun s W W' row hs hg hr => by
  obtain ⟨y, A, c, us, A2, c2, h, h1, h2, h3, h4, h5, h6, h7, h8⟩ := hs
  have hr2 : ∀ r, row = some r → ∃ o : Obj, W.heap[r]? = some o ∧ o.isCells = false := fun r e => (hr r e).2
  exact ⟨y, A, c, us, A2, c2, h, h1, h2, (boxed_own (β := Unit) _ _ (fun _ => _)) () W W' row h3 hg hr2, (boxed_own (β := Unit) _ _ (fun _ => _)) () W W' row h4 hg hr2, (own_own (β := Unit)) () W W' row h5 hg hr2, (own_own (β := Unit)) () W W' row h6 hg hr2,
    fun r hr3 => (own_own (β := Unit)) () W W' row (h7 r hr3) hg hr2, h8.grown hg (h8.size) (fun k e => Nat.le_trans hB (hr k e).1)⟩
theorem blk_own {β : Type} (Bx : Nat) (t : TypeId) (cs : Array Value) : Own (fun (_ : β) W => Blk W Bx t cs) := fun s W W' row hs hg hr => hs.grown hg (fun e => by
  obtain ⟨o, ho, hc⟩ := hr Bx e.symm
  unfold Blk at hs
  rw [hs] at ho
  injection ho with ho
  subst ho
  cases hc)
theorem below_keeps {B : Nat} {W W' : World} (h : Below W.heap.size W W') : KeepsFrom B W W' := ⟨h.size, fun k o _ hk _ => (h.block k (Array.getElem?_eq_some_iff.1 hk).1).trans hk⟩
theorem lastQ_of {w W w3 w4 : World} {vs us : List RecV} {i c3 c4 : Nat} {y : List UInt8} {A3 A4 : Option Addr} (B : Nat) (hi : i < vs.length) (hy : vs[i].2.2.1 = y) (hB : Below w.heap.size w W) (b2 : Boxed W (w.heap.size + 1) 24 (.slice none 0 0)) (b3 : Boxed W (w.heap.size + 1 + 1) 48 (.slice none 0 0))
    (hb3 : Below W.heap.size W w3) (ho3 : w3.ownsRow W.heap.size 5 1 (.slice A3 y.length c3) y.length (y.map byteV)) (hb4 : Below w3.heap.size w3 w4) (hus : us.map rcOf = (vs.drop (i + 1)).map rcOf)
    (hou : w4.ownsRow w3.heap.size 99 2 (.slice A4 us.length c4) us.length (recsC us)) (hrc : RecsO w4 w3.heap.size us) :
    KeepsFrom B W ((w4.setCell ⟨w.heap.size + 1, 0, none⟩ (.slice A3 y.length c3)).setCell ⟨w.heap.size + 1 + 1, 0, none⟩ (.slice A4 us.length c4)) ∧ LastQ w vs i ((w4.setCell ⟨w.heap.size + 1, 0, none⟩ (.slice A3 y.length c3)).setCell ⟨w.heap.size + 1 + 1, 0, none⟩ (.slice A4 us.length c4)) := by
  have hl2 := b2.lt
  have hl3 := b3.lt
  have hbW : Below W.heap.size W w4 := hb3.trans (hb4.mono hb3.size)
  have q2 : Boxed w4 (w.heap.size + 1) 24 (.slice none 0 0) := (hbW.block _ hl2).trans b2
  have q3 : Boxed w4 (w.heap.size + 1 + 1) 48 (.slice none 0 0) := (hbW.block _ hl3).trans b3
  have hs3 := hb3.size
  have put : ∀ {B s n : Nat} {e : TypeId} {v : Value} {xs : List Value}, W.heap.size ≤ B → w4.ownsRow B e s v n xs → ((w4.setCell ⟨w.heap.size + 1, 0, none⟩ (.slice A3 y.length c3)).setCell ⟨w.heap.size + 1 + 1, 0, none⟩ (.slice A4 us.length c4)).ownsRow w.heap.size e s v n xs := fun hB' h =>
    ownBase (ownsRow_setCell_below (ownsRow_setCell_below h (a := ⟨w.heap.size + 1, 0, none⟩) (by show w.heap.size + 1 < _; omega) _) (a := ⟨w.heap.size + 1 + 1, 0, none⟩) (by show w.heap.size + 1 + 1 < _; omega) _) (by omega)
  refine ⟨(below_keeps hbW).trans (((KeepsOthers.setCell _ _ _).trans (KeepsOthers.setCell _ _ _)).from _), y, A3, c3, us, A4, c4, hi, hy, hus, ((q2.set _).other (by omega) _), ((q3.other (by omega) _).set _), put (Nat.le_refl _) (ownLater ho3 hb4), put hs3 hou, fun r hr => put hs3 (hrc r hr), ?_⟩
  exact ((hB.trans (hbW.mono hB.size)).setCell (p := ⟨w.heap.size + 1, 0, none⟩) (Nat.le_succ _) _).setCell (p := ⟨w.heap.size + 1 + 1, 0, none⟩) (by show w.heap.size ≤ w.heap.size + 1 + 1; omega) _
end Go.Proofs.Ytkleecaghgpndaa
