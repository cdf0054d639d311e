/- Cl2: Two tables of a statement's own, one a copy of the other. -/
import Derived.Test.YtkljcoecgmpgpaaCl1
namespace Go.Proofs.Ytkljcoecgmpgpaa
open Go.RowKit Go.ChangeShapes Mem Be Word Rg Go.Maps
set_option maxRecDepth 10000
set_option maxHeartbeats 4000000
set_option linter.unusedVariables false
/-- The blocks of both. -/
def Both (g b tk g2 b2 tk2 : Nat) (k : Nat) : Prop := Own3 g b tk k ∨ Own3 g2 b2 tk2 k
theorem Tb1.copy {w0 w : World} {g b tk q : Nat} {S : Cl} (h : Tb1 w0 w (Own3 g b tk) g b tk S q) :
    Calls Try.prog 26 #[.pointer (some ⟨g, 0, none⟩)] w (fun e w' => ∃ g2 b2 tk2, e = .returned (.pointer (some ⟨g2, 0, none⟩)) ∧ (w.heap.size ≤ g2 ∧ w.heap.size ≤ b2 ∧ w.heap.size ≤ tk2) ∧
      Tb1 w0 w' (Both g b tk g2 b2 tk2) g b tk S q ∧ Tb1 w0 w' (Both g b tk g2 b2 tk2) g2 b2 tk2 S q ∧ Below w.heap.size w w') := by
  refine (copyT_any h.ok w h.at_).mono ?_
  rintro e w' ⟨g2, b2, tk2, he, hn, ha, hb⟩
  have hnew : ∀ k, Both g b tk g2 b2 tk2 k → w0.heap.size ≤ k := fun k hk => by
    rcases hk with hk | hk
    · exact h.new k hk
    · have := h.bel.size
      rcases hk with rfl | rfl | rfl <;> omega
  refine ⟨g2, b2, tk2, he, hn, ?_, ⟨hnew, h.ok, h.lim, ha, h.bel.trans (hb.mono h.bel.size)⟩, hb⟩
  have h2 := h.wide hb
  obtain ⟨V, c, h3⟩ := h2.at_
  obtain ⟨V2, c2, h4⟩ := ha
  refine ⟨hnew, h.ok, h.lim, ⟨V, c, h3.thin (fun k hk => ?_) (Or.inl (Or.inl rfl)) (Or.inl (Or.inr (Or.inl rfl))) (Or.inl (Or.inr (Or.inr rfl)))⟩, h2.bel⟩
  rcases hk with hk | hk
  · exact Or.inl hk
  · exact Or.inr ⟨by rcases hk with rfl | rfl | rfl <;> omega, h4.lt k (Or.inr hk)⟩
theorem CeN.grow {F F' : Nat → Prop} {w w' : World} {A : Option Addr} {us : List CV} (h : CeN F w A us) (hf : ∀ k, F' k → F k ∨ w.heap.size ≤ k) (ht : Touch F w w') : CeN F' w' A us :=
  ⟨h.row.later11 hf ht, fun x hx => ⟨(h.val x hx).1.later11 hf ht, (h.val x hx).2⟩⟩
theorem CeN.weak {F F' : Nat → Prop} {w : World} {A : Option Addr} {us : List CV} (h : CeN F w A us) (hf : ∀ k, F' k → F k) : CeN F' w A us :=
  ⟨h.row.later11 (fun k hk => Or.inl (hf k hk)) (Touch.refl _ _), fun x hx => ⟨(h.val x hx).1.later11 (fun k hk => Or.inl (hf k hk)) (Touch.refl _ _), (h.val x hx).2⟩⟩
theorem both_grow {w : World} {g b tk g2 b2 tk2 : Nat} (hn : w.heap.size ≤ g2 ∧ w.heap.size ≤ b2 ∧ w.heap.size ≤ tk2) : ∀ k, Both g b tk g2 b2 tk2 k → Own3 g b tk k ∨ w.heap.size ≤ k := fun k hk => by
  rcases hk with hk | hk
  · exact Or.inl hk
  · exact Or.inr (by rcases hk with rfl | rfl | rfl <;> omega)
theorem sameints_true11 (B B' c c' n n' : Nat) (A A' : Option Addr) (xs : List Int) (w : World) (h : Row w B A (xs.map iV)) (h' : Row w B' A' (xs.map iV)) (hn : n = xs.length) (hn' : n' = xs.length) (hl : xs.length ≤ 1000000) :
    Calls Try.prog 17 #[.slice A n c, .slice A' n' c'] w (IsB true w) :=
  (sameints_true B B' c c' n n' A A' xs w h h' hn hn' hl).mono fun e w' ⟨he, q, hq⟩ => ⟨he, by rw [hq]; exact below_drew' _ _ _⟩
/-- The cells that are told of a table, apart from whatever it is told to stand apart from. -/
theorem Tb1.cellsF {w0 w : World} {F : Nat → Prop} {g b tk q : Nat} {S : Cl} (h : Tb1 w0 w F g b tk S q) :
    Calls Try.prog 12 #[.pointer (some ⟨g, 0, none⟩)] w (fun e w' => ∃ (us : List CV) (A : Option Addr) (c : Nat), us.map Prod.fst = S.T ∧ e = .returned (.slice A us.length c) ∧ CeN F w' A us ∧ us.length ≤ 4096 ∧ Below w.heap.size w w') := by
  refine (cells_any h.ok w h.at_).mono fun e w' hx => ?_
  obtain ⟨us, A, c, h1, h2, h3, h4, h5⟩ := hx
  have hF : ∀ k, F k → k < w.heap.size := by
    obtain ⟨V, c, ha⟩ := h.at_
    exact ha.lt
  refine ⟨us, A, c, h1, h2, ⟨rowN_own hF h3, fun x hx => ?_⟩, ?_, h5⟩
  · have ho := h4 (evC x) (List.mem_map_of_mem hx)
    have hok : x.1 ∈ S.T := by rw [← h1]; exact List.mem_map_of_mem hx
    exact ⟨rowN_own hF ho, (own_cap ho).1, (own_cap ho).2, (sizE_le (h.ok.ok _ hok)).2.2.1⟩
  · have e1 : us.length = S.T.length := by rw [← h1, List.length_map]
    have h6 := h.ok.len
    have h7 := h.ok.rc
    omega
end Go.Proofs.Ytkljcoecgmpgpaa
