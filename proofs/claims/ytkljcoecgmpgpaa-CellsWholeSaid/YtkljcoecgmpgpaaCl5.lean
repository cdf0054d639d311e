/- Cl5: What is done to a statement's own table: a store, a clean, an evict; what is whole, at the start. -/
import Derived.Test.YtkljcoecgmpgpaaCl4
import Derived.Test.YtkljcoecgmpgpaaCl2
namespace Go.Proofs.Ytkljcoecgmpgpaa
open Go.RowKit Go.ChangeShapes Mem Be Word Rg Go.Maps
set_option maxRecDepth 10000
set_option maxHeartbeats 1000000
set_option linter.unusedVariables false
section
variable {w0 w : World} {F : Nat → Prop} {g b tk q : Nat} {S : Cl}
theorem Tb1.store (h : Tb1 w0 w F g b tk S q) (x : EV) (hl : x.1.v.length ≤ x.2.2 ∧ x.2.2 ≤ maxLen) (hk : x.1.k.length ≤ maxLen) (hN : RowN (Own3 g b tk) w x.2.1 (x.1.v.map byteV)) (hq : q ≤ 100000000000000) :
    Calls Try.prog 19 #[.pointer (some ⟨g, 0, none⟩), entV ⟨x.1.k.toArray⟩ x.1.s x.1.u x.1.o x.1.has x.2.1 x.1.v.length x.2.2] w (fun e w' => e = .returned (.int .i64 (storeS S x.1).2) ∧ Tb1 w0 w' F g b tk (storeS S x.1).1 (q + 1) ∧ Touch (Own3 g b tk) w w') := by
  have hu := h.us hq
  refine (store_any h.ok x hl hk hu.1 hu.2 w h.at_ hN).mono ?_
  rintro e w' ⟨he, ha, ht⟩
  exact ⟨he, h.to (ok_store ⟨h.ok, h.lim⟩ _) ha ht, ht⟩
theorem Tb1.clean (h : Tb1 w0 w F g b tk S q) (k : List UInt8) (hk : k.length ≤ maxLen) (s u o : Int) :
    Calls Try.prog 22 #[.pointer (some ⟨g, 0, none⟩), .string ⟨k.toArray⟩, .agg #[.int .i64 s, .int .i64 u, .int .i64 o]] w (fun e w' => e = .returned (.bool (cleanS S k s u o).2) ∧ Tb1 w0 w' F g b tk (cleanS S k s u o).1 q ∧ Touch (Own3 g b tk) w w') := by
  refine (clean_any h.ok k hk s u o w h.at_).mono ?_
  rintro e w' ⟨he, ha, ht⟩
  refine ⟨he, h.to ⟨(ok_clean ⟨h.ok, h.lim⟩ k s u o).1, ?_⟩ ha ht, ht⟩
  have hl := h.lim
  unfold cleanS
  cases getK kP S.T k with
  | none => exact hl
  | some x =>
    simp only
    split
    · exact hl
    · exact ⟨hl.1, hl.2⟩
theorem Tb1.evict (h : Tb1 w0 w F g b tk S q) (k : List UInt8) (hk : k.length ≤ maxLen) (hq : q ≤ 100000000000000) :
    Calls Try.prog 24 #[.pointer (some ⟨g, 0, none⟩), .string ⟨k.toArray⟩] w (fun e w' => e = .returned (.bool (evictS S k).2) ∧ Tb1 w0 w' F g b tk (evictS S k).1 (q + 1) ∧ Touch (Own3 g b tk) w w') := by
  have hu := h.us hq
  refine (evictC_any h.ok k hk (fun t ht => by have := hu.2 t ht; omega) w h.at_).mono ?_
  rintro e w' ⟨he, ha, ht⟩
  exact ⟨he, h.to (ok_evict ⟨h.ok, h.lim⟩ _) ha ht, ht⟩
end
theorem rowN_own3 {F : Nat → Prop} {w : World} {A : Option Addr} {xs : List Value} {G : Nat → Prop} (h : RowN F w A xs) (hG : ∀ k, G k → F k) : RowN G w A xs := by
  rcases h with h | ⟨b, o, e, hf, hb, hc⟩
  · exact Or.inl h
  · exact Or.inr ⟨b, o, e, fun x => hf (hG b x), hb, hc⟩
theorem wh_new (rc rb : Int) (nb : Nat) (k : List UInt8) : WhI (newS rc rb nb true) k (entN k) (0, 0, 0) := by
  have : newS rc rb nb true = new0 rc rb nb true := by unfold newS; rw [if_pos rfl]
  rw [this]
  exact ⟨rfl, fun x hx => (by cases hx), fun _ _ => rfl, Or.inl (geT_refl _), fun x hx => (by cases hx)⟩
theorem clean_ent {S : Cl} {k : List UInt8} {s u o : Int} {T0 : List CP} (h : ∀ x ∈ S.T, ∃ y ∈ T0, y.e = x.e) : ∀ x ∈ (cleanS S k s u o).1.T, ∃ y ∈ T0, y.e = x.e := by
  unfold cleanS
  cases hg : getK kP S.T k with
  | none => exact h
  | some x =>
    simp only
    split
    · exact h
    · intro z hz
      rcases mem_put.1 hz with rfl | ⟨hz, _⟩
      · exact h x (get_some hg).1
      · exact h z hz
/-- Three cells of a block are written. -/
theorem box3 {w : World} {p : Nat} {ty : TypeId} {a b c : Value} (h : Blk w p ty #[a, b, c]) (x y z : Value) : Blk (((w.setCell ⟨p, 0, none⟩ x).setCell ⟨p, 1, none⟩ y).setCell ⟨p, 2, none⟩ z) p ty #[x, y, z] := by
  have := ((h.set_ 0 x).set_ 1 y).set_ 2 z
  simpa using this
theorem box6 {w : World} {p : Nat} {ty : TypeId} {a b c d e f : Value} (h : Blk w p ty #[a, b, c, d, e, f]) (x y z u v t : Value) : Blk ((((((w.setCell ⟨p, 0, none⟩ x).setCell ⟨p, 1, none⟩ y).setCell ⟨p, 2, none⟩ z).setCell ⟨p, 3, none⟩ u).setCell ⟨p, 4, none⟩ v).setCell ⟨p, 5, none⟩ t) p ty #[x, y, z, u, v, t] := by
  have := (((((h.set_ 0 x).set_ 1 y).set_ 2 z).set_ 3 u).set_ 4 v).set_ 5 t
  simpa using this
theorem touch3 (w : World) (p : Nat) (x y z : Value) : Touch (fun k => k = p) w (((w.setCell ⟨p, 0, none⟩ x).setCell ⟨p, 1, none⟩ y).setCell ⟨p, 2, none⟩ z) := by
  have h0 : Touch (fun k => k = p) w w := Touch.refl _ w
  have h1 := h0.set_ (p := ⟨p, 0, none⟩) (Or.inl rfl) x
  have h2 := h1.set_ (p := ⟨p, 1, none⟩) (Or.inl rfl) y
  exact h2.set_ (p := ⟨p, 2, none⟩) (Or.inl rfl) z
theorem touch6 (w : World) (p : Nat) (x y z u v t : Value) : Touch (fun k => k = p) w ((((((w.setCell ⟨p, 0, none⟩ x).setCell ⟨p, 1, none⟩ y).setCell ⟨p, 2, none⟩ z).setCell ⟨p, 3, none⟩ u).setCell ⟨p, 4, none⟩ v).setCell ⟨p, 5, none⟩ t) := by
  have h2 := touch3 w p x y z
  have h3 := h2.set_ (p := ⟨p, 3, none⟩) (Or.inl rfl) u
  have h4 := h3.set_ (p := ⟨p, 4, none⟩) (Or.inl rfl) v
  exact h4.set_ (p := ⟨p, 5, none⟩) (Or.inl rfl) t
end Go.Proofs.Ytkljcoecgmpgpaa
