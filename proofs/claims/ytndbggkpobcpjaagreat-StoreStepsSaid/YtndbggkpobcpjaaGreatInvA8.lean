/- What was acknowledged lasts: what holds of a store, whatever is done. -/
import Derived.Test.YtndbggkpobcpjaaGreatLaw8
namespace Go.Proofs.YtndbggkpobcpjaaGreat
open Go.RowKit Go.ChangeShapes Mem Be Word Frm Go.Maps
set_option maxRecDepth 10000
set_option maxHeartbeats 2000000
set_option linter.unusedVariables false
theorem StAt.short {w : World} {F : Nat → Prop} {g q : Nat} {S : St8} (h : StAt w F g S q) : Short S.rs := by
  obtain ⟨h0, FL, FS, lm, fm, TL, TF, A, c, h1, h2, hfl, h⟩ := h
  exact h.lg.short
/-- The entry is no older than the ack's tag. -/
def TagLe (a : AckP) (x : EntP) : Prop := a.s < x.s ∨ (x.s = a.s ∧ (a.u < x.u ∨ (x.u = a.u ∧ a.o ≤ x.o)))
theorem TagLe.trans {a : AckP} {x y : EntP} (h : TagLe a x) (h' : GeE y x) : TagLe a y := by unfold TagLe GeE at *; omega
structure InvA (S : St8) (told : List AckP) (P : EntP → Prop) : Prop where
  all : ∀ p T, S.m ≤ p → p ≤ S.rs.length → recS (S.rs.take p) = some T → (∀ e ∈ T, P e) ∧ ∀ a ∈ told, TagLe a (ofT T a.k)
  acks : ∀ a ∈ S.acks, TagLe a (ofT S.N a.k)
theorem InvA.lasts {S : St8} {told : List AckP} {P : EntP → Prop} (h : InvA S told P) (ok : Ok8 S) : (∀ e ∈ S.L, P e) ∧ ∀ a ∈ told, TagLe a (ofT S.L a.k) := h.all S.m S.L (Nat.le_refl _) ok.le ok.lasts
theorem InvA.newer {S : St8} {told : List AckP} {P : EntP → Prop} (h : InvA S told P) (ok : Ok8 S) : (∀ e ∈ S.N, P e) ∧ ∀ a ∈ told, TagLe a (ofT S.N a.k) :=
  h.all S.rs.length S.N ok.le (Nat.le_refl _) (by rw [List.take_length]; exact ok.newer)
theorem InvA.more {S : St8} {told : List AckP} {P P' : EntP → Prop} (h : InvA S told P) (hp : ∀ e, P e → P' e) : InvA S told P' := ⟨fun p T h1 h2 h3 => ⟨fun e he => hp e ((h.all p T h1 h2 h3).1 e he), (h.all p T h1 h2 h3).2⟩, h.acks⟩
end Go.Proofs.YtndbggkpobcpjaaGreat
