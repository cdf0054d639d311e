/- What comes in takes no more bytes than an address may reach: rows of bytes, opened with that. No dump is imported here. -/
/- Dos8: Rows of things that are done to a store, as they come in; how much they have in them.
   Long8: How much things to be done to a store have in them, told by the reference.
   Done8: Something that is done to a store, by the statements' own call.
   Acks8: Whether acks are the same, told by the reference.
   Known8: What the chapter's example fixes, of a store.
   Law8A: Things are done to a store, one behind the other: one round; what lasts of a key is no newer than its newest entry. -/
/- What was acknowledged lasts: what holds of a store, whatever is done. -/
/- Whether rows of entries are the same, told by the reference. -/
/- Entries that lie in a row, apart from some blocks (cut out of Silent8). -/
import Derived.Test.YtkdpfjenjcpcfaaGreatDoorCore
import Derived.SizedLaws
import Derived.Test.YtkdpfjenjcpcfaaGreatDoorStoK
import Derived.Test.YtkdpfjenjcpcfaaGreatDoorStoF
import Derived.Deep.Slices
import Derived.Deep.Fields
import Derived.BigQuiet
namespace Go.Proofs.YtkdpfjenjcpcfaaGreatDoor
open Go.RowKit Go.ChangeShapes Go.Deep Go.WideShapes
namespace Mem
section
variable {H : Type} {enc : TypeId × Value → H} {P : Program} {w : World} {base : Nat} {held : Bool}
def SizedD (P : Program) (t : TypeId) (d : DataW H) : Prop := ∀ n ∈ d.weights P t, n ≤ reachBytes
theorem SizedD.len {t e : TypeId} {elems spare : List (DataW H)} (h : SizedD P t (.slice elems spare)) (ht : P.underlying t = some (.slice e)) : (elems.length + spare.length) * P.bytesOf e ≤ reachBytes :=
  h _ (by simp [DataW.weights, ht])
end
end Mem
end Go.Proofs.YtkdpfjenjcpcfaaGreatDoor
namespace Go.Proofs.YtkdpfjenjcpcfaaGreatDoor
open Go.RowKit Go.ChangeShapes Go.WideShapes Mem
set_option maxRecDepth 10000
set_option maxHeartbeats 2000000
set_option linter.unusedVariables false
/-- Something that is done: its kind, the entry, for whom, how much is kept. -/
structure D8 where
  kind : Int
  e : EV
  who : Int
  kept : Int
instance d8inh : Inhabited D8 := ⟨⟨0, evN [], 0, 0⟩⟩
def d8C (r : D8) : List Value := [.int .i64 r.kind, .string ⟨r.e.1.k.toArray⟩, .int .i64 r.e.1.s, .int .i64 r.e.1.u, .int .i64 r.e.1.o, .bool r.e.1.has, .slice r.e.2.1 r.e.1.v.length r.e.2.2, .int .i64 r.who, .int .i64 r.kept]
abbrev d8sC (rs : List D8) : List Value := rs.flatMap d8C
/-- What may come in. -/
structure D8Ok (w : World) (B : Nat) (r : D8) : Prop where
  row : Row w B r.e.2.1 (r.e.1.v.map byteV)
  cap : r.e.1.v.length ≤ r.e.2.2
  capm : r.e.2.2 ≤ maxLen
  key : r.e.1.k.length ≤ maxLen
  k0 : -9223372036854775808 ≤ r.kind
  k1 : r.kind ≤ 9223372036854775807
  p0 : -9223372036854775808 ≤ r.kept
  p1 : r.kept ≤ 9223372036854775807
def InD8 (w : World) (A : Option Addr) (rs : List D8) : Prop := ∀ W, Below w.heap.size w W → Row W w.heap.size A (d8sC rs) ∧ ∀ r ∈ rs, D8Ok W w.heap.size r
theorem D8Ok.below {w w' : World} {B : Nat} {r : D8} (h : D8Ok w B r) (hb : Below B w w') : D8Ok w' B r := ⟨h.row.below hb, h.cap, h.capm, h.key, h.k0, h.k1, h.p0, h.p1⟩
section
variable {H : Type} {enc : TypeId × Value → H} {w : World} {base : Nat} {held : Bool}
end
end Go.Proofs.YtkdpfjenjcpcfaaGreatDoor
namespace Go.Proofs.YtkdpfjenjcpcfaaGreatDoor
open Go.RowKit Go.ChangeShapes Mem Be
set_option maxRecDepth 100000
set_option maxHeartbeats 4000000
set_option linter.unusedVariables false
end Go.Proofs.YtkdpfjenjcpcfaaGreatDoor
namespace Go.Proofs.YtkdpfjenjcpcfaaGreatDoor
open Go.RowKit Go.ChangeShapes Mem Be Word Frm
set_option maxRecDepth 10000
set_option maxHeartbeats 4000000
set_option linter.unusedVariables false
def DoneS (F : Nat → Prop) (R : St8 × List AckP × Int) (q : Nat) (w : World) (e : Ending) (w' : World) : Prop :=
  ∃ g F' q' A c, e = .returned (.tuple #[.pointer (some ⟨g, 0, none⟩), .slice A R.2.1.length c, .int .i64 R.2.2]) ∧ (∀ k, F' k → F k ∨ w.heap.size ≤ k) ∧ StAt st0K w' F' g R.1 q' ∧ q' ≤ q + 1 ∧ Touch F w w' ∧
    w'.ownsRow 0 130 5 (.slice A R.2.1.length c) R.2.1.length (acksC R.2.1) ∧ (∀ a, A = some a → ¬ F' a.block)
end Go.Proofs.YtkdpfjenjcpcfaaGreatDoor
namespace Go.Proofs.YtkdpfjenjcpcfaaGreatDoor
open Go.RowKit Go.ChangeShapes Mem Be
set_option maxRecDepth 100000
set_option maxHeartbeats 4000000
set_option linter.unusedVariables false
end Go.Proofs.YtkdpfjenjcpcfaaGreatDoor
namespace Go.Proofs.YtkdpfjenjcpcfaaGreatDoor
open Go.RowKit Go.ChangeShapes Mem Be Word Frm
set_option maxRecDepth 10000
set_option maxHeartbeats 4000000
set_option linter.unusedVariables false
def NewF8 (w : World) (F : Nat → Prop) : Prop := ∀ k, F k → w.heap.size ≤ k
theorem newF8_step {w w1 : World} {F F' : Nat → Prop} (h : NewF8 w F) (hs : w.heap.size ≤ w1.heap.size) (h' : ∀ k, F' k → F k ∨ w1.heap.size ≤ k) : NewF8 w F' := fun k hk => by
  rcases h' k hk with h1 | h1
  · exact h k h1
  · omega
/-- A store of a statement's own, in blocks that are new since w0. -/
structure St1 (w0 w : World) (F : Nat → Prop) (g : Nat) (S : St8) (q : Nat) : Prop where
  new : NewF8 w0 F
  at_ : StAt st0K w F g S q
  bel : Below w0.heap.size w0 w
theorem St1.below {w0 w w1 : World} {F : Nat → Prop} {g q : Nat} {S : St8} (h : St1 w0 w F g S q) (hb : Below w.heap.size w w1) : St1 w0 w1 F g S q := ⟨h.new, h.at_.below hb, h.bel.trans (hb.mono h.bel.size)⟩
theorem St1.to {w0 w w1 : World} {F F' : Nat → Prop} {g g' q q' : Nat} {S S' : St8} (h : St1 w0 w F g S q) (hf : ∀ k, F' k → F k ∨ w.heap.size ≤ k) (hl : StAt st0K w1 F' g' S' q') (ht : Touch F w w1) : St1 w0 w1 F' g' S' q' :=
  ⟨newF8_step h.new h.bel.size hf, hl, h.bel.trans (ht.below h.bel.size h.new)⟩
def e3 : EntP := ⟨[107], 3, 0, 0, false, []⟩
def e2 : EntP := ⟨[107], 2, 0, 0, false, []⟩
theorem okE2 : okE e2 := by unfold okE; decide
end Go.Proofs.YtkdpfjenjcpcfaaGreatDoor
namespace Go.Proofs.YtkdpfjenjcpcfaaGreatDoor
open Go.RowKit Go.ChangeShapes Mem Be Word Frm Go.Maps
set_option maxRecDepth 10000
set_option maxHeartbeats 4000000
set_option linter.unusedVariables false
theorem InD8.later {w0 w : World} {A : Option Addr} {rs : List D8} (h : InD8 w0 A rs) (hb : Below w0.heap.size w0 w) : ∀ W, Below w.heap.size w W → Row W W.heap.size A (d8sC rs) ∧ ∀ r ∈ rs, D8Ok W W.heap.size r := fun W hb2 => by
  have hb3 := hb.trans (hb2.mono hb.size)
  obtain ⟨h1, h2⟩ := h W hb3
  exact ⟨h1.more hb3.size, fun r hr => by have := h2 r hr; exact ⟨this.row.more hb3.size, this.cap, this.capm, this.key, this.k0, this.k1, this.p0, this.p1⟩⟩
theorem St1.done {w0 w w1 : World} {F : Nat → Prop} {g q : Nat} {S : St8} {R : St8 × List AckP × Int} {e : Ending} (h : St1 w0 w F g S q) (hd : DoneS F R q w e w1) :
    ∃ g' F' q' A c, e = .returned (.tuple #[.pointer (some ⟨g', 0, none⟩), .slice A R.2.1.length c, .int .i64 R.2.2]) ∧ q' ≤ q + 1 ∧ St1 w0 w1 F' g' R.1 q' ∧ w1.ownsRow 0 130 5 (.slice A R.2.1.length c) R.2.1.length (acksC R.2.1) ∧ (∀ a, A = some a → ¬ F' a.block) := by
  obtain ⟨g', F', q', A, c, h1, h2, h3, h4, h5, h6, h7⟩ := hd
  exact ⟨g', F', q', A, c, h1, h4, h.to h2 h3 h5, h6, h7⟩
theorem St1.touch {w0 w w1 : World} {F G : Nat → Prop} {g q : Nat} {S : St8} (h : St1 w0 w F g S q) (ht : Touch G w w1) (hd : ∀ k, F k → ¬ G k) (hG : ∀ k, G k → w0.heap.size ≤ k) : St1 w0 w1 F g S q := ⟨h.new, h.at_.touch ht hd, h.bel.trans (ht.below h.bel.size hG)⟩
theorem cmpE_le (a b : EntP) : cmpE a b ≤ 0 ↔ (a.s < b.s ∨ (a.s = b.s ∧ (a.u < b.u ∨ (a.u = b.u ∧ a.o ≤ b.o)))) := by
  unfold cmpE cmpT
  rcases cmpI_cases a.s b.s with ⟨g, h⟩ | ⟨g, h⟩ | ⟨g, h⟩ <;> rcases cmpI_cases a.u b.u with ⟨g', h'⟩ | ⟨g', h'⟩ | ⟨g', h'⟩ <;> rcases cmpI_cases a.o b.o with ⟨g'', h''⟩ | ⟨g'', h''⟩ | ⟨g'', h''⟩ <;> rw [h, h', h''] <;> simp <;> omega
/-- b is no newer than a. -/
def GeE (a b : EntP) : Prop := b.s < a.s ∨ (a.s = b.s ∧ (b.u < a.u ∨ (a.u = b.u ∧ b.o ≤ a.o)))
theorem GeE.refl (a : EntP) : GeE a a := Or.inr ⟨rfl, Or.inr ⟨rfl, by omega⟩⟩
theorem GeE.trans {a b c : EntP} (h : GeE a b) (h' : GeE b c) : GeE a c := by unfold GeE at *; omega
theorem GeE.le {a b : EntP} (h : GeE a b) : cmpE b a ≤ 0 := (cmpE_le b a).2 (by unfold GeE at h; omega)
theorem ofT_len {T : List EntP} (h : OkT T) (k : List UInt8) : (ofT T k).v.length ≤ 60000 := by
  unfold ofT
  cases hg : getK kE T k with
  | none => exact Nat.zero_le _
  | some x => have := (rightE_yes (h.2 x (get_some hg).1)).2.2.1; show x.v.length ≤ _; omega
end Go.Proofs.YtkdpfjenjcpcfaaGreatDoor
namespace Go.Proofs.YtkdpfjenjcpcfaaGreatDoor
open Go.RowKit Go.ChangeShapes Mem Be Word Frm Go.Maps
set_option maxRecDepth 10000
set_option maxHeartbeats 2000000
set_option linter.unusedVariables false
theorem StAt.short {w : World} {F : Nat → Prop} {g q : Nat} {S : St8} (h : StAt st0K w F g S q) : Short S.rs := by
  obtain ⟨h0, FL, FS, lm, fm, TL, TF, A, c, h1, h2, hfl, h⟩ := h
  exact h.lg.short
/-- The entry is no older than the ack's tag. -/
def TagLe (a : AckP) (x : EntP) : Prop := a.s < x.s ∨ (x.s = a.s ∧ (a.u < x.u ∨ (x.u = a.u ∧ a.o ≤ x.o)))
theorem TagLe.trans {a : AckP} {x y : EntP} (h : TagLe a x) (h' : GeE y x) : TagLe a y := by unfold TagLe GeE at *; omega
structure InvA (S : St8) (told : List AckP) (P : EntP → Prop) : Prop where
  all : ∀ p T, S.m ≤ p → p ≤ S.rs.length → recS (S.rs.take p) = some T → (∀ e ∈ T, P e) ∧ ∀ a ∈ told, TagLe a (ofT T a.k)
  acks : ∀ a ∈ S.acks, TagLe a (ofT S.N a.k)
theorem InvA.lasts {S : St8} {told : List AckP} {P : EntP → Prop} (h : InvA S told P) (ok : Ok8 S) : (∀ e ∈ S.L, P e) ∧ ∀ a ∈ told, TagLe a (ofT S.L a.k) := h.all S.m S.L (Nat.le_refl _) ok.le ok.lasts
theorem InvA.newer {S : St8} {told : List AckP} {P : EntP → Prop} (h : InvA S told P) (ok : Ok8 S) : (∀ e ∈ S.N, P e) ∧ ∀ a ∈ told, TagLe a (ofT S.N a.k) :=
  h.all S.rs.length S.N ok.le (Nat.le_refl _) (by rw [List.take_length]; exact ok.newer)
theorem InvA.more {S : St8} {told : List AckP} {P P' : EntP → Prop} (h : InvA S told P) (hp : ∀ e, P e → P' e) : InvA S told P' := ⟨fun p T h1 h2 h3 => ⟨fun e he => hp e ((h.all p T h1 h2 h3).1 e he), (h.all p T h1 h2 h3).2⟩, h.acks⟩
end Go.Proofs.YtkdpfjenjcpcfaaGreatDoor
namespace Go.Proofs.YtkdpfjenjcpcfaaGreatDoor
open Go.RowKit Go.ChangeShapes Mem Be Word Frm Go.Maps
set_option maxRecDepth 100000
set_option maxHeartbeats 4000000
set_option linter.unusedVariables false
end Go.Proofs.YtkdpfjenjcpcfaaGreatDoor
namespace Go.Proofs.YtkdpfjenjcpcfaaGreatDoor
open Go.RowKit Go.ChangeShapes Mem Be Word Frm Go.Maps
set_option maxRecDepth 100000
set_option maxHeartbeats 4000000
set_option linter.unusedVariables false
theorem RowN.grow {F F' : Nat → Prop} {w w' : World} {A : Option Addr} {xs : List Value} (h : RowN F w A xs) (hf : ∀ k, F' k → F k ∨ w.heap.size ≤ k) (ht : Touch F w w') : RowN F' w' A xs := by
  have h2 := h.touch ht
  rcases h with h | ⟨b, o, rfl, hb, hl, hc⟩
  · exact Or.inl h
  · rcases h2 with h2 | ⟨b2, o2, e, hb2, hl2, hc2⟩
    · exact Or.inl h2
    · injection e with e
      injection e with e1 e2
      subst e1; subst e2
      refine Or.inr ⟨_, _, rfl, fun hF => ?_, hl2, hc2⟩
      rcases hf _ hF with h | h
      · exact hb h
      · omega
/-- Entries that lie in a row, apart from F. -/
structure EnN (F : Nat → Prop) (w : World) (A : Option Addr) (us : List EV) : Prop where
  row : RowN F w A (entsC us)
  val : ∀ x ∈ us, RowN F w x.2.1 (x.1.v.map byteV) ∧ x.1.v.length ≤ 60000 ∧ x.1.v.length ≤ x.2.2
theorem EnN.to {F F' : Nat → Prop} {w w' : World} {A : Option Addr} {us : List EV} (h : EnN F w A us) (hf : ∀ k, F' k → F k ∨ w.heap.size ≤ k) (ht : Touch F w w') : EnN F' w' A us :=
  ⟨h.row.grow hf ht, fun x hx => ⟨(h.val x hx).1.grow hf ht, (h.val x hx).2⟩⟩
theorem EnN.below {F : Nat → Prop} {w w' : World} {A : Option Addr} {us : List EV} (h : EnN F w A us) (hb : Below w.heap.size w w') : EnN F w' A us := h.to (fun k hk => Or.inl hk) (Touch.ofBelow hb)
end Go.Proofs.YtkdpfjenjcpcfaaGreatDoor
