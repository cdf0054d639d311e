/- The reference's log: what is done to it. -/
import Derived.Test.YtkagfjjocmjeoaaRef7
import Derived.Test.YtkagfjjocmjeoaaRefOne5
import Derived.Test.YtkagfjjocmjeoaaRefAll5
import Derived.Test.YtkagfjjocmjeoaaDone7
namespace Go.Proofs.Ytkagfjjocmjeoaa
open Go.RowKit Mem Be Word Frm
set_option maxRecDepth 100000
set_option maxHeartbeats 4000000
set_option linter.unusedVariables false
def AndB (F : Nat → Prop) (b : Nat) (k : Nat) : Prop := F k ∨ k = b
/-- The rows of a log of the reference lie outside of some blocks. -/
structure RefL (w : World) (F : Nat → Prop) (AL : Option Addr) (cL : Nat) (AT : Option Addr) (cT : Nat) (R : Option Addr) (c : Nat) (L T : List UInt8) (vs : List RecV) : Prop where
  hl : L.length ≤ cL
  ht : T.length ≤ cT
  hc : vs.length ≤ c
  rl : RowN F w AL (L.map byteV)
  rt : RowN F w AT (T.map byteV)
  rr : RowN F w R (recsC vs)
  rb : ∀ v ∈ vs, RowN F w v.2.1 (v.2.2.1.map byteV)
section
variable {w w1 : World} {F F' : Nat → Prop} {AL AT R : Option Addr} {cL cT c : Nat} {L T : List UInt8} {vs : List RecV}
theorem RefL.step (h : RefL w F AL cL AT cT R c L T vs) (ht : Touch F w w1) (hf : ∀ k, F' k → F k ∨ w.heap.size ≤ k) : RefL w1 F' AL cL AT cT R c L T vs :=
  ⟨h.hl, h.ht, h.hc, h.rl.step ht hf, h.rt.step ht hf, h.rr.step ht hf, fun v hv => (h.rb v hv).step ht hf⟩
theorem RefL.below (h : RefL w F AL cL AT cT R c L T vs) (hb : Below w.heap.size w w1) : RefL w1 F AL cL AT cT R c L T vs := h.step (Touch.ofBelow hb) fun k hk => Or.inl hk
theorem RefL.wide (h : RefL w F AL cL AT cT R c L T vs) (hb : Below w.heap.size w w1) {b : Nat} (hb2 : w.heap.size ≤ b) : RefL w1 (AndB F b) AL cL AT cT R c L T vs := h.step (Touch.ofBelow hb) fun k hk => by
  rcases hk with h1 | h1
  · exact Or.inl h1
  · exact Or.inr (by omega)
end
theorem ref_touch {w : World} {F : Nat → Prop} {b : Nat} {u0 u1 u2 u3 u4 : Value} : Touch (AndB F b) w (((((w.setCell ⟨b, 0, none⟩ u0).setCell ⟨b, 1, none⟩ u1).setCell ⟨b, 2, none⟩ u2).setCell ⟨b, 3, none⟩ u3).setCell ⟨b, 4, none⟩ u4) :=
  (((((Touch.refl (AndB F b) w).set_ (p := ⟨b, 0, none⟩) (Or.inl (Or.inr rfl)) _).set_ (p := ⟨b, 1, none⟩) (Or.inl (Or.inr rfl)) _).set_ (p := ⟨b, 2, none⟩) (Or.inl (Or.inr rfl)) _).set_ (p := ⟨b, 3, none⟩) (Or.inl (Or.inr rfl)) _).set_ (p := ⟨b, 4, none⟩) (Or.inl (Or.inr rfl)) _
theorem ref_w1 (w : World) (x0 x1 x2 x3 x4 : Value) :
    Below w.heap.size w ((w.alloc (.cells #[x0, x1, x2, x3, x4] 32)).alloc (.cells #[.slice none 0 0, .slice none 0 0, .int .i64 0, .slice none 0 0, .int .i64 0] 32)) ∧
    Blk ((w.alloc (.cells #[x0, x1, x2, x3, x4] 32)).alloc (.cells #[.slice none 0 0, .slice none 0 0, .int .i64 0, .slice none 0 0, .int .i64 0] 32)) w.heap.size 32 #[x0, x1, x2, x3, x4] ∧
    Blk ((w.alloc (.cells #[x0, x1, x2, x3, x4] 32)).alloc (.cells #[.slice none 0 0, .slice none 0 0, .int .i64 0, .slice none 0 0, .int .i64 0] 32)) (w.heap.size + 1) 32 #[.slice none 0 0, .slice none 0 0, .int .i64 0, .slice none 0 0, .int .i64 0] := by
  refine ⟨((Below.refl _ _).alloc (Nat.le_refl _) _).alloc (by simp) _, (Blk.new w _ _).alloc _, ?_⟩
  have := Blk.new (w.alloc (.cells #[x0, x1, x2, x3, x4] 32)) 32 #[.slice none 0 0, .slice none 0 0, .int .i64 0, .slice none 0 0, .int .i64 0]
  simp at this
  exact this
/-- What the reference leaves: a log, told in some way. -/
def RefP (F : Nat → Prop) (f : Value → Value) (L T : List UInt8) (q m : Nat) (rs : List Rc) (w : World) (e : Ending) (w' : World) : Prop :=
  ∃ AL cL AT cT R c vs, vs.map rcOf = rs ∧ e = .returned (f (.agg #[.slice AL L.length cL, .slice AT T.length cT, .int .i64 (q : Int), .slice R vs.length c, .int .i64 (m : Int)])) ∧ RefL w' F AL cL AT cT R c L T vs ∧ Below w.heap.size w w'
end Go.Proofs.Ytkagfjjocmjeoaa
