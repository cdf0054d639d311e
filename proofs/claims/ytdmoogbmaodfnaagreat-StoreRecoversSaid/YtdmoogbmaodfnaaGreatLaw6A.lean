/- The law DiskSyncs, walked. -/
import Derived.Test.YtdmoogbmaodfnaaGreatDone
namespace Go.Proofs.YtdmoogbmaodfnaaGreat
open Go.RowKit Mem
set_option maxRecDepth 100000
set_option maxHeartbeats 2000000
set_option linter.unusedVariables false
theorem same6_true (B B' c c' n n' : Nat) (A A' : Option Addr) (xs : List UInt8) (w : World) (h : Row w B A (xs.map byteV)) (h' : Row w B' A' (xs.map byteV)) (hn : n = xs.length) (hn' : n' = xs.length) :
    Calls Tryz.prog 33 #[.slice A n c, .slice A' n' c'] w fun e w' => e = .returned (.bool true) ∧ w = w' := by
  have := same_any B B' c c' n n' A A' xs xs w h h' hn hn'
  rw [show (xs == xs) = true by simp] at this
  exact this
theorem RowN.step {F F' : Nat → Prop} {w w1 : World} {A : Option Addr} {xs : List Value} (h : RowN F w A xs) (ht : Touch F w w1) (hf : ∀ k, F' k → F k ∨ w.heap.size ≤ k) : RowN F' w1 A xs := by
  rcases h with h | ⟨b, o, e, hb, hl, hc⟩
  · exact Or.inl h
  · refine Or.inr ⟨b, o, e, fun hx => ?_, Nat.lt_of_lt_of_le hl ht.size, fun j hj => (World.cell?_of_block (ht.block b hl hb)).trans (hc j hj)⟩
    rcases hf b hx with h1 | h1
    · exact hb h1
    · omega
theorem RowN.below {F : Nat → Prop} {w w1 : World} {A : Option Addr} {xs : List Value} (h : RowN F w A xs) (hb : Below w.heap.size w w1) : RowN F w1 A xs := h.touch (Touch.ofBelow hb)
theorem rowN_made {F : Nat → Prop} {w w1 : World} {A : Option Addr} {n c : Nat} {xs : List Value} (hF : ∀ k, F k → k < w.heap.size) (ho : w1.ownsRow w.heap.size 5 1 (.slice A n c) n xs) : RowN F w1 A xs := by
  rcases Row.of_own ho with h | ⟨b, o, rfl, hb, hc⟩
  · exact Or.inl h
  · exact Or.inr ⟨b, o, rfl, fun hf => by have := hF b hf; have h2 := (ownIn ho rfl).1; simp only at h2; omega, hb, hc⟩
/-- A disk of a statement's own, in blocks that are new since w0. -/
structure Dk1 (w0 w : World) (F : Nat → Prop) (g : Nat) (L T : List UInt8) (q : Nat) : Prop where
  new : NewF w0 F
  at_ : DkAt dk0 w F g L T q
  bel : Below w0.heap.size w0 w
theorem Dk1.below {w0 w w1 : World} {F : Nat → Prop} {g q : Nat} {L T : List UInt8} (h : Dk1 w0 w F g L T q) (hb : Below w.heap.size w w1) : Dk1 w0 w1 F g L T q := ⟨h.new, h.at_.below hb, h.bel.trans (hb.mono h.bel.size)⟩
theorem Dk1.to {w0 w w1 : World} {F F' : Nat → Prop} {g q q' : Nat} {L T L' T' : List UInt8} (h : Dk1 w0 w F g L T q) (hf : ∀ k, F' k → F k ∨ w.heap.size ≤ k) (hd : DkAt dk0 w1 F' g L' T' q') (ht : Touch F w w1) : Dk1 w0 w1 F' g L' T' q' :=
  ⟨newF_step h.new h.bel.size hf, hd, h.bel.trans (ht.below h.bel.size h.new)⟩
theorem upN_nil (q : Nat) : upN [] q = q := rfl
theorem upN_le (T : List UInt8) (q : Nat) : upN T q ≤ q + 1 := by unfold upN; split <;> omega
theorem doS_n (L T : List UInt8) (n : Nat) (k : Int) (bs : List UInt8) (kp : Int) : (doS L T n k bs kp).2.2.1 ≤ n + 1 := by
  have := upN_le T n
  unfold doS
  (repeat' split) <;> simp <;> omega
end Go.Proofs.YtdmoogbmaodfnaaGreat
