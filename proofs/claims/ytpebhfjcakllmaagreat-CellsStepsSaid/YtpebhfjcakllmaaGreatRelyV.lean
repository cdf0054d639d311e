/- RelyV: A region that draws its order, with loads, calls that make memory of their own, and stores into some boxes: each operation's value by a predicate, each box by what is known of it before and behind its store (for RelyJ). -/
import Derived.Test.YtpebhfjcakllmaaGreatCore
import Derived.Test.YtpebhfjcakllmaaGreatRelyJ
import Derived.Test.YtpebhfjcakllmaaGreatRelyL
import Derived.Test.YtpebhfjcakllmaaGreatBoxT
import Derived.Test.YtpebhfjcakllmaaGreatDk
namespace Go.Proofs.YtpebhfjcakllmaaGreat
open Go.RowKit Mem RelyJ
set_option maxRecDepth 10000
set_option maxHeartbeats 2000000
set_option linter.unusedVariables false
structure Stab (Fx : Nat → Prop) (V : Nat → Value → World → Prop) (pre post : Nat → World → Prop) : Prop where
  v : ∀ i u w w', V i u w → Touch Fx w w' → V i u w'
  pre : ∀ s w w', pre s w → Below w.heap.size w w' → pre s w'
  post : ∀ s w w', post s w → Below w.heap.size w w' → post s w'
/-- L: the stores. -/
structure JV (Fx : Nat → Prop) (W0 : World) (L : List Nat) (V : Nat → Value → World → Prop) (pre post : Nat → World → Prop) (S : Nat → Bool) (vs : Nat → Value) (w : World) : Prop where
  vals : ∀ i, S i = true → V i (vs i) w
  tou : Touch Fx W0 w
  st : ∀ s ∈ L, (S s = false → pre s w) ∧ (S s = true → post s w)
section
variable {Fx : Nat → Prop} {W0 w w' : World} {L : List Nat} {V : Nat → Value → World → Prop} {pre post : Nat → World → Prop} {S : Nat → Bool} {vs : Nat → Value}
theorem touch_transV {w1 w2 w3 : World} (h : Touch Fx w1 w2) (h' : Touch Fx w2 w3) : Touch Fx w1 w3 :=
  ⟨h'.os.trans h.os, h'.tape.trans h.tape, h'.output.trans h.output, Nat.le_trans h.size h'.size, fun k hk hn => (h'.block k (Nat.lt_of_lt_of_le hk h.size) hn).trans (h.block k hk hn)⟩
theorem JV.start (hp : ∀ s ∈ L, pre s W0) (hst : Stab Fx V pre post) (vs : Nat → Value) : JV Fx W0 L V pre post (fun _ => false) vs W0.drew :=
  ⟨fun i h => (by cases h), Touch.ofBelow (Below.refl _ _).drew, fun s hs => ⟨fun _ => hst.pre s _ _ (hp s hs) (Below.refl _ _).drew, fun h => (by cases h)⟩⟩
theorem upV_val {i : Nat} {v : Value} (h : ∀ j, S j = true → V j (vs j) w) (hk : ∀ j u, V j u w → V j u w') (hv : V i v w') : ∀ j, up S i true j = true → V j (up vs i v j) w' := fun j hj => by
  by_cases e : j = i
  · subst e; rw [up_same]; exact hv
  · rw [up_ne _ _ e] at hj ⊢; exact hk j _ (h j hj)
/-- An operation that stores nothing. -/
theorem JV.step (h : JV Fx W0 L V pre post S vs w) (hst : Stab Fx V pre post) (hb : Below w.heap.size w w') (i : Nat) (hi : ∀ s ∈ L, s ≠ i) (v : Value) (hv : V i v w') : JV Fx W0 L V pre post (up S i true) (up vs i v) w' :=
  ⟨upV_val h.vals (fun j u q => hst.v j u _ _ q (Touch.ofBelow hb)) hv, touch_transV h.tou (Touch.ofBelow hb), fun s hs => by
    rw [up_ne _ _ (hi s hs)]
    exact ⟨fun q => hst.pre s _ _ ((h.st s hs).1 q) hb, fun q => hst.post s _ _ ((h.st s hs).2 q) hb⟩⟩
/-- A store into its box. -/
theorem JV.put (h : JV Fx W0 L V pre post S vs w) (hst : Stab Fx V pre post) (ht : Touch Fx w w') (s : Nat) (hp : post s w') (hv : V s undef w') (ho : ∀ s' ∈ L, s' ≠ s → (pre s' w → pre s' w') ∧ (post s' w → post s' w')) : JV Fx W0 L V pre post (up S s true) (up vs s undef) w' :=
  ⟨upV_val h.vals (fun j u q => hst.v j u _ _ q ht) hv, touch_transV h.tou ht, fun s' hs => by
    by_cases e : s' = s
    · subst e; rw [up_same]; exact ⟨fun q => (by cases q), fun _ => hp⟩
    · rw [up_ne _ _ e]
      exact ⟨fun q => (ho s' hs e).1 ((h.st s' hs).1 q), fun q => (ho s' hs e).2 ((h.st s' hs).2 q)⟩⟩
end
theorem gives_storerow {P : Program} {o : Oper} {a : Act} {w : World} {R : Value → World → Prop} (ty : TypeId) (x y : Operand) (ho : o.op = .store ty x y) (g : Nat) (hx : a.eval x = .pointer (some ⟨g, 0, none⟩)) {cs z : Array Value} {t : TypeId} (hy : a.eval y = .agg cs) (hb : Blk w g t z) (hsz : z.size = cs.size)
    (hi : (P.info? ty).map (·.size) = some cs.size) (h1 : cs.all (·.oneCell') = true) (hr : ∀ w2, Blk w2 g t cs → w.grownBy w2 (some g) → R undef w2) : Rely.gives P o a w R := by
  unfold Rely.gives execOp
  simp only [ho, hx, hy, Instr.storeAt, Instr.sureAddr, Sem.run_bind, Sem.run_pure, Result.andThen_ok, run_storeVar_mid w g 0 ty cs (by rw [← hsz]; exact there_boxT hb) hi h1]
  exact hr _ (setCells_boxT hb cs hsz).1 (setCells_boxT hb cs hsz).2
end Go.Proofs.YtpebhfjcakllmaaGreat
