/- BtL: A call of a function without a body, whose answer its arguments fix, in a region that draws its order and is walked in the class of later worlds. -/
import Derived.Test.YtkfapcigfgfeaaaLaterR
namespace Go.Proofs.Ytkfapcigfgfeaaa
open Go.RowKit Mem
set_option maxRecDepth 10000
set_option maxHeartbeats 2000000
set_option linter.unusedVariables false
instance laterNonempty (w : World) : Nonempty (Later w) := ⟨⟨w, Below.refl _ _⟩⟩
theorem quiet_run {P : Program} {W : World} {a : Act} {K : Act → Prop} {o : Oper} (f : FuncId) (xs : Array Operand) (tys : Array TypeId) (ho : o.op = .call { callee := .value (.func f), args := xs, argTypes := tys }) (vs : Array Value) (hx : xs.map a.eval = vs) (v : Value)
    (hr : ∀ w, (callFunc f vs).run P w = Result.ok (Next.value v) w) (hk : K (a.put o.dst v)) : o.quiet P a (fun w' => ∃ p : Later W, w' = p.world) K :=
  ⟨v, fun w hw => by
    obtain ⟨p, rfl⟩ := hw
    unfold Oper.quietAt execOp
    have hr' := hr p.world
    rw [← hx] at hr'
    simp only [ho, resolve, Deferred.ofValue, Act.eval, invoke, Sem.run_bind, Sem.run_pure, Result.andThen_ok, Array.append_empty, Array.empty_append] at hr' ⊢
    rw [hr']
    exact ⟨rfl, rfl⟩, hk⟩
end Go.Proofs.Ytkfapcigfgfeaaa
