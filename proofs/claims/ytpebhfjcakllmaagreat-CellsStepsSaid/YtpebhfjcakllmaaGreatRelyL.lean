/- RelyL: A load of a whole variable (a struct of whatever many cells) in a region that draws its order, asked alone. -/
import Derived.Test.YtpebhfjcakllmaaGreatCore
import Derived.Test.YtpebhfjcakllmaaGreatRely
import Derived.Laws.Rows
namespace Go.Proofs.YtpebhfjcakllmaaGreat
open Go.RowKit Mem
set_option maxRecDepth 10000
set_option maxHeartbeats 2000000
set_option linter.unusedVariables false
theorem gives_loadrow {P : Program} {o : Oper} {a : Act} {w : World} {R : Value → World → Prop} (ty : TypeId) (x : Operand) (ho : o.op = .load ty x) (g : Nat) (hx : a.eval x = .pointer (some ⟨g, 0, none⟩)) {cs : Array Value} {t : TypeId} (h : Blk w g t cs) {d : TypeDesc}
    (hu : P.underlying ty = some d) (hd : (match d with | .struct _ | .array _ _ => true | _ => false) = true) (hi : (P.info? ty).map (·.size) = some cs.size) (hr : R (.agg cs) w) : Rely.gives P o a w R := by
  unfold Rely.gives execOp
  simp only [ho, hx, Instr.loadAt, Instr.sureAddr, Sem.run_bind, Sem.run_pure, Result.andThen_ok, run_loadVar_row w g t ty cs (0, 0) d h hu hd hi]
  exact hr
end Go.Proofs.YtpebhfjcakllmaaGreat
