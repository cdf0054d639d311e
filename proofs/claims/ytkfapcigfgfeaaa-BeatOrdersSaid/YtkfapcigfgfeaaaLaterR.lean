/- LaterR: A load of a whole variable (a struct of whatever many cells) in a region that draws its order and is walked in the class of later worlds. -/
import Derived.Test.YtkfapcigfgfeaaaCore
import Derived.Laws.Rows
import Derived.BigQuiet
namespace Go.Proofs.Ytkfapcigfgfeaaa
open Go.RowKit Mem
set_option maxRecDepth 10000
set_option maxHeartbeats 2000000
set_option linter.unusedVariables false
theorem quiet_loadrow {P : Program} {W : World} {a : Act} {K : Act → Prop} {o : Oper} (ty : TypeId) (x : Operand) (ho : o.op = .load ty x) (g : Nat) (hx : a.eval x = .pointer (some ⟨g, 0, none⟩)) {t : TypeId} {cs : Array Value} (h : ∀ p : Later W, Blk p.world g t cs) {d : TypeDesc}
    (hu : P.underlying ty = some d) (hd : (match d with | .struct _ | .array _ _ => true | _ => false) = true) (hi : (P.info? ty).map (·.size) = some cs.size) (hk : K (a.put o.dst (.agg cs))) : o.quiet P a (fun w' => ∃ p : Later W, w' = p.world) K :=
  ⟨.agg cs, fun w hw => by
    obtain ⟨p, rfl⟩ := hw
    unfold Oper.quietAt execOp
    simp only [ho, hx, Instr.loadAt, Instr.sureAddr, Sem.run_bind, Sem.run_pure, Result.andThen_ok, run_loadVar_row p.world g t ty cs (0, 0) d (h p) hu hd hi]
    exact ⟨rfl, rfl⟩, hk⟩
end Go.Proofs.Ytkfapcigfgfeaaa
