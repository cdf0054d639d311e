/- A copy of a server of package depot goes on as the other one does, and is its owner's: whatever is done to one of them (messages, ticks, compactions, crashes), the other is as it was; done to both, both tell the same, and are the same (things that are together more than 2000 are passed over by the law itself); the law returns true for every input of bulk at most 1048576, and leaves its arguments and all memory that was there as they were. -/
import Derived.Test.YtkdpfjenjcpcfaaGreatDoorRows
import Derived.Test.YtkdpfjenjcpcfaaGreatDoorTie
import Derived.Test.YtkdpfjenjcpcfaaGreatDoorCards
import Derived.Test.YtkdpfjenjcpcfaaGreatDoorSvCo
import Derived.Test.YtkdpfjenjcpcfaaGreatDoorXZ
import Derived.Test.YtkdpfjenjcpcfaaGreatDoorMZ1
import Derived.Test.YtkdpfjenjcpcfaaGreatDoorSZ3
import Derived.Test.YtkdpfjenjcpcfaaGreatDoorCondTied
import Derived.WalkKit
import Derived.ProofKit
import Derived.OpenShut
import Derived.ShutString
import Derived.ChangeOld
import Derived.Below
import Derived.JoinedCond
import Derived.LaidMore
import Derived.Stop.Joined
import Derived.SevenTiedAt
namespace Go.Proofs.YtkdpfjenjcpcfaaGreatDoor.depotCopies
open Go.ChangeShapes Go.WideShapes Go.ChangeAt Go.RowKit
open Go.ChangeMaps (open_string shut_string)
set_option linter.unusedVariables false
theorem own : ownKnob Tryz.prog.godebug = none := by kernel_rfl
theorem laidOut : laidOutB Tryz.prog = true := by kernel_rfl
def IsRow (k : IntKind) (w : World) (a : Option Addr) (len cap : Nat) (zs : List Int) : Prop :=
  (a = none ∧ len = 0 ∧ cap = 0 ∧ zs = []) ∨
  ∃ x, a = some x ∧ len ≤ cap ∧ cap ≤ maxLen ∧ zs.length = cap ∧ (∀ i, i < zs.length → w.cell? (x.add i) = some (.int k (zs.getD i 0))) ∧ ∀ n ∈ zs, (Lit.int k n).wf = true
set_option maxHeartbeats 1000000 in
set_option maxRecDepth 100000 in
theorem contract (H : Type) (enc : TypeId × Value → H) (W : World) (base : Nat) (args : Array Value) (ds gs : List (DataW H)) (before : List MemPlace)
    (hval0 : ∀ (j : Nat) t v, Tryz.f5.params[j]? = some t → args[j]? = some v → Value.okWide Tryz.prog W .any base t v)
    (hW : DataW.Whole enc Tryz.prog Tryz.f5.params.toList Rows.depotCopiesSpec.vars false W args.toList ds gs before) (hk : Rows.uptoSmall H (ds ++ gs) = true) (hL : laidMetH Tryz.prog laid12 W) :
    Calls Tryz.prog 5 args W fun e W' => ∃ v, e = .returned v ∧ Rows.depotCopiesSpec.post enc Tryz.prog Tryz.f5 false true false false W args v W' := by
  have hkt := kt_of_laid hL
  have hval : ∀ (j : Nat) t v, Tryz.f5.params[j]? = some t → args[j]? = some v → Value.okWide Tryz.prog W .any base t v := hval0
  have hW' := hW
  obtain ⟨p, q, hA0, hV, rfl, hfz, hnd⟩ := hW
  have hA : DataW.TrodAll enc Tryz.prog W 0 (fun _ => true) true Tryz.f5.params.toList args.toList ds p := hA0
  rw [Tryz.params5] at hA hval
  obtain ⟨v0, vs0, d0, ds0, p0, q0, hargs, rfl, rfl, h0, r0⟩ := trodAll_cons hA
  obtain ⟨v1, vs1, d1, ds1, p1, q1, rfl, rfl, rfl, h1, r1⟩ := trodAll_cons r0
  obtain ⟨rfl, rfl, rfl⟩ := trodAll_nil r1
  obtain rfl : args = #[v0, v1] := by cases args; simp_all
  obtain ⟨rfl, rfl⟩ := trodVars_none hV
  have k0 := h0
  have lt0 : ∀ x ∈ p0, x.block < W.heap.size := by obtain ⟨m, hm⟩ := k0; exact DataW.trod_lt m _ _ _ hm
  obtain ⟨a0, len0, cap0, rfl⟩ := okWide_slice Tryz.underlying22 (hval 0 22 v0 rfl rfl)
  have k1 := h1
  have lt1 : ∀ x ∈ p1, x.block < W.heap.size := by obtain ⟨m, hm⟩ := k1; exact DataW.trod_lt m _ _ _ hm
  obtain ⟨a1, len1, cap1, rfl⟩ := okWide_slice Tryz.underlying22 (hval 1 22 v1 rfl rfl)
  clear hA0 hval0 hL
  have hkb0 : Rows.uptoBulk d0 ≤ 1048576 := Nat.le_trans (Bulk.mem_bulk (by simp)) (of_decide_eq_true hk)
  have hkb1 : Rows.uptoBulk d1 ≤ 1048576 := Nat.le_trans (Bulk.mem_bulk (by simp)) (of_decide_eq_true hk)
  obtain ⟨rs, hn, _, _, hin⟩ := open_ops h0
  obtain ⟨ts, hm, _, _, hjn⟩ := open_ops h1
  have hb1 := (bulk_ops h0 hn hin).1
  have hb2 := (bulk_ops h1 hm hjn).1
  refine (copies14_walk a0 a1 rs ts len0 cap0 len1 cap1 hn hm (by omega) (by omega) W hkt hin hjn).mono fun e W' ⟨he, bel⟩ => ?_
  subst he
  exact ⟨_, rfl, _, _, _, [], _, [], hW', trodAll_mk1 (shut_bool Tryz.underlying4 _), (trodAll_cons_mk (Below.trod laidOut (by kernel_rfl) (of_decide_eq_true (by kernel_rfl)) k0 bel lt0) (trodAll_cons_mk (Below.trod laidOut (by kernel_rfl) (of_decide_eq_true (by kernel_rfl)) k1 bel lt1) trodAll_mk0)), rfl, bel.frame _, fun h => by cases h⟩
set_option maxRecDepth 100000 in
theorem lifted (os : Os) (started : os.Started) (H : Type) (enc : TypeId × Value → H) (F : Stop.Interp) :
    ReturnsInHanded {} Tryz.checked os 5 .any (fun w args => ((Rows.OpenSpec.upto Rows.depotCopiesSpec).pre enc Tryz.prog Tryz.f5 Rows.depotCopiesUptoRow.domain false w args ∧ laidMetH Tryz.prog laid12 w) ∧ sizedMet enc Tryz.prog Tryz.f5 (Rows.OpenSpec.upto Rows.depotCopiesSpec) false w args)
      (((Rows.OpenSpec.upto Rows.depotCopiesSpec).at F).post enc Tryz.prog Tryz.f5 false true false false) := by
  refine Mem.cond_tied (C := Tryz.checked) (s := Rows.OpenSpec.upto Rows.depotCopiesSpec) (k := Rows.uptoSmall) (X := fun w _ => laidMetH Tryz.prog laid12 w) rfl (fun _ _ _ hh h => h.of_heap hh) own started (by kernel_rfl) Tryz.func5
    (Mem.cond_tied_witness (enc := enc) (C := Tryz.checked) (os := os) (s := Rows.OpenSpec.upto Rows.depotCopiesSpec) (k := Rows.uptoSmall) (X := fun w _ => laidMetH Tryz.prog laid12 w) rfl false (World.doorLaid Tryz.prog 31 os) #[.slice none 0 0, .slice none 0 0] 8 rfl (World.shaped_of_RefB (by kernel_rfl) (by kernel_rfl)) (by kernel_rfl)
      (x := ([.nil, .nil], [], [])) (by kernel_rfl) rfl (by kernel_rfl) (by kernel_rfl) (door_met12 os _)) ?_
  intro W base args ds gs before hval hW hk hL
  exact contract H enc W base args ds gs before hval hW hk hL
theorem over : Rows.depotCopiesUptoRow.holds Tryz.pinned (Rows.OpenSpec.upto Rows.depotCopiesSpec) :=
  OpenClaim.holds_of_cond 5 Tryz.f5 rfl rfl rfl rfl rfl rfl rfl ⟨rfl, rfl, rfl, rfl, rfl⟩ rfl rfl rfl rfl rfl (by kernel_rfl) Tryz.func5 (by kernel_rfl)
    (of_decide_eq_true (by kernel_rfl)) (by unfold Func.isWrapper; first | (rw [if_pos (by decide +kernel)]; kernel_rfl) | (rw [if_neg (by decide +kernel)]; exact ⟨rfl, rfl⟩))
    (fun os started H enc _ F => lifted os started H enc F)
theorem proved : Rows.DepotCopiesUptoCardSaid :=
  Claim7.holds_tied_plain_at .later [] [.data] true (true, "50d1eb5b7fd9a6255dab3d5e2a30ad26cf92a8b6d885209db70749248d02f98f") false
    over (fun _ h => by cases h) (by kernel_rfl) (fun _ h => by cases h) depotCopiesUpto_row_tie rfl ⟨rfl, rfl⟩ (by kernel_rfl) rfl
    (fun f fn hf hfn => by
      obtain rfl : f = 5 := Option.some.inj ((show Tryz.prog.funcNamed "icehouse/icehouselaw14.DepotCopies" = some 5 by kernel_rfl).symm.trans hf) |>.symm
      obtain rfl : fn = Tryz.f5 := (Option.some.inj (Tryz.func5.symm.trans hfn)).symm
      exact ⟨by kernel_rfl, fun j t ht => by
        rw [Tryz.params5] at ht
        have hm : t ∈ [22, 22] := by simpa using Array.mem_of_getElem? ht
        have hall : ([22, 22].all fun u => !Tryz.prog.wantsStandIn u) = true := by kernel_rfl
        exact (show Tryz.prog.wantsStandIn t = false by simpa using List.all_eq_true.1 hall t hm)⟩)
    (by kernel_rfl)
#print axioms proved
end Go.Proofs.YtkdpfjenjcpcfaaGreatDoor.depotCopies
