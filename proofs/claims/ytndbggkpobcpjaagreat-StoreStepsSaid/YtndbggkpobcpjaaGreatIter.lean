/- slices.Backward over records: its iterator's contract. -/
import Derived.RangeFuncNested
import Derived.RangeFuncBound
import Derived.RangeFuncCalls
import Derived.RangeFuncLeaves
import Derived.RangeFuncBox
import Derived.Shelf.Abstract
import Derived.Shelf.RegionOpen
import Derived.WalkKit
import Derived.OwnWalkIn
import Derived.TacticsInMore
import Derived.LoopNIn
import Derived.LoopIn
import Derived.Test.YtndbggkpobcpjaaGreatLog
namespace Go.Proofs.YtndbggkpobcpjaaGreat
open Go.RowKit Mem Be Word Frm
attribute [local go_sem] Oper.semAt_some
set_option maxRecDepth 100000
set_option maxHeartbeats 2000000
set_option linter.unusedVariables false
/-- What comes in round j: the index, counted down, and the record there. -/
def bkF (vs : List RecV) (j : Nat) : Nat × RecV := (vs.length - 1 - j, (vs[vs.length - 1 - j]?).getD (0, none, [], 0))
theorem bkF_at (vs : List RecV) (k : Nat) (h : k < vs.length) : bkF vs k = (vs.length - 1 - k, vs[vs.length - 1 - k]) := by unfold bkF; rw [List.getElem?_eq_getElem (by omega)]; rfl
def bkU (vs : List RecV) (k : Nat) : List (Nat × RecV) := (List.range k).map (bkF vs)
theorem bkU_succ (vs : List RecV) (k : Nat) : bkU vs (k + 1) = bkU vs k ++ [bkF vs k] := by simp [bkU, List.range_succ]
theorem bkU_length (vs : List RecV) (k : Nat) : (bkU vs k).length = k := by simp [bkU]
theorem bkU_mem (vs : List RecV) {j k : Nat} (h : j < k) : bkF vs j ∈ bkU vs k := List.mem_map.2 ⟨j, List.mem_range.2 h, rfl⟩
/-- A record with its index, as they come. -/
abbrev BkR (vs : List RecV) := { x : Nat × RecV // vs[x.1]? = some x.2 }
def encR (x : Nat × RecV) : Array Value := #[.int .i64 (x.1 : Int), .agg #[.int .u8 (x.2.1.toNat : Int), .slice x.2.2.1 x.2.2.2.1.length x.2.2.2.2]]
theorem back1_in (F : Fence) (n : Nat) (hf : F.fn 147) (hro : F.round = none) (hn : 1 ≤ n) (l Bs n₀ len cap : Nat) (A : Option Addr) (vs : List RecV) (hlen : len = vs.length) (hl : vs.length ≤ 1000000000) (J Jx : List (BkR vs) → World → Prop)
    (hY : ∀ pre x W, J pre W → pre.length < len → YieldAt F (n - 1) Tryz.prog l (encR x.1) W fun e W' =>
      (e = .returned (.bool true) ∧ J (pre ++ [x]) W' ∧ Below n₀ W W') ∨ (e = .returned (.bool false) ∧ Jx (pre ++ [x]) W'))
    (W : World) (hBs : W.cell? ⟨Bs, 0, none⟩ = some (.slice A len cap)) (hb : Bs < n₀) (hc : Row W n₀ A (recsC vs)) (h0 : J [] W) :
    CallsIn F n Tryz.prog 147 #[.func (.yield l) #[] #[], .pointer (some ⟨Bs, 0, none⟩)] W fun e W' => (∃ v, e = .returned v) ∧
      ((∃ ys, ys.map Subtype.val = bkU vs len ∧ J ys W') ∨ (∃ pre, (∃ k, k ≤ len ∧ pre.map Subtype.val = bkU vs k) ∧ Jx pre W')) := by
  subst hlen
  have hli : (vs.length : Int) ≤ 1000000000 := by omega
  have hl0 : (0 : Int) ≤ (vs.length : Int) := by omega
  refine callsIn_of_wp Tryz.func147 rfl hf ?_ hro
  simp only [Tryz.ntmps147, List.size_toArray, List.length_cons, List.length_nil, Nat.reduceAdd, Nat.reduceSub, Array.replicate_succ, Array.replicate_zero, List.push_toArray, List.append_toArray, List.nil_append, List.cons_append]
  gi_wp2
  gi_loopw [3] (fun i wr => ∃ k : Nat, k ≤ vs.length ∧ i = .int .i64 ((vs.length : Int) - 1 - (k : Int)) ∧ (∃ pre : List (BkR vs), pre.map Subtype.val = bkU vs k ∧ J pre wr) ∧ Below n₀ W wr)
    (fun i _ => (intOf i + 1).toNat)
  case atStart => exact ⟨0, Nat.zero_le _, by simp, ⟨[], rfl, h0⟩, Below.refl _ _⟩
  case round =>
    obtain ⟨k, hk, rfl, ⟨pre, hpre, hJs⟩, hnx⟩ := hrel
    have hbs : wr.cell? ⟨Bs, 0, none⟩ = some (.slice A vs.length cap) := (hnx.cell (p := ⟨Bs, 0, none⟩) hb).trans hBs
    by_cases hlt : k < vs.length
    · have hj : vs.length - 1 - k < vs.length := by omega
      obtain ⟨b, o, rfl, hbb, hcc⟩ := recs_open hc (by omega)
      obtain ⟨c0, c1⟩ := hcc (vs.length - 1 - k) hj
      have e0 : wr.cell? ⟨b, o + (vs.length - 1 - k) * 2, none⟩ = _ := (hnx.cell (p := ⟨b, _, none⟩) hbb).trans c0
      have e1 : wr.cell? ⟨b, o + (vs.length - 1 - k) * 2 + 1, none⟩ = _ := (hnx.cell (p := ⟨b, _, none⟩) hbb).trans c1
      have hx : bkF vs k = (vs.length - 1 - k, vs[vs.length - 1 - k]) := by unfold bkF; rw [List.getElem?_eq_getElem hj]; rfl
      have hmem : vs[(bkF vs k).1]? = some (bkF vs k).2 := by rw [hx]; exact List.getElem?_eq_getElem hj
      obtain ⟨fn, tmps, assign, body, hy, hR⟩ := hY pre ⟨bkF vs k, hmem⟩ wr hJs (by have := congrArg List.length hpre; rw [List.length_map, bkU_length] at this; omega)
      simp only [hx] at hy
      unfold encR at hy
      dsimp only at hy
      obtain ⟨p, hp⟩ : ∃ p, vs.length - 1 - k = p := ⟨_, rfl⟩
      have hpi : (vs.length : Int) - 1 - (k : Int) = (p : Int) := by omega
      have hp0 : (0 : Int) ≤ (p : Int) := by omega
      have hp1 : (p : Int) < (vs.length : Int) := by omega
      obtain ⟨⟨kd, A1, y, c1'⟩, hv⟩ : ∃ v, vs[vs.length - 1 - k] = v := ⟨_, rfl⟩
      rw [hv] at e0 e1 hy
      simp only [hp] at e0 e1 hy
      rw [hpi]
      clear c0 c1 hcc hv
      gi_wp2
      refine hR.mono ?_
      rintro e W3 (⟨rfl, hJ3, hk3⟩ | ⟨rfl, hJx3⟩)
      · gi_wp2
        go_roundw
        case rel => exact ⟨k + 1, by omega, by congr 1; omega, ⟨pre ++ [⟨bkF vs k, hmem⟩], by rw [List.map_append, hpre, bkU_succ]; rfl, hJ3⟩, hnx.trans hk3⟩
        case measure => simp [intOf] <;> omega
      · gi_wp2
        refine bodyPost_ret (results_none rfl _ _ _) rfl ?_
        exact ⟨⟨_, rfl⟩, .inr ⟨_, ⟨k + 1, by omega, by rw [List.map_append, hpre, bkU_succ]; rfl⟩, hJx3⟩⟩
    · obtain rfl : k = vs.length := by omega
      have he : (vs.length : Int) - 1 - (vs.length : Int) = -1 := by omega
      rw [he]
      gi_wp2
      go_end0
      exact ⟨⟨_, rfl⟩, .inl ⟨_, hpre, hJs⟩⟩
theorem back_in (F : Fence) (n : Nat) (hf : F.fn 124) (hro : F.round = none) (a : Option Addr) (len cap : Nat) (w : World) :
    CallsIn F n Tryz.prog 124 #[.slice a len cap] w fun e w' => e = .returned (.func (.func 147) #[] #[.pointer (some ⟨w.heap.size, 0, none⟩)]) ∧ w' = w.alloc (.cells #[.slice a len cap] 30) := by
  refine callsIn_of_wp Tryz.func124 rfl hf ?_ hro
  simp only [Tryz.ntmps124, List.size_toArray, List.length_cons, List.length_nil, Nat.reduceAdd, Nat.reduceSub, Array.replicate_succ, Array.replicate_zero, List.push_toArray, List.append_toArray, List.nil_append, List.cons_append]
  gi_wp2
  go_ret
  exact ⟨rfl, rfl⟩
theorem back_stops (F : Fence) (n : Nat) (hf : F.fn 147) (hro : F.round = none) (hn : 1 ≤ n) (Bs n₀ len cap : Nat) (A : Option Addr) (vs : List RecV) (hlen : len = vs.length) (hl : vs.length ≤ 1000000000) (w : World) (hBs : Bs < n₀) (hn₀ : n₀ ≤ w.heap.size)
    (hc : w.cell? ⟨Bs, 0, none⟩ = some (.slice A len cap)) (hI : Row w n₀ A (recsC vs)) :
    SeqStopsK F n Tryz.prog 147 #[.pointer (some ⟨Bs, 0, none⟩)] (fun x : BkR vs => encR x.1) (Below n₀) (fun ys => ys.map Subtype.val = bkU vs len) (fun pre => ∃ k, k ≤ len ∧ pre.map Subtype.val = bkU vs k) len w := fun l J Jx W hW _ _ hY h0 => by
  have hc' := (hW.cell (p := ⟨Bs, 0, none⟩) (by show Bs < _; omega)).trans hc
  exact back1_in F n hf hro hn l Bs n₀ len cap A vs hlen hl J Jx hY W hc' hBs (hI.below (hW.mono hn₀)) h0
end Go.Proofs.YtndbggkpobcpjaaGreat
