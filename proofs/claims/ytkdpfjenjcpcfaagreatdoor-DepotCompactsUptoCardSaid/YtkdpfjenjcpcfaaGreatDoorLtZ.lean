/- All rows that bytes are, by the program. -/
/- A region that draws its order, in a round of a range over a function: by the law of the regions that stand outside of one (no defer stands in it). No dump is imported here. -/
/- slices.Backward over records: its iterator's contract. -/
/- The first records of a row: 'l[:k]'. -/
/- Package wal: Last. -/
import Derived.Test.YtkdpfjenjcpcfaaGreatDoorSames
import Derived.Test.YtkdpfjenjcpcfaaGreatDoorRefAll
import Derived.Test.YtkdpfjenjcpcfaaGreatDoorPk
import Derived.Deep.LoopGhost
import Derived.OrdersHeld
import Derived.OrdersIn
import Derived.CallsIn
import Derived.Deep.RegionHeld
import Derived.RangeFuncCalls
import Derived.Test.YtkdpfjenjcpcfaaGreatDoorCore
import Derived.RangeFuncNested
import Derived.RangeFuncBound
import Derived.RangeFuncLeaves
import Derived.RangeFuncBox
import Derived.Shelf.Abstract
import Derived.Shelf.RegionOpen
import Derived.WalkKit
import Derived.OwnWalkIn
import Derived.TacticsInMore
import Derived.LoopNIn
import Derived.LoopIn
import Derived.Test.YtkdpfjenjcpcfaaGreatDoorLog
import Derived.Test.YtkdpfjenjcpcfaaGreatDoorRecs
namespace Go.Proofs.YtkdpfjenjcpcfaaGreatDoor
open Go.RowKit Mem Be
set_option maxRecDepth 10000
set_option maxHeartbeats 1000000
theorem own_type_ne {w : World} {b1 b2 : Nat} {t1 t2 : TypeId} {v1 v2 : Value} {n1 n2 : Nat} {x1 x2 : List Value} (h1 : w.ownsRow b1 t1 1 v1 n1 x1) (h2 : w.ownsRow b2 t2 1 v2 n2 x2) (hne : t1 ≠ t2) : v1.ownBlock = none ∨ v1.ownBlock ≠ v2.ownBlock := by
  rcases h1.2 with ⟨rfl, _⟩ | ⟨g, cap, cur, rfl, _, hh, _⟩
  · exact Or.inl rfl
  · right
    rcases h2.2 with ⟨rfl, _⟩ | ⟨g', cap', cur', rfl, _, hh', _⟩
    · simp [Value.ownBlock]
    · intro e
      have : g = g' := by simpa [Value.ownBlock] using e
      subst this
      rw [hh] at hh'
      injection hh' with hh'
      injection hh' with _ ht
      exact hne ht
/-- Each row is memory of its own, of bytes, made since B. -/
def RowsOwn (w : World) (B : Nat) (rs : List RowV) : Prop := ∀ x ∈ rs, w.ownsRow B 5 1 (rowV x) x.2.1.length (x.2.1.map byteV)
theorem RowsOwn.grown {w w' : World} {B B' n : Nat} {rs : List RowV} {v : Value} {xs : List Value} (h : RowsOwn w B rs) (ho : w.ownsRow B' 27 1 v n xs) (hg : w.grownBy w' v.ownBlock) : RowsOwn w' B rs :=
  fun x hx => (h x hx).kept hg (own_type_ne (h x hx) ho (by decide))
theorem RowsOwn.one {w w' : World} {B g : Nat} {rs : List RowV} (h : RowsOwn w B rs) (hg : w.grownBy w' (some g)) (hB : g < B) : RowsOwn w' B rs := fun x hx => (h x hx).kept hg (by
  cases hv : (rowV x).ownBlock with
  | none => exact Or.inl rfl
  | some k => exact Or.inr (fun e => by injection e with e; have := ((h x hx).lt k hv).1; omega))
theorem RowsOwn.row {w : World} {B : Nat} {rs : List RowV} (h : RowsOwn w B rs) : ∀ x ∈ rs, Row w w.heap.size x.1 (x.2.1.map byteV) := fun x hx => Row.of_own (h x hx)
theorem rows_any (B c n : Nat) (A : Option Addr) (bs : List UInt8) (hn : n = bs.length) (w : World) (h : Row w B A (bs.map byteV)) (hB : B ≤ w.heap.size) (hl : n ≤ 1000000) :
    Calls Tryz.prog 179 #[.slice A n c] w (Rows2 (allA getR bs) w) := by
  obtain ⟨i0, hi0, hz0, hz1, hz2⟩ := info_parts info_s
  have HR := Lib.hid h
  have HN := Lib.hid hn
  have HL := Lib.hid hl
  clear h hn
  go_enter Tryz.func179, Tryz.ntmps179
  go_wp2_with fail
  go_step3
  go_wp2_with fail
  refine (new_any _ c _ A bs HN.out _ HR.out hB (by rw [← HN.out]; omega)).mono ?_
  rintro e w1 ⟨g, rfl, hg1, hrd, hb⟩
  have HB1 := Lib.hid hb
  have HG := Lib.hid hg1
  have HD := Lib.hid hrd
  have HG2 := Lib.hid (rd_lt hrd)
  clear hb hg1 hrd
  go_wp2_with fail
  go_step3
  go_wp2_with fail
  go_loopg [5] n (fun gk v wr => ∃ (rest : List UInt8) (acc : List RowV), rest.length ≤ gk ∧ acc.length + rest.length ≤ n ∧ Hid (Rd wr g rest 0) ∧ Hid (wr.ownsRow w1.heap.size 27 1 v acc.length (acc.map rowV)) ∧ Hid (RowsOwn wr w1.heap.size acc) ∧ Hid (join (acc.map (fun x => x.2.1)) (allA getR rest) = allA getR bs) ∧ Hid (Below w.heap.size w wr) ∧ Hid (w1.heap.size ≤ wr.heap.size))
  case atStart => exact ⟨bs, [], by have := HN.out; omega, by have := HN.out; simp; omega, HD, Lib.hid (World.ownsRow_nil _ _ _ _), Lib.hid (fun x hx => by simp at hx), Lib.hid (join_start good_row bs).symm, HB1, Lib.hid (Nat.le_refl _)⟩
  case round =>
    obtain ⟨rest, acc, hr1, hr2, HRD, HO, HX, HJ, HB, HS⟩ := hrel
    have H1 := Lib.hid hr1
    have H2 := Lib.hid hr2
    clear hr1 hr2
    by_cases hlen : rest.length = 0
    · have HXX : Hid ((acc.map (fun x => x.2.1), 0) = allA getR bs) := Lib.hid (by rw [← HJ.out]; exact (join_end _ _ hlen).symm)
      have HE : Hid (endZ rest 0 = 0) := Lib.hid (by unfold endZ; rw [if_pos rfl, if_pos hlen])
      have hle : (rest.length : Int) ≤ 0 := by omega
      clear hlen
      go_wp2_with (first
        | (go_at_call 200; refine (left_any g rest 0 _ HRD.out).mono ?_; rintro e w' ⟨rfl, rfl⟩)
        | (go_at_call 203; refine (end_any g rest 0 _ HRD.out).mono ?_; rw [HE.out]; rintro e w' ⟨rfl, rfl⟩))
      rw [Exit.noGoto_ret]
      go_ret2
      exact rows_of HXX.out HB1.out.size HO.out HB.out HX.out.row
    · have hpos : (0 : Int) < (rest.length : Int) := by omega
      have he := getR_err rest
      have hj := join_step good_row (acc.map (fun x => x.2.1)) rest hlen
      have hj2 := join_err (get := getR) (acc.map (fun x => x.2.1)) rest hlen
      have hst : stepR rest 0 = ((getR rest).1, rest.drop (getR rest).2.1, (getR rest).2.2) := if_pos rfl
      obtain ⟨ys, k2, er, hg⟩ : ∃ x k2 er, getR rest = (x, k2, er) := ⟨_, _, _, rfl⟩
      rw [hg] at he hj hj2 hst
      simp only at he hj hj2 hst
      have HST := Lib.hid hst
      by_cases h0 : er = 0
      · subst h0
        have HJ2 : Hid (join (acc.map (fun x => x.2.1) ++ [ys]) (allA getR (rest.drop k2)) = allA getR bs) := Lib.hid (by rw [← hj rfl]; exact HJ.out)
        obtain ⟨b1, b2⟩ : 1 ≤ k2 ∧ k2 ≤ rest.length := by rcases he with ⟨_, h1, h2⟩ | ⟨_, _, h⟩ <;> omega
        clear hj hj2 he hg hlen hst
        go_wp2_with fail
        refine (left_any g rest 0 _ HRD.out).mono ?_
        rintro e w' ⟨rfl, rfl⟩
        go_wp2_with fail
        refine (row_call g rest 0 _ HRD.out).mono ?_
        rw [HST.out]
        rintro e w2 ⟨A2, c2, rfl, ho, hrd, hgr⟩
        have HO2 := Lib.hid ho
        have HRD2 := Lib.hid hrd
        have HG3 := Lib.hid hgr
        clear ho hrd hgr
        go_wp2_with fail
        refine (failed_no g _ _ HRD2.out).mono ?_
        rintro e w' ⟨rfl, rfl⟩
        have HOL : Hid (w2.ownsRow w1.heap.size 27 1 u5 acc.length (acc.map rowV)) := Lib.hid (HO.out.kept HG3.out (by
          cases hv : u5.ownBlock with
          | none => exact Or.inl rfl
          | some k => exact Or.inr (fun e => by injection e with e; have := (HO.out.lt k hv).1; have := HG2.out; omega)))
        have HB2 : Hid (Below w.heap.size w w2) := Lib.hid (below_grown HB.out HG3.out HB.out.size HG.out)
        have HS2 : Hid (w1.heap.size ≤ w2.heap.size) := Lib.hid (Nat.le_trans HS.out HG3.out.size)
        have HX2 : Hid (RowsOwn w2 w1.heap.size (acc ++ [(A2, ys, c2)])) := Lib.hid (by
          intro x hx
          rcases List.mem_append.1 hx with hx | hx
          · exact HX.out.one HG3.out HG2.out x hx
          · simp only [List.mem_singleton] at hx
            subst hx
            rcases HO2.out.2 with hn | ⟨g', cap, cur, hv, hb', rest'⟩
            · exact ⟨HO2.out.1, Or.inl hn⟩
            · exact ⟨HO2.out.1, Or.inr ⟨g', cap, cur, hv, Nat.le_trans HS.out hb', rest'⟩⟩)
        go_wp2_with (at_builtin; refine wpList_app _ rfl _ _ 147 rfl w1.heap.size 27 i0 (.slice none 0 0) 24 Tryz.underlying147 hi0 hz0 hz1 hz2 rfl _ _ _ rfl (HOL.out.alloc _) (w2.heap.size + 1) _ 1 1 [.slice A2 ys.length c2] rfl rfl (row_one w2 _ _) (one_oneR (A2, ys, c2)) (by have := H2.out; unfold maxLen; omega) (by have := H2.out; omega) (by have := HS2.out; simp; omega) ?_)
        intro v' w3 hown hgr _
        have HO3 : Hid (w3.ownsRow w1.heap.size 27 1 v' (acc ++ [(A2, ys, c2)]).length ((acc ++ [(A2, ys, c2)]).map rowV)) := Lib.hid (by rw [List.map_append, List.length_append]; exact hown)
        have HX3 : Hid (RowsOwn w3 w1.heap.size (acc ++ [(A2, ys, c2)])) := Lib.hid (RowsOwn.grown (w := w2.alloc (.cells #[.slice A2 ys.length c2] 27)) (fun x hx => (HX2.out x hx).alloc _) (HOL.out.alloc _) hgr)
        have HR3 : Hid (Rd w3 g (rest.drop k2) 0) := Lib.hid (rd_grownBy (rd_alloc HRD2.out _) hgr fun k hk => by have := (HOL.out.lt k hk).1; have := HG2.out; omega)
        have HB3 : Hid (Below w.heap.size w w3) := Lib.hid ((HB2.out.alloc HB2.out.size _).grown hgr (by have := HB2.out.size; simp; omega) fun k hk => by have := (HOL.out.lt k hk).1; have := HB1.out.size; omega)
        have HS3 : Hid (w1.heap.size ≤ w3.heap.size) := Lib.hid (by have := HS2.out; have := hgr.size; simp at this; omega)
        have HJ3 : Hid (join ((acc ++ [(A2, ys, c2)]).map (fun x => x.2.1)) (allA getR (rest.drop k2)) = allA getR bs) := Lib.hid (by rw [List.map_append]; exact HJ2.out)
        have HL3 : Hid ((rest.drop k2).length ≤ gk - 1 ∧ (acc ++ [(A2, ys, c2)]).length + (rest.drop k2).length ≤ n ∧ gk - 1 < gk) := Lib.hid (by
          have := H1.out; have := H2.out
          rw [List.length_drop, List.length_append]
          simp
          omega)
        clear hown hgr
        go_wp2
        go_roundg (gk - 1)
        case measure => exact HL3.out.2.2
        case rel => exact ⟨rest.drop k2, acc ++ [(A2, ys, c2)], HL3.out.1, HL3.out.2.1, HR3, HO3, HX3, HJ3, HB3, HS3⟩
      · have HXX : Hid (([], er) = allA getR bs) := Lib.hid (by rw [← HJ.out]; exact (hj2 h0).symm)
        have HE : Hid (endZ (rest.drop k2) er = er) := Lib.hid (end_no _ er h0)
        have HNE := Lib.hid h0
        clear hj hj2 he hg hlen hst h0
        go_wp2_with fail
        refine (left_any g rest 0 _ HRD.out).mono ?_
        rintro e w' ⟨rfl, rfl⟩
        go_wp2_with fail
        refine (row_call g rest 0 _ HRD.out).mono ?_
        rw [HST.out]
        rintro e w2 ⟨A2, c2, rfl, ho, hrd, hgr⟩
        have HRD2 := Lib.hid hrd
        have HB2 : Hid (Below w.heap.size w w2) := Lib.hid (below_grown HB.out hgr HB.out.size HG.out)
        clear ho hrd hgr
        go_wp2_with fail
        refine (failed_yes g _ er HNE.out _ HRD2.out).mono ?_
        rintro e w' ⟨rfl, rfl⟩
        go_wp2_with fail
        refine (end_any g _ er _ HRD2.out).mono ?_
        rw [HE.out]
        rintro e w' ⟨rfl, rfl⟩
        go_wp2
        rw [Exit.noGoto_ret]
        go_ret2
        exact rows_of (rs := []) HXX.out (Nat.le_refl _) (World.ownsRow_nil _ _ _ _) HB2.out (by simp)
end Go.Proofs.YtkdpfjenjcpcfaaGreatDoor
namespace Go.Proofs.YtkdpfjenjcpcfaaGreatDoor
open Go.RowKit Mem
namespace RoundHeld
def noDefer (ops : Array Oper) : Bool := ops.toList.all fun o => match o.op with | .defer _ => false | _ => true
theorem noDefer_spec {ops : Array Oper} (h : noDefer ops = true) {i : Nat} {o : Oper} (ho : ops[i]? = some o) : ∀ c, o.op ≠ .defer c := by
  intro c hc
  have hm : o ∈ ops.toList := by
    rw [Array.mem_toList_iff]
    exact Array.mem_of_getElem? ho
  have := List.all_eq_true.1 h o hm
  rw [hc] at this
  cases this
variable {P : Program} {ops : Array Oper} {Q : Exit → Act → World → Prop} {md : Region.Mode} {l n : Nat}
theorem wpIn_of_wp {o : Oper} (hnd : ∀ c, o.op ≠ .defer c) {a : Act} {w : World} {K : Act → World → Prop} (h : o.wp P a w K Q) : o.wpIn (Fence.wide.inRound l) n P a w K Q := by
  unfold Oper.wp at h
  unfold Oper.wpIn
  refine ⟨fun _ _ => trivial, ?_⟩
  rw [Oper.semAt_eq _ _ _ hnd]
  generalize (execOp a.eval o).run P w = r at *
  cases r with
  | ok x w' =>
    cases x <;> simp only [Oper.upon, Oper.uponIn] at h ⊢ <;> first
      | exact h
      | exact ⟨fun hd => by simp [Fence.wide] at hd, CallsIn.inRound l (callsIn_wide.2 (Calls.mono h fun e w'' he => by cases e <;> exact he))⟩
      | exact ⟨fun hd => by simp [Fence.wide] at hd, fun c cs _ => by
          obtain ⟨v, w'', hr, hs⟩ := h c cs
          exact ⟨v, w'', hr, stepsIn_wide.2 hs⟩⟩
  | halt x w' => cases x <;> exact h
theorem opIn_of_op (hnd : noDefer ops = true) (hL : ¬ LetsOut Q) {i : Nat} {K K' : Act → World → Prop} (hk : ∀ a w, K a w → K' a w) {a : Act} {w : World} (h : wpOp P ops Q i K a w) : wpOpIn (Fence.wide.inRound l) n P ops Q i K' a w := by
  unfold wpOp at h
  unfold wpOpIn
  cases ho : ops[i]? with
  | none => rw [ho] at h; exact hk _ _ h
  | some o =>
    rw [ho] at h
    simp only at h ⊢
    split
    · rename_i hw
      rw [if_pos hw] at h
      rcases h with h | h
      · exact Oper.wpIn_mono hk (wpIn_of_wp (noDefer_spec hnd ho) h)
      · exact absurd h.2 hL
    · rename_i hw
      rw [if_neg hw] at h
      exact ⟨fun _ _ => trivial, hk _ _ h⟩
theorem anyIn_of_any (hnd : noDefer ops = true) (hL : ¬ LetsOut Q) : ∀ (fuel : Nat) (listed : Array Bool) (a : Act) (w : World), wpAny P md ops Q fuel listed a w → wpAnyIn (Fence.wide.inRound l) n P md ops Q fuel listed a w
  | 0, _, _, _, h => h
  | fuel + 1, _, _, _, h => ⟨h.1, fun i hi => opIn_of_op hnd hL (fun a' w' h' => anyIn_of_any hnd hL fuel _ a' w' h') (h.2 i hi)⟩
/-- THE RULE: S is kept by each operation; what yields where S holds is taken first (wpAnyH_take); the others as they come up (wpAnyH_ready, AllReadyH.cons). -/
theorem wpIn_region {S : World → Prop} {id : Nat} {a : Act} {w : World} (hm : P.follows .mixedOrders = true) (hnd : noDefer ops = true) (hL : ¬ LetsOut Q) (hS : S w.drew)
    (h : S w.drew → wpAnyH P .any ops Q S ops.size (Array.replicate ops.size false) a w.drew) : (Code.region id ops true).wpIn (Fence.wide.inRound l) n P Q a w :=
  wpIn_region_any hm (anyIn_of_any hnd hL _ _ _ _ (wpAny_of_held _ _ _ _ (h hS)))
end RoundHeld
end Go.Proofs.YtkdpfjenjcpcfaaGreatDoor
namespace Go.Proofs.YtkdpfjenjcpcfaaGreatDoor
open Go.RowKit Mem Be Word Frm
attribute [local go_sem] Oper.semAt_some
set_option maxRecDepth 100000
set_option maxHeartbeats 2000000
set_option linter.unusedVariables false
/-- What comes in round j: the index, counted down, and the record there. -/
def bkF (vs : List RecV) (j : Nat) : Nat × RecV := (vs.length - 1 - j, (vs[vs.length - 1 - j]?).getD (0, none, [], 0))
theorem bkF_at (vs : List RecV) (k : Nat) (h : k < vs.length) : bkF vs k = (vs.length - 1 - k, vs[vs.length - 1 - k]) := by unfold bkF; rw [List.getElem?_eq_getElem (by omega)]; rfl
def bkU (vs : List RecV) (k : Nat) : List (Nat × RecV) := (List.range k).map (bkF vs)
theorem bkU_succ (vs : List RecV) (k : Nat) : bkU vs (k + 1) = bkU vs k ++ [bkF vs k] := by simp [bkU, List.range_succ]
theorem bkU_length (vs : List RecV) (k : Nat) : (bkU vs k).length = k := by simp [bkU]
theorem bkU_mem (vs : List RecV) {j k : Nat} (h : j < k) : bkF vs j ∈ bkU vs k := List.mem_map.2 ⟨j, List.mem_range.2 h, rfl⟩
/-- A record with its index, as they come. -/
abbrev BkR (vs : List RecV) := { x : Nat × RecV // vs[x.1]? = some x.2 }
def encR (x : Nat × RecV) : Array Value := #[.int .i64 (x.1 : Int), .agg #[.int .u8 (x.2.1.toNat : Int), .slice x.2.2.1 x.2.2.2.1.length x.2.2.2.2]]
theorem back1_in (F : Fence) (n : Nat) (hf : F.fn 197) (hro : F.round = none) (hn : 1 ≤ n) (l Bs n₀ len cap : Nat) (A : Option Addr) (vs : List RecV) (hlen : len = vs.length) (hl : vs.length ≤ 1000000000) (J Jx : List (BkR vs) → World → Prop)
    (hY : ∀ pre x W, J pre W → pre.length < len → YieldAt F (n - 1) Tryz.prog l (encR x.1) W fun e W' =>
      (e = .returned (.bool true) ∧ J (pre ++ [x]) W' ∧ Below n₀ W W') ∨ (e = .returned (.bool false) ∧ Jx (pre ++ [x]) W'))
    (W : World) (hBs : W.cell? ⟨Bs, 0, none⟩ = some (.slice A len cap)) (hb : Bs < n₀) (hc : Row W n₀ A (recsC vs)) (h0 : J [] W) :
    CallsIn F n Tryz.prog 197 #[.func (.yield l) #[] #[], .pointer (some ⟨Bs, 0, none⟩)] W fun e W' => (∃ v, e = .returned v) ∧
      ((∃ ys, ys.map Subtype.val = bkU vs len ∧ J ys W') ∨ (∃ pre, (∃ k, k ≤ len ∧ pre.map Subtype.val = bkU vs k) ∧ Jx pre W')) := by
  subst hlen
  have hli : (vs.length : Int) ≤ 1000000000 := by omega
  have hl0 : (0 : Int) ≤ (vs.length : Int) := by omega
  refine callsIn_of_wp Tryz.func197 rfl hf ?_ hro
  simp only [Tryz.ntmps197, List.size_toArray, List.length_cons, List.length_nil, Nat.reduceAdd, Nat.reduceSub, Array.replicate_succ, Array.replicate_zero, List.push_toArray, List.append_toArray, List.nil_append, List.cons_append]
  gi_wp2
  gi_loopw [3] (fun i wr => ∃ k : Nat, k ≤ vs.length ∧ i = .int .i64 ((vs.length : Int) - 1 - (k : Int)) ∧ (∃ pre : List (BkR vs), pre.map Subtype.val = bkU vs k ∧ J pre wr) ∧ Below n₀ W wr)
    (fun i _ => (intOf i + 1).toNat)
  case atStart => exact ⟨0, Nat.zero_le _, by simp, ⟨[], rfl, h0⟩, Below.refl _ _⟩
  case round =>
    obtain ⟨k, hk, rfl, ⟨pre, hpre, hJs⟩, hnx⟩ := hrel
    have hbs : wr.cell? ⟨Bs, 0, none⟩ = some (.slice A vs.length cap) := (hnx.cell (p := ⟨Bs, 0, none⟩) hb).trans hBs
    by_cases hlt : k < vs.length
    · have hj : vs.length - 1 - k < vs.length := by omega
      obtain ⟨b, o, rfl, hbb, hcc⟩ := recs_open hc (by omega)
      obtain ⟨c0, c1⟩ := hcc (vs.length - 1 - k) hj
      have e0 : wr.cell? ⟨b, o + (vs.length - 1 - k) * 2, none⟩ = _ := (hnx.cell (p := ⟨b, _, none⟩) hbb).trans c0
      have e1 : wr.cell? ⟨b, o + (vs.length - 1 - k) * 2 + 1, none⟩ = _ := (hnx.cell (p := ⟨b, _, none⟩) hbb).trans c1
      have hx : bkF vs k = (vs.length - 1 - k, vs[vs.length - 1 - k]) := by unfold bkF; rw [List.getElem?_eq_getElem hj]; rfl
      have hmem : vs[(bkF vs k).1]? = some (bkF vs k).2 := by rw [hx]; exact List.getElem?_eq_getElem hj
      obtain ⟨fn, tmps, assign, body, hy, hR⟩ := hY pre ⟨bkF vs k, hmem⟩ wr hJs (by have := congrArg List.length hpre; rw [List.length_map, bkU_length] at this; omega)
      simp only [hx] at hy
      unfold encR at hy
      dsimp only at hy
      obtain ⟨p, hp⟩ : ∃ p, vs.length - 1 - k = p := ⟨_, rfl⟩
      have hpi : (vs.length : Int) - 1 - (k : Int) = (p : Int) := by omega
      have hp0 : (0 : Int) ≤ (p : Int) := by omega
      have hp1 : (p : Int) < (vs.length : Int) := by omega
      obtain ⟨⟨kd, A1, y, c1'⟩, hv⟩ : ∃ v, vs[vs.length - 1 - k] = v := ⟨_, rfl⟩
      rw [hv] at e0 e1 hy
      simp only [hp] at e0 e1 hy
      rw [hpi]
      clear c0 c1 hcc hv
      gi_wp2
      refine hR.mono ?_
      rintro e W3 (⟨rfl, hJ3, hk3⟩ | ⟨rfl, hJx3⟩)
      · gi_wp2
        go_roundw
        case rel => exact ⟨k + 1, by omega, by congr 1; omega, ⟨pre ++ [⟨bkF vs k, hmem⟩], by rw [List.map_append, hpre, bkU_succ]; rfl, hJ3⟩, hnx.trans hk3⟩
        case measure => simp [intOf] <;> omega
      · gi_wp2
        refine bodyPost_ret (results_none rfl _ _ _) rfl ?_
        exact ⟨⟨_, rfl⟩, .inr ⟨_, ⟨k + 1, by omega, by rw [List.map_append, hpre, bkU_succ]; rfl⟩, hJx3⟩⟩
    · obtain rfl : k = vs.length := by omega
      have he : (vs.length : Int) - 1 - (vs.length : Int) = -1 := by omega
      rw [he]
      gi_wp2
      go_end0
      exact ⟨⟨_, rfl⟩, .inl ⟨_, hpre, hJs⟩⟩
theorem back_in (F : Fence) (n : Nat) (hf : F.fn 177) (hro : F.round = none) (a : Option Addr) (len cap : Nat) (w : World) :
    CallsIn F n Tryz.prog 177 #[.slice a len cap] w fun e w' => e = .returned (.func (.func 197) #[] #[.pointer (some ⟨w.heap.size, 0, none⟩)]) ∧ w' = w.alloc (.cells #[.slice a len cap] 30) := by
  refine callsIn_of_wp Tryz.func177 rfl hf ?_ hro
  simp only [Tryz.ntmps177, List.size_toArray, List.length_cons, List.length_nil, Nat.reduceAdd, Nat.reduceSub, Array.replicate_succ, Array.replicate_zero, List.push_toArray, List.append_toArray, List.nil_append, List.cons_append]
  gi_wp2
  go_ret
  exact ⟨rfl, rfl⟩
theorem back_stops (F : Fence) (n : Nat) (hf : F.fn 197) (hro : F.round = none) (hn : 1 ≤ n) (Bs n₀ len cap : Nat) (A : Option Addr) (vs : List RecV) (hlen : len = vs.length) (hl : vs.length ≤ 1000000000) (w : World) (hBs : Bs < n₀) (hn₀ : n₀ ≤ w.heap.size)
    (hc : w.cell? ⟨Bs, 0, none⟩ = some (.slice A len cap)) (hI : Row w n₀ A (recsC vs)) :
    SeqStopsK F n Tryz.prog 197 #[.pointer (some ⟨Bs, 0, none⟩)] (fun x : BkR vs => encR x.1) (Below n₀) (fun ys => ys.map Subtype.val = bkU vs len) (fun pre => ∃ k, k ≤ len ∧ pre.map Subtype.val = bkU vs k) len w := fun l J Jx W hW _ _ hY h0 => by
  have hc' := (hW.cell (p := ⟨Bs, 0, none⟩) (by show Bs < _; omega)).trans hc
  exact back1_in F n hf hro hn l Bs n₀ len cap A vs hlen hl J Jx hY W hc' hBs (hI.below (hW.mono hn₀)) h0
end Go.Proofs.YtkdpfjenjcpcfaaGreatDoor
namespace Go.Proofs.YtkdpfjenjcpcfaaGreatDoor
open Go.RowKit Mem Be Word Frm
set_option maxRecDepth 100000
set_option maxHeartbeats 2000000
set_option linter.unusedVariables false
theorem rowR_tail {w : World} {B : Nat} {A : Option Addr} {rs : List RecV} {c k : Nat} (h : Row w B A (recsC rs)) (hc : rs.length ≤ c) (hk : k ≤ rs.length) : Row w B (if c = k then A else A.map (·.add (k * 2))) (recsC (rs.drop k)) := by
  rcases Nat.lt_or_ge k rs.length with hlt | hge
  · obtain ⟨b, o, rfl, hb, hcell⟩ := h.open_ (by rw [recsC_len]; omega)
    rw [if_neg (by omega)]
    have e : (some (⟨b, o, none⟩ : Addr)).map (·.add (k * 2)) = some ⟨b, o + k * 2, none⟩ := by
      show some ((⟨b, o, none⟩ : Addr).add (k * 2)) = _
      unfold Addr.add
      split
      · rename_i h0
        rw [h0]; rfl
      · rfl
    rw [e]
    refine Or.inr ⟨b, o + k * 2, rfl, hb, fun j hj => ?_⟩
    have hd : recsC rs = recsC (rs.take k) ++ recsC (rs.drop k) := by rw [← recsC_app, List.take_append_drop]
    have hl : (recsC (rs.take k)).length = k * 2 := by rw [recsC_len, List.length_take]; congr 1; omega
    rw [recsC_len, List.length_drop] at hj
    have := hcell (k * 2 + j) (by rw [recsC_len]; omega)
    rw [Nat.add_assoc, this]
    congr 1
    simp only [hd]
    rw [List.getElem_append_right (by omega)]
    congr 1
    omega
  · rw [List.drop_of_length_le hge]; exact Row.nil _ _ _
end Go.Proofs.YtkdpfjenjcpcfaaGreatDoor
namespace Go.Proofs.YtkdpfjenjcpcfaaGreatDoor
open Go.RowKit Mem Be Word Frm
attribute [local go_sem] Oper.semAt_some
set_option maxRecDepth 100000
set_option maxHeartbeats 4000000
set_option linter.unusedVariables false
variable {J : LgK}
set_option linter.unusedSimpArgs false
/-- p: how many records there are up to the last snapshot, itself counted; 0: there is none. -/
structure LastIs (rs : List Rc) (p : Nat) : Prop where
  le : p ≤ rs.length
  no : ∀ j (h : j < rs.length), p ≤ j → rs[j].1 ≠ 0
  yes : ∀ k, p = k + 1 → ∃ h : k < rs.length, rs[k].1 = 0
theorem lastIs_unique {rs : List Rc} {p p' : Nat} (h : LastIs rs p) (h' : LastIs rs p') : p = p' := by
  rcases Nat.lt_trichotomy p p' with hl | hl | hl
  · obtain ⟨k, rfl⟩ : ∃ k, p' = k + 1 := ⟨p' - 1, by omega⟩
    obtain ⟨h1, h2⟩ := h'.yes k rfl
    exact absurd h2 (h.no k h1 (by omega))
  · exact hl
  · obtain ⟨k, rfl⟩ : ∃ k, p = k + 1 := ⟨p - 1, by omega⟩
    obtain ⟨h1, h2⟩ := h.yes k rfl
    exact absurd h2 (h'.no k h1 (by omega))
def lastB (rs : List Rc) : Nat → List UInt8
  | 0 => []
  | k + 1 => ((rs[k]?).getD (0, [])).2
/-- What Last tells: the last snapshot's bytes, all records behind it, in new memory. -/
def LastP (rs : List Rc) (w : World) (e : Ending) (w' : World) : Prop :=
  ∃ (p : Nat) (A : Option Addr) (c : Nat) (us : List RecV) (A2 : Option Addr) (c2 : Nat), LastIs rs p ∧ us.map rcOf = rs.drop p ∧ e = .returned (.tuple #[.slice A (lastB rs p).length c, .slice A2 us.length c2]) ∧
    w'.ownsRow w.heap.size 5 1 (.slice A (lastB rs p).length c) (lastB rs p).length ((lastB rs p).map byteV) ∧ w'.ownsRow w.heap.size 168 2 (.slice A2 us.length c2) us.length (recsC us) ∧ RecsO w' w.heap.size us ∧ Below w.heap.size w w'
theorem last_none (vs : List RecV) (h : ∀ x ∈ bkU vs vs.length, x.2.1 ≠ 0) : LastIs (vs.map rcOf) 0 := by
  refine ⟨Nat.zero_le _, fun j hj _ => ?_, fun k hk => by omega⟩
  rw [List.length_map] at hj
  have h1 := h _ (bkU_mem vs (show vs.length - 1 - j < vs.length by omega))
  rw [bkF_at vs _ (by omega)] at h1
  have e : vs.length - 1 - (vs.length - 1 - j) = j := by omega
  simp only [e] at h1
  rw [List.getElem_map]
  exact h1
theorem last_some (vs : List RecV) (k : Nat) (hk : k < vs.length) (h : ∀ x ∈ bkU vs k, x.2.1 ≠ 0) (h0 : (bkF vs k).2.1 = 0) : LastIs (vs.map rcOf) (vs.length - 1 - k + 1) := by
  rw [bkF_at vs k hk] at h0
  refine ⟨by rw [List.length_map]; omega, fun j hj hp => ?_, fun k' hk' => ⟨by rw [List.length_map]; omega, ?_⟩⟩
  · rw [List.length_map] at hj
    have h1 := h _ (bkU_mem vs (show vs.length - 1 - j < k by omega))
    rw [bkF_at vs _ (by omega)] at h1
    have e : vs.length - 1 - (vs.length - 1 - j) = j := by omega
    simp only [e] at h1
    rw [List.getElem_map]
    exact h1
  · obtain rfl : k' = vs.length - 1 - k := by omega
    rw [List.getElem_map]
    exact h0
/-- What stands in the two cells, where a snapshot is found at index i. -/
def LastQ (w : World) (vs : List RecV) (i : Nat) (W : World) : Prop :=
  ∃ (y : List UInt8) (A : Option Addr) (c : Nat) (us : List RecV) (A2 : Option Addr) (c2 : Nat) (h : i < vs.length), vs[i].2.2.1 = y ∧ us.map rcOf = (vs.drop (i + 1)).map rcOf ∧
    Boxed W (w.heap.size + 1) 27 (.slice A y.length c) ∧ Boxed W (w.heap.size + 1 + 1) 30 (.slice A2 us.length c2) ∧
    W.ownsRow w.heap.size 5 1 (.slice A y.length c) y.length (y.map byteV) ∧ W.ownsRow w.heap.size 168 2 (.slice A2 us.length c2) us.length (recsC us) ∧ RecsO W w.heap.size us ∧ Below w.heap.size w W
theorem own_own {β : Type} {B s n : Nat} {e : TypeId} {v : Value} {xs : List Value} : Own (fun (_ : β) W => W.ownsRow B e s v n xs) := fun s W W' row hs hg hr => hs.kept hg (by
  rcases hs.2 with ⟨h1, _⟩ | ⟨g, cap, cur, h1, _, hh, _⟩
  · rw [h1]; exact Or.inl rfl
  · refine Or.inr fun e => ?_
    rw [h1] at e
    obtain ⟨o, ho, hc⟩ := hr g e.symm
    rw [hh] at ho
    injection ho with ho
    subst ho
    cases hc)
theorem lastQ_own {β : Type} (w : World) (vs : List RecV) (f : β → Nat) (B : Nat) (hB : w.heap.size ≤ B) : OwnFrom B (fun (s : β) W => LastQ w vs (f s) W) := fun s W W' row hs hg hr => by
  obtain ⟨y, A, c, us, A2, c2, h, h1, h2, h3, h4, h5, h6, h7, h8⟩ := hs
  have hr2 : ∀ r, row = some r → ∃ o : Obj, W.heap[r]? = some o ∧ o.isCells = false := fun r e => (hr r e).2
  exact ⟨y, A, c, us, A2, c2, h, h1, h2, (boxed_own (β := Unit) _ _ (fun _ => _)) () W W' row h3 hg hr2, (boxed_own (β := Unit) _ _ (fun _ => _)) () W W' row h4 hg hr2, (own_own (β := Unit)) () W W' row h5 hg hr2, (own_own (β := Unit)) () W W' row h6 hg hr2,
    fun r hr3 => (own_own (β := Unit)) () W W' row (h7 r hr3) hg hr2, h8.grown hg (h8.size) (fun k e => Nat.le_trans hB (hr k e).1)⟩
theorem blk_own {β : Type} (Bx : Nat) (t : TypeId) (cs : Array Value) : Own (fun (_ : β) W => Blk W Bx t cs) := fun s W W' row hs hg hr => hs.grown hg (fun e => by
  obtain ⟨o, ho, hc⟩ := hr Bx e.symm
  unfold Blk at hs
  rw [hs] at ho
  injection ho with ho
  subst ho
  cases hc)
theorem below_keeps {B : Nat} {W W' : World} (h : Below W.heap.size W W') : KeepsFrom B W W' := ⟨h.size, fun k o _ hk _ => (h.block k (Array.getElem?_eq_some_iff.1 hk).1).trans hk⟩
theorem lastQ_of {w W w3 w4 : World} {vs us : List RecV} {i c3 c4 : Nat} {y : List UInt8} {A3 A4 : Option Addr} (B : Nat) (hi : i < vs.length) (hy : vs[i].2.2.1 = y) (hB : Below w.heap.size w W) (b2 : Boxed W (w.heap.size + 1) 27 (.slice none 0 0)) (b3 : Boxed W (w.heap.size + 1 + 1) 30 (.slice none 0 0))
    (hb3 : Below W.heap.size W w3) (ho3 : w3.ownsRow W.heap.size 5 1 (.slice A3 y.length c3) y.length (y.map byteV)) (hb4 : Below w3.heap.size w3 w4) (hus : us.map rcOf = (vs.drop (i + 1)).map rcOf)
    (hou : w4.ownsRow w3.heap.size 168 2 (.slice A4 us.length c4) us.length (recsC us)) (hrc : RecsO w4 w3.heap.size us) :
    KeepsFrom B W ((w4.setCell ⟨w.heap.size + 1, 0, none⟩ (.slice A3 y.length c3)).setCell ⟨w.heap.size + 1 + 1, 0, none⟩ (.slice A4 us.length c4)) ∧ LastQ w vs i ((w4.setCell ⟨w.heap.size + 1, 0, none⟩ (.slice A3 y.length c3)).setCell ⟨w.heap.size + 1 + 1, 0, none⟩ (.slice A4 us.length c4)) := by
  have hl2 := b2.lt
  have hl3 := b3.lt
  have hbW : Below W.heap.size W w4 := hb3.trans (hb4.mono hb3.size)
  have q2 : Boxed w4 (w.heap.size + 1) 27 (.slice none 0 0) := (hbW.block _ hl2).trans b2
  have q3 : Boxed w4 (w.heap.size + 1 + 1) 30 (.slice none 0 0) := (hbW.block _ hl3).trans b3
  have hs3 := hb3.size
  have put : ∀ {B s n : Nat} {e : TypeId} {v : Value} {xs : List Value}, W.heap.size ≤ B → w4.ownsRow B e s v n xs → ((w4.setCell ⟨w.heap.size + 1, 0, none⟩ (.slice A3 y.length c3)).setCell ⟨w.heap.size + 1 + 1, 0, none⟩ (.slice A4 us.length c4)).ownsRow w.heap.size e s v n xs := fun hB' h =>
    ownBase (ownsRow_setCell_below (ownsRow_setCell_below h (a := ⟨w.heap.size + 1, 0, none⟩) (by show w.heap.size + 1 < _; omega) _) (a := ⟨w.heap.size + 1 + 1, 0, none⟩) (by show w.heap.size + 1 + 1 < _; omega) _) (by omega)
  refine ⟨(below_keeps hbW).trans (((KeepsOthers.setCell _ _ _).trans (KeepsOthers.setCell _ _ _)).from _), y, A3, c3, us, A4, c4, hi, hy, hus, ((q2.set _).other (by omega) _), ((q3.other (by omega) _).set _), put (Nat.le_refl _) (ownLater ho3 hb4), put hs3 hou, fun r hr => put hs3 (hrc r hr), ?_⟩
  exact ((hB.trans (hbW.mono hB.size)).setCell (p := ⟨w.heap.size + 1, 0, none⟩) (Nat.le_succ _) _).setCell (p := ⟨w.heap.size + 1 + 1, 0, none⟩) (by show w.heap.size ≤ w.heap.size + 1 + 1; omega) _
theorem last7_in (F : Nat → Prop) (g m q : Nat) (rs : List Rc) (w : World) (h : LgAt lg0 w F g rs m q) :
    CallsIn Fence.wide 9 Tryz.prog 156 #[.pointer (some ⟨g, 0, none⟩)] w (LastP rs w) := by
  have hro : Fence.wide.round = none := rfl
  have h1 : 1 ≤ 9 := by omega
  have hmany := h.many
  have hshort := h.short
  obtain ⟨FD, FR, vs, R, c, hv, hsh, hle, hlg⟩ := h
  have hvl : vs.length ≤ 1000000000 := by rw [← hv, List.length_map] at hmany; omega
  have hvb : ∀ r ∈ vs, r.2.2.1.length ≤ 140737488355328 := fun r hr => by
    have h4 := hshort (rcOf r) (by rw [← hv]; exact List.mem_map_of_mem hr)
    have e : (rcOf r).2 = r.2.2.1 := rfl
    rw [e] at h4
    omega
  have hcap : vs.length ≤ c := by
    obtain ⟨A, c', he, h2, _⟩ := ownShape hlg.own
    injection he with _ _ he
    omega
  have d3 := dka_c3 hlg.dk
  have hgl : g < w.heap.size := block_lt d3
  have HROW := Lib.hid (ownRow hlg.own)
  have HRS := Lib.hid (recsO_recs hlg.byt)
  have HVB := Lib.hid hvb
  have HV := Lib.hid hv
  have d3b := cell_al (.cells #[.slice none 0 0] 30) (cell_al (.cells #[.slice none 0 0] 27) (cell_al (.cells #[.pointer (some ⟨g, 0, none⟩)] 124) d3))
  clear hlg hsh hle hmany hshort hvb hv
  refine callsIn_of_wp_marks Tryz.func156 rfl trivial ?_ hro
  simp only [Tryz.ntmps156, List.size_toArray, List.length_cons, List.length_nil, Nat.reduceAdd, Nat.reduceSub, Array.replicate_succ, Array.replicate_zero, List.push_toArray, List.append_toArray, List.nil_append, List.cons_append]
  gi_wp2_with (refine ⟨trivial, ?_⟩; gi_at_call 177; refine (back_in Fence.wide _ trivial hro _ _ _ _).mono ?_; rintro e w' ⟨rfl, rfl⟩)
  obtain ⟨W0, hW0⟩ : ∃ W0, ((((w.alloc (.cells #[.pointer (some ⟨g, 0, none⟩)] 124)).alloc (.cells #[.slice none 0 0] 27)).alloc (.cells #[.slice none 0 0] 30)).alloc (.cells #[.slice R vs.length c] 30)) = W0 := ⟨_, rfl⟩
  have k1 : Boxed W0 w.heap.size 124 (.pointer (some ⟨g, 0, none⟩)) := by
    rw [← hW0]; exact (((Boxed.new w _ _).alloc _).alloc _).alloc _
  have k2 : Boxed W0 (w.heap.size + 1) 27 (.slice none 0 0) := by
    rw [← hW0]
    have := Boxed.new (w.alloc (.cells #[.pointer (some ⟨g, 0, none⟩)] 124)) 27 (.slice none 0 0)
    rw [World.size_alloc] at this
    exact (this.alloc _).alloc _
  have k3 : Boxed W0 (w.heap.size + 1 + 1) 30 (.slice none 0 0) := by
    rw [← hW0]
    have := Boxed.new ((w.alloc (.cells #[.pointer (some ⟨g, 0, none⟩)] 124)).alloc (.cells #[.slice none 0 0] 27)) 30 (.slice none 0 0)
    rw [World.size_alloc, World.size_alloc] at this
    exact this.alloc _
  have k4 : Boxed W0 (w.heap.size + 1 + 1 + 1) 30 (.slice R vs.length c) := by
    rw [← hW0]
    have := Boxed.new (((w.alloc (.cells #[.pointer (some ⟨g, 0, none⟩)] 124)).alloc (.cells #[.slice none 0 0] 27)).alloc (.cells #[.slice none 0 0] 30)) 30 (.slice R vs.length c)
    rw [World.size_alloc, World.size_alloc, World.size_alloc] at this
    exact this
  have hsz : W0.heap.size = w.heap.size + 4 := by rw [← hW0]; simp
  have hB0 : Below w.heap.size w W0 := by
    rw [← hW0]
    exact ((((Below.refl _ w).alloc (Nat.le_refl _) _).alloc (by simp) _).alloc (by simp; omega) _).alloc (by simp; omega) _
  rw [hW0]
  clear hW0
  refine wpIn_rangeFunc_ownH (α := BkR vs) hro h1 (gf := 197) (lb := #[.pointer (some ⟨w.heap.size + 1 + 1 + 1, 0, none⟩)]) rfl trivial (enters_of Tryz.func197 (by kernel_rfl) rfl)
    (back_stops Fence.wide (9 - 1) trivial hro (by omega) (w.heap.size + 1 + 1 + 1) W0.heap.size vs.length c R vs rfl hvl W0 (by omega) (Nat.le_refl _) k4.cell ((HROW.out.below hB0).more hB0.size)) belowK_t (belowK_b (Nat.le_refl _)) (Below.refl _ _) (fun _ => rfl)
    (fun pre W => (∀ x ∈ pre, x.1.2.1 ≠ 0) ∧ Boxed W w.heap.size 124 (.pointer (some ⟨g, 0, none⟩)) ∧ Boxed W (w.heap.size + 1) 27 (.slice none 0 0) ∧ Boxed W (w.heap.size + 1 + 1) 30 (.slice none 0 0) ∧ Boxed W (w.heap.size + 1 + 1 + 1) 30 (.slice R vs.length c) ∧ Below w.heap.size w W)
    (fun c pre W => (c = .ret ∧ ∃ ini last, pre = ini ++ [last] ∧ (∀ x ∈ ini, x.1.2.1 ≠ 0) ∧ last.1.2.1 = 0) ∧ ∃ i, (∃ ini last, pre = ini ++ [last] ∧ last.1.1 = i) ∧ LastQ w vs i W)
    (OwnFrom.and (ownFrom_pure _ _) (OwnFrom.and (Own.from (boxed_own _ _ _) _) (OwnFrom.and (Own.from (boxed_own _ _ _) _) (OwnFrom.and (Own.from (boxed_own _ _ _) _) (OwnFrom.and (Own.from (boxed_own _ _ _) _) (ownFrom_below (Nat.le_refl _) (by omega)))))))
    (fun c => OwnFrom.and (ownFrom_pure _ _) (fun s W W' row hs hg hr => by
      obtain ⟨i, h2, h3⟩ := hs
      exact ⟨i, h2, lastQ_own (β := Nat) w vs (fun s => s) W0.heap.size (by omega) i W W' row h3 hg hr⟩))
    ⟨by simp, k1, k2, k3, k4, hB0⟩
    (fun x a' W => ∃ Bx, W0.heap.size ≤ Bx ∧ Blk W Bx 168 #[.int .u8 (x.1.2.1.toNat : Int), .slice x.1.2.2.1 x.1.2.2.2.1.length x.1.2.2.2.2] ∧ a' = { tmps := #[.pointer (some ⟨g, 0, none⟩), .pointer (some ⟨w.heap.size, 0, none⟩), .pointer (some ⟨w.heap.size + 1, 0, none⟩), .pointer (some ⟨w.heap.size + 1 + 1, 0, none⟩), .int .i64 (x.1.1 : Int), .pointer (some ⟨Bx, 0, none⟩), .pointer (some ⟨g, 0, none⟩), .bool false, .pointer (some ⟨g, 0, none⟩), .pointer (some ⟨g, 0, none⟩), .pointer (some ⟨g, 0, none⟩), .pointer (some ⟨g, 3, none⟩), .slice R vs.length c, .func (.func 197) #[] #[.pointer (some ⟨w.heap.size + 1 + 1 + 1, 0, none⟩)], .int .i64 (x.1.1 : Int), .agg #[.int .u8 (x.1.2.1.toNat : Int), .slice x.1.2.2.1 x.1.2.2.2.1.length x.1.2.2.2.2], undef, undef, undef, undef, undef, undef, undef, undef, undef, undef, undef, undef, undef, undef, undef, undef, undef, undef, undef, undef, undef], defers := [] })
    (fun x a' s W W' row hs hg hr => by
      obtain ⟨Bx, h2, h3, h4⟩ := hs
      exact ⟨Bx, h2, (blk_own (β := Unit) _ _ _) () W W' row h3 hg (fun r e => (hr r e).2), h4⟩)
    ?assign ?body ?done ?stop
  case assign =>
    rintro l pre x W K ⟨hne, b1, b2, b3, b4, hB⟩ hK
    have hWs : W0.heap.size ≤ W.heap.size := by have := b4.lt; omega
    simp only [encR]
    gi_wp2
    exact hK _ _ ((KeepsOthers.alloc _ _).from _) ((Below.refl _ W).alloc hWs _) ⟨hne, b1.alloc _, b2.alloc _, b3.alloc _, b4.alloc _, hB.alloc hB.size _⟩ ⟨W.heap.size, hWs, Blk.new W _ _, rfl⟩
  case body =>
    rintro l pre ⟨⟨i, kd, A1, y, c1⟩, hx⟩ a' W hl0 ⟨rr, hr⟩ ⟨hne, b1, b2, b3, b4, hB⟩ ⟨Bx, hBx, bX, rfl⟩ hlt
    simp only at hx bX ⊢
    obtain ⟨hi, hxi⟩ := List.getElem?_eq_some_iff.1 hx
    have x0 : W.cell? ⟨Bx, 0, none⟩ = some (.int .u8 (kd.toNat : Int)) := bX.cell 0
    have x1 : W.cell? ⟨Bx, 1, none⟩ = some (.slice A1 y.length c1) := bX.cell 1
    by_cases hk : kd = 0
    · subst hk
      have hyl : y.length ≤ 140737488355328 := by have := HVB.out vs[i] (List.getElem_mem hi); rw [hxi] at this; exact this
      have hyr := HRS.out vs[i] (List.getElem_mem hi)
      rw [hxi] at hyr
      have HCL : Hid (∀ W', Below w.heap.size w W' → Calls Tryz.prog 71 #[.slice A1 y.length c1] W' (Made W'.heap.size y W')) := Lib.hid fun W' hb => clone_any w.heap.size c1 A1 y y.length rfl W' (hyr.below hb) hb.size hyl
      obtain ⟨q, hq⟩ : ∃ q, i + 1 = q := ⟨_, rfl⟩
      have hqi : (i : Int) + 1 = (q : Int) := by omega
      obtain ⟨AT, hAT⟩ : ∃ AT, (if c = q then R else R.map (·.add (q * 2))) = AT := ⟨_, rfl⟩
      have hqv : q ≤ vs.length := by omega
      have hwq : IntKind.i64.wrap (q : Int) = (q : Int) := by rw [IntKind.wrap_i64]; omega
      have htl := rowR_tail HROW.out hcap (by omega : q ≤ vs.length)
      rw [hAT] at htl
      have HCO : Hid (∀ W', Below w.heap.size w W' → Calls Tryz.prog 178 #[.slice AT (vs.length - q) (c - q)] W' (MadeR ((vs.drop q).map rcOf) W')) := Lib.hid fun W' hb =>
        copyof_any (vs.length - q) (c - q) AT (vs.drop q) (by rw [List.length_drop]) W' ((htl.below hb).more hb.size) (recs_below (recs_sub HRS.out (fun r hr => List.mem_of_mem_drop hr)) hb) (by omega) (fun r hr => HVB.out r (List.mem_of_mem_drop hr))
      have r1 := b1.cell
      have rg : W.cell? ⟨g, 3, none⟩ = some (.slice R vs.length c) := (hB.cell (p := ⟨g, 3, none⟩) hgl).trans d3
      have HBd : Hid (Below w.heap.size w W.drew) := Lib.hid hB.drew
      have HBW : Hid (Below W.heap.size W W.drew) := Lib.hid (Below.refl _ _).drew
      have HB1 := Lib.hid b1
      have HB2 := Lib.hid b2
      have HB3 := Lib.hid b3
      have HBB := Lib.hid hB
      have HNE := Lib.hid hne
      have HQ := Lib.hid hq
      have HXI := Lib.hid hxi
      have hii : (i : Int) ≤ 1000000000 := by omega
      have hi0 : (0 : Int) ≤ (i : Int) := by omega
      clear hyl hyr htl hr b1 b2 b3 b4 hB hne hq
      gi_wp2
      refine RoundHeld.wpIn_region (S := fun w' => w'.cell? ⟨Bx, 1, none⟩ = some (.slice A1 y.length c1) ∧ w'.cell? ⟨w.heap.size, 0, none⟩ = some (.pointer (some ⟨g, 0, none⟩)) ∧ w'.cell? ⟨g, 3, none⟩ = some (.slice R vs.length c)) (by kernel_rfl) (by kernel_rfl) ?_ ⟨x1, r1, rg⟩ (fun hS => ?_)
      · rintro ⟨_, _, h⟩
        exact h
      refine wpAnyH_take (i := 0) (v := .pointer (some ⟨Bx, 1, none⟩)) rfl (by kernel_rfl) (by kernel_rfl) (by kernel_rfl) (fun _ _ _ h => h) (Or.inl ⟨by rfl, fun w1 hSw => by obtain ⟨s1, s2, s3⟩ := hSw; go_simp⟩) hS ?_
      try simp only [Act.put, List.setIfInBounds_toArray, List.set_cons_zero, List.set_cons_succ]
      refine wpAnyH_take (i := 1) (v := .slice A1 y.length c1) rfl (by kernel_rfl) (by kernel_rfl) (by kernel_rfl) (fun _ _ _ h => h) (Or.inl ⟨by rfl, fun w1 hSw => by obtain ⟨s1, s2, s3⟩ := hSw; go_simp⟩) hS ?_
      try simp only [Act.put, List.setIfInBounds_toArray, List.set_cons_zero, List.set_cons_succ]
      refine wpAnyH_take (i := 3) (v := .pointer (some ⟨g, 0, none⟩)) rfl (by kernel_rfl) (by kernel_rfl) (by kernel_rfl) (fun _ _ _ h => h) (Or.inl ⟨by rfl, fun w1 hSw => by obtain ⟨s1, s2, s3⟩ := hSw; go_simp⟩) hS ?_
      try simp only [Act.put, List.setIfInBounds_toArray, List.set_cons_zero, List.set_cons_succ]
      refine wpAnyH_take (i := 4) (v := .pointer (some ⟨g, 0, none⟩)) rfl (by kernel_rfl) (by kernel_rfl) (by kernel_rfl) (fun _ _ _ h => h) (Or.inl ⟨by rfl, fun w1 hSw => by obtain ⟨s1, s2, s3⟩ := hSw; go_simp⟩) hS ?_
      try simp only [Act.put, List.setIfInBounds_toArray, List.set_cons_zero, List.set_cons_succ]
      refine wpAnyH_take (i := 5) (v := .pointer (some ⟨g, 0, none⟩)) rfl (by kernel_rfl) (by kernel_rfl) (by kernel_rfl) (fun _ _ _ h => h) (Or.inl ⟨by rfl, fun w1 hSw => by obtain ⟨s1, s2, s3⟩ := hSw; go_simp⟩) hS ?_
      try simp only [Act.put, List.setIfInBounds_toArray, List.set_cons_zero, List.set_cons_succ]
      refine wpAnyH_take (i := 6) (v := .pointer (some ⟨g, 3, none⟩)) rfl (by kernel_rfl) (by kernel_rfl) (by kernel_rfl) (fun _ _ _ h => h) (Or.inl ⟨by rfl, fun w1 hSw => by obtain ⟨s1, s2, s3⟩ := hSw; go_simp⟩) hS ?_
      try simp only [Act.put, List.setIfInBounds_toArray, List.set_cons_zero, List.set_cons_succ]
      refine wpAnyH_take (i := 7) (v := .slice R vs.length c) rfl (by kernel_rfl) (by kernel_rfl) (by kernel_rfl) (fun _ _ _ h => h) (Or.inl ⟨by rfl, fun w1 hSw => by obtain ⟨s1, s2, s3⟩ := hSw; go_simp⟩) hS ?_
      try simp only [Act.put, List.setIfInBounds_toArray, List.set_cons_zero, List.set_cons_succ]
      refine wpAnyH_take (i := 8) (v := .int .i64 (i : Int)) rfl (by kernel_rfl) (by kernel_rfl) (by kernel_rfl) (fun _ _ _ h => h) (Or.inl ⟨by rfl, fun w1 hSw => by obtain ⟨s1, s2, s3⟩ := hSw; go_simp⟩) hS ?_
      try simp only [Act.put, List.setIfInBounds_toArray, List.set_cons_zero, List.set_cons_succ]
      refine wpAnyH_take (i := 9) (v := .int .i64 (q : Int)) rfl (by kernel_rfl) (by kernel_rfl) (by kernel_rfl) (fun _ _ _ h => h) (Or.inl ⟨by rfl, fun w1 hSw => by obtain ⟨s1, s2, s3⟩ := hSw; go_simp⟩) hS ?_
      try simp only [Act.put, List.setIfInBounds_toArray, List.set_cons_zero, List.set_cons_succ]
      refine wpAnyH_take (i := 10) (v := .slice AT (vs.length - q) (c - q)) rfl (by kernel_rfl) (by kernel_rfl) (by kernel_rfl) (fun _ _ _ h => h) (Or.inl ⟨by rfl, fun w1 hSw => by obtain ⟨s1, s2, s3⟩ := hSw; go_simp⟩) hS ?_
      try simp only [Act.put, List.setIfInBounds_toArray, List.set_cons_zero, List.set_cons_succ]
      refine wpAnyH_ready (rs := [2]) (by kernel_rfl) (by simp) (AllReadyH.cons rfl (fun K hK => ?_) AllReadyH.nil)
      go_simp
      go_at_call 71
      refine (HCL.out _ HBd.out).mono ?_
      rintro e w3 ⟨A3, c3, rfl, ho3, hb3⟩
      have HW3 := Lib.hid (HBW.out.trans (hb3.mono HBW.out.size))
      have HO3 := Lib.hid ho3
      refine hK.out _ _ ⟨(HW3.out.cell (p := ⟨Bx, 1, none⟩) (block_lt x1)).trans x1, (HW3.out.cell (p := ⟨w.heap.size, 0, none⟩) HB1.out.lt).trans r1, (HW3.out.cell (p := ⟨g, 3, none⟩) (block_lt rg)).trans rg⟩ (fun hS3 => ?_)
      clear hK K ho3 hb3
      try simp only [Act.put, List.setIfInBounds_toArray, List.set_cons_zero, List.set_cons_succ]
      refine wpAnyH_ready (rs := [11]) (by kernel_rfl) (by simp) (AllReadyH.cons rfl (fun K hK => ?_) AllReadyH.nil)
      go_simp
      go_at_call 178
      refine (HCO.out _ (HBB.out.trans (HW3.out.mono HBB.out.size))).mono ?_
      rintro e w4 ⟨us, A4, c4, hus, rfl, hou, hrc, hb4⟩
      have HUS := Lib.hid hus
      have HOU := Lib.hid hou
      have HRC := Lib.hid hrc
      have HW4 := Lib.hid hb4
      have HWW := Lib.hid (HW3.out.trans (hb4.mono HW3.out.size))
      have q2 := Boxed.cell ((HWW.out.block _ HB2.out.lt).trans HB2.out)
      have q2f := Boxed.frozen ((HWW.out.block _ HB2.out.lt).trans HB2.out)
      have q3 := Boxed.cell ((HWW.out.block _ HB3.out.lt).trans HB3.out)
      have q3f := Boxed.frozen ((HWW.out.block _ HB3.out.lt).trans HB3.out)
      have y1 := (HWW.out.cell (p := ⟨Bx, 1, none⟩) (block_lt x1)).trans x1
      have y2 := (HWW.out.cell (p := ⟨w.heap.size, 0, none⟩) HB1.out.lt).trans r1
      have y3 := (HWW.out.cell (p := ⟨g, 3, none⟩) (block_lt rg)).trans rg
      refine hK.out _ _ ⟨y1, y2, y3⟩ (fun hS4 => ?_)
      clear hK K hus hou hrc hb4
      try simp only [Act.put, List.setIfInBounds_toArray, List.set_cons_zero, List.set_cons_succ]
      refine wpAnyH_ready (rs := [12]) (by kernel_rfl) (by simp) (AllReadyH.cons rfl (fun K hK => ?_) AllReadyH.nil)
      go_simp
      refine hK.out _ _ ⟨(World.cell?_setCell_far _ _ _ _ (by show w.heap.size + 1 ≠ Bx; omega)).trans y1, (World.cell?_setCell_far _ _ _ _ (by show w.heap.size + 1 ≠ w.heap.size; omega)).trans y2, (World.cell?_setCell_far _ _ _ _ (by show w.heap.size + 1 ≠ g; omega)).trans y3⟩ (fun hS5 => ?_)
      clear hK K
      try simp only [Act.put, List.setIfInBounds_toArray, List.set_cons_zero, List.set_cons_succ]
      refine wpAnyH_ready (rs := [13]) (by kernel_rfl) (by simp) (AllReadyH.cons rfl (fun K hK => ?_) AllReadyH.nil)
      go_simp
      refine hK.out _ _ ⟨(World.cell?_setCell_far _ _ _ _ (by show w.heap.size + 1 + 1 ≠ Bx; omega)).trans ((World.cell?_setCell_far _ _ _ _ (by show w.heap.size + 1 ≠ Bx; omega)).trans y1), (World.cell?_setCell_far _ _ _ _ (by show w.heap.size + 1 + 1 ≠ w.heap.size; omega)).trans ((World.cell?_setCell_far _ _ _ _ (by show w.heap.size + 1 ≠ w.heap.size; omega)).trans y2), (World.cell?_setCell_far _ _ _ _ (by show w.heap.size + 1 + 1 ≠ g; omega)).trans ((World.cell?_setCell_far _ _ _ _ (by show w.heap.size + 1 ≠ g; omega)).trans y3)⟩ (fun hS6 => ?_)
      clear hK K
      try simp only [Act.put, List.setIfInBounds_toArray, List.set_cons_zero, List.set_cons_succ]
      refine wpAnyH_done (by kernel_rfl) ?_ _
      all_goals
        gi_wp2
        have hfin := lastQ_of W0.heap.size hi (by rw [HXI.out]) HBB.out HB2.out HB3.out HW3.out HO3.out HW4.out (by rw [HQ.out]; exact HUS.out) HOU.out HRC.out
        exact ⟨hfin.1, ⟨rfl, pre, _, rfl, HNE.out, rfl⟩, i, ⟨pre, _, rfl, rfl⟩, hfin.2⟩
    · have hk0 := u8_zero hk
      have hkb : ((kd.toNat : Int) == 0) = false := by simpa using hk0
      gi_wp2
      refine ⟨KeepsFrom.refl _ _, Below.refl _ _, ⟨fun z hz => ?_, b1, b2, b3, b4, hB⟩⟩
      rcases List.mem_append.1 hz with hz | hz
      · exact hne z hz
      · have : z = ⟨(i, kd, A1, y, c1), hx⟩ := by simpa using hz
        subst this
        exact hk
  case done =>
    rintro D ys W hD hys ⟨hne, b1, b2, b3, b4, hB⟩ hK
    have HC0 := Lib.hid (copyof_any vs.length c R vs rfl W ((HROW.out.below hB).more hB.size) (recs_below HRS.out hB) hvl HVB.out)
    have r1 := b1.cell
    have rg : W.cell? ⟨g, 3, none⟩ = some (.slice R vs.length c) := (hB.cell (p := ⟨g, 3, none⟩) hgl).trans d3
    have hWs : W0.heap.size ≤ W.heap.size := by have := b4.lt; omega
    gi_wp2_with (refine ⟨trivial, ?_⟩; gi_at_call 178; refine (callsIn_wide.2 HC0.out).mono ?_; rintro e w3 ⟨us, A3, c3, hus, rfl, hou, hrc, hb3⟩; have q2 : Boxed w3 (w.heap.size + 1) 27 (.slice none 0 0) := (hb3.block _ b2.lt).trans b2; have q3 : Boxed w3 (w.heap.size + 1 + 1) 30 (.slice none 0 0) := (hb3.block _ b3.lt).trans b3; have q2c := q2.cell; have q2f := q2.frozen; have q3c := q3.cell; have q3f := q3.frozen)
    have hKd : ((w3.setCell ⟨w.heap.size + 1, 0, none⟩ (.slice none 0 0)).setCell ⟨w.heap.size + 1 + 1, 0, none⟩ (.slice A3 us.length c3)).heap[D]? = some (.deferred (some [])) :=
      ((KeepsOthers.setCell w3 ⟨w.heap.size + 1, 0, none⟩ (.slice none 0 0)).trans (KeepsOthers.setCell _ ⟨w.heap.size + 1 + 1, 0, none⟩ (.slice A3 us.length c3))).same D _ ((hb3.block D (Array.getElem?_eq_some_iff.1 hK).1).trans hK) rfl
    refine ⟨by simp, .inl ⟨_, _, rfl, run_takeDeferred hKd, ?_⟩⟩
    have hl2 := b2.lt
    have hl3 := b3.lt
    have hbx2 : Boxed ((w3.setCell ⟨w.heap.size + 1, 0, none⟩ (.slice none 0 0)).setCell ⟨w.heap.size + 1 + 1, 0, none⟩ (.slice A3 us.length c3)) (w.heap.size + 1) 27 (.slice none 0 0) := (q2.set _).other (by omega) _
    have hbx3 : Boxed ((w3.setCell ⟨w.heap.size + 1, 0, none⟩ (.slice none 0 0)).setCell ⟨w.heap.size + 1 + 1, 0, none⟩ (.slice A3 us.length c3)) (w.heap.size + 1 + 1) 30 (.slice A3 us.length c3) := (q3.other (by omega) _).set _
    have hput : ∀ {B s n : Nat} {e : TypeId} {v : Value} {xs : List Value}, W.heap.size ≤ B → w3.ownsRow B e s v n xs → (((w3.setCell ⟨w.heap.size + 1, 0, none⟩ (.slice none 0 0)).setCell ⟨w.heap.size + 1 + 1, 0, none⟩ (.slice A3 us.length c3)).putObj D (.deferred none)).ownsRow w.heap.size e s v n xs := fun hB' h =>
      (own_own (β := Unit)) () _ _ (some D) (ownBase (ownsRow_setCell_below (ownsRow_setCell_below h (a := ⟨w.heap.size + 1, 0, none⟩) (by show w.heap.size + 1 < _; omega) _) (a := ⟨w.heap.size + 1 + 1, 0, none⟩) (by show w.heap.size + 1 + 1 < _; omega) _) (by omega)) (grownBy_putObj' _ D (.deferred none)) (fun r e => by cases e; exact ⟨_, hKd, rfl⟩)
    have hc2 := cell_kept hbx2.cell (grownBy_putObj' _ D (.deferred none)) (fun r e => by cases e; exact ⟨_, hKd, rfl⟩)
    have hc3 := cell_kept hbx3.cell (grownBy_putObj' _ D (.deferred none)) (fun r e => by cases e; exact ⟨_, hKd, rfl⟩)
    have hbel : Below w.heap.size w (((w3.setCell ⟨w.heap.size + 1, 0, none⟩ (.slice none 0 0)).setCell ⟨w.heap.size + 1 + 1, 0, none⟩ (.slice A3 us.length c3)).putObj D (.deferred none)) :=
      (((hB.trans (hb3.mono hB.size)).setCell (p := ⟨w.heap.size + 1, 0, none⟩) (Nat.le_succ _) _).setCell (p := ⟨w.heap.size + 1 + 1, 0, none⟩) (by show w.heap.size ≤ w.heap.size + 1 + 1; omega) _).trans (belowK_b (w := w) (Nat.le_refl _) _ D _ _ (by omega) hKd rfl rfl)
    refine ⟨.tuple #[.slice none 0 0, .slice A3 us.length c3], ?_, 0, none, 0, us, A3, c3, ?_, ?_, rfl, World.ownsRow_nil _ _ _ _, hput (Nat.le_refl _) hou, fun r hr => hput (Nat.le_refl _) (hrc r hr), hbel⟩
    · simp [results, Tryz.f156, go_sem, hc2, hc3]
    · rw [← HV.out]
      refine last_none vs fun x hx => ?_
      rw [← hys] at hx
      obtain ⟨z, hz, rfl⟩ := List.mem_map.1 hx
      exact hne z hz
    · rw [hus, HV.out]; rfl
  case stop =>
    rintro D c' pre W hD ⟨k, hk, hpre⟩ ⟨⟨rfl, ini, last, e1, e2, e3⟩, i, ⟨ini', last', e4, e5⟩, hq⟩ hK
    gi_wp2
    refine ⟨by simp, .inl ⟨_, _, rfl, run_takeDeferred hK, ?_⟩⟩
    have hq2 := lastQ_own (β := Nat) w vs (fun s => s) W0.heap.size (by omega) i W _ (some D) hq (grownBy_putObj' W D (.deferred none)) (fun r e => by cases e; exact ⟨hD, _, hK, rfl⟩)
    obtain ⟨y, A, cy, us, A2, c2, hi, hy, hus, hb2, hb3, ho1, ho2, hrc, hbel⟩ := hq2
    have hc2 := hb2.cell
    have hc3 := hb3.cell
    obtain ⟨k', rfl⟩ : ∃ k', k = k' + 1 := by
      cases k with
      | zero => rw [e1] at hpre; simp [bkU] at hpre
      | succ k' => exact ⟨k', rfl⟩
    have hpre2 := hpre
    rw [e1, List.map_append, bkU_succ] at hpre2
    obtain ⟨hini, hlast⟩ := List.append_inj' hpre2 rfl
    have hlv : last.1 = bkF vs k' := by simpa using hlast
    have e6 : ini ++ [last] = ini' ++ [last'] := e1.symm.trans e4
    obtain ⟨_, e7⟩ := List.append_inj' e6 rfl
    have e8 : last = last' := by simpa using e7
    have hik : i = vs.length - 1 - k' := by rw [← e5, ← e8, hlv, bkF_at vs k' (by omega)]
    have hli := last_some vs k' (by omega) (fun x hx => by
      rw [← hini] at hx
      obtain ⟨z, hz, rfl⟩ := List.mem_map.1 hx
      exact e2 z hz) (by rw [← hlv]; exact e3)
    rw [← hik, HV.out] at hli
    have hlb : lastB rs (i + 1) = y := by
      rw [← HV.out]
      show (((vs.map rcOf)[i]?).getD (0, [])).2 = y
      rw [List.getElem?_map, List.getElem?_eq_getElem hi]
      exact hy
    refine ⟨.tuple #[.slice A y.length cy, .slice A2 us.length c2], ?_, i + 1, A, cy, us, A2, c2, hli, ?_, by rw [hlb], by rw [hlb]; exact ho1, ho2, hrc, hbel⟩
    · simp [results, Tryz.f156, go_sem, hc2, hc3]
    · rw [hus, ← HV.out, List.map_drop]
theorem last7_any (F : Nat → Prop) (g m q : Nat) (rs : List Rc) (w : World) (h : LgAt lg0 w F g rs m q) :
    Calls Tryz.prog 156 #[.pointer (some ⟨g, 0, none⟩)] w (LastP rs w) := callsIn_wide.1 (last7_in F g m q rs w h)
end Go.Proofs.YtkdpfjenjcpcfaaGreatDoor
