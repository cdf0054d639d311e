/- LnE: States as keys of a map; the map of states from which there is no way. -/
import Derived.Test.YtlecbhnopokmnaaLnD
import Derived.Maps.OwnSet
import Derived.Maps.Views
import Derived.Maps.Range
import Derived.DeepKeys4
namespace Go.Proofs.Ytlecbhnopokmnaa
open Go.RowKit Mem Go.Maps
set_option maxRecDepth 100000
set_option maxHeartbeats 2000000
set_option linter.unusedVariables false
set_option linter.unusedSimpArgs false
open Ln
theorem laidOut18 : laidOutB Try.prog = true := by kernel_rfl
theorem stateLaw : WideMaps.KeyLaw Try.prog 85 := deep_law_laid laidOut18 (m := 3) (by omega) (of_decide_eq_true (by kernel_rfl)) (by kernel_rfl) (by kernel_rfl)
theorem keyS : Keyed Try.prog 85 := Keyed.of_law stateLaw
def litS (d : Nat) (v : Int) : Lit := .string (keyBytes [.int .u32 (d : Int), .int .i64 v])
theorem keyOf_state (d : Nat) (v : Int) (hd : d < 1048576) (hv : (Lit.int .i64 v).wf = true) : keyOf Try.prog 85 (stV d v) = some (litS d v) := by
  have hwd : (Lit.int .u32 (d : Int)).wf = true := by
    simp [Lit.wf, IntKind.min, IntKind.max, IntKind.bits, IntKind.signed]
    omega
  have hkt : Try.prog.keyType 85 = true := by kernel_rfl
  have hf : (stV d v).formed Try.prog 85 = true := by kernel_rfl
  have hsz : ∃ m, Try.prog.types.size = m + 1 := ⟨_, rfl⟩
  obtain ⟨m, hm⟩ := hsz
  unfold keyOf
  rw [Try.underlying85]
  simp only [hkt, hf, Bool.and_self, if_true]
  rw [hm]
  have hl : Try.prog.keyLits (m + 1 + 1) 85 (stV d v).cells.toList = some [.int .u32 (d : Int), .int .i64 v] := by
    have e1 : Try.prog.cellsOf 85 = 2 := by kernel_rfl
    have e2 : Try.prog.cellsOf 83 = 1 := by kernel_rfl
    have e3 : Try.prog.cellsOf 3 = 1 := by kernel_rfl
    simp [Program.keyLits, Try.underlying85, Try.underlying83, Try.underlying3, e1, e2, e3, hwd, hv, Value.cells]
  rw [hl]
  rfl
theorem litS_inj {d d' : Nat} {v v' : Int} (hd : d < 1048576) (hd' : d' < 1048576) (hv : (Lit.int .i64 v).wf = true) (hv' : (Lit.int .i64 v').wf = true) (h : litS d v = litS d' v') : d = d' ∧ v = v' := by
  have k1 := keyOf_state d v hd hv
  have k2 := keyOf_state d' v' hd' hv'
  rw [h] at k1
  have := keyS.inj k1 k2
  simp only [Value.agg.injEq, Array.mk.injEq, List.cons.injEq, Value.int.injEq, true_and, and_true] at this
  exact ⟨by omega, this.2⟩
theorem wf_m1 : (Lit.int .i64 (-1)).wf = true := by decide
/-- Block hb is a map of states from which there is no way. -/
def HopM (E : Env) (w : World) (hb : Nat) : Prop :=
  ∃ es : List (Lit × DataW Unit), w.ownsMap Try.prog 85 unitElem hb es.length (.map es) ∧ es.Pairwise (fun p q => p.1 ≠ q.1) ∧ ∀ p ∈ es, ∃ d : Nat, d < 1048576 ∧ p.1 = litS d (-1) ∧ ¬ Poss E d (-1)
theorem hop_made (E : Env) (w : World) : HopM E (w.alloc (.map #[] 0)) w.heap.size := ⟨[], World.ownsMap_made _ _ _ _, List.Pairwise.nil, fun p hp => by cases hp⟩
theorem HopM.kept {E : Env} {w w' : World} {hb : Nat} {row : Option Nat} (h : HopM E w hb) (hg : w.grownBy w' row) (hne : some hb ≠ row) : HopM E w' hb := by
  obtain ⟨es, h1, h2, h3⟩ := h
  exact ⟨es, h1.kept hg hne, h2, h3⟩
theorem HopM.below {E : Env} {w w' : World} {hb : Nat} (h : HopM E w hb) (hl : Below w.heap.size w w') : HopM E w' hb := h.kept (grown_below hl (Nat.le_refl _) none) (by simp)
theorem HopM.lt {E : Env} {w : World} {hb : Nat} (h : HopM E w hb) : hb < w.heap.size := by obtain ⟨es, h1, _⟩ := h; exact h1.lt
theorem len_lt : ∀ (n : Nat) (l : List Nat), l.Nodup → (∀ x ∈ l, x < n) → l.length ≤ n
  | 0, l, _, h => by
    cases l with
    | nil => exact Nat.le_refl _
    | cons a r => exact absurd (h a List.mem_cons_self) (by omega)
  | n + 1, l, hn, h => by
    have h1 := len_lt n (l.erase n) (hn.erase n) (fun x hx => by
      have := h x (List.mem_of_mem_erase hx)
      have hne : x ≠ n := fun e => by subst e; exact (List.Nodup.not_mem_erase hn) hx
      omega)
    have h2 : l.length ≤ (l.erase n).length + 1 := by
      rw [List.length_erase]
      split <;> omega
    omega
theorem hop_len {es : List (Lit × DataW Unit)} {Q : Nat → Prop} (h2 : es.Pairwise (fun p q => p.1 ≠ q.1)) (h3 : ∀ p ∈ es, ∃ d : Nat, d < 1048576 ∧ p.1 = litS d (-1) ∧ Q d) : es.length ≤ 1048576 := by
  have : ∃ ds : List Nat, ds.length = es.length ∧ ds.Nodup ∧ ∀ x ∈ ds, x < 1048576 ∧ ∃ p ∈ es, p.1 = litS x (-1) := by
    induction es with
    | nil => exact ⟨[], rfl, List.nodup_nil, fun x hx => by cases hx⟩
    | cons p es ih =>
      obtain ⟨ds, l1, l2, l3⟩ := ih (List.pairwise_cons.1 h2).2 (fun q hq => h3 q (List.mem_cons_of_mem _ hq))
      obtain ⟨d, d1, d2, _⟩ := h3 p List.mem_cons_self
      refine ⟨d :: ds, by simp [l1], List.nodup_cons.2 ⟨fun hd => ?_, l2⟩, fun x hx => ?_⟩
      · obtain ⟨_, q, hq, hqd⟩ := l3 d hd
        exact (List.pairwise_cons.1 h2).1 q hq (d2.trans hqd.symm)
      · rcases List.mem_cons.1 hx with rfl | hx
        · exact ⟨d1, p, List.mem_cons_self, d2⟩
        · obtain ⟨x1, q, hq, hqd⟩ := l3 x hx
          exact ⟨x1, q, List.mem_cons_of_mem _ hq, hqd⟩
  obtain ⟨ds, l1, l2, l3⟩ := this
  rw [← l1]
  exact len_lt _ _ l2 (fun x hx => (l3 x hx).1)
theorem hop_look {E : Env} {w : World} {hb : Nat} (h : HopM E w hb) (d : Nat) (hd : d < 1048576) : ∃ b : Bool, (b = true → ¬ Poss E d (-1)) ∧ ∀ W : World, W.heap[hb]? = w.heap[hb]? → (Instr.lookup 87 (.map (some hb)) (stV d (-1)) true).run Try.prog W = .ok (.tuple #[.agg #[], .bool b]) W := by
  obtain ⟨es, h1, h2, h3⟩ := h
  refine ⟨Maps.has (.map es) (litS d (-1)), fun hb => ?_, fun W hW => ?_⟩
  · rw [has_eq, List.any_eq_true] at hb
    obtain ⟨p, hp, hpk⟩ := hb
    obtain ⟨d', e1, e2, e3⟩ := h3 p hp
    rw [e2] at hpk
    have : litS d' (-1) = litS d (-1) := by
      unfold litS at hpk ⊢
      simpa [Lit.sameKey] using hpk
    obtain ⟨rfl, _⟩ := litS_inj e1 hd wf_m1 wf_m1 this
    exact e3
  · have h1' : W.ownsMap Try.prog 85 unitElem hb es.length (.map es) := by
      obtain ⟨a, c, b1, b2⟩ := h1
      exact ⟨a, c, hW.trans b1, b2⟩
    obtain ⟨v, ps, hrun, hv⟩ := h1'.look_ok (t := 87) (e := 121) keyS Try.underlying87 (z := .agg #[]) (by kernel_rfl) unitElem_mk (keyOf_state d (-1) hd wf_m1)
    obtain ⟨rfl, _⟩ := unitElem_inv hv
    exact hrun
theorem hop_put {E : Env} {w : World} {hb : Nat} (h : HopM E w hb) (d : Nat) (hd : d < 1048576) (hn : ¬ Poss E d (-1)) : ∃ w', (Instr.mapUpdate 87 (.map (some hb)) (stV d (-1)) (.agg #[])).run Try.prog w = .ok () w' ∧ HopM E w' hb ∧ w.grownBy w' (some hb) := by
  obtain ⟨es, h1, h2, h3⟩ := h
  have hlen := hop_len h2 h3
  obtain ⟨w', hrun, ho, ht⟩ := h1.store (t := 87) (e := 121) keyS Try.underlying87 (by unfold maxLen; omega) (keyOf_state d (-1) hd wf_m1) (unitElem_mk)
  have ho2 := ho
  obtain ⟨es', hes, hp, _⟩ := ho.entries keyS
  rw [hes] at ho2
  have hins : ∀ (x : Lit × DataW Unit) (l : List (Lit × DataW Unit)) (p : Lit × DataW Unit), p ∈ DataW.insert x l → p = x ∨ p ∈ l := by
    intro x l
    induction l with
    | nil => intro p hp; simp [DataW.insert] at hp; exact Or.inl hp
    | cons y r ih =>
      intro p hp
      unfold DataW.insert at hp
      split at hp
      · exact List.mem_cons.1 hp
      · rcases List.mem_cons.1 hp with rfl | hp
        · exact Or.inr List.mem_cons_self
        · rcases ih p hp with h | h
          · exact Or.inl h
          · exact Or.inr (List.mem_cons_of_mem _ h)
  have hmem : ∀ p ∈ es', p.1 = litS d (-1) ∨ p ∈ es := by
    intro p hp
    have he : DataW.map (DataW.insert (litS d (-1), .agg []) (es.filter fun p => !p.1.sameKey (litS d (-1)))) = .map es' := hes
    injection he with he
    rw [← he] at hp
    rcases hins _ _ _ hp with rfl | h
    · exact Or.inl rfl
    · exact Or.inr (List.mem_filter.1 h).1
  have hsz := ho2.size_le
  have htight : w'.ownsMap Try.prog 85 unitElem hb es'.length (.map es') := by
    obtain ⟨a, clock, b1, b2, b3, b4⟩ := ho2
    refine ⟨a, clock, b1, b2, ?_, b4⟩
    have := congrArg Maps.size b4
    rw [Maps.size_eq, Maps.size_eq, length_sorted, List.length_map] at this
    simp only [Array.length_toList] at this
    omega
  refine ⟨w', hrun, ⟨es', htight, hp, fun p hp => ?_⟩, ht.grown⟩
  rcases hmem p hp with h | h
  · exact ⟨d, hd, h, hn⟩
  · exact h3 p h
/-- A state laid into the map, within a region that draws. -/
theorem step_hop {E : Env} {ops : Array Oper} {o : Oper} {a : Act} {K : Act → World → Prop} {Q : Exit → Act → World → Prop} {F : Prop} {w : World} (hgd : o.guard = none) (m x v : Operand) (ho : o.op = Op.mapUpdate 87 m x v)
    (hb : Nat) (h : HopM E w hb) (d : Nat) (hd : d < 1048576) (hn : ¬ Poss E d (-1)) (hm : a.eval m = .map (some hb)) (hx : a.eval x = stV d (-1)) (hv : a.eval v = .agg #[])
    (hK : ∀ w', HopM E w' hb → w.grownBy w' (some hb) → K (a.put o.dst undef) w') :
    if Region.wanted o (yielded ops a.tmps) = true then Oper.wp Try.prog o a w K Q else F := by
  have hw : Region.wanted o (yielded ops a.tmps) = true := by simp [Region.wanted, hgd]
  rw [if_pos hw]
  obtain ⟨w', hrun, h2, h3⟩ := hop_put h d hd hn
  unfold Oper.wp execOp
  simp only [ho, hm, hx, hv, hrun, Sem.run_bind, Sem.run_pure, Result.andThen_ok]
  exact hK w' h2 h3
end Go.Proofs.Ytlecbhnopokmnaa
