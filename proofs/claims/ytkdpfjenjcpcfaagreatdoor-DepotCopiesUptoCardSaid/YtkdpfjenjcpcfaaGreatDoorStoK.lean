/- StoK: Package store: entriesOf's closure: an entry is taken in.
   StoL: Package store: readRows.
   StoM: Package store: readRecords.
   StoN: Package store: entriesOf, Recover, Crash. -/
import Derived.Test.YtkdpfjenjcpcfaaGreatDoorSto
import Derived.Deep.RegionLaw
import Derived.Test.YtkdpfjenjcpcfaaGreatDoorLtZ
import Derived.Test.YtkdpfjenjcpcfaaGreatDoorRecs
import Derived.Deep.LoopGhost
namespace Go.Proofs.YtkdpfjenjcpcfaaGreatDoor
open Go.RowKit Mem Be Word Frm Go.Maps
set_option maxRecDepth 10000
set_option maxHeartbeats 4000000
set_option linter.unusedVariables false
variable {KS KS' : StK}
/-- A table in a variable of its own, all of it in blocks from B on. -/
structure Found (w : World) (B b0 : Nat) (T : List EV) (mo : Option Nat) : Prop where
  blk : Blk w b0 106 #[.map mo]
  map : TabM w mo T
  inM : ∀ b, mo = some b → B ≤ b
  bB : B ≤ b0
  srt : SortT kV T
  own : EntsO w B T
  ok : ∀ x ∈ T, okE x.1
theorem put_same {T : List EntP} (h : SortT kE T) {e : EntP} (hg : getK kE T e.k = some e) : putK kE T e = T := by
  refine ext_tab (put_sort h) h fun k => ?_
  rw [get_put]
  by_cases hk : kE e = k
  · rw [if_pos hk, ← hk]; exact hg.symm
  · rw [if_neg hk]
theorem Found.below {w w' : World} {B b0 : Nat} {T : List EV} {mo : Option Nat} (h : Found w B b0 T mo) (hb : Below w.heap.size w w') : Found w' B b0 T mo :=
  ⟨h.blk.below hb h.blk.lt, h.map.below hb, h.inM, h.bB, h.srt, entsO_below h.own hb, h.ok⟩
theorem Found.val {w : World} {B b0 : Nat} {T : List EV} {mo : Option Nat} (h : Found w B b0 T mo) (k : List UInt8) : ValOk w (ofV T k).1.has (ofV T k).2.1 (ofV T k).1.v (ofV T k).2.2 := by
  unfold ofV
  cases hg : getK kV T k with
  | none => exact ⟨Row.nil _ _ _, by simp [evN, entN], Nat.le_refl _⟩
  | some x =>
    have hx := (get_some hg).1
    exact (show ValOk w x.1.has x.2.1 x.1.v x.2.2 from ownE_val (h.own x hx) (by have := (rightE_yes (h.ok x hx)).2.2.1; omega))
/-- All cells that hold no map stay. -/
def KeepC (w w' : World) : Prop := ∀ b o v, w.cell? ⟨b, o, none⟩ = some v → (∀ m, v ≠ .map m) → w'.cell? ⟨b, o, none⟩ = some v
theorem KeepC.refl (w : World) : KeepC w w := fun _ _ _ h _ => h
theorem KeepC.trans {a b c : World} (h : KeepC a b) (h' : KeepC b c) : KeepC a c := fun x o v hv hm => h' x o v (h x o v hv hm) hm
theorem KeepC.below {w w' : World} (h : Below w.heap.size w w') : KeepC w w' := fun b o v hv _ => (h.cell (p := ⟨b, o, none⟩) (block_lt hv)).trans hv
theorem row_keepC {w w' : World} {B : Nat} {A : Option Addr} {xs : List Value} (h : Row w B A xs) (hk : KeepC w w') (hx : ∀ x ∈ xs, ∀ m, x ≠ .map m) : Row w' B A xs := by
  rcases h with h | ⟨b, o, e, hb, hc⟩
  · exact Or.inl h
  · exact Or.inr ⟨b, o, e, hb, fun j hj => hk b (o + j) _ (hc j hj) (hx _ (List.getElem_mem hj))⟩
theorem bytes_nomap (bs : List UInt8) : ∀ x ∈ bs.map byteV, ∀ m, x ≠ .map m := by
  intro x hx m
  obtain ⟨b, _, rfl⟩ := List.mem_map.1 hx
  simp [byteV]
theorem found_set {w5 w6 : World} {B b0 : Nat} {T : List EV} {mo : Option Nat} {z : EV} {e : Ending} (h : Found w5 B b0 T mo) (hz : OwnE w5 B z) (ok : okE z.1) (hs : SetP b0 0 mo T z w5 e w6) : e = .returned (.tuple #[]) ∧ (∃ mo', Found w6 B b0 (putK kV T z) mo') ∧ Below B w5 w6 ∧ KeepC w5 w6 := by
  obtain ⟨he, hs⟩ := hs
  refine ⟨he, ?_⟩
  have hokp : ∀ x ∈ putK kV T z, okE x.1 := fun x hx => by
    rcases mem_put_of hx with rfl | hx
    · exact ok
    · exact h.ok x hx
  have hownp : EntsO w5 B (putK kV T z) := fun x hx => by
    rcases mem_put_of hx with rfl | hx
    · exact hz
    · exact h.own x hx
  rcases hs with ⟨b, rfl, h1, h2⟩ | ⟨rfl, b, hbl, h1, h2⟩
  · have hbT := tabM_some h.map
    have hbb : b ≠ b0 := hbT.ne h.blk
    refine ⟨⟨some b, blkKeep h.blk (h2.block _ h.blk.lt fun e => hbb e.symm), Or.inr ⟨b, rfl, h1⟩, h.inM, h.bB, put_sort h.srt, fun x hx => ownKeep (hownp x hx) fun a ha => h2.block _ (ownIn (hownp x hx) ha).2.1 (own_not_map (hownp x hx) hbT ha), hokp⟩, ?_⟩
    have hb0 := h.blk.lt
    have hbl := hbT.lt
    have hbB := h.inM b rfl
    refine ⟨⟨h2.os, h2.tape, h2.output, h2.size, fun k hk => h2.block k (by have := h.bB; omega) (by omega)⟩, fun b' o v hv _ => ?_⟩
    exact (cell_keep (p := ⟨b', o, none⟩) (h2.block b' (block_lt hv) (blk_not_map hbT hv ∘ Eq.symm))).trans hv
  · have hsz := touch_cell_size h2
    have hkp : ∀ k, k < w5.heap.size → k ≠ b0 → w6.heap[k]? = w5.heap[k]? := fun k hk hn => (h2.block k (by simpa [World.setCell] using hk) (fun h => h)).trans (Below.heap_setCell w5 ⟨b0, 0, none⟩ _ k hn)
    have hb0 := h.blk.lt
    refine ⟨⟨some b, ?_, Or.inr ⟨b, rfl, h1⟩, fun b' hb' => by injection hb' with hb'; subst hb'; have := h.bB; omega, h.bB, put_sort h.srt, fun x hx => ownKeep (hownp x hx) fun a ha => hkp _ (ownIn (hownp x hx) ha).2.1 (ownNe (hownp x hx) h.blk (by decide) ha), hokp⟩, ?_⟩
    · have := h.blk.set_ 0 (.map (some b))
      exact blkKeep (by simpa using this) (h2.block b0 (by simpa [World.setCell] using hb0) (fun h => h))
    · refine ⟨⟨h2.os, h2.tape, h2.output, hsz, fun k hk => hkp k (by have := h.bB; omega) (by have := h.bB; omega)⟩, fun b' o v hv hm => ?_⟩
      refine (cell_keep (p := ⟨b', o, none⟩) (h2.block b' (by have := block_lt hv; simpa [World.setCell] using this) (fun h => h))).trans ?_
      refine (World.cell?_setCell_other _ _ _ _ (fun e => ?_)).trans hv
      injection e with e1 e2
      subst e1
      subst e2
      have h3 := h.blk.cell 0
      rw [hv] at h3
      simp at h3
      exact hm _ h3
/-- What is left when an entry is taken in. -/
def TakeP (B b0 : Nat) (T : List EntP) (x : EntP) (w : World) (e : Ending) (w' : World) : Prop := e = .returned (.tuple #[]) ∧ (∃ T' mo', Found w' B b0 T' mo' ∧ entT T' = layT T x) ∧ Below B w w' ∧ w.heap.size ≤ w'.heap.size ∧ KeepC w w'
theorem take_lt (B b0 : Nat) (T : List EV) (mo : Option Nat) (x : EV) (ok : okE x.1) (hn : T.length ≤ 100000000) (hc : cmpT x.1.s x.1.u x.1.o (ofV T x.1.k).1.s (ofV T x.1.k).1.u (ofV T x.1.k).1.o = -1) (w : World) (h : Found w B b0 T mo) (hv : ValOk w x.1.has x.2.1 x.1.v x.2.2) :
    Calls Tryz.prog 154 #[evV x, .pointer (some ⟨b0, 0, none⟩)] w (TakeP B b0 (entT T) x.1 w) := by
  have HF := Lib.hid h
  have HV := Lib.hid hv
  have HOK := Lib.hid ok
  have HN := Lib.hid hn
  have c0 : w.cell? ⟨b0, 0, none⟩ = some (.map mo) := h.blk.cell 0
  have hb0 : b0 < w.heap.size := h.blk.lt
  have hAL : ∀ o, Below w.heap.size w (w.alloc o).drew := fun o => ((Below.refl _ _).alloc (Nat.le_refl _) _).drew
  obtain ⟨y, hy⟩ : ∃ y, ofV T x.1.k = y := ⟨_, rfl⟩
  have HY := Lib.hid hy
  have HYV := Lib.hid (show ValOk w y.1.has y.2.1 y.1.v y.2.2 by rw [← hy]; exact h.val x.1.k)
  have HO : Hid (∀ o, Calls Tryz.prog 73 #[.map mo, .string ⟨x.1.k.toArray⟩] (w.alloc o).drew (IsE y (w.alloc o).drew)) := Lib.hid fun o => by
    rw [← hy]; exact tabof_any T mo x.1.k (by have := (rightE_yes ok).2.1; unfold maxLen; omega) _ (h.map.below (hAL o))
  rw [hy] at hc
  have HC := Lib.hid hc
  have HNW : Hid (∀ W, Below w.heap.size w W → Calls Tryz.prog 155 #[entV ⟨x.1.k.toArray⟩ x.1.s x.1.u x.1.o x.1.has x.2.1 x.1.v.length x.2.2, entV ⟨y.1.k.toArray⟩ y.1.s y.1.u y.1.o y.1.has y.2.1 y.1.v.length y.2.2] W (MadeE W.heap.size ⟨y.1.k.toArray⟩ y.1.s y.1.u y.1.o y.1.has y.1.v W)) := Lib.hid fun W hb =>
    newer_lt ⟨x.1.k.toArray⟩ ⟨y.1.k.toArray⟩ x.1.s x.1.u x.1.o y.1.s y.1.u y.1.o x.1.has y.1.has x.2.1 y.2.1 x.1.v y.1.v x.1.v.length x.2.2 y.1.v.length y.2.2 rfl rfl W (HV.out.below hb) (HYV.out.below hb) HC.out
  have HG : Hid (getK kE (entT T) x.1.k = some y.1 ∧ y ∈ T) := Lib.hid (by
    cases hg : getK kV T x.1.k with
    | none =>
      exfalso
      have : y = evN x.1.k := by rw [← hy]; unfold ofV; rw [hg]; rfl
      subst this
      have h2 : cmpE x.1 (entN x.1.k) = -1 := hc
      exact cmpE_none ok x.1.k (by rw [h2]; decide)
    | some z =>
      have : y = z := by rw [← hy]; unfold ofV; rw [hg]; rfl
      subst this
      exact ⟨(get_map (f := Prod.fst) (fun x => rfl) T x.1.k).trans (by rw [hg]; rfl), (get_some hg).1⟩)
  clear h hv ok hn hAL hy hc
  have HBK : Hid (Blk (w.alloc (.cells ⟨entC x⟩ 46)).drew w.heap.size 46 ⟨entC x⟩) := Lib.hid (by exact Blk.new w 46 ⟨entC x⟩)
  have HBW : Hid (Below w.heap.size w (w.alloc (.cells ⟨entC x⟩ 46)).drew) := Lib.hid ((Below.refl _ _).alloc (Nat.le_refl _) _).drew
  unfold evV
  go_enter Tryz.func154, Tryz.ntmps154
  go_wp2_with fail
  go_region_law (first
    | (go_simp; go_at_call 73; refine (HO.out _).mono ?_; rintro e w2 ⟨rfl, hb⟩; (have HB2 : Hid (Below w.heap.size w w2) := Lib.hid (HBW.out.trans (hb.mono HBW.out.size))); (have hk2 : Blk w2 w.heap.size 46 ⟨entC x⟩ := HBK.out.below hb HBK.out.lt); (have k0 : w2.cell? ⟨w.heap.size, 0, none⟩ = some (.string ⟨x.1.k.toArray⟩) := hk2.cell 0); (have k1 : w2.cell? ⟨w.heap.size, 1, none⟩ = some (.int .i64 x.1.s) := hk2.cell 1); (have k2 : w2.cell? ⟨w.heap.size, 2, none⟩ = some (.int .i64 x.1.u) := hk2.cell 2); (have k3 : w2.cell? ⟨w.heap.size, 3, none⟩ = some (.int .i64 x.1.o) := hk2.cell 3); (have k4 : w2.cell? ⟨w.heap.size, 4, none⟩ = some (.bool x.1.has) := hk2.cell 4); (have k5 : w2.cell? ⟨w.heap.size, 5, none⟩ = some (.slice x.2.1 x.1.v.length x.2.2) := hk2.cell 5); clear hb hk2; unfold evV)
    | (go_simp; go_at_call 155; refine (HNW.out _ HB2.out).mono ?_; rintro e w3 ⟨A3, c3, rfl, ho, hb⟩; (have HB3 : Hid (Below w.heap.size w w3) := Lib.hid (HB2.out.trans (hb.mono HB2.out.size))); (have hf3 := HF.out.below HB3.out); (have HF3 := Lib.hid hf3); (have HO3 : Hid (OwnE w3 B (y.1, A3, c3)) := Lib.hid (ownBase ho (by have h1 := HF.out.bB; have h2 := HB2.out.size; omega))); (have HSE := Lib.hid (set_any T mo b0 0 (y.1, A3, c3) (rightE_yes (HF.out.ok y HG.out.2)).2.1 HN.out w3 (hf3.blk.cell 0) (hf3.blk.frozen 0) hf3.map)); clear ho hb hf3)
    | (go_simp; go_at_call 124; refine HSE.out.mono ?_; rintro e w6 hx; obtain ⟨rfl, ⟨mo', hx1⟩, hx2, hx3⟩ := found_set HF3.out HO3.out (HF.out.ok y HG.out.2) hx; (have HFIN := Lib.hid (And.intro hx1 (And.intro hx2 hx3))); clear hx hx1 hx2 hx3))
  all_goals
    go_wp2
    go_end0
    refine ⟨rfl, ⟨_, mo', HFIN.out.1, ?_⟩, (HB3.out.mono (by have := HF.out.bB; omega)).trans HFIN.out.2.1, Nat.le_trans HB3.out.size HFIN.out.2.1.size, (KeepC.below HB3.out).trans HFIN.out.2.2⟩
    have hk : x.1.k = y.1.k := (get_some HG.out.1).2.symm
    have hg := HG.out.1
    rw [ent_put, show layT (entT T) x.1 = entT T from if_pos (by unfold cmpE ofT; rw [hg]; show cmpT _ _ _ _ _ _ < 0; have := HC.out; simp only [Option.getD_some]; omega)]
    rw [hk] at hg
    exact put_same (ent_sort.1 HF.out.srt) hg
theorem take_ge (B b0 : Nat) (T : List EV) (mo : Option Nat) (x : EV) (ok : okE x.1) (hn : T.length ≤ 100000000) (hc : cmpT x.1.s x.1.u x.1.o (ofV T x.1.k).1.s (ofV T x.1.k).1.u (ofV T x.1.k).1.o ≠ -1) (w : World) (h : Found w B b0 T mo) (hv : ValOk w x.1.has x.2.1 x.1.v x.2.2) :
    Calls Tryz.prog 154 #[evV x, .pointer (some ⟨b0, 0, none⟩)] w (TakeP B b0 (entT T) x.1 w) := by
  have HF := Lib.hid h
  have HV := Lib.hid hv
  have HOK := Lib.hid ok
  have HN := Lib.hid hn
  have c0 : w.cell? ⟨b0, 0, none⟩ = some (.map mo) := h.blk.cell 0
  have hb0 : b0 < w.heap.size := h.blk.lt
  have hAL : ∀ o, Below w.heap.size w (w.alloc o).drew := fun o => ((Below.refl _ _).alloc (Nat.le_refl _) _).drew
  obtain ⟨y, hy⟩ : ∃ y, ofV T x.1.k = y := ⟨_, rfl⟩
  have HY := Lib.hid hy
  have HYV := Lib.hid (show ValOk w y.1.has y.2.1 y.1.v y.2.2 by rw [← hy]; exact h.val x.1.k)
  have HO : Hid (∀ o, Calls Tryz.prog 73 #[.map mo, .string ⟨x.1.k.toArray⟩] (w.alloc o).drew (IsE y (w.alloc o).drew)) := Lib.hid fun o => by
    rw [← hy]; exact tabof_any T mo x.1.k (by have := (rightE_yes ok).2.1; unfold maxLen; omega) _ (h.map.below (hAL o))
  rw [hy] at hc
  have HC := Lib.hid hc
  have HNW : Hid (∀ W, Below w.heap.size w W → Calls Tryz.prog 155 #[entV ⟨x.1.k.toArray⟩ x.1.s x.1.u x.1.o x.1.has x.2.1 x.1.v.length x.2.2, entV ⟨y.1.k.toArray⟩ y.1.s y.1.u y.1.o y.1.has y.2.1 y.1.v.length y.2.2] W (MadeE W.heap.size ⟨x.1.k.toArray⟩ x.1.s x.1.u x.1.o x.1.has x.1.v W)) := Lib.hid fun W hb =>
    newer_ge ⟨x.1.k.toArray⟩ ⟨y.1.k.toArray⟩ x.1.s x.1.u x.1.o y.1.s y.1.u y.1.o x.1.has y.1.has x.2.1 y.2.1 x.1.v y.1.v x.1.v.length x.2.2 y.1.v.length y.2.2 rfl rfl W (HV.out.below hb) (HYV.out.below hb) HC.out
  clear h hv ok hn hAL hy hc
  have HBK : Hid (Blk (w.alloc (.cells ⟨entC x⟩ 46)).drew w.heap.size 46 ⟨entC x⟩) := Lib.hid (by exact Blk.new w 46 ⟨entC x⟩)
  have HBW : Hid (Below w.heap.size w (w.alloc (.cells ⟨entC x⟩ 46)).drew) := Lib.hid ((Below.refl _ _).alloc (Nat.le_refl _) _).drew
  unfold evV
  go_enter Tryz.func154, Tryz.ntmps154
  go_wp2_with fail
  go_region_law (first
    | (go_simp; go_at_call 73; refine (HO.out _).mono ?_; rintro e w2 ⟨rfl, hb⟩; (have HB2 : Hid (Below w.heap.size w w2) := Lib.hid (HBW.out.trans (hb.mono HBW.out.size))); (have hk2 : Blk w2 w.heap.size 46 ⟨entC x⟩ := HBK.out.below hb HBK.out.lt); (have k0 : w2.cell? ⟨w.heap.size, 0, none⟩ = some (.string ⟨x.1.k.toArray⟩) := hk2.cell 0); (have k1 : w2.cell? ⟨w.heap.size, 1, none⟩ = some (.int .i64 x.1.s) := hk2.cell 1); (have k2 : w2.cell? ⟨w.heap.size, 2, none⟩ = some (.int .i64 x.1.u) := hk2.cell 2); (have k3 : w2.cell? ⟨w.heap.size, 3, none⟩ = some (.int .i64 x.1.o) := hk2.cell 3); (have k4 : w2.cell? ⟨w.heap.size, 4, none⟩ = some (.bool x.1.has) := hk2.cell 4); (have k5 : w2.cell? ⟨w.heap.size, 5, none⟩ = some (.slice x.2.1 x.1.v.length x.2.2) := hk2.cell 5); clear hb hk2; unfold evV)
    | (go_simp; go_at_call 155; refine (HNW.out _ HB2.out).mono ?_; rintro e w3 ⟨A3, c3, rfl, ho, hb⟩; (have HB3 : Hid (Below w.heap.size w w3) := Lib.hid (HB2.out.trans (hb.mono HB2.out.size))); (have hf3 := HF.out.below HB3.out); (have HF3 := Lib.hid hf3); (have HO3 : Hid (OwnE w3 B (x.1, A3, c3)) := Lib.hid (ownBase ho (by have h1 := HF.out.bB; have h2 := HB2.out.size; omega))); (have HSE := Lib.hid (set_any T mo b0 0 (x.1, A3, c3) (rightE_yes HOK.out).2.1 HN.out w3 (hf3.blk.cell 0) (hf3.blk.frozen 0) hf3.map)); clear ho hb hf3)
    | (go_simp; go_at_call 124; refine HSE.out.mono ?_; rintro e w6 hx; obtain ⟨rfl, ⟨mo', hx1⟩, hx2, hx3⟩ := found_set HF3.out HO3.out HOK.out hx; (have HFIN := Lib.hid (And.intro hx1 (And.intro hx2 hx3))); clear hx hx1 hx2 hx3))
  all_goals
    go_wp2
    go_end0
    refine ⟨rfl, ⟨_, mo', HFIN.out.1, ?_⟩, (HB3.out.mono (by have := HF.out.bB; omega)).trans HFIN.out.2.1, Nat.le_trans HB3.out.size HFIN.out.2.1.size, (KeepC.below HB3.out).trans HFIN.out.2.2⟩
    have hlt : ¬ cmpE x.1 (ofT (entT T) x.1.k) < 0 := by
      rw [← ofV_ent, HY.out]
      have h1 := HC.out
      have h2 := cmpT_range x.1.s x.1.u x.1.o y.1.s y.1.u y.1.o
      show ¬ cmpT _ _ _ _ _ _ < 0
      omega
    rw [ent_put, show layT (entT T) x.1 = putK kE (entT T) x.1 from if_neg hlt]
theorem take_any (B b0 : Nat) (T : List EV) (mo : Option Nat) (x : EV) (ok : okE x.1) (hn : T.length ≤ 100000000) (w : World) (h : Found w B b0 T mo) (hv : ValOk w x.1.has x.2.1 x.1.v x.2.2) :
    Calls Tryz.prog 154 #[evV x, .pointer (some ⟨b0, 0, none⟩)] w (TakeP B b0 (entT T) x.1 w) := by
  by_cases hc : cmpT x.1.s x.1.u x.1.o (ofV T x.1.k).1.s (ofV T x.1.k).1.u (ofV T x.1.k).1.o = -1
  · exact take_lt B b0 T mo x ok hn hc w h hv
  · exact take_ge B b0 T mo x ok hn hc w h hv
end Go.Proofs.YtkdpfjenjcpcfaaGreatDoor
namespace Go.Proofs.YtkdpfjenjcpcfaaGreatDoor
open Go.RowKit Mem Be Word Frm Go.Maps
set_option maxRecDepth 10000
set_option maxHeartbeats 4000000
set_option linter.unusedVariables false
variable {KS KS' : StK}
/-- What is read into a table, or that it is none. -/
def ReadsP (B b0 : Nat) (r : Option (List EntP)) (w : World) (e : Ending) (w' : World) : Prop :=
  (∃ T, r = some T ∧ e = .returned (.int .i64 0) ∧ (∃ T' mo', Found w' B b0 T' mo' ∧ entT T' = T) ∧ Below B w w' ∧ w.heap.size ≤ w'.heap.size ∧ KeepC w w') ∨
  (r = none ∧ e = .returned (.int .i64 11) ∧ Below B w w' ∧ w.heap.size ≤ w'.heap.size ∧ KeepC w w')
theorem readRs_drop {l : List (List UInt8)} {j : Nat} (h : j < l.length) (T : List EntP) : readRs (l.drop j) T = if (readP l[j]).2 = 0 then readRs (l.drop (j + 1)) (layT T (readP l[j]).1) else none := by
  rw [List.drop_eq_getElem_cons h]; rfl
abbrev takeV (b0 : Nat) : Value := .func (.func 154) #[] #[.pointer (some ⟨b0, 0, none⟩)]
theorem allF_row : ∀ (f : Nat) (bs : List UInt8), ∀ x ∈ (allF getR f bs).1, x.length ≤ 65536
  | 0, _, x, h => by simp [allF] at h
  | f + 1, bs, x, h => by
    have ih := allF_row f (bs.drop (getR bs).2.1)
    unfold allF at h
    split at h
    · simp at h
    · split at h
      · unfold cons1 at h
        split at h
        · rcases List.mem_cons.1 h with rfl | h
          · exact getR_len bs
          · exact ih x h
        · simp at h
      · simp at h
theorem readrows_any (B b0 n c : Nat) (A : Option Addr) (bs : List UInt8) (T0 : List EV) (mo : Option Nat) (hn : n = bs.length) (hl : n ≤ 70000) (hT : T0.length ≤ 1000000) (w : World) (h : Found w B b0 T0 mo) (hr : Row w w.heap.size A (bs.map byteV)) :
    Calls Tryz.prog 157 #[.slice A n c, takeV b0] w (ReadsP B b0 (if (allA getR bs).2 = 0 then readRs (allA getR bs).1 (entT T0) else none) w) := by
  have hRW := rows_any w.heap.size c n A bs hn w hr (Nat.le_refl _) (by omega)
  obtain ⟨⟨l, er⟩, hq⟩ : ∃ r, allA getR bs = r := ⟨_, rfl⟩
  have hlen : l.length ≤ 70000 := by
    have := allF_len getR bs.length bs
    unfold allA at hq
    rw [hq] at this
    simp only at this
    omega
  have hrowl : ∀ x ∈ l, x.length ≤ 65536 := fun x hx => allF_row bs.length bs x (by unfold allA at hq; rw [hq]; exact hx)
  have HRL := Lib.hid hrowl
  rw [hq] at hRW ⊢
  simp only
  have HRW := Lib.hid hRW
  have HF := Lib.hid h
  have HTL := Lib.hid hT
  have HLL := Lib.hid hlen
  have HBB : Hid (B ≤ w.heap.size) := Lib.hid (by have h1 := h.bB; have h2 := h.blk.lt; omega)
  clear h hr hn hl hT hRW hq hlen hrowl
  by_cases he : er = 0
  · subst he
    rw [if_pos rfl]
    obtain ⟨R, hR⟩ : ∃ R, readRs l (entT T0) = R := ⟨_, rfl⟩
    have HR := Lib.hid hR
    rw [hR]
    clear hR
    unfold takeV
    go_enter Tryz.func157, Tryz.ntmps157
    go_wp2_with fail
    refine HRW.out.mono ?_
    rintro e w1 ⟨A1, c1, rs, rfl, hrs, ho, hb, hx⟩
    have HB1 := Lib.hid hb
    have HRS := Lib.hid hrs
    have HO1 := Lib.hid (Row.of_own ho)
    have HX1 := Lib.hid hx
    have HLN : Hid (rs.length ≤ 70000) := Lib.hid (by have h1 := congrArg List.length hrs; rw [List.length_map] at h1; have := HLL.out; simp only at h1; omega)
    have hri : (rs.length : Int) ≤ 70000 := by have := HLN.out; omega
    clear hrs ho hb hx HRW
    go_wp2_with fail
    go_loopw [20] (fun i wr => ∃ (j : Nat) (T : List EV) (mo' : Option Nat), j ≤ rs.length ∧ i = .int .i64 j ∧ Hid (Found wr B b0 T mo') ∧ Hid (readRs (l.drop j) (entT T) = R) ∧ Hid (T.length ≤ 1000000 + j) ∧ Hid (KeepC w1 wr) ∧ Hid (w1.heap.size ≤ wr.heap.size) ∧ Hid (Below B w wr)) (fun i _ => rs.length - (intOf i).toNat)
    case atStart => exact ⟨0, T0, mo, Nat.zero_le _, rfl, Lib.hid (HF.out.below HB1.out), Lib.hid (by rw [List.drop_zero]; exact HR.out), HTL, Lib.hid (KeepC.refl _), Lib.hid (Nat.le_refl _), Lib.hid (HB1.out.mono HBB.out)⟩
    case round =>
      obtain ⟨j, T, mo', hj, rfl, HT, HRD, HTN, HKC, HSZ, HB⟩ := hrel
      have hll : l.length = rs.length := by have h1 := congrArg List.length HRS.out; rw [List.length_map] at h1; exact h1.symm
      by_cases hlt : j < rs.length
      · obtain ⟨b, o, rfl, hbl, hc⟩ := HO1.out.open_ (by simp; omega)
        have hcell := HKC.out b (o + j) _ (hc j (by simpa using hlt)) (fun m => by simp [rowV])
        rw [List.getElem_map] at hcell
        have hrowx := HX1.out rs[j] (List.getElem_mem hlt)
        obtain ⟨⟨A2, y, c2⟩, hy⟩ : ∃ y, rs[j] = y := ⟨_, rfl⟩
        rw [hy] at hcell hrowx
        unfold rowV at hcell
        simp only at hcell hrowx
        have hly : l[j]'(by omega) = y := by
          have h1 : (rs.map fun x => x.2.1)[j]'(by simpa using hlt) = y := by rw [List.getElem_map, hy]
          have h2 : l = rs.map fun x => x.2.1 := HRS.out.symm
          simp only [h2]; exact h1
        have hrd := HRD.out
        rw [readRs_drop (by omega), hly] at hrd
        have hylen : y.length ≤ 1000000 := by
          have := HRL.out y (by rw [← hly]; exact List.getElem_mem _)
          omega
        have HRE := Lib.hid (read_any w1.heap.size y.length c2 A2 y rfl hylen wr (row_keepC hrowx HKC.out (bytes_nomap y)) HSZ.out)
        have hji : (0 : Int) ≤ (j : Int) := by omega
        have hji2 : (j : Int) < (rs.length : Int) := by omega
        obtain ⟨⟨x, er⟩, hxe⟩ : ∃ z, readP y = z := ⟨_, rfl⟩
        rw [hxe] at hrd HRE
        simp only at hrd
        have HXE := Lib.hid hxe
        clear hc hly hrowx hy hxe hylen hll
        go_wp2_with fail
        refine HRE.out.mono ?_
        rintro e w2 ⟨A3, c3, rfl, ho3, hb3⟩
        simp only at ho3 ⊢
        have HB3 := Lib.hid hb3
        have HO3 := Lib.hid ho3
        clear ho3 hb3 HRE
        by_cases h0 : er = 0
        · subst h0
          rw [if_pos rfl] at hrd
          have HRD2 := Lib.hid hrd
          have HOK : Hid (okE x) := Lib.hid (by have := (readP_ok (b := y) (by rw [HXE.out])).1; rw [HXE.out] at this; exact this)
          have HF3 := Lib.hid (HT.out.below HB3.out)
          have HTK : Hid (∀ o, Calls Tryz.prog 154 #[evV (x, A3, c3), .pointer (some ⟨b0, 0, none⟩)] (w2.alloc o) (TakeP B b0 (entT T) x (w2.alloc o))) := Lib.hid fun o =>
            take_any B b0 T mo' (x, A3, c3) HOK.out (by have := HTN.out; have := HLN.out; omega) _ (HF3.out.below ((Below.refl _ _).alloc (Nat.le_refl _) o)) (ValOk.below (w := w2) ⟨Row.of_own HO3.out, by have := (rightE_yes HOK.out).2.2.1; show (x.v.length : Int) ≤ _; omega, (own_cap HO3.out).1⟩ ((Below.refl _ _).alloc (Nat.le_refl _) o))
          clear hrd
          unfold evV at HTK
          go_wp2_with fail
          refine (HTK.out _).mono ?_
          rintro e w3 ⟨rfl, ⟨T2, mo2, hf2, ht2⟩, hb2, hs2, hk2⟩
          have HF2 := Lib.hid hf2
          have HRD3 : Hid (readRs (l.drop (j + 1)) (entT T2) = R) := Lib.hid (by rw [ht2]; exact HRD2.out)
          have HTN2 : Hid (T2.length ≤ 1000000 + (j + 1)) := Lib.hid (by
            have h1 := congrArg List.length ht2
            have h2 := lay_len (entT T) x
            rw [List.length_map] at h1
            rw [List.length_map] at h2
            have := HTN.out
            omega)
          have hal : ∀ o, Below w2.heap.size w2 (w2.alloc o) := fun o => (Below.refl _ _).alloc (Nat.le_refl _) o
          have HKC2 : Hid (KeepC w1 w3) := Lib.hid (((HKC.out.trans (KeepC.below HB3.out)).trans (KeepC.below (hal _))).trans hk2)
          have HSZ2 : Hid (w1.heap.size ≤ w3.heap.size) := Lib.hid (Nat.le_trans HSZ.out (Nat.le_trans HB3.out.size (Nat.le_trans (hal _).size hs2)))
          have HBX : Hid (Below B w w3) := Lib.hid (((HB.out.trans (HB3.out.mono (by have := HB.out.size; have := HBB.out; omega))).trans ((hal _).mono (by have := HB.out.size; have := HBB.out; have := HB3.out.size; omega))).trans hb2)
          clear hf2 ht2 hb2 hs2 hk2 hal HTK
          go_wp2
          go_roundw
          case rel => exact ⟨j + 1, T2, mo2, by omega, by go_num, HF2, HRD3, HTN2, HKC2, HSZ2, HBX⟩
          case measure => simp [intOf]; omega
        · rw [if_neg h0] at hrd
          have hbe : (er != 0) = true := by simpa using h0
          have HEND : Hid (ReadsP B b0 R w (.returned (.int .i64 11)) (w2.alloc (.cells ⟨entC (x, A3, c3)⟩ 46))) := Lib.hid (Or.inr ⟨hrd.symm, rfl, ((HB.out.trans (HB3.out.mono (by have := HB.out.size; have := HBB.out; omega))).alloc (by have := HB.out.size; have := HBB.out; have := HB3.out.size; omega) _), Nat.le_trans HB1.out.size (Nat.le_trans HSZ.out (Nat.le_trans HB3.out.size (by simp))), ((KeepC.below HB1.out).trans (HKC.out.trans (KeepC.below HB3.out))).trans (KeepC.below ((Below.refl _ _).alloc (Nat.le_refl _) _))⟩)
          clear hrd h0
          go_wp2
          go_ret
          exact HEND.out
      · obtain rfl : j = rs.length := by omega
        have hrd := HRD.out
        rw [List.drop_of_length_le (by omega)] at hrd
        go_wp2
        go_ret
        exact Or.inl ⟨_, hrd.symm, rfl, ⟨T, mo', HT.out, rfl⟩, HB.out, Nat.le_trans HB1.out.size HSZ.out, (KeepC.below HB1.out).trans HKC.out⟩
  · rw [if_neg he]
    have hbe : (er != 0) = true := by simpa using he
    unfold takeV
    clear he
    go_enter Tryz.func157, Tryz.ntmps157
    go_wp2_with fail
    refine HRW.out.mono ?_
    rintro e w1 ⟨A1, c1, rs, rfl, hrs, ho, hb, hx⟩
    have HB1 := Lib.hid hb
    clear hrs ho hb hx HRW
    go_wp2
    go_ret
    exact Or.inr ⟨rfl, rfl, HB1.out.mono HBB.out, HB1.out.size, KeepC.below HB1.out⟩
end Go.Proofs.YtkdpfjenjcpcfaaGreatDoor
namespace Go.Proofs.YtkdpfjenjcpcfaaGreatDoor
open Go.RowKit Mem Be Word Frm Go.Maps
set_option maxRecDepth 10000
set_option maxHeartbeats 4000000
set_option linter.unusedVariables false
variable {KS KS' : StK}
theorem readCs_drop {l : List Rc} {j : Nat} (h : j < l.length) (T : List EntP) : readCs (l.drop j) T = if okC l[j] then readCs (l.drop (j + 1)) (layT T (readP l[j].2).1) else none := by
  rw [List.drop_eq_getElem_cons h]; rfl
theorem recs_nomap (us : List RecV) : ∀ x ∈ recsC us, ∀ m, x ≠ .map m := by
  intro x hx m
  obtain ⟨r, _, hr⟩ := List.mem_flatMap.1 hx
  simp only [recC, List.mem_cons, List.not_mem_nil, or_false] at hr
  rcases hr with rfl | rfl <;> simp
theorem readrecs_any (B b0 n c : Nat) (A : Option Addr) (us : List RecV) (T0 : List EV) (mo : Option Nat) (hn : n = us.length) (hl : n ≤ 419430) (hT : T0.length ≤ 1500000) (hs : ∀ r ∈ us, r.2.2.1.length ≤ 65536) (w : World) (h : Found w B b0 T0 mo) (hr : Row w w.heap.size A (recsC us)) (hrs : Recs_ w us) :
    Calls Tryz.prog 158 #[.slice A n c, takeV b0] w (ReadsP B b0 (readCs (us.map rcOf) (entT T0)) w) := by
  have HF := Lib.hid h
  have HTL := Lib.hid hT
  have HN := Lib.hid hn
  have HL := Lib.hid hl
  have HRO := Lib.hid hr
  have HRS := Lib.hid hrs
  have HSH := Lib.hid hs
  have HBB : Hid (B ≤ w.heap.size) := Lib.hid (by have h1 := h.bB; have h2 := h.blk.lt; omega)
  have hni : (n : Int) ≤ 419430 := by omega
  obtain ⟨R, hR⟩ : ∃ R, readCs (us.map rcOf) (entT T0) = R := ⟨_, rfl⟩
  have HR := Lib.hid hR
  rw [hR]
  clear h hr hn hl hT hrs hs hR
  unfold takeV
  go_enter Tryz.func158, Tryz.ntmps158
  go_wp2_with fail
  go_step3
  go_wp2_with fail
  go_step3
  go_wp2_with fail
  go_loopg [5, 12] n (fun gk f i wr => ∃ (j : Nat) (T : List EV) (mo' : Option Nat), j + gk = n ∧ i = .int .i64 j ∧ f = .int .i64 0 ∧ Hid (Found wr B b0 T mo') ∧ Hid (readCs ((us.map rcOf).drop j) (entT T) = R) ∧ Hid (T.length ≤ 1500000 + j) ∧ Hid (KeepC w wr) ∧ Hid (w.heap.size ≤ wr.heap.size) ∧ Hid (Below B w wr))
  case atStart => exact ⟨0, T0, mo, by omega, rfl, rfl, HF, Lib.hid (by rw [List.drop_zero]; exact HR.out), HTL, Lib.hid (KeepC.refl _), Lib.hid (Nat.le_refl _), Lib.hid (Below.refl _ _)⟩
  case round =>
    obtain ⟨j, T, mo', hj, rfl, rfl, HT, HRD, HTN, HKC, HSZ, HB⟩ := hrel
    by_cases hlt : j < n
    · have hj1 : j < us.length := by rw [← HN.out]; exact hlt
      obtain ⟨b, o, rfl, hbl, hc⟩ := recs_open (row_keepC HRO.out HKC.out (recs_nomap us)) (by omega)
      obtain ⟨k0, k1⟩ := hc j hj1
      have hrowx := row_keepC (HRS.out us[j] (List.getElem_mem hj1)) HKC.out (bytes_nomap _)
      have hyl := HSH.out us[j] (List.getElem_mem hj1)
      obtain ⟨⟨kd, A2, y, c2⟩, hy⟩ : ∃ y, us[j] = y := ⟨_, rfl⟩
      rw [hy] at k0 k1 hrowx hyl
      simp only at k0 k1 hrowx hyl
      have hrd := HRD.out
      rw [readCs_drop (by simpa using hj1)] at hrd
      have hly : (us.map rcOf)[j]'(by simpa using hj1) = (kd, y) := by rw [List.getElem_map, hy]; rfl
      rw [hly] at hrd
      simp only at hrd
      have HRE : Hid (∀ o, Calls Tryz.prog 180 #[.slice A2 y.length c2] (wr.alloc o) (ReadGot (readP y) (wr.alloc o))) := Lib.hid fun o => read_any w.heap.size y.length c2 A2 y rfl (by omega) _ (hrowx.below ((Below.refl _ wr).alloc (Nat.le_refl _) o |>.mono HSZ.out)) (by have := HSZ.out; simp; omega)
      have hji : (0 : Int) ≤ (j : Int) := by omega
      have hji2 : (j : Int) < (n : Int) := by omega
      have HAL : Hid (∀ o, Below wr.heap.size wr (wr.alloc o)) := Lib.hid fun o => (Below.refl _ wr).alloc (Nat.le_refl _) o
      obtain ⟨⟨x, er⟩, hxe⟩ : ∃ z, readP y = z := ⟨_, rfl⟩
      have hokc : okC (kd, y) ↔ kd = 1 ∧ er = 0 ∧ x.s ≠ 0 := by unfold okC; rw [hxe]
      rw [hxe] at hrd HRE
      simp only at hrd
      have HXE := Lib.hid hxe
      have HBK : Hid (Blk (wr.alloc (.cells #[.int .u8 (kd.toNat : Int), .slice A2 y.length c2] 168)) wr.heap.size 168 #[.int .u8 (kd.toNat : Int), .slice A2 y.length c2]) := Lib.hid (Blk.new _ _ _)
      clear hc hly hrowx hy hxe hyl
      go_wp2_with fail
      refine (HRE.out _).mono ?_
      rintro e w2 ⟨A3, c3, rfl, ho3, hb3⟩
      simp only at ho3 ⊢
      have HB3 : Hid (Below wr.heap.size wr w2) := Lib.hid ((HAL.out _).trans (hb3.mono (by simp)))
      have HO3 : Hid (w2.ownsRow wr.heap.size 5 1 (.slice A3 x.v.length c3) x.v.length (x.v.map byteV)) := Lib.hid (ownBase ho3 (by simp))
      have HK2 := Lib.hid (HBK.out.below hb3 (by simp))
      have r0 : w2.cell? ⟨wr.heap.size, 0, none⟩ = some (.int .u8 (kd.toNat : Int)) := HK2.out.cell 0
      have r1 : w2.cell? ⟨wr.heap.size, 1, none⟩ = some (.slice A2 y.length c2) := HK2.out.cell 1
      have hr2 : wr.heap.size < w2.heap.size := HK2.out.lt
      have HEND : Hid (∀ w', Below w2.heap.size w2 w' → R = none → ReadsP B b0 R w (.returned (.int .i64 11)) w') := Lib.hid fun w' hb hn => Or.inr ⟨hn, rfl, (HB.out.trans (HB3.out.mono (by have := HB.out.size; have := HBB.out; omega))).trans (hb.mono (by have := HB.out.size; have := HBB.out; have := HB3.out.size; omega)), Nat.le_trans HSZ.out (Nat.le_trans HB3.out.size hb.size), (HKC.out.trans (KeepC.below HB3.out)).trans (KeepC.below hb)⟩
      clear ho3 hb3 HRE
      by_cases hk1 : kd = 1
      · have hkb : ((kd.toNat : Int) != 1) = false := by subst hk1; rfl
        by_cases h0 : er = 0
        · cases hsn : (x.s == 0)
          · have hxs : x.s ≠ 0 := by simpa using hsn
            rw [if_pos (hokc.2 ⟨hk1, h0, hxs⟩)] at hrd
            subst h0
            have HRD2 := Lib.hid hrd
            have HNN := Lib.hid hsn
            have HOK : Hid (okE x) := Lib.hid (by have := (readP_ok (b := y) (by rw [HXE.out])).1; rw [HXE.out] at this; exact this)
            have HF3 := Lib.hid (HT.out.below HB3.out)
            have HTK : Hid (∀ W, Below w2.heap.size w2 W → Calls Tryz.prog 154 #[evV (x, A3, c3), .pointer (some ⟨b0, 0, none⟩)] W (TakeP B b0 (entT T) x W)) := Lib.hid fun W hb =>
              take_any B b0 T mo' (x, A3, c3) HOK.out (by have := HTN.out; have := HL.out; omega) _ (HF3.out.below hb) (ValOk.below (w := w2) ⟨Row.of_own HO3.out, by have := (rightE_yes HOK.out).2.2.1; show (x.v.length : Int) ≤ _; omega, (own_cap HO3.out).1⟩ hb)
            have HBE : Hid (Blk (w2.alloc (.cells ⟨entC (x, A3, c3)⟩ 46)) w2.heap.size 46 ⟨entC (x, A3, c3)⟩) := Lib.hid (Blk.new _ _ _)
            have HAE : Hid (∀ o, Below w2.heap.size w2 (w2.alloc o)) := Lib.hid fun o => (Below.refl _ _).alloc (Nat.le_refl _) o
            clear hrd hokc hk1 hsn hxs HEND
            unfold evV at HTK
            go_wp2_with fail
            refine (none_val _ _ _ _ HNN _).mono ?_
            rintro e w4 ⟨rfl, hb4⟩
            have HB4 : Hid (Below w2.heap.size w2 w4) := Lib.hid ((HAE.out _).trans (hb4.mono (by simp)))
            have HKE := Lib.hid (HBE.out.below hb4 (by simp))
            have e0 : w4.cell? ⟨w2.heap.size, 0, none⟩ = some (.string ⟨x.k.toArray⟩) := HKE.out.cell 0
            have e1 : w4.cell? ⟨w2.heap.size, 1, none⟩ = some (.int .i64 x.s) := HKE.out.cell 1
            have e2 : w4.cell? ⟨w2.heap.size, 2, none⟩ = some (.int .i64 x.u) := HKE.out.cell 2
            have e3 : w4.cell? ⟨w2.heap.size, 3, none⟩ = some (.int .i64 x.o) := HKE.out.cell 3
            have e4 : w4.cell? ⟨w2.heap.size, 4, none⟩ = some (.bool x.has) := HKE.out.cell 4
            have e5 : w4.cell? ⟨w2.heap.size, 5, none⟩ = some (.slice A3 x.v.length c3) := HKE.out.cell 5
            have HTK4 := Lib.hid (HTK.out _ HB4.out)
            clear hb4
            go_wp2_with fail
            refine HTK4.out.mono ?_
            rintro e w3 ⟨rfl, ⟨T2, mo2, hf2, ht2⟩, hb2, hs2, hk2⟩
            have HF2 := Lib.hid hf2
            have HRD3 : Hid (readCs ((us.map rcOf).drop (j + 1)) (entT T2) = R) := Lib.hid (by rw [ht2]; exact HRD2.out)
            have HTN2 : Hid (T2.length ≤ 1500000 + (j + 1)) := Lib.hid (by
              have h1 := congrArg List.length ht2
              have h2 := lay_len (entT T) x
              rw [List.length_map] at h1
              rw [List.length_map] at h2
              have := HTN.out
              omega)
            have HKC2 : Hid (KeepC w w3) := Lib.hid (((HKC.out.trans (KeepC.below HB3.out)).trans (KeepC.below HB4.out)).trans hk2)
            have HSZ2 : Hid (w.heap.size ≤ w3.heap.size) := Lib.hid (Nat.le_trans HSZ.out (Nat.le_trans HB3.out.size (Nat.le_trans HB4.out.size hs2)))
            have HBX : Hid (Below B w w3) := Lib.hid (((HB.out.trans (HB3.out.mono (by have := HB.out.size; have := HBB.out; omega))).trans (HB4.out.mono (by have := HB.out.size; have := HBB.out; have := HB3.out.size; omega))).trans hb2)
            clear hf2 ht2 hb2 hs2 hk2 HTK HTK4
            go_wp2
            go_roundg (gk - 1)
            case measure => omega
            case rel => exact ⟨j + 1, T2, mo2, by omega, by go_num, rfl, HF2, HRD3, HTN2, HKC2, HSZ2, HBX⟩
          · have hxs : x.s = 0 := by simpa using hsn
            rw [if_neg (fun h => (hokc.1 h).2.2 hxs)] at hrd
            subst h0
            have HNN := Lib.hid hsn
            have HAE : Hid (∀ o, Below w2.heap.size w2 (w2.alloc o)) := Lib.hid fun o => (Below.refl _ _).alloc (Nat.le_refl _) o
            have HRN := Lib.hid hrd.symm
            clear hrd hokc hk1 hsn hxs
            go_wp2_with fail
            refine (none_val _ _ _ _ HNN _).mono ?_
            rintro e w4 ⟨rfl, hb4⟩
            have HX := Lib.hid (HEND.out w4 ((HAE.out _).trans (hb4.mono (by simp))) HRN.out)
            clear hb4 HEND
            go_wp2
            try rw [Exit.noGoto_ret]
            go_ret
            exact HX.out
        · rw [if_neg (fun h => h0 (hokc.1 h).2.1)] at hrd
          have hbe : (er != 0) = true := by simpa using h0
          have HX := Lib.hid (HEND.out (w2.alloc (.cells ⟨entC (x, A3, c3)⟩ 46)) ((Below.refl _ _).alloc (Nat.le_refl _) _) hrd.symm)
          clear hrd hokc hk1 h0 HEND
          go_wp2
          try rw [Exit.noGoto_ret]
          go_ret
          exact HX.out
      · rw [if_neg (fun h => hk1 (hokc.1 h).1)] at hrd
        have hkb : ((kd.toNat : Int) != 1) = true := by
          have : (kd.toNat : Int) ≠ 1 := fun e => hk1 (UInt8.toNat_inj.1 (by have : kd.toNat = 1 := by omega
                                                                             rw [this]; rfl))
          simpa using this
        have HX := Lib.hid (HEND.out (w2.alloc (.cells ⟨entC (x, A3, c3)⟩ 46)) ((Below.refl _ _).alloc (Nat.le_refl _) _) hrd.symm)
        clear hrd hokc hk1 HEND
        go_wp2
        try rw [Exit.noGoto_ret]
        go_ret
        exact HX.out
    · obtain rfl : j = n := by omega
      have hrd := HRD.out
      rw [List.drop_of_length_le (by rw [List.length_map, ← HN.out]; exact Nat.le_refl _)] at hrd
      go_wp2
      try rw [Exit.noGoto_ret]
      go_ret
      exact Or.inl ⟨_, hrd.symm, rfl, ⟨T, mo', HT.out, rfl⟩, HB.out, HSZ.out, HKC.out⟩
end Go.Proofs.YtkdpfjenjcpcfaaGreatDoor
namespace Go.Proofs.YtkdpfjenjcpcfaaGreatDoor
open Go.RowKit Mem Be Word Frm Go.Maps
set_option maxRecDepth 10000
set_option maxHeartbeats 4000000
set_option linter.unusedVariables false
variable {KS KS' : StK}
theorem lastIs_lastN : ∀ rs : List Rc, LastIs rs (lastN rs)
  | [] => ⟨Nat.le_refl _, fun j h => by simp at h, fun k h => by cases h⟩
  | r :: t => by
    have ih := lastIs_lastN t
    have hd : lastN (r :: t) = if lastN t ≠ 0 then lastN t + 1 else if r.1 = 0 then 1 else 0 := rfl
    rw [hd]
    by_cases h0 : lastN t = 0
    · rw [if_neg (by simp [h0])]
      rw [h0] at ih
      by_cases hr : r.1 = 0
      · rw [if_pos hr]
        refine ⟨by simp, fun j hj hp => ?_, fun k hk => ?_⟩
        · obtain ⟨j', rfl⟩ : ∃ j', j = j' + 1 := ⟨j - 1, by omega⟩
          exact ih.no j' (by simpa using hj) (Nat.zero_le _)
        · have : k = 0 := by omega
          subst this
          exact ⟨by simp, hr⟩
      · rw [if_neg hr]
        refine ⟨Nat.zero_le _, fun j hj hp => ?_, fun k hk => by omega⟩
        rcases j with _ | j'
        · exact hr
        · exact ih.no j' (by simpa using hj) (Nat.zero_le _)
    · rw [if_pos h0]
      refine ⟨by have := ih.le; simp; omega, fun j hj hp => ?_, fun k hk => ?_⟩
      · obtain ⟨j', rfl⟩ : ∃ j', j = j' + 1 := ⟨j - 1, by omega⟩
        exact ih.no j' (by simpa using hj) (by omega)
      · obtain ⟨k', hk'⟩ : ∃ k', lastN t = k' + 1 := ⟨lastN t - 1, by omega⟩
        obtain ⟨h1, h2⟩ := ih.yes k' hk'
        have : k = k' + 1 := by omega
        subst this
        exact ⟨by simpa using h1, h2⟩
theorem lastB_O (rs : List Rc) (p : Nat) : lastB rs p = lastO rs p := by cases p <;> rfl
/-- What is told of a log's entries. -/
def EntriesP (r : Option (List EntP)) (w : World) (e : Ending) (w' : World) : Prop :=
  (∃ T mo, r = some (entT T) ∧ e = .returned (.tuple #[.map mo, .int .i64 0]) ∧ TabAt w' (fun k => w.heap.size ≤ k ∧ k < w'.heap.size) mo T ∧ Below w.heap.size w w') ∨
  (r = none ∧ e = .returned (.tuple #[.map none, .int .i64 11]) ∧ Below w.heap.size w w')
theorem found_tab {w' : World} {B b0 : Nat} {T : List EV} {mo : Option Nat} (h : Found w' B b0 T mo) : TabAt w' (fun k => B ≤ k ∧ k < w'.heap.size) mo T := by
  refine ⟨h.map, fun b hb => ⟨h.inM b hb, ?_⟩, h.srt, entsO_base h.own (Nat.zero_le _), fun x hx a ha => ⟨(ownIn (h.own x hx) ha).1, (ownIn (h.own x hx) ha).2.1⟩, h.ok⟩
  have := h.map
  rw [hb] at this
  exact (tabM_some this).lt
theorem entries_any (F : Nat → Prop) (g m q : Nat) (rs : List Rc) (w : World) (h : LgAt lg0 w F g rs m q) :
    Calls Tryz.prog 127 #[.pointer (some ⟨g, 0, none⟩)] w (EntriesP (recS rs) w) := by
  have hmany := h.many
  have hshort := h.short
  obtain ⟨w1, hw1⟩ : ∃ w1, w.alloc (.cells #[.map none] 106) = w1 := ⟨_, rfl⟩
  have hb1 : Below w.heap.size w w1 := by rw [← hw1]; exact (Below.refl _ _).alloc (Nat.le_refl _) _
  have hf1 : Found w1 w.heap.size w.heap.size [] none := by
    rw [← hw1]
    exact ⟨Blk.new _ _ _, Or.inl ⟨rfl, rfl⟩, (fun b h => by cases h), Nat.le_refl _, sort_nil, entsO_nil _ _, (fun x h => by cases h)⟩
  have HLA := Lib.hid (last7_any F g m q rs w1 (h.below hb1))
  have HB1 := Lib.hid hb1
  have HF1 := Lib.hid hf1
  have HMY := Lib.hid hmany
  have HSH := Lib.hid hshort
  have hs1 : w1.heap.size = w.heap.size + 1 := by rw [← hw1]; simp
  obtain ⟨R, hR⟩ : ∃ R, recS rs = R := ⟨_, rfl⟩
  have HR := Lib.hid hR
  rw [hR]
  clear h hmany hshort hb1 hf1 hR
  go_enter Tryz.func127, Tryz.ntmps127
  go_wp2_with fail
  refine HLA.out.mono ?_
  rintro e w2 ⟨p, A1, c1, us, A2, c2, hp, hus, rfl, ho1, ho2, hor, hb2⟩
  have hpe : p = lastN rs := lastIs_unique hp (lastIs_lastN rs)
  subst hpe
  rw [lastB_O] at ho1 ⊢
  obtain ⟨X, hX⟩ : ∃ X, lastO rs (lastN rs) = X := ⟨_, rfl⟩
  have hXl : X.length ≤ 65536 := by
    rw [← hX]
    cases hq : lastN rs with
    | zero => simp [lastO]
    | succ k =>
      simp only [lastO]
      cases hk : rs[k]? with
      | none => simp
      | some r =>
        obtain ⟨h1, h2⟩ := List.getElem?_eq_some_iff.1 hk
        exact HSH.out r (by rw [← h2]; exact List.getElem_mem h1)
  have HXL := Lib.hid hXl
  have hrec : R = (if (allA getR X).2 = 0 then readRs (allA getR X).1 [] else none).bind (readCs (us.map rcOf)) := by
    rw [← HR.out, hus, ← hX]; rfl
  have HREC := Lib.hid hrec
  have hul : us.length ≤ 419430 := by have h1 := congrArg List.length hus; rw [List.length_map, List.length_drop] at h1; have := HMY.out; omega
  have HUL := Lib.hid hul
  have HUS : Hid (∀ r ∈ us, r.2.2.1.length ≤ 65536) := Lib.hid fun r hr => by
    have h1 : rcOf r ∈ rs.drop (lastN rs) := by rw [← hus]; exact List.mem_map_of_mem hr
    exact HSH.out _ (List.mem_of_mem_drop h1)
  rw [hX] at ho1 ⊢
  have HB2 := Lib.hid hb2
  have HF2 := Lib.hid (HF1.out.below hb2)
  have HRR := Lib.hid (readrows_any w.heap.size w.heap.size X.length c1 A1 X [] none rfl (by omega) (by simp) w2 HF2.out (Row.of_own ho1))
  have HO2 := Lib.hid (ownRow ho2)
  have HOR := Lib.hid (recsO_recs hor)
  clear hp hus ho1 ho2 hor hb2 hX hXl hrec hul HLA
  unfold takeV at HRR
  go_wp2_with fail
  refine HRR.out.mono ?_
  rintro e w3 (⟨T, hT, rfl, ⟨T', mo', hf3, ht3⟩, hb3, hs3, hk3⟩ | ⟨hT, rfl, hb3, hs3, hk3⟩)
  · have hrec := HREC.out
    rw [show (entT ([] : List EV)) = [] from rfl] at hT
    rw [hT] at hrec
    simp only [Option.bind_some] at hrec
    have hb3w : Below w.heap.size w w3 := (HB1.out.trans (HB2.out.mono HB1.out.size)).trans hb3
    have HB3 := Lib.hid hb3w
    have hTl : T'.length ≤ 1500000 := by
      have h1 := congrArg List.length ht3
      rw [List.length_map] at h1
      split at hT
      · obtain ⟨_, h2⟩ := readRs_ok _ _ okT_nil T hT
        have h3 := allF_len getR X.length X
        unfold allA at h2
        have := HXL.out
        simp only [List.length_nil] at h2
        omega
      · cases hT
    have hRC := readrecs_any w.heap.size w.heap.size us.length c2 A2 us T' mo' rfl HUL.out hTl HUS.out w3 hf3 ((row_keepC HO2.out hk3 (recs_nomap us)).more hs3) (fun r hr => (row_keepC (HOR.out r hr) hk3 (bytes_nomap _)).more hs3)
    rw [ht3, ← hrec] at hRC
    have HRC := Lib.hid hRC
    have HS3 := Lib.hid hs3
    clear hT hf3 ht3 hb3 hs3 hk3 hrec hb3w hTl hRC HRR
    unfold takeV at HRC
    go_wp2_with fail
    refine HRC.out.mono ?_
    rintro e w4 (⟨T2, hT2, rfl, ⟨T4, mo4, hf4, ht4⟩, hb4, hs4, hk4⟩ | ⟨hT2, rfl, hb4, hs4, hk4⟩)
    · have HX : Hid (EntriesP R w (.returned (.tuple #[.map mo4, .int .i64 0])) w4) := Lib.hid (Or.inl ⟨T4, mo4, by rw [hT2, ht4], rfl, found_tab hf4, HB3.out.trans hb4⟩)
      have k0 : w4.cell? ⟨w.heap.size, 0, none⟩ = some (.map mo4) := hf4.blk.cell 0
      clear hT2 hf4 ht4 hb4 hs4 hk4 HRC
      go_wp2
      go_ret2
      exact HX.out
    · have HX : Hid (EntriesP R w (.returned (.tuple #[.map none, .int .i64 11])) w4) := Lib.hid (Or.inr ⟨hT2, rfl, HB3.out.trans hb4⟩)
      clear hT2 hb4 hs4 hk4 HRC
      go_wp2
      go_ret2
      exact HX.out
  · have hrec := HREC.out
    rw [show (entT ([] : List EV)) = [] from rfl] at hT
    rw [hT] at hrec
    have HX : Hid (EntriesP R w (.returned (.tuple #[.map none, .int .i64 11])) w3) := Lib.hid (Or.inr ⟨hrec, rfl, (HB1.out.trans (HB2.out.mono HB1.out.size)).trans hb3⟩)
    clear hT hb3 hs3 hk3 hrec HRR
    go_wp2
    go_ret2
    exact HX.out
/-- What Recover tells of a disk's bytes. -/
def RecoverP (X : List UInt8) (q : Nat) (w : World) (e : Ending) (w' : World) : Prop :=
  (∃ T, recS (scanS X).1 = some T ∧ NewSt (fun p => .tuple #[p, .int .i64 ((X.length : Int) - ((scanS X).2.1 : Int)), .int .i64 0]) ⟨(scanS X).1, (scanS X).1.length, T, T, []⟩ q w e w') ∨
  (recS (scanS X).1 = none ∧ e = .returned (.tuple #[.pointer none, .int .i64 0, .int .i64 11]) ∧ Below w.heap.size w w')
theorem recover_any (F : Nat → Prop) (y q : Nat) (L T : List UInt8) (w : World) (h : DkAt dk0 w F y L T q) :
    Calls Tryz.prog 93 #[.pointer (some ⟨y, 0, none⟩)] w (RecoverP (L ++ T) q w) := by
  have HO := Lib.hid (open_any F y q L T w h)
  obtain ⟨X, hX⟩ : ∃ X, L ++ T = X := ⟨_, rfl⟩
  rw [hX] at HO ⊢
  clear h hX
  unfold OpenP at HO
  obtain ⟨cut, hcut⟩ : ∃ cut, (X.length : Int) - ((scanS X).2.1 : Int) = cut := ⟨_, rfl⟩
  obtain ⟨rs, hrs⟩ : ∃ rs, (scanS X).1 = rs := ⟨_, rfl⟩
  have HRP : Hid (RecoverP X q w = fun e w' => (∃ T, recS rs = some T ∧ NewSt (fun p => .tuple #[p, .int .i64 cut, .int .i64 0]) ⟨rs, rs.length, T, T, []⟩ q w e w') ∨ (recS rs = none ∧ e = .returned (.tuple #[.pointer none, .int .i64 0, .int .i64 11]) ∧ Below w.heap.size w w')) := Lib.hid (by unfold RecoverP; rw [hcut, hrs])
  rw [hcut, hrs] at HO
  obtain ⟨RP, hRP⟩ : ∃ RP, RecoverP X q w = RP := ⟨_, rfl⟩
  rw [hRP] at HRP ⊢
  clear hcut hrs hRP
  go_enter Tryz.func93, Tryz.ntmps93
  go_wp2_with fail
  refine HO.out.mono ?_
  rintro e w1 ⟨g1, F1, rfl, hF1, hl1, hb1⟩
  have HF1 := Lib.hid hF1
  have HL1 := Lib.hid hl1
  have HB1 := Lib.hid hb1
  have HEN := Lib.hid (entries_any F1 g1 rs.length q rs w1 hl1)
  clear hF1 hl1 hb1 HO
  go_wp2_with fail
  refine HEN.out.mono ?_
  rintro e w2 (⟨T, mo, hT, rfl, ht, hb2⟩ | ⟨hT, rfl, hb2⟩)
  · have hl2 := HL1.out.below hb2
    obtain ⟨a, b, c, v, c0, c1, c2, c3, c4, hmv⟩ := lg_move (stK st0K mo none (.slice none 0 0)) hl2
    have hst := st_made (g := w2.heap.size) rfl hT ht (fun k hk hs => by have := HL1.out.lt k hk; omega) (fun k hk => hk.2) rfl hmv
    have HX : Hid (RP (.returned (.tuple #[.pointer (some ⟨w2.heap.size, 0, none⟩), .int .i64 cut, .int .i64 0])) (w2.alloc (.cells #[a, b, c, v, .int .i64 (rs.length : Int), .map mo, .map none, .slice none 0 0] 108))) := Lib.hid (by
      rw [HRP.out]
      refine Or.inl ⟨entT T, hT, w2.heap.size, _, rfl, fun k hk => ?_, hst, (HB1.out.trans (hb2.mono HB1.out.size)).alloc (Nat.le_trans HB1.out.size hb2.size) _⟩
      rcases hk with h | h | h
      · exact HF1.out k h
      · exact Nat.le_trans HB1.out.size h.1
      · have := hb2.size; have := HB1.out.size; omega)
    have hg1 : g1 < w2.heap.size := block_lt c0
    clear hT ht hb2 hl2 hmv hst HEN
    go_wp2
    go_ret3
    exact HX.out
  · have HX : Hid (RP (.returned (.tuple #[.pointer none, .int .i64 0, .int .i64 11])) w2) := Lib.hid (by rw [HRP.out]; exact Or.inr ⟨hT, rfl, HB1.out.trans (hb2.mono HB1.out.size)⟩)
    clear hT hb2 HEN
    go_wp2
    go_ret3
    exact HX.out
/-- What comes back from a crash. -/
def crashR (S : St8) (k : Nat) : List Rc := (scanS (allB (S.rs.take S.m) ++ (allB (S.rs.drop S.m)).take k)).1
def crash8S (S : St8) (k : Nat) : St8 := ⟨crashR S k, (crashR S k).length, (recS (crashR S k)).getD [], (recS (crashR S k)).getD [], []⟩
theorem crash_told {S : St8} (h : Ok8 S) (hs : Short S.rs) (k : Nat) : ∃ T, recS (crashR S k) = some T := by
  obtain ⟨p, h1, h2, h3⟩ := crash_take S.rs S.m k hs h.le
  unfold crashR
  rw [h3]
  exact Option.isSome_iff_exists.1 (h.told p h1 h2)
theorem crash_neg8 (F : Nat → Prop) (g q : Nat) (S : St8) (k : Int) (hk : k < 0) (w : World) (h : StAt KS w F g S q) :
    Calls Tryz.prog 61 #[.pointer (some ⟨g, 0, none⟩), .int .i64 k] w fun e w' => e = .returned (.tuple #[.pointer none, .int .i64 2]) ∧ Below w.heap.size w w' := by
  have HD := Lib.hid (disk_any8 F g q S w h)
  clear h
  go_enter Tryz.func61, Tryz.ntmps61
  go_wp2_with fail
  refine HD.out.mono ?_
  rintro e w1 ⟨y, F1, rfl, hf, hd, hb⟩
  have HB := Lib.hid hb
  have HC := Lib.hid (crash_neg F1 y q [] [] k hk w1)
  simp only [id]
  clear hf hd hb
  go_wp2_with fail
  refine HC.out.mono ?_
  rintro e w' ⟨rfl, rfl⟩
  clear HC
  go_wp2
  go_ret2
  exact ⟨rfl, HB.out⟩
theorem crash_any8 (F : Nat → Prop) (g q k : Nat) (S : St8) (w : World) (h : StAt KS w F g S q) :
    Calls Tryz.prog 61 #[.pointer (some ⟨g, 0, none⟩), .int .i64 (k : Int)] w (NewSt (fun p => .tuple #[p, .int .i64 0]) (crash8S S k) q w) := by
  have HD := Lib.hid (disk_any8 F g q S w h)
  have hsh : Short S.rs := by
    obtain ⟨h0, FL, FS, lm, fm, TL, TF, A, c, h1, h2, hfl, h⟩ := h
    exact h.lg.short
  obtain ⟨T0, hT0⟩ := crash_told h.ok hsh k
  have HT0 := Lib.hid hT0
  obtain ⟨X, hX⟩ : ∃ X, allB (S.rs.take S.m) ++ (allB (S.rs.drop S.m)).take k = X := ⟨_, rfl⟩
  have HX0 := Lib.hid hX
  obtain ⟨L, hL⟩ : ∃ L, allB (S.rs.take S.m) = L := ⟨_, rfl⟩
  obtain ⟨T, hT⟩ : ∃ T, allB (S.rs.drop S.m) = T := ⟨_, rfl⟩
  rw [hL, hT] at HD hX
  have HCR : Hid (crash8S S k = ⟨(scanS X).1, (scanS X).1.length, T0, T0, []⟩) := Lib.hid (by
    have : crashR S k = (scanS X).1 := by unfold crashR; rw [hL, hT, hX]
    unfold crash8S
    rw [hT0, this]; rfl)
  have HRX : Hid (recS (scanS X).1 = some T0) := Lib.hid (by
    have : crashR S k = (scanS X).1 := by unfold crashR; rw [hL, hT, hX]
    rw [← this]; exact hT0)
  rw [HCR.out]
  clear h hL hT hsh hT0
  go_enter Tryz.func61, Tryz.ntmps61
  go_wp2_with fail
  refine HD.out.mono ?_
  rintro e w1 ⟨y, F1, rfl, hf, hd, hb⟩
  have HF := Lib.hid hf
  have HB := Lib.hid hb
  have HC := Lib.hid (crash_any F1 y q k L T w1 hd)
  rw [hX] at HC
  simp only [id]
  clear hf hd hb HD hX
  go_wp2_with fail
  refine HC.out.mono ?_
  rintro e w2 ⟨rfl, F2, hf2, hd2, ht2⟩
  have HB2 : Hid (Below w.heap.size w w2) := Lib.hid (HB.out.trans (ht2.below HB.out.size HF.out))
  have HO := Lib.hid (recover_any F2 y q X [] w2 hd2)
  rw [List.append_nil] at HO
  clear hf2 hd2 ht2 HC
  go_wp2_with fail
  refine HO.out.mono ?_
  rintro e w3 (⟨T3, hT3, z, F3, rfl, hf3, hl3, hb3⟩ | ⟨hT3, _⟩)
  · have : T3 = T0 := by rw [HRX.out] at hT3; injection hT3 with hT3; exact hT3.symm
    subst this
    have HX : Hid (NewSt (fun p => .tuple #[p, .int .i64 0]) ⟨(scanS X).1, (scanS X).1.length, T3, T3, []⟩ q w (.returned (.tuple #[.pointer (some ⟨z, 0, none⟩), .int .i64 0])) w3) := Lib.hid
      ⟨z, F3, rfl, fun k hk => Nat.le_trans HB2.out.size (hf3 k hk), hl3, HB2.out.trans (hb3.mono HB2.out.size)⟩
    clear hT3 hf3 hl3 hb3 HO
    go_wp2
    go_ret2
    exact HX.out
  · rw [HRX.out] at hT3; cases hT3
end Go.Proofs.YtkdpfjenjcpcfaaGreatDoor
