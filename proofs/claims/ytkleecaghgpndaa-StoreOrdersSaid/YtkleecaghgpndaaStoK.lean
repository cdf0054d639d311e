/- StoK: Package store: entriesOf's closure: an entry is taken in.
   StoL: Package store: readRows.
   StoM: Package store: readRecords.
   StoN: Package store: entriesOf, Recover, Crash. -/
import Derived.Test.YtkleecaghgpndaaSto
import Derived.Deep.RegionLaw
import Derived.Test.YtkleecaghgpndaaAllRows
import Derived.Test.YtkleecaghgpndaaRecs
import Derived.Deep.LoopGhost
import Derived.Test.YtkleecaghgpndaaLast
namespace Go.Proofs.Ytkleecaghgpndaa
open Go.RowKit Mem Be Word Frm Go.Maps
set_option maxRecDepth 10000
set_option maxHeartbeats 4000000
set_option linter.unusedVariables false
/-- A table in a variable of its own, all of it in blocks from B on. -/
structure Found (w : World) (B b0 : Nat) (T : List EV) (mo : Option Nat) : Prop where
  blk : Blk w b0 56 #[.map mo]
  map : TabM w mo T
  inM : ∀ b, mo = some b → B ≤ b
  bB : B ≤ b0
  srt : SortT kV T
  own : EntsO w B T
  ok : ∀ x ∈ T, okE x.1
theorem put_same {T : List EntP} (h : SortT kE T) {e : EntP} (hg : getK kE T e.k = some e) : putK kE T e = T := by
  refine ext_tab (put_sort h) h fun k => ?_
  rw [get_put]
  by_cases hk : kE e = k
  · rw [if_pos hk, ← hk]; exact hg.symm
  · rw [if_neg hk]
theorem Found.below {w w' : World} {B b0 : Nat} {T : List EV} {mo : Option Nat} (h : Found w B b0 T mo) (hb : Below w.heap.size w w') : Found w' B b0 T mo :=
  ⟨h.blk.below hb h.blk.lt, h.map.below hb, h.inM, h.bB, h.srt, entsO_below h.own hb, h.ok⟩
theorem Found.val {w : World} {B b0 : Nat} {T : List EV} {mo : Option Nat} (h : Found w B b0 T mo) (k : List UInt8) : ValOk w (ofV T k).1.has (ofV T k).2.1 (ofV T k).1.v (ofV T k).2.2 := by
  unfold ofV
  cases hg : getK kV T k with
  | none => exact ⟨Row.nil _ _ _, by simp [evN, entN], Nat.le_refl _⟩
  | some x =>
    have hx := (get_some hg).1
    exact (show ValOk w x.1.has x.2.1 x.1.v x.2.2 from ownE_val (h.own x hx) (by have := (rightE_yes (h.ok x hx)).2.2.1; omega))
/-- All cells that hold no map stay. -/
def KeepC (w w' : World) : Prop := ∀ b o v, w.cell? ⟨b, o, none⟩ = some v → (∀ m, v ≠ .map m) → w'.cell? ⟨b, o, none⟩ = some v
theorem KeepC.refl (w : World) : KeepC w w := fun _ _ _ h _ => h
theorem KeepC.trans {a b c : World} (h : KeepC a b) (h' : KeepC b c) : KeepC a c := fun x o v hv hm => h' x o v (h x o v hv hm) hm
theorem KeepC.below {w w' : World} (h : Below w.heap.size w w') : KeepC w w' := fun b o v hv _ => (h.cell (p := ⟨b, o, none⟩) (block_lt hv)).trans hv
theorem row_keepC {w w' : World} {B : Nat} {A : Option Addr} {xs : List Value} (h : Row w B A xs) (hk : KeepC w w') (hx : ∀ x ∈ xs, ∀ m, x ≠ .map m) : Row w' B A xs := by
  rcases h with h | ⟨b, o, e, hb, hc⟩
  · exact Or.inl h
  · exact Or.inr ⟨b, o, e, hb, fun j hj => hk b (o + j) _ (hc j hj) (hx _ (List.getElem_mem hj))⟩
theorem bytes_nomap (bs : List UInt8) : ∀ x ∈ bs.map byteV, ∀ m, x ≠ .map m := by
  intro x hx m
  obtain ⟨b, _, rfl⟩ := List.mem_map.1 hx
  simp [byteV]
theorem found_set {w5 w6 : World} {B b0 : Nat} {T : List EV} {mo : Option Nat} {z : EV} {e : Ending} (h : Found w5 B b0 T mo) (hz : OwnE w5 B z) (ok : okE z.1) (hs : SetP b0 0 mo T z w5 e w6) : e = .returned (.tuple #[]) ∧ (∃ mo', Found w6 B b0 (putK kV T z) mo') ∧ Below B w5 w6 ∧ KeepC w5 w6 := by
  obtain ⟨he, hs⟩ := hs
  refine ⟨he, ?_⟩
  have hokp : ∀ x ∈ putK kV T z, okE x.1 := fun x hx => by
    rcases mem_put_of hx with rfl | hx
    · exact ok
    · exact h.ok x hx
  have hownp : EntsO w5 B (putK kV T z) := fun x hx => by
    rcases mem_put_of hx with rfl | hx
    · exact hz
    · exact h.own x hx
  rcases hs with ⟨b, rfl, h1, h2⟩ | ⟨rfl, b, hbl, h1, h2⟩
  · have hbT := tabM_some h.map
    have hbb : b ≠ b0 := hbT.ne h.blk
    refine ⟨⟨some b, blkKeep h.blk (h2.block _ h.blk.lt fun e => hbb e.symm), Or.inr ⟨b, rfl, h1⟩, h.inM, h.bB, put_sort h.srt, fun x hx => ownKeep (hownp x hx) fun a ha => h2.block _ (ownIn (hownp x hx) ha).2.1 (own_not_map (hownp x hx) hbT ha), hokp⟩, ?_⟩
    have hb0 := h.blk.lt
    have hbl := hbT.lt
    have hbB := h.inM b rfl
    refine ⟨⟨h2.os, h2.tape, h2.output, h2.size, fun k hk => h2.block k (by have := h.bB; omega) (by omega)⟩, fun b' o v hv _ => ?_⟩
    exact (cell_keep (p := ⟨b', o, none⟩) (h2.block b' (block_lt hv) (blk_not_map hbT hv ∘ Eq.symm))).trans hv
  · have hsz := touch_cell_size h2
    have hkp : ∀ k, k < w5.heap.size → k ≠ b0 → w6.heap[k]? = w5.heap[k]? := fun k hk hn => (h2.block k (by simpa [World.setCell] using hk) (fun h => h)).trans (Below.heap_setCell w5 ⟨b0, 0, none⟩ _ k hn)
    have hb0 := h.blk.lt
    refine ⟨⟨some b, ?_, Or.inr ⟨b, rfl, h1⟩, fun b' hb' => by injection hb' with hb'; subst hb'; have := h.bB; omega, h.bB, put_sort h.srt, fun x hx => ownKeep (hownp x hx) fun a ha => hkp _ (ownIn (hownp x hx) ha).2.1 (ownNe (hownp x hx) h.blk (by decide) ha), hokp⟩, ?_⟩
    · have := h.blk.set_ 0 (.map (some b))
      exact blkKeep (by simpa using this) (h2.block b0 (by simpa [World.setCell] using hb0) (fun h => h))
    · refine ⟨⟨h2.os, h2.tape, h2.output, hsz, fun k hk => hkp k (by have := h.bB; omega) (by have := h.bB; omega)⟩, fun b' o v hv hm => ?_⟩
      refine (cell_keep (p := ⟨b', o, none⟩) (h2.block b' (by have := block_lt hv; simpa [World.setCell] using this) (fun h => h))).trans ?_
      refine (World.cell?_setCell_other _ _ _ _ (fun e => ?_)).trans hv
      injection e with e1 e2
      subst e1
      subst e2
      have h3 := h.blk.cell 0
      rw [hv] at h3
      simp at h3
      exact hm _ h3
/-- What is left when an entry is taken in. -/
def TakeP (B b0 : Nat) (T : List EntP) (x : EntP) (w : World) (e : Ending) (w' : World) : Prop := e = .returned (.tuple #[]) ∧ (∃ T' mo', Found w' B b0 T' mo' ∧ entT T' = layT T x) ∧ Below B w w' ∧ w.heap.size ≤ w'.heap.size ∧ KeepC w w'
end Go.Proofs.Ytkleecaghgpndaa
namespace Go.Proofs.Ytkleecaghgpndaa
open Go.RowKit Mem Be Word Frm Go.Maps
set_option maxRecDepth 10000
set_option maxHeartbeats 4000000
set_option linter.unusedVariables false
/-- What is read into a table, or that it is none. -/
def ReadsP (B b0 : Nat) (r : Option (List EntP)) (w : World) (e : Ending) (w' : World) : Prop :=
  (∃ T, r = some T ∧ e = .returned (.int .i64 0) ∧ (∃ T' mo', Found w' B b0 T' mo' ∧ entT T' = T) ∧ Below B w w' ∧ w.heap.size ≤ w'.heap.size ∧ KeepC w w') ∨
  (r = none ∧ e = .returned (.int .i64 11) ∧ Below B w w' ∧ w.heap.size ≤ w'.heap.size ∧ KeepC w w')
theorem readRs_drop {l : List (List UInt8)} {j : Nat} (h : j < l.length) (T : List EntP) : readRs (l.drop j) T = if (readP l[j]).2 = 0 then readRs (l.drop (j + 1)) (layT T (readP l[j]).1) else none := by
  rw [List.drop_eq_getElem_cons h]; rfl
theorem allF_row : ∀ (f : Nat) (bs : List UInt8), ∀ x ∈ (allF getR f bs).1, x.length ≤ 65536
  | 0, _, x, h => by simp [allF] at h
  | f + 1, bs, x, h => by
    have ih := allF_row f (bs.drop (getR bs).2.1)
    unfold allF at h
    split at h
    · simp at h
    · split at h
      · unfold cons1 at h
        split at h
        · rcases List.mem_cons.1 h with rfl | h
          · exact getR_len bs
          · exact ih x h
        · simp at h
      · simp at h
end Go.Proofs.Ytkleecaghgpndaa
namespace Go.Proofs.Ytkleecaghgpndaa
open Go.RowKit Mem Be Word Frm Go.Maps
set_option maxRecDepth 10000
set_option maxHeartbeats 4000000
set_option linter.unusedVariables false
theorem readCs_drop {l : List Rc} {j : Nat} (h : j < l.length) (T : List EntP) : readCs (l.drop j) T = if okC l[j] then readCs (l.drop (j + 1)) (layT T (readP l[j].2).1) else none := by
  rw [List.drop_eq_getElem_cons h]; rfl
theorem recs_nomap (us : List RecV) : ∀ x ∈ recsC us, ∀ m, x ≠ .map m := by
  intro x hx m
  obtain ⟨r, _, hr⟩ := List.mem_flatMap.1 hx
  simp only [recC, List.mem_cons, List.not_mem_nil, or_false] at hr
  rcases hr with rfl | rfl <;> simp
end Go.Proofs.Ytkleecaghgpndaa
namespace Go.Proofs.Ytkleecaghgpndaa
open Go.RowKit Mem Be Word Frm Go.Maps
set_option maxRecDepth 10000
set_option maxHeartbeats 4000000
set_option linter.unusedVariables false
theorem lastIs_lastN : ∀ rs : List Rc, LastIs rs (lastN rs)
  | [] => ⟨Nat.le_refl _, fun j h => by simp at h, fun k h => by cases h⟩
  | r :: t => by
    have ih := lastIs_lastN t
    have hd : lastN (r :: t) = if lastN t ≠ 0 then lastN t + 1 else if r.1 = 0 then 1 else 0 := rfl
    rw [hd]
    by_cases h0 : lastN t = 0
    · rw [if_neg (by simp [h0])]
      rw [h0] at ih
      by_cases hr : r.1 = 0
      · rw [if_pos hr]
        refine ⟨by simp, fun j hj hp => ?_, fun k hk => ?_⟩
        · obtain ⟨j', rfl⟩ : ∃ j', j = j' + 1 := ⟨j - 1, by omega⟩
          exact ih.no j' (by simpa using hj) (Nat.zero_le _)
        · have : k = 0 := by omega
          subst this
          exact ⟨by simp, hr⟩
      · rw [if_neg hr]
        refine ⟨Nat.zero_le _, fun j hj hp => ?_, fun k hk => by omega⟩
        rcases j with _ | j'
        · exact hr
        · exact ih.no j' (by simpa using hj) (Nat.zero_le _)
    · rw [if_pos h0]
      refine ⟨by have := ih.le; simp; omega, fun j hj hp => ?_, fun k hk => ?_⟩
      · obtain ⟨j', rfl⟩ : ∃ j', j = j' + 1 := ⟨j - 1, by omega⟩
        exact ih.no j' (by simpa using hj) (by omega)
      · obtain ⟨k', hk'⟩ : ∃ k', lastN t = k' + 1 := ⟨lastN t - 1, by omega⟩
        obtain ⟨h1, h2⟩ := ih.yes k' hk'
        have : k = k' + 1 := by omega
        subst this
        exact ⟨by simpa using h1, h2⟩
theorem lastB_O (rs : List Rc) (p : Nat) : lastB rs p = lastO rs p := by cases p <;> rfl
/-- What is told of a log's entries. -/
def EntriesP (r : Option (List EntP)) (w : World) (e : Ending) (w' : World) : Prop :=
  (∃ T mo, r = some (entT T) ∧ e = .returned (.tuple #[.map mo, .int .i64 0]) ∧ TabAt w' (fun k => w.heap.size ≤ k ∧ k < w'.heap.size) mo T ∧ Below w.heap.size w w') ∨
  (r = none ∧ e = .returned (.tuple #[.map none, .int .i64 11]) ∧ Below w.heap.size w w')
theorem found_tab {w' : World} {B b0 : Nat} {T : List EV} {mo : Option Nat} (h : Found w' B b0 T mo) : TabAt w' (fun k => B ≤ k ∧ k < w'.heap.size) mo T := by
  refine ⟨h.map, fun b hb => ⟨h.inM b hb, ?_⟩, h.srt, entsO_base h.own (Nat.zero_le _), fun x hx a ha => ⟨(ownIn (h.own x hx) ha).1, (ownIn (h.own x hx) ha).2.1⟩, h.ok⟩
  have := h.map
  rw [hb] at this
  exact (tabM_some this).lt
/-- What Recover tells of a disk's bytes. -/
def RecoverP (X : List UInt8) (q : Nat) (w : World) (e : Ending) (w' : World) : Prop :=
  (∃ T, recS (scanS X).1 = some T ∧ NewSt (fun p => .tuple #[p, .int .i64 ((X.length : Int) - ((scanS X).2.1 : Int)), .int .i64 0]) ⟨(scanS X).1, (scanS X).1.length, T, T, []⟩ q w e w') ∨
  (recS (scanS X).1 = none ∧ e = .returned (.tuple #[.pointer none, .int .i64 0, .int .i64 11]) ∧ Below w.heap.size w w')
/-- What comes back from a crash. -/
def crashR (S : St8) (k : Nat) : List Rc := (scanS (allB (S.rs.take S.m) ++ (allB (S.rs.drop S.m)).take k)).1
def crashS (S : St8) (k : Nat) : St8 := ⟨crashR S k, (crashR S k).length, (recS (crashR S k)).getD [], (recS (crashR S k)).getD [], []⟩
theorem crash_told {S : St8} (h : Ok8 S) (hs : Short S.rs) (k : Nat) : ∃ T, recS (crashR S k) = some T := by
  obtain ⟨p, h1, h2, h3⟩ := crash_take S.rs S.m k hs h.le
  unfold crashR
  rw [h3]
  exact Option.isSome_iff_exists.1 (h.told p h1 h2)
end Go.Proofs.Ytkleecaghgpndaa
