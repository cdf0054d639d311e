/- Dsk: A disk in memory: its block, the two rows that it owns, and the blocks that it stands in; what is changed when some blocks alone may be.
   DskA: Package disk: what each call answers, and leaves: settle, Sync, Crash, Replace, New, Of.
   DskB: Package disk: what each call answers, and leaves: Sync, Crash, Replace, New, Of.
   DskC: Package disk: what is told of a disk, in new memory: Lasting, Tail, Syncs, Bytes, Copy.
   DskD: Package disk: count, slices.Grow of a row of the call's own.
   DskG: slices.Grow of a row of the call's own; a disk's Append.
   DskH: A disk's Append, where there is room. -/
import Derived.Test.YtpebhfjcakllmaaGreatCore
import Derived.Deep.RegionLaw
import Derived.Deep.RegionWith
import Derived.Deep.LoopGhost
import Derived.Lib.AppendZerosOnto
namespace Go.Proofs.YtpebhfjcakllmaaGreat
open Go.RowKit Mem
set_option maxRecDepth 10000
set_option linter.unusedVariables false
/-- Only the blocks of F, and new ones, are changed. -/
structure Touch (F : Nat → Prop) (w w' : World) : Prop where
  os : w'.os = w.os
  tape : w'.tape = w.tape
  output : w'.output = w.output
  size : w.heap.size ≤ w'.heap.size
  block : ∀ k, k < w.heap.size → ¬ F k → w'.heap[k]? = w.heap[k]?
namespace Touch
variable {F G : Nat → Prop} {w w1 w2 : World} {B : Nat}
theorem refl (F : Nat → Prop) (w : World) : Touch F w w := ⟨rfl, rfl, rfl, Nat.le_refl _, fun _ _ _ => rfl⟩
theorem trans (h : Touch F w w1) (h' : Touch G w1 w2) (hs : ∀ k, G k → F k ∨ w.heap.size ≤ k) : Touch F w w2 :=
  ⟨h'.os.trans h.os, h'.tape.trans h.tape, h'.output.trans h.output, Nat.le_trans h.size h'.size, fun k hk hf =>
    (h'.block k (Nat.lt_of_lt_of_le hk h.size) (fun g => by rcases hs k g with h1 | h1; exact hf h1; omega)).trans (h.block k hk hf)⟩
theorem mono (h : Touch F w w1) (hs : ∀ k, F k → G k) : Touch G w w1 := ⟨h.os, h.tape, h.output, h.size, fun k hk hg => h.block k hk (fun hf => hg (hs k hf))⟩
theorem ofBelow (h : Below w.heap.size w w1) : Touch F w w1 := ⟨h.os, h.tape, h.output, h.size, fun k hk _ => h.block k hk⟩
theorem below (h : Touch F w w1) (hB : B ≤ w.heap.size) (hF : ∀ k, F k → B ≤ k) : Below B w w1 := ⟨h.os, h.tape, h.output, h.size, fun k hk => h.block k (by omega) (fun hf => by have := hF k hf; omega)⟩
theorem thenBelow (h : Touch F w w1) (hb : Below w1.heap.size w1 w2) : Touch F w w2 := h.trans (G := F) (ofBelow hb) (fun k hk => Or.inl hk)
theorem set_ (h : Touch F w w1) {p : Addr} (hp : F p.block ∨ w.heap.size ≤ p.block) (u : Value) : Touch F w (w1.setCell p u) := by
  refine h.trans (G := fun k => k = p.block) ⟨rfl, rfl, rfl, ?_, fun k _ hk => Below.heap_setCell w1 p u k hk⟩ (fun k hk => by subst hk; exact hp)
  exact ((Below.refl 0 w1).setCell (Nat.zero_le _) u).size
theorem alloc (h : Touch F w w1) (o : Obj) : Touch F w (w1.alloc o) := h.thenBelow ((Below.refl _ _).alloc (Nat.le_refl _) _)
theorem grown (h : Touch F w w1) {row : Option Nat} (hg : w1.grownBy w2 row) (hr : ∀ k, row = some k → F k ∨ w.heap.size ≤ k) : Touch F w w2 :=
  h.trans (G := fun k => row = some k) ⟨hg.os, hg.tape, hg.output, hg.size, fun k hk hn => hg.block k hk (fun e => hn e.symm)⟩ hr
end Touch
/-- The blocks of F, and those that are new since. -/
def More (w : World) (F : Nat → Prop) (k : Nat) : Prop := F k ∨ w.heap.size ≤ k
def InF (F : Nat → Prop) (A : Option Addr) : Prop := ∀ a, A = some a → F a.block
def Apart (A A' : Option Addr) : Prop := ∀ a a', A = some a → A' = some a' → a.block ≠ a'.block
theorem inF_none (F : Nat → Prop) : InF F none := fun a h => by cases h
theorem apart_none (A : Option Addr) : Apart A none := fun a a' _ h => by cases h
theorem none_apart (A : Option Addr) : Apart none A := fun a a' h _ => by cases h
theorem ownKeep {w w' : World} {B s n m c : Nat} {e : TypeId} {A : Option Addr} {xs : List Value} (h : w.ownsRow B e s (.slice A m c) n xs) (hk : ∀ a, A = some a → w'.heap[a.block]? = w.heap[a.block]?) : w'.ownsRow B e s (.slice A m c) n xs := by
  obtain ⟨h1, h2⟩ := h
  refine ⟨h1, ?_⟩
  rcases h2 with h2 | ⟨g, cap, cur, hv, hg, hh, r⟩
  · exact Or.inl h2
  · refine Or.inr ⟨g, cap, cur, hv, hg, ?_, r⟩
    injection hv with hv
    rw [hk _ hv]; exact hh
theorem ownIn {w : World} {B s n m c : Nat} {e : TypeId} {A : Option Addr} {xs : List Value} (h : w.ownsRow B e s (.slice A m c) n xs) {a : Addr} (ha : A = some a) : B ≤ a.block ∧ a.block < w.heap.size ∧ ∃ cur, w.heap[a.block]? = some (.cells cur e (0, 0)) := by
  rcases h.2 with ⟨hv, _⟩ | ⟨g, cap, cur, hv, hg, hh, _⟩
  · injection hv with hv; rw [ha] at hv; cases hv
  · injection hv with hv
    rw [ha] at hv
    injection hv with hv
    subst hv
    exact ⟨hg, (Array.getElem?_eq_some_iff.1 hh).1, cur, hh⟩
theorem ownNe {w : World} {B s n m c g : Nat} {e t : TypeId} {A : Option Addr} {xs : List Value} {cs : Array Value} (h : w.ownsRow B e s (.slice A m c) n xs) (hb : Blk w g t cs) (ht : t ≠ e) {a : Addr} (ha : A = some a) : a.block ≠ g := by
  obtain ⟨_, _, cur, hh⟩ := ownIn h ha
  rintro rfl
  unfold Blk at hb
  rw [hh] at hb
  injection hb with hb
  injection hb with _ hb
  exact ht hb.symm
theorem blkKeep {w w' : World} {g : Nat} {t : TypeId} {cs : Array Value} (h : Blk w g t cs) (hk : w'.heap[g]? = w.heap[g]?) : Blk w' g t cs := hk.trans h
/-- What block a disk lies at the begin of: its type, and what else it has behind the disk. -/
structure DkK where
  ty : TypeId
  X : List Value
  hne : ty ≠ 5
def dkC (K : DkK) (l : List Value) : Array Value := ⟨l ++ K.X⟩
variable {K : DkK}
section
variable {w : World} {g : Nat} {t : TypeId} {a b c : Value}
theorem _root_.Go.Proofs.YtpebhfjcakllmaaGreat.Mem.Blk.d0 (h : Blk w g t (dkC K [a, b, c])) : w.cell? ⟨g, 0, none⟩ = some a := (h.cell 0).trans (by simp [dkC])
theorem _root_.Go.Proofs.YtpebhfjcakllmaaGreat.Mem.Blk.d1 (h : Blk w g t (dkC K [a, b, c])) : w.cell? ⟨g, 1, none⟩ = some b := (h.cell 1).trans (by simp [dkC])
theorem _root_.Go.Proofs.YtpebhfjcakllmaaGreat.Mem.Blk.d2 (h : Blk w g t (dkC K [a, b, c])) : w.cell? ⟨g, 2, none⟩ = some c := (h.cell 2).trans (by simp [dkC])
theorem _root_.Go.Proofs.YtpebhfjcakllmaaGreat.Mem.Blk.e0 (h : Blk w g t (dkC K [a, b, c])) (u : Value) : Blk (w.setCell ⟨g, 0, none⟩ u) g t (dkC K [u, b, c]) := by simpa [dkC] using h.set_ 0 u
theorem _root_.Go.Proofs.YtpebhfjcakllmaaGreat.Mem.Blk.e1 (h : Blk w g t (dkC K [a, b, c])) (u : Value) : Blk (w.setCell ⟨g, 1, none⟩ u) g t (dkC K [a, u, c]) := by simpa [dkC] using h.set_ 1 u
theorem _root_.Go.Proofs.YtpebhfjcakllmaaGreat.Mem.Blk.e2 (h : Blk w g t (dkC K [a, b, c])) (u : Value) : Blk (w.setCell ⟨g, 2, none⟩ u) g t (dkC K [a, b, u]) := by simpa [dkC] using h.set_ 2 u
end
/-- A disk in block g, that stands in the blocks of F: L lasts, T is its tail, n its count. -/
structure DkB (K : DkK) (w : World) (F : Nat → Prop) (g : Nat) (L T : List UInt8) (n : Nat) (A : Option Addr) (c : Nat) (A' : Option Addr) (c' : Nat) : Prop where
  blk : Blk w g K.ty (dkC K [.slice A L.length c, .slice A' T.length c', .int .i64 (n : Int)])
  ol : w.ownsRow 0 5 1 (.slice A L.length c) L.length (L.map byteV)
  ot : w.ownsRow 0 5 1 (.slice A' T.length c') T.length (T.map byteV)
  fl : InF F A
  ft : InF F A'
  ap : Apart A A'
  fg : F g
  lt : ∀ k, F k → k < w.heap.size
  mx : L.length + T.length ≤ 4194304
def DkAt (K : DkK) (w : World) (F : Nat → Prop) (g : Nat) (L T : List UInt8) (n : Nat) : Prop := ∃ A c A' c', DkB K w F g L T n A c A' c'
section
variable {w w' : World} {F G : Nat → Prop} {g n : Nat} {L T : List UInt8} {A A' : Option Addr} {c c' : Nat}
theorem DkB.keep (h : DkB K w F g L T n A c A' c') (hs : w.heap.size ≤ w'.heap.size) (hk : ∀ k, F k → w'.heap[k]? = w.heap[k]?) : DkB K w' F g L T n A c A' c' :=
  ⟨blkKeep h.blk (hk g h.fg), ownKeep h.ol fun a ha => hk _ (h.fl a ha), ownKeep h.ot fun a ha => hk _ (h.ft a ha), h.fl, h.ft, h.ap, h.fg, fun k hf => Nat.lt_of_lt_of_le (h.lt k hf) hs, h.mx⟩
theorem DkAt.keep (h : DkAt K w F g L T n) (hs : w.heap.size ≤ w'.heap.size) (hk : ∀ k, F k → w'.heap[k]? = w.heap[k]?) : DkAt K w' F g L T n := by
  obtain ⟨A, c, A', c', h⟩ := h
  exact ⟨A, c, A', c', h.keep hs hk⟩
theorem DkAt.lt (h : DkAt K w F g L T n) : ∀ k, F k → k < w.heap.size := by
  obtain ⟨A, c, A', c', h⟩ := h
  exact h.lt
theorem DkAt.mx (h : DkAt K w F g L T n) : L.length + T.length ≤ 4194304 := by
  obtain ⟨A, c, A', c', h⟩ := h
  exact h.mx
theorem DkAt.below (h : DkAt K w F g L T n) (hb : Below w.heap.size w w') : DkAt K w' F g L T n := h.keep hb.size fun k hk => hb.block k (h.lt k hk)
theorem DkAt.touch (h : DkAt K w F g L T n) (ht : Touch G w w') (hd : ∀ k, F k → ¬ G k) : DkAt K w' F g L T n := h.keep ht.size fun k hk => ht.block k (h.lt k hk) (hd k hk)
theorem DkAt.bounds (h : DkAt K w F g L T n) : L.length ≤ 4194304 ∧ T.length ≤ 4194304 := by have := h.mx; omega
/-- A disk's count alone is another one. -/
theorem DkB.setN (h : DkB K w F g L T n A c A' c') (m : Nat) : DkB K (w.setCell ⟨g, 2, none⟩ (.int .i64 (m : Int))) F g L T m A c A' c' := by
  have hk : ∀ k, k ≠ g → (w.setCell ⟨g, 2, none⟩ (.int .i64 (m : Int))).heap[k]? = w.heap[k]? := fun k hk => Below.heap_setCell w ⟨g, 2, none⟩ _ k hk
  exact ⟨h.blk.e2 (.int .i64 (m : Int)), ownKeep h.ol fun a ha => hk _ (ownNe h.ol h.blk K.hne ha), ownKeep h.ot fun a ha => hk _ (ownNe h.ot h.blk K.hne ha), h.fl, h.ft, h.ap, h.fg,
    fun k hf => Nat.lt_of_lt_of_le (h.lt k hf) ((Below.refl 0 w).setCell (p := ⟨g, 2, none⟩) (Nat.zero_le _) _).size, h.mx⟩
end
/-- A call on a disk: its answer, the disk behind it, and that nothing but the disk's own blocks was changed. -/
def DkTo (K : DkK) (v : Value) (F : Nat → Prop) (g : Nat) (L T : List UInt8) (n : Nat) (w : World) (e : Ending) (w' : World) : Prop := e = .returned v ∧ ∃ F', (∀ k, F' k → F k ∨ w.heap.size ≤ k) ∧ DkAt K w' F' g L T n ∧ Touch F w w'
end Go.Proofs.YtpebhfjcakllmaaGreat
namespace Go.Proofs.YtpebhfjcakllmaaGreat
open Go.RowKit Mem
set_option maxRecDepth 10000
set_option maxHeartbeats 2000000
set_option linter.unusedVariables false
variable {K : DkK}
theorem DkB.row {w : World} {F : Nat → Prop} {g n : Nat} {L T : List UInt8} {A A' : Option Addr} {c c' : Nat} (h : DkB K w F g L T n A c A' c') {k m d : Nat} (hk : (Value.slice A m d).ownBlock = some k) : F k ∧ k ≠ g := by
  cases A with
  | none => cases hk
  | some a =>
    have : a.block = k := by simpa [Value.ownBlock] using hk
    subst this
    exact ⟨h.fl a rfl, ownNe h.ol h.blk K.hne rfl⟩
theorem DkB.grownBlk {w w1 : World} {F : Nat → Prop} {g n : Nat} {L T : List UInt8} {A A' : Option Addr} {c c' : Nat} (h : DkB K w F g L T n A c A' c') {m d : Nat} (hg : w.grownBy w1 (Value.slice A m d).ownBlock) :
    Blk w1 g K.ty (dkC K [.slice A L.length c, .slice A' T.length c', .int .i64 (n : Int)]) := h.blk.grown hg (fun e => (h.row e.symm).2 rfl)
theorem dk_settled {w w1 : World} {F : Nat → Prop} {g n : Nat} {L T X : List UInt8} {A A' : Option Addr} {c c' : Nat} (h : DkB K w F g L T n A c A' c') {v : Value} {m : Nat} (hm : X.length = m) (ho : w1.ownsRow 0 5 1 v (L.length + m) (L.map byteV ++ X.map byteV))
    (hg : w.grownBy w1 (Value.slice A L.length c).ownBlock) (ha : v.ownBlock = (Value.slice A L.length c).ownBlock ∨ v.ownBlock = some w.heap.size) (hX : m ≤ T.length) :
    DkTo K (.tuple #[]) F g (L ++ X) [] n w (.returned (.tuple #[])) ((w1.setCell ⟨g, 0, none⟩ v).setCell ⟨g, 1, none⟩ (.slice none 0 0)) := by
  subst hm
  obtain ⟨A1, c1, rfl, hc1, hm1⟩ := ownShape ho
  have hrow : ∀ k, (Value.slice A L.length c).ownBlock = some k → F k ∧ k ≠ g := fun k hk => by
    cases A with
    | none => cases hk
    | some a =>
      have : a.block = k := by simpa [Value.ownBlock] using hk
      subst this
      exact ⟨h.fl a rfl, ownNe h.ol h.blk K.hne rfl⟩
  have hb1 : Blk w1 g K.ty (dkC K [.slice A L.length c, .slice A' T.length c', .int .i64 (n : Int)]) := h.blk.grown hg (fun e => (hrow g e.symm).2 rfl)
  have hb2 := (hb1.e0 (.slice A1 (L.length + X.length) c1)).e1 (.slice none 0 0)
  have hk : ∀ k, k ≠ g → ((w1.setCell ⟨g, 0, none⟩ (.slice A1 (L.length + X.length) c1)).setCell ⟨g, 1, none⟩ (.slice none 0 0)).heap[k]? = w1.heap[k]? := fun k hk =>
    (Below.heap_setCell _ ⟨g, 1, none⟩ _ k hk).trans (Below.heap_setCell _ ⟨g, 0, none⟩ _ k hk)
  have hin : ∀ a, A1 = some a → F a.block ∨ w.heap.size ≤ a.block := fun a ha1 => by
    subst ha1
    rcases ha with ha | ha
    · exact Or.inl (hrow a.block ha.symm).1
    · have : a.block = w.heap.size := by simpa [Value.ownBlock] using ha
      exact Or.inr (by omega)
  have hsz : ((w1.setCell ⟨g, 0, none⟩ (.slice A1 (L.length + X.length) c1)).setCell ⟨g, 1, none⟩ (.slice none 0 0)).heap.size = w1.heap.size := by simp [World.setCell]
  refine ⟨rfl, fun k => (F k ∨ w.heap.size ≤ k) ∧ k < w1.heap.size, fun k hk => hk.1, ⟨A1, c1, none, 0, ?_⟩, (((Touch.refl F w).grown hg (fun k hk => Or.inl (hrow k hk).1)).set_ (Or.inl h.fg) _).set_ (Or.inl h.fg) _⟩
  refine ⟨?_, ?_, World.ownsRow_nil _ _ _ _, ?_, inF_none _, apart_none _, ?_, ?_, ?_⟩
  · rw [List.length_append]; exact hb2
  · rw [List.length_append, List.map_append]
    exact ownKeep ho fun a ha => hk _ (ownNe ho hb1 K.hne ha)
  · exact fun a ha => ⟨hin a ha, (ownIn ho ha).2.1⟩
  · exact ⟨Or.inl h.fg, Nat.lt_of_lt_of_le (h.lt g h.fg) hg.size⟩
  · intro k hk; rw [hsz]; exact hk.2
  · have := h.mx
    rw [List.length_append, List.length_nil]; omega
end Go.Proofs.YtpebhfjcakllmaaGreat
namespace Go.Proofs.YtpebhfjcakllmaaGreat
open Go.RowKit Mem
set_option maxRecDepth 10000
set_option maxHeartbeats 2000000
set_option linter.unusedVariables false
variable {K : DkK}
/-- A disk's count behind a Sync. -/
def upN (T : List UInt8) (n : Nat) : Nat := if T.length = 0 then n else n + 1
theorem dkTo_more {v : Value} {F : Nat → Prop} {g n : Nat} {L T : List UInt8} {w w1 w2 : World} {e : Ending} (hw : Touch F w w1) (hlt : w.heap.size ≤ w1.heap.size) (h : DkTo K v F g L T n w1 e w2) : DkTo K v F g L T n w e w2 := by
  obtain ⟨rfl, F2, h1, h2, h3⟩ := h
  exact ⟨rfl, F2, fun k hk => by rcases h1 k hk with h | h; exact Or.inl h; exact Or.inr (by omega), h2, hw.trans h3 (fun k hk => Or.inl hk)⟩
theorem dk_replaced {w w1 : World} {F : Nat → Prop} {g n m : Nat} {L T bs : List UInt8} (h : DkAt K w F g L T n) {A1 : Option Addr} {c1 : Nat} (hm : m = bs.length) (hl : m ≤ 4194304)
    (ho : w1.ownsRow w.heap.size 5 1 (.slice A1 bs.length c1) bs.length (bs.map byteV)) (hb : Below w.heap.size w w1) :
    DkTo K (.int .i64 0) F g bs [] n w (.returned (.int .i64 0)) ((w1.setCell ⟨g, 0, none⟩ (.slice A1 bs.length c1)).setCell ⟨g, 1, none⟩ (.slice none 0 0)) := by
  subst hm
  obtain ⟨A, c, A', c', h⟩ := h
  have hb1 := h.blk.below hb (h.lt g h.fg)
  have hb2 := (hb1.e0 (.slice A1 bs.length c1)).e1 (.slice none 0 0)
  have hk : ∀ k, k ≠ g → ((w1.setCell ⟨g, 0, none⟩ (.slice A1 bs.length c1)).setCell ⟨g, 1, none⟩ (.slice none 0 0)).heap[k]? = w1.heap[k]? := fun k hk =>
    (Below.heap_setCell _ ⟨g, 1, none⟩ _ k hk).trans (Below.heap_setCell _ ⟨g, 0, none⟩ _ k hk)
  have hsz : ((w1.setCell ⟨g, 0, none⟩ (.slice A1 bs.length c1)).setCell ⟨g, 1, none⟩ (.slice none 0 0)).heap.size = w1.heap.size := by simp [World.setCell]
  refine ⟨rfl, fun k => (F k ∨ w.heap.size ≤ k) ∧ k < w1.heap.size, fun k hk => hk.1, ⟨A1, c1, none, 0, ?_⟩, (((Touch.refl F w).thenBelow hb).set_ (Or.inl h.fg) _).set_ (Or.inl h.fg) _⟩
  refine ⟨hb2, ?_, World.ownsRow_nil _ _ _ _, ?_, inF_none _, apart_none _, ?_, ?_, ?_⟩
  · exact ownKeep (ownBase ho (Nat.zero_le _)) fun a ha => hk _ (ownNe ho hb1 K.hne ha)
  · exact fun a ha => ⟨Or.inr (ownIn ho ha).1, (ownIn ho ha).2.1⟩
  · exact ⟨Or.inl h.fg, Nat.lt_of_lt_of_le (h.lt g h.fg) hb.size⟩
  · intro k hk; rw [hsz]; exact hk.2
  · rw [List.length_nil]; omega
end Go.Proofs.YtpebhfjcakllmaaGreat
namespace Go.Proofs.YtpebhfjcakllmaaGreat
open Go.RowKit Mem
set_option maxRecDepth 10000
set_option maxHeartbeats 2000000
set_option linter.unusedVariables false
variable {K : DkK}
theorem made_drew {B : Nat} {bs : List UInt8} {w w0 : World} {e : Ending} {w' : World} (hb : Below w.heap.size w w0) (h : Made w0.heap.size bs w0 e w') : Made w.heap.size bs w e w' := by
  obtain ⟨A1, c1, rfl, ho, hb2⟩ := h
  exact ⟨A1, c1, rfl, ownBase ho hb.size, hb.trans (hb2.mono hb.size)⟩
theorem apart_of {w1 w2 : World} {B n m c c' k k' : Nat} {A A' : Option Addr} {xs ys : List Value} (h1 : w1.ownsRow B 5 1 (.slice A n c) k xs) (h2 : w2.ownsRow w1.heap.size 5 1 (.slice A' m c') k' ys) : Apart A A' := fun a a' ha ha' e => by
  have := (ownIn h1 ha).2.1
  have := (ownIn h2 ha').1
  omega
theorem apart_symm {A A' : Option Addr} (h : Apart A A') : Apart A' A := fun a a' h1 h2 e => h a' a h2 h1 e.symm
end Go.Proofs.YtpebhfjcakllmaaGreat
namespace Go.Proofs.YtpebhfjcakllmaaGreat
open Go.RowKit Mem
set_option maxRecDepth 10000
set_option maxHeartbeats 2000000
set_option linter.unusedVariables false
/-- What is counted: all, or that they are too many. -/
def cntZ (t m : Nat) : Int := if t ≤ m then (t : Int) else 0
def cntE (t m : Nat) : Int := if t ≤ m then 0 else 3
end Go.Proofs.YtpebhfjcakllmaaGreat
namespace Go.Proofs.YtpebhfjcakllmaaGreat
open Go.RowKit Mem
set_option maxRecDepth 10000
set_option maxHeartbeats 2000000
set_option linter.unusedVariables false
variable {K : DkK}
instance laterNonempty6 (w : World) : Nonempty (Later w) := ⟨⟨w, Below.refl _ _⟩⟩
theorem grow_zeros {w : World} {A : Option Addr} {n c k q : Nat} {bs : List UInt8} (ho : w.ownsRow 0 5 1 (.slice A n c) n (bs.map byteV)) (hq : n + k = c + q) (h0 : 0 < q) (hs : n + k ≤ 4194304) :
    ∃ C w1, (Builtin.append_ #[39, 3] 39 #[.slice A c c, .int .i64 ((k : Int) - ((c : Int) - (n : Int)))]).run Tryz.prog w = .ok (.slice (some ⟨w.heap.size, 0, none⟩) (c + q) C) w1 ∧ n ≤ C ∧
      w1.ownsRow w.heap.size 5 1 (.slice (some ⟨w.heap.size, 0, none⟩) n C) n (bs.map byteV) ∧ Below w.heap.size w w1 := by
  obtain ⟨i0, hi0, hz0, hz1, hz2⟩ := info_parts info_b
  obtain ⟨olds, hold, hol, hot⟩ : ∃ olds : List Value, (Builtin.firstCells i0.size c (.slice A c c)).run Tryz.prog w.drew = .ok olds.toArray w.drew ∧ olds.length = c ∧ olds.take n = bs.map byteV := by
    have hl := ho.1
    rw [hz1]
    rcases ho.2 with ⟨hv, hn⟩ | ⟨g, cap, cur, hv, _, hh, hnc, _, hsz, htk⟩
    · injection hv with h1 h2 h3
      subst h1; subst h2; subst h3
      exact ⟨[], run_firstCells_none (P := Tryz.prog) w.drew 1 0 0 0, rfl, by simpa using (List.eq_nil_of_length_eq_zero (by simpa using hl)).symm⟩
    · injection hv with h1 h2 h3
      subst h1; subst h3
      rw [Nat.mul_one] at hsz htk
      refine ⟨cur.toList, run_firstCells_some (P := Tryz.prog) w.drew 1 c ⟨g, 0, none⟩ c c cur.toList (by simpa using hsz) (fun j v hj => ?_), by simpa using hsz, htk⟩
      have hc := cell_of_row w.drew g j cur 5 (0, 0) hh
      have ea : (⟨g, 0, none⟩ : Addr).add j = ⟨g, j, none⟩ := by
        unfold Addr.add; split
        · subst_vars; rfl
        · simp
      rw [ea, hc]
      simpa using hj
  have hfit : Builtin.nextslicecap (c + q) c * i0.bytes ≤ 281474976710656 := growslice_fits (by omega) (by rw [hz2]; omega)
  have hr := Lib.run_append_grow_zeros (P := Tryz.prog) w 39 3 39 5 i0 (.int .u8 0) .i64 .i64 Tryz.underlying39 Tryz.underlying3 hi0 hz0 A c c olds hold q h0 (by omega) (by omega) (by omega) (by rw [hz2]; omega) hfit
  rw [show (k : Int) - ((c : Int) - (n : Int)) = ((q : Nat) : Int) by omega]
  have hge := grownCap_ge w (c + q) c 5
  have hnC : n ≤ c := by
    rcases ho.2 with ⟨hv, hn⟩ | ⟨g, cap, cur, hv, _, _, hnc, _⟩
    · omega
    · injection hv with _ _ h3; omega
  refine ⟨_, _, hr, by omega, ⟨by rw [ho.1], Or.inr ⟨w.heap.size, _, _, rfl, Nat.le_refl _, heap_alloc_new w.drew _, by omega, grownCap_le_maxLen w _ _ _ (by unfold maxLen; omega), ?_, ?_⟩⟩, ((Below.refl _ _).drew).alloc (Nat.le_refl _) _⟩
  · rw [Array.size_append, Array.size_append, size_zeroCells, size_zeroCells]
    have e1 : (Value.int IntKind.u8 0).cells.size = 1 := rfl
    rw [e1]
    simp [hol]
    omega
  · rw [Nat.mul_one, Array.toList_append, Array.toList_append, List.append_assoc, List.take_append_of_le_length (by simpa [hol] using hnC)]
    simpa using hot
/-- A row of the call's own with room: as it was, or all of it in a new block. -/
def Grew (A : Option Addr) (bs : List UInt8) (w : World) (e : Ending) (w' : World) : Prop :=
  ∃ A' C, e = .returned (.slice A' bs.length C) ∧ w'.ownsRow 0 5 1 (.slice A' bs.length C) bs.length (bs.map byteV) ∧ (∀ a, A' = some a → A = some a ∨ a.block = w.heap.size) ∧ Below w.heap.size w w'
/-- A row that lies outside of the blocks of F. -/
def RowN (F : Nat → Prop) (w : World) (A : Option Addr) (xs : List Value) : Prop := xs = [] ∨ ∃ b o, A = some ⟨b, o, none⟩ ∧ ¬ F b ∧ b < w.heap.size ∧ ∀ j (h : j < xs.length), w.cell? ⟨b, o + j, none⟩ = some xs[j]
theorem RowN.touch {F : Nat → Prop} {w w' : World} {A : Option Addr} {xs : List Value} (h : RowN F w A xs) (ht : Touch F w w') : RowN F w' A xs := by
  rcases h with h | ⟨b, o, e, hf, hb, hc⟩
  · exact Or.inl h
  · exact Or.inr ⟨b, o, e, hf, Nat.lt_of_lt_of_le hb ht.size, fun j hj => (World.cell?_of_block (ht.block b hb hf)).trans (hc j hj)⟩
theorem RowN.row {F : Nat → Prop} {w : World} {A : Option Addr} {xs : List Value} (h : RowN F w A xs) : Row w w.heap.size A xs := by
  rcases h with h | ⟨b, o, e, hf, hb, hc⟩
  · exact Or.inl h
  · exact Or.inr ⟨b, o, e, hb, hc⟩
theorem RowN.of_low {F : Nat → Prop} {w : World} {A : Option Addr} {xs : List Value} {B : Nat} (h : Row w B A xs) (hB : B ≤ w.heap.size) (hF : ∀ k, F k → B ≤ k) : RowN F w A xs := by
  rcases h with h | ⟨b, o, e, hb, hc⟩
  · exact Or.inl h
  · exact Or.inr ⟨b, o, e, fun hf => by have := hF b hf; omega, by omega, hc⟩
theorem dk_tail {w w1 : World} {F : Nat → Prop} {g n m d : Nat} {L T T' : List UInt8} {A A' A1 : Option Addr} {c c' C1 : Nat} (h : DkB K w F g L T n A c A' c') (hg : w.grownBy w1 (Value.slice A' m d).ownBlock)
    (ho : w1.ownsRow 0 5 1 (.slice A1 T'.length C1) T'.length (T'.map byteV)) (ha : ∀ a, A1 = some a → (∃ a', A' = some a' ∧ a'.block = a.block) ∨ w.heap.size ≤ a.block) (hmx : L.length + T'.length ≤ 4194304) :
    DkB K (w1.setCell ⟨g, 1, none⟩ (.slice A1 T'.length C1)) (fun k => (F k ∨ w.heap.size ≤ k) ∧ k < w1.heap.size) g L T' n A c A1 C1 ∧ Touch F w (w1.setCell ⟨g, 1, none⟩ (.slice A1 T'.length C1)) := by
  have hrow : ∀ k, (Value.slice A' m d).ownBlock = some k → ∃ a', A' = some a' ∧ a'.block = k := fun k hk => by
    cases A' with
    | none => cases hk
    | some a => exact ⟨a, rfl, by simpa [Value.ownBlock] using hk⟩
  have hne : ∀ k, (Value.slice A' m d).ownBlock = some k → F k ∧ k ≠ g := fun k hk => by
    obtain ⟨a', h1, rfl⟩ := hrow k hk
    exact ⟨h.ft a' h1, ownNe h.ot h.blk K.hne h1⟩
  have hb1 : Blk w1 g K.ty (dkC K [.slice A L.length c, .slice A' T.length c', .int .i64 (n : Int)]) := h.blk.grown hg (fun e => (hne g e.symm).2 rfl)
  have hb2 := hb1.e1 (.slice A1 T'.length C1)
  have hk : ∀ k, k ≠ g → (w1.setCell ⟨g, 1, none⟩ (.slice A1 T'.length C1)).heap[k]? = w1.heap[k]? := fun k hk => Below.heap_setCell _ ⟨g, 1, none⟩ _ k hk
  have hsz : (w1.setCell ⟨g, 1, none⟩ (.slice A1 T'.length C1)).heap.size = w1.heap.size := by simp [World.setCell]
  have hin : ∀ a, A1 = some a → F a.block ∨ w.heap.size ≤ a.block := fun a h1 => by
    rcases ha a h1 with ⟨a', h2, h3⟩ | h2
    · exact Or.inl (h3 ▸ h.ft a' h2)
    · exact Or.inr h2
  refine ⟨⟨hb2, ?_, ?_, ?_, ?_, ?_, ?_, ?_, hmx⟩, ((Touch.refl F w).grown hg (fun k hk => Or.inl (hne k hk).1)).set_ (Or.inl h.fg) _⟩
  · refine ownKeep h.ol fun a h1 => (hk _ (ownNe h.ol h.blk K.hne h1)).trans (hg.block _ (ownIn h.ol h1).2.1 fun e => ?_)
    obtain ⟨a', h2, h3⟩ := hrow _ e.symm
    exact h.ap a a' h1 h2 h3.symm
  · exact ownKeep ho fun a h1 => hk _ (ownNe ho hb1 K.hne h1)
  · exact fun a h1 => ⟨Or.inl (h.fl a h1), Nat.lt_of_lt_of_le (h.lt _ (h.fl a h1)) hg.size⟩
  · exact fun a h1 => ⟨hin a h1, (ownIn ho h1).2.1⟩
  · intro a a1 h1 h2 e
    rcases ha a1 h2 with ⟨a', h3, h4⟩ | h3
    · exact h.ap a a' h1 h3 (e.trans h4.symm)
    · have := h.lt _ (h.fl a h1)
      omega
  · exact ⟨Or.inl h.fg, Nat.lt_of_lt_of_le (h.lt g h.fg) hg.size⟩
  · intro k hk'; rw [hsz]; exact hk'.2
end Go.Proofs.YtpebhfjcakllmaaGreat
namespace Go.Proofs.YtpebhfjcakllmaaGreat
open Go.RowKit Mem
set_option maxRecDepth 10000
set_option maxHeartbeats 2000000
set_option linter.unusedVariables false
variable {K : DkK}
theorem grown_of_below (w w1 : World) (hb : Below w.heap.size w w1) (r : Option Nat) : w.grownBy w1 r := ⟨hb.os, hb.tape, hb.output, hb.size, fun k hk _ => hb.block k hk⟩
end Go.Proofs.YtpebhfjcakllmaaGreat
