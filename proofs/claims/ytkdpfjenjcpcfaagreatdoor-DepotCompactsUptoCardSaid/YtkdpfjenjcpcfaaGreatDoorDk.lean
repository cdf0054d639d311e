/- Dsk: A disk in memory: its block, the two rows that it owns, and the blocks that it stands in; what is changed when some blocks alone may be.
   DskA: Package disk: what each call answers, and leaves: settle, Sync, Crash, Replace, New, Of.
   DskB: Package disk: what each call answers, and leaves: Sync, Crash, Replace, New, Of.
   DskC: Package disk: what is told of a disk, in new memory: Lasting, Tail, Syncs, Bytes, Copy.
   DskD: Package disk: count, slices.Grow of a row of the call's own.
   DskG: slices.Grow of a row of the call's own; a disk's Append.
   DskH: A disk's Append, where there is room. -/
import Derived.Test.YtkdpfjenjcpcfaaGreatDoorCore
import Derived.Deep.RegionLaw
import Derived.Deep.RegionWith
import Derived.Deep.LoopGhost
import Derived.Lib.AppendZerosOnto
namespace Go.Proofs.YtkdpfjenjcpcfaaGreatDoor
open Go.RowKit Mem
set_option maxRecDepth 10000
set_option linter.unusedVariables false
/-- Only the blocks of F, and new ones, are changed. -/
structure Touch (F : Nat → Prop) (w w' : World) : Prop where
  os : w'.os = w.os
  tape : w'.tape = w.tape
  output : w'.output = w.output
  size : w.heap.size ≤ w'.heap.size
  block : ∀ k, k < w.heap.size → ¬ F k → w'.heap[k]? = w.heap[k]?
namespace Touch
variable {F G : Nat → Prop} {w w1 w2 : World} {B : Nat}
theorem refl (F : Nat → Prop) (w : World) : Touch F w w := ⟨rfl, rfl, rfl, Nat.le_refl _, fun _ _ _ => rfl⟩
theorem trans (h : Touch F w w1) (h' : Touch G w1 w2) (hs : ∀ k, G k → F k ∨ w.heap.size ≤ k) : Touch F w w2 :=
  ⟨h'.os.trans h.os, h'.tape.trans h.tape, h'.output.trans h.output, Nat.le_trans h.size h'.size, fun k hk hf =>
    (h'.block k (Nat.lt_of_lt_of_le hk h.size) (fun g => by rcases hs k g with h1 | h1; exact hf h1; omega)).trans (h.block k hk hf)⟩
theorem mono (h : Touch F w w1) (hs : ∀ k, F k → G k) : Touch G w w1 := ⟨h.os, h.tape, h.output, h.size, fun k hk hg => h.block k hk (fun hf => hg (hs k hf))⟩
theorem ofBelow (h : Below w.heap.size w w1) : Touch F w w1 := ⟨h.os, h.tape, h.output, h.size, fun k hk _ => h.block k hk⟩
theorem below (h : Touch F w w1) (hB : B ≤ w.heap.size) (hF : ∀ k, F k → B ≤ k) : Below B w w1 := ⟨h.os, h.tape, h.output, h.size, fun k hk => h.block k (by omega) (fun hf => by have := hF k hf; omega)⟩
theorem thenBelow (h : Touch F w w1) (hb : Below w1.heap.size w1 w2) : Touch F w w2 := h.trans (G := F) (ofBelow hb) (fun k hk => Or.inl hk)
theorem set_ (h : Touch F w w1) {p : Addr} (hp : F p.block ∨ w.heap.size ≤ p.block) (u : Value) : Touch F w (w1.setCell p u) := by
  refine h.trans (G := fun k => k = p.block) ⟨rfl, rfl, rfl, ?_, fun k _ hk => Below.heap_setCell w1 p u k hk⟩ (fun k hk => by subst hk; exact hp)
  exact ((Below.refl 0 w1).setCell (Nat.zero_le _) u).size
theorem alloc (h : Touch F w w1) (o : Obj) : Touch F w (w1.alloc o) := h.thenBelow ((Below.refl _ _).alloc (Nat.le_refl _) _)
theorem grown (h : Touch F w w1) {row : Option Nat} (hg : w1.grownBy w2 row) (hr : ∀ k, row = some k → F k ∨ w.heap.size ≤ k) : Touch F w w2 :=
  h.trans (G := fun k => row = some k) ⟨hg.os, hg.tape, hg.output, hg.size, fun k hk hn => hg.block k hk (fun e => hn e.symm)⟩ hr
end Touch
/-- The blocks of F, and those that are new since. -/
def More (w : World) (F : Nat → Prop) (k : Nat) : Prop := F k ∨ w.heap.size ≤ k
def InF (F : Nat → Prop) (A : Option Addr) : Prop := ∀ a, A = some a → F a.block
def Apart (A A' : Option Addr) : Prop := ∀ a a', A = some a → A' = some a' → a.block ≠ a'.block
theorem inF_none (F : Nat → Prop) : InF F none := fun a h => by cases h
theorem apart_none (A : Option Addr) : Apart A none := fun a a' _ h => by cases h
theorem none_apart (A : Option Addr) : Apart none A := fun a a' h _ => by cases h
theorem ownKeep {w w' : World} {B s n m c : Nat} {e : TypeId} {A : Option Addr} {xs : List Value} (h : w.ownsRow B e s (.slice A m c) n xs) (hk : ∀ a, A = some a → w'.heap[a.block]? = w.heap[a.block]?) : w'.ownsRow B e s (.slice A m c) n xs := by
  obtain ⟨h1, h2⟩ := h
  refine ⟨h1, ?_⟩
  rcases h2 with h2 | ⟨g, cap, cur, hv, hg, hh, r⟩
  · exact Or.inl h2
  · refine Or.inr ⟨g, cap, cur, hv, hg, ?_, r⟩
    injection hv with hv
    rw [hk _ hv]; exact hh
theorem ownIn {w : World} {B s n m c : Nat} {e : TypeId} {A : Option Addr} {xs : List Value} (h : w.ownsRow B e s (.slice A m c) n xs) {a : Addr} (ha : A = some a) : B ≤ a.block ∧ a.block < w.heap.size ∧ ∃ cur, w.heap[a.block]? = some (.cells cur e (0, 0)) := by
  rcases h.2 with ⟨hv, _⟩ | ⟨g, cap, cur, hv, hg, hh, _⟩
  · injection hv with hv; rw [ha] at hv; cases hv
  · injection hv with hv
    rw [ha] at hv
    injection hv with hv
    subst hv
    exact ⟨hg, (Array.getElem?_eq_some_iff.1 hh).1, cur, hh⟩
theorem ownNe {w : World} {B s n m c g : Nat} {e t : TypeId} {A : Option Addr} {xs : List Value} {cs : Array Value} (h : w.ownsRow B e s (.slice A m c) n xs) (hb : Blk w g t cs) (ht : t ≠ e) {a : Addr} (ha : A = some a) : a.block ≠ g := by
  obtain ⟨_, _, cur, hh⟩ := ownIn h ha
  rintro rfl
  unfold Blk at hb
  rw [hh] at hb
  injection hb with hb
  injection hb with _ hb
  exact ht hb.symm
theorem blkKeep {w w' : World} {g : Nat} {t : TypeId} {cs : Array Value} (h : Blk w g t cs) (hk : w'.heap[g]? = w.heap[g]?) : Blk w' g t cs := hk.trans h
/-- What block a disk lies at the begin of: its type, and what else it has behind the disk. -/
structure DkK where
  ty : TypeId
  X : List Value
  hne : ty ≠ 5
def dkC (K : DkK) (l : List Value) : Array Value := ⟨l ++ K.X⟩
/-- A disk alone. -/
def dk0 : DkK := ⟨100, [], by decide⟩
variable {K : DkK}
section
variable {w : World} {g : Nat} {t : TypeId} {a b c : Value}
theorem _root_.Go.Proofs.YtkdpfjenjcpcfaaGreatDoor.Mem.Blk.d0 (h : Blk w g t (dkC K [a, b, c])) : w.cell? ⟨g, 0, none⟩ = some a := (h.cell 0).trans (by simp [dkC])
theorem _root_.Go.Proofs.YtkdpfjenjcpcfaaGreatDoor.Mem.Blk.d1 (h : Blk w g t (dkC K [a, b, c])) : w.cell? ⟨g, 1, none⟩ = some b := (h.cell 1).trans (by simp [dkC])
theorem _root_.Go.Proofs.YtkdpfjenjcpcfaaGreatDoor.Mem.Blk.d2 (h : Blk w g t (dkC K [a, b, c])) : w.cell? ⟨g, 2, none⟩ = some c := (h.cell 2).trans (by simp [dkC])
theorem _root_.Go.Proofs.YtkdpfjenjcpcfaaGreatDoor.Mem.Blk.e0 (h : Blk w g t (dkC K [a, b, c])) (u : Value) : Blk (w.setCell ⟨g, 0, none⟩ u) g t (dkC K [u, b, c]) := by simpa [dkC] using h.set_ 0 u
theorem _root_.Go.Proofs.YtkdpfjenjcpcfaaGreatDoor.Mem.Blk.e1 (h : Blk w g t (dkC K [a, b, c])) (u : Value) : Blk (w.setCell ⟨g, 1, none⟩ u) g t (dkC K [a, u, c]) := by simpa [dkC] using h.set_ 1 u
theorem _root_.Go.Proofs.YtkdpfjenjcpcfaaGreatDoor.Mem.Blk.e2 (h : Blk w g t (dkC K [a, b, c])) (u : Value) : Blk (w.setCell ⟨g, 2, none⟩ u) g t (dkC K [a, b, u]) := by simpa [dkC] using h.set_ 2 u
end
/-- A disk in block g, that stands in the blocks of F: L lasts, T is its tail, n its count. -/
structure DkB (K : DkK) (w : World) (F : Nat → Prop) (g : Nat) (L T : List UInt8) (n : Nat) (A : Option Addr) (c : Nat) (A' : Option Addr) (c' : Nat) : Prop where
  blk : Blk w g K.ty (dkC K [.slice A L.length c, .slice A' T.length c', .int .i64 (n : Int)])
  ol : w.ownsRow 0 5 1 (.slice A L.length c) L.length (L.map byteV)
  ot : w.ownsRow 0 5 1 (.slice A' T.length c') T.length (T.map byteV)
  fl : InF F A
  ft : InF F A'
  ap : Apart A A'
  fg : F g
  lt : ∀ k, F k → k < w.heap.size
  mx : L.length + T.length ≤ 4194304
def DkAt (K : DkK) (w : World) (F : Nat → Prop) (g : Nat) (L T : List UInt8) (n : Nat) : Prop := ∃ A c A' c', DkB K w F g L T n A c A' c'
section
variable {w w' : World} {F G : Nat → Prop} {g n : Nat} {L T : List UInt8} {A A' : Option Addr} {c c' : Nat}
theorem DkB.keep (h : DkB K w F g L T n A c A' c') (hs : w.heap.size ≤ w'.heap.size) (hk : ∀ k, F k → w'.heap[k]? = w.heap[k]?) : DkB K w' F g L T n A c A' c' :=
  ⟨blkKeep h.blk (hk g h.fg), ownKeep h.ol fun a ha => hk _ (h.fl a ha), ownKeep h.ot fun a ha => hk _ (h.ft a ha), h.fl, h.ft, h.ap, h.fg, fun k hf => Nat.lt_of_lt_of_le (h.lt k hf) hs, h.mx⟩
theorem DkAt.keep (h : DkAt K w F g L T n) (hs : w.heap.size ≤ w'.heap.size) (hk : ∀ k, F k → w'.heap[k]? = w.heap[k]?) : DkAt K w' F g L T n := by
  obtain ⟨A, c, A', c', h⟩ := h
  exact ⟨A, c, A', c', h.keep hs hk⟩
theorem DkAt.lt (h : DkAt K w F g L T n) : ∀ k, F k → k < w.heap.size := by
  obtain ⟨A, c, A', c', h⟩ := h
  exact h.lt
theorem DkAt.mx (h : DkAt K w F g L T n) : L.length + T.length ≤ 4194304 := by
  obtain ⟨A, c, A', c', h⟩ := h
  exact h.mx
theorem DkAt.below (h : DkAt K w F g L T n) (hb : Below w.heap.size w w') : DkAt K w' F g L T n := h.keep hb.size fun k hk => hb.block k (h.lt k hk)
theorem DkAt.touch (h : DkAt K w F g L T n) (ht : Touch G w w') (hd : ∀ k, F k → ¬ G k) : DkAt K w' F g L T n := h.keep ht.size fun k hk => ht.block k (h.lt k hk) (hd k hk)
theorem DkAt.bounds (h : DkAt K w F g L T n) : L.length ≤ 4194304 ∧ T.length ≤ 4194304 := by have := h.mx; omega
/-- A disk's count alone is another one. -/
theorem DkB.setN (h : DkB K w F g L T n A c A' c') (m : Nat) : DkB K (w.setCell ⟨g, 2, none⟩ (.int .i64 (m : Int))) F g L T m A c A' c' := by
  have hk : ∀ k, k ≠ g → (w.setCell ⟨g, 2, none⟩ (.int .i64 (m : Int))).heap[k]? = w.heap[k]? := fun k hk => Below.heap_setCell w ⟨g, 2, none⟩ _ k hk
  exact ⟨h.blk.e2 (.int .i64 (m : Int)), ownKeep h.ol fun a ha => hk _ (ownNe h.ol h.blk K.hne ha), ownKeep h.ot fun a ha => hk _ (ownNe h.ot h.blk K.hne ha), h.fl, h.ft, h.ap, h.fg,
    fun k hf => Nat.lt_of_lt_of_le (h.lt k hf) ((Below.refl 0 w).setCell (p := ⟨g, 2, none⟩) (Nat.zero_le _) _).size, h.mx⟩
end
/-- A call on a disk: its answer, the disk behind it, and that nothing but the disk's own blocks was changed. -/
def DkTo (K : DkK) (v : Value) (F : Nat → Prop) (g : Nat) (L T : List UInt8) (n : Nat) (w : World) (e : Ending) (w' : World) : Prop := e = .returned v ∧ ∃ F', (∀ k, F' k → F k ∨ w.heap.size ≤ k) ∧ DkAt K w' F' g L T n ∧ Touch F w w'
end Go.Proofs.YtkdpfjenjcpcfaaGreatDoor
namespace Go.Proofs.YtkdpfjenjcpcfaaGreatDoor
open Go.RowKit Mem
set_option maxRecDepth 10000
set_option maxHeartbeats 2000000
set_option linter.unusedVariables false
variable {K : DkK}
theorem DkB.row {w : World} {F : Nat → Prop} {g n : Nat} {L T : List UInt8} {A A' : Option Addr} {c c' : Nat} (h : DkB K w F g L T n A c A' c') {k m d : Nat} (hk : (Value.slice A m d).ownBlock = some k) : F k ∧ k ≠ g := by
  cases A with
  | none => cases hk
  | some a =>
    have : a.block = k := by simpa [Value.ownBlock] using hk
    subst this
    exact ⟨h.fl a rfl, ownNe h.ol h.blk K.hne rfl⟩
theorem DkB.grownBlk {w w1 : World} {F : Nat → Prop} {g n : Nat} {L T : List UInt8} {A A' : Option Addr} {c c' : Nat} (h : DkB K w F g L T n A c A' c') {m d : Nat} (hg : w.grownBy w1 (Value.slice A m d).ownBlock) :
    Blk w1 g K.ty (dkC K [.slice A L.length c, .slice A' T.length c', .int .i64 (n : Int)]) := h.blk.grown hg (fun e => (h.row e.symm).2 rfl)
theorem dk_settled {w w1 : World} {F : Nat → Prop} {g n : Nat} {L T X : List UInt8} {A A' : Option Addr} {c c' : Nat} (h : DkB K w F g L T n A c A' c') {v : Value} {m : Nat} (hm : X.length = m) (ho : w1.ownsRow 0 5 1 v (L.length + m) (L.map byteV ++ X.map byteV))
    (hg : w.grownBy w1 (Value.slice A L.length c).ownBlock) (ha : v.ownBlock = (Value.slice A L.length c).ownBlock ∨ v.ownBlock = some w.heap.size) (hX : m ≤ T.length) :
    DkTo K (.tuple #[]) F g (L ++ X) [] n w (.returned (.tuple #[])) ((w1.setCell ⟨g, 0, none⟩ v).setCell ⟨g, 1, none⟩ (.slice none 0 0)) := by
  subst hm
  obtain ⟨A1, c1, rfl, hc1, hm1⟩ := ownShape ho
  have hrow : ∀ k, (Value.slice A L.length c).ownBlock = some k → F k ∧ k ≠ g := fun k hk => by
    cases A with
    | none => cases hk
    | some a =>
      have : a.block = k := by simpa [Value.ownBlock] using hk
      subst this
      exact ⟨h.fl a rfl, ownNe h.ol h.blk K.hne rfl⟩
  have hb1 : Blk w1 g K.ty (dkC K [.slice A L.length c, .slice A' T.length c', .int .i64 (n : Int)]) := h.blk.grown hg (fun e => (hrow g e.symm).2 rfl)
  have hb2 := (hb1.e0 (.slice A1 (L.length + X.length) c1)).e1 (.slice none 0 0)
  have hk : ∀ k, k ≠ g → ((w1.setCell ⟨g, 0, none⟩ (.slice A1 (L.length + X.length) c1)).setCell ⟨g, 1, none⟩ (.slice none 0 0)).heap[k]? = w1.heap[k]? := fun k hk =>
    (Below.heap_setCell _ ⟨g, 1, none⟩ _ k hk).trans (Below.heap_setCell _ ⟨g, 0, none⟩ _ k hk)
  have hin : ∀ a, A1 = some a → F a.block ∨ w.heap.size ≤ a.block := fun a ha1 => by
    subst ha1
    rcases ha with ha | ha
    · exact Or.inl (hrow a.block ha.symm).1
    · have : a.block = w.heap.size := by simpa [Value.ownBlock] using ha
      exact Or.inr (by omega)
  have hsz : ((w1.setCell ⟨g, 0, none⟩ (.slice A1 (L.length + X.length) c1)).setCell ⟨g, 1, none⟩ (.slice none 0 0)).heap.size = w1.heap.size := by simp [World.setCell]
  refine ⟨rfl, fun k => (F k ∨ w.heap.size ≤ k) ∧ k < w1.heap.size, fun k hk => hk.1, ⟨A1, c1, none, 0, ?_⟩, (((Touch.refl F w).grown hg (fun k hk => Or.inl (hrow k hk).1)).set_ (Or.inl h.fg) _).set_ (Or.inl h.fg) _⟩
  refine ⟨?_, ?_, World.ownsRow_nil _ _ _ _, ?_, inF_none _, apart_none _, ?_, ?_, ?_⟩
  · rw [List.length_append]; exact hb2
  · rw [List.length_append, List.map_append]
    exact ownKeep ho fun a ha => hk _ (ownNe ho hb1 K.hne ha)
  · exact fun a ha => ⟨hin a ha, (ownIn ho ha).2.1⟩
  · exact ⟨Or.inl h.fg, Nat.lt_of_lt_of_le (h.lt g h.fg) hg.size⟩
  · intro k hk; rw [hsz]; exact hk.2
  · have := h.mx
    rw [List.length_append, List.length_nil]; omega
theorem settle_any (F : Nat → Prop) (g n k : Nat) (L T : List UInt8) (hk : k ≤ T.length) (w : World) (h : DkAt K w F g L T n) :
    Calls Tryz.prog 125 #[.pointer (some ⟨g, 0, none⟩), .int .i64 (k : Int)] w (DkTo K (.tuple #[]) F g (L ++ T.take k) [] n w) := by
  obtain ⟨i0, hi0, hz0, hz1, hz2⟩ := info_parts info_b
  obtain ⟨A, c, A', c', h⟩ := h
  have c0 : w.cell? ⟨g, 0, none⟩ = some (.slice A L.length c) := h.blk.d0
  have c1 : w.cell? ⟨g, 1, none⟩ = some (.slice A' T.length c') := h.blk.d1
  have z0 := h.blk.frozen 0
  have z1 := h.blk.frozen 1
  have hcc := (own_cap h.ot).1
  have hcut := fun W => run_cut_h (P := Tryz.prog) (w := W) 27 5 _ _ Tryz.underlying27 info_b A' T.length c' k (by omega)
  have hlen : (T.take k).length = k := by rw [List.length_take]; omega
  have hmx := h.mx
  have H := Lib.hid h
  obtain ⟨X, hX⟩ : ∃ X, T.take k = X := ⟨_, rfl⟩
  rw [hX] at hlen ⊢
  have HROW : Hid (Row w w.heap.size A' (X.map byteV)) := Lib.hid (by rw [← hX, List.map_take]; exact take_row (Row.of_own h.ot) k)
  have HL : Hid (X.length = k ∧ k ≤ T.length ∧ L.length + T.length ≤ 4194304) := Lib.hid ⟨hlen, hk, hmx⟩
  clear h hX hlen hmx
  go_enter Tryz.func125, Tryz.ntmps125
  go_wp2_with fail
  go_region_law (refine step_app _ (by rfl) _ _ 27 (by rfl) 0 5 i0 (.int .u8 0) 1 Tryz.underlying27 hi0 hz0 hz1 hz2 rfl (.slice A L.length c) L.length (L.map byteV) (by rfl) (show World.ownsRow _ _ _ _ _ _ _ from H.out.ol) w.heap.size A' k c' (X.map byteV) (by rfl) (by rw [List.length_map]; exact HL.out.1) (show Row _ _ _ _ from HROW.out) (byte_one X) (by have := HL.out; unfold maxLen; omega) (by have := HL.out; omega) (Nat.zero_le _) ?_; intro v' w1 hown hgr hat; obtain ⟨A1, c1, rfl, _, _⟩ := ownShape hown; have HO := Lib.hid hown; have HG := Lib.hid (show w.grownBy w1 _ from ⟨hgr.os, hgr.tape, hgr.output, hgr.size, hgr.block⟩); have HA := Lib.hid hat; (have d0 : w1.cell? ⟨g, 0, none⟩ = some (.slice A L.length c) := (H.out.grownBlk HG.out).d0); (have d1 : w1.cell? ⟨g, 1, none⟩ = some (.slice A' T.length c') := (H.out.grownBlk HG.out).d1); (have y0 := (H.out.grownBlk HG.out).frozen 0); (have y1 := (H.out.grownBlk HG.out).frozen 1); clear hown hgr hat)
  all_goals
    go_end0
    exact dk_settled H.out HL.out.1 HO.out HG.out HA.out HL.out.2.1
end Go.Proofs.YtkdpfjenjcpcfaaGreatDoor
namespace Go.Proofs.YtkdpfjenjcpcfaaGreatDoor
open Go.RowKit Mem
set_option maxRecDepth 10000
set_option maxHeartbeats 2000000
set_option linter.unusedVariables false
variable {K : DkK}
theorem sync_nil (w : World) : Calls Tryz.prog 172 #[.pointer none] w fun e w' => e = .returned (.int .i64 1) ∧ w = w' := by
  go_enter Tryz.func172, Tryz.ntmps172
  go_wp2
  go_ret
  exact ⟨rfl, rfl⟩
/-- A disk's count behind a Sync. -/
def upN (T : List UInt8) (n : Nat) : Nat := if T.length = 0 then n else n + 1
theorem dkTo_more {v : Value} {F : Nat → Prop} {g n : Nat} {L T : List UInt8} {w w1 w2 : World} {e : Ending} (hw : Touch F w w1) (hlt : w.heap.size ≤ w1.heap.size) (h : DkTo K v F g L T n w1 e w2) : DkTo K v F g L T n w e w2 := by
  obtain ⟨rfl, F2, h1, h2, h3⟩ := h
  exact ⟨rfl, F2, fun k hk => by rcases h1 k hk with h | h; exact Or.inl h; exact Or.inr (by omega), h2, hw.trans h3 (fun k hk => Or.inl hk)⟩
theorem sync_any (F : Nat → Prop) (g n : Nat) (L T : List UInt8) (hn : n ≤ 4611686018427387904) (w : World) (h : DkAt K w F g L T n) :
    Calls Tryz.prog 172 #[.pointer (some ⟨g, 0, none⟩)] w (DkTo K (.int .i64 0) F g (L ++ T) [] (upN T n) w) := by
  obtain ⟨A, c, A', c', h⟩ := h
  have c1 : w.cell? ⟨g, 1, none⟩ = some (.slice A' T.length c') := h.blk.d1
  have c2 : w.cell? ⟨g, 2, none⟩ = some (.int .i64 (n : Int)) := h.blk.d2
  have z2 := h.blk.frozen 2
  have hmx := h.mx
  have hT : (T.length : Int) ≤ 4194304 := by omega
  have hni : (n : Int) ≤ 4611686018427387904 := by omega
  have H := Lib.hid h
  have HT : Hid (T.take T.length = T) := Lib.hid (List.take_of_length_le (Nat.le_refl _))
  clear h hmx
  by_cases h0 : T.length = 0
  · have HU : Hid (upN T n = n) := Lib.hid (if_pos h0)
    have hS := settle_any F g n T.length L T (Nat.le_refl _) w ⟨A, c, A', c', H.out⟩
    rw [HT.out, h0] at hS
    have HS := Lib.hid hS
    rw [h0] at c1
    rw [HU.out]
    clear hS hT h0
    go_enter Tryz.func172, Tryz.ntmps172
    go_wp2_with fail
    refine HS.out.mono ?_
    rintro e w1 ⟨rfl, F', h1, h2, h3⟩
    have HX := Lib.hid (And.intro h1 (And.intro h2 h3))
    clear h1 h2 h3
    go_wp2
    go_ret
    exact ⟨rfl, F', HX.out⟩
  · have HU : Hid (upN T n = n + 1) := Lib.hid (if_neg h0)
    have hp : (0 : Int) < (T.length : Int) := by omega
    have hS := settle_any F g (n + 1) T.length L T (Nat.le_refl _) (w.setCell ⟨g, 2, none⟩ (.int .i64 ((n + 1 : Nat) : Int))) ⟨A, c, A', c', H.out.setN (n + 1)⟩
    have hc1 : (w.setCell ⟨g, 2, none⟩ (.int .i64 ((n + 1 : Nat) : Int))).cell? ⟨g, 1, none⟩ = some (.slice A' T.length c') := (H.out.setN (n + 1)).blk.d1
    have hsz : (w.setCell ⟨g, 2, none⟩ (.int .i64 ((n + 1 : Nat) : Int))).heap.size = w.heap.size := by simp [World.setCell]
    have HTo : Hid (Touch F w (w.setCell ⟨g, 2, none⟩ (.int .i64 ((n + 1 : Nat) : Int)))) := Lib.hid ((Touch.refl F w).set_ (Or.inl H.out.fg) _)
    rw [HT.out, Int.natCast_add, Int.natCast_one] at hS
    rw [Int.natCast_add, Int.natCast_one] at hc1 hsz HTo
    have HS := Lib.hid hS
    have HSZ := Lib.hid hsz
    rw [HU.out]
    clear hS hT h0 hsz
    go_enter Tryz.func172, Tryz.ntmps172
    go_wp2_with fail
    refine HS.out.mono ?_
    rintro e w1 hx
    have HX := Lib.hid (dkTo_more HTo.out (by rw [HSZ.out]; exact Nat.le_refl _) hx)
    obtain ⟨rfl, _⟩ := hx
    go_wp2
    go_ret
    exact ⟨rfl, HX.out.2⟩
theorem crash_neg (F : Nat → Prop) (g n : Nat) (L T : List UInt8) (k : Int) (hk : k < 0) (w : World) :
    Calls Tryz.prog 92 #[.pointer (some ⟨g, 0, none⟩), .int .i64 k] w fun e w' => e = .returned (.int .i64 2) ∧ w = w' := by
  go_enter Tryz.func92, Tryz.ntmps92
  go_wp2
  go_ret
  exact ⟨rfl, rfl⟩
theorem crash_any (F : Nat → Prop) (g n k : Nat) (L T : List UInt8) (w : World) (h : DkAt K w F g L T n) :
    Calls Tryz.prog 92 #[.pointer (some ⟨g, 0, none⟩), .int .i64 (k : Int)] w (DkTo K (.int .i64 0) F g (L ++ T.take k) [] n w) := by
  have hD := h
  obtain ⟨A, c, A', c', h⟩ := h
  have c1 : w.cell? ⟨g, 1, none⟩ = some (.slice A' T.length c') := h.blk.d1
  have hmx := h.mx
  have hT : (T.length : Int) ≤ 4194304 := by omega
  have hki : (0 : Int) ≤ (k : Int) := by omega
  clear h hmx
  by_cases hk : T.length < k
  · have hlt : (T.length : Int) < (k : Int) := by omega
    have hS := settle_any F g n T.length L T (Nat.le_refl _) w hD
    rw [show T.take T.length = T.take k by rw [List.take_of_length_le (Nat.le_refl _), List.take_of_length_le (by omega)]] at hS
    have HS := Lib.hid hS
    clear hS hD hk
    go_enter Tryz.func92, Tryz.ntmps92
    go_wp2_with fail
    refine HS.out.mono ?_
    rintro e w1 ⟨rfl, F', h1, h2, h3⟩
    have HX := Lib.hid (And.intro h1 (And.intro h2 h3))
    clear h1 h2 h3
    go_wp2
    go_ret
    exact ⟨rfl, F', HX.out⟩
  · have hlt : (k : Int) ≤ (T.length : Int) := by omega
    have hS := settle_any F g n k L T (by omega) w hD
    have HS := Lib.hid hS
    clear hS hD hk
    go_enter Tryz.func92, Tryz.ntmps92
    go_wp2_with fail
    refine HS.out.mono ?_
    rintro e w1 ⟨rfl, F', h1, h2, h3⟩
    have HX := Lib.hid (And.intro h1 (And.intro h2 h3))
    clear h1 h2 h3
    go_wp2
    go_ret
    exact ⟨rfl, F', HX.out⟩
theorem replace_long (g c m : Nat) (A : Option Addr) (hm : 4194304 < m) (w : World) :
    Calls Tryz.prog 152 #[.pointer (some ⟨g, 0, none⟩), .slice A m c] w fun e w' => e = .returned (.int .i64 3) ∧ w = w' := by
  have hmi : (4194304 : Int) < (m : Int) := by omega
  clear hm
  go_enter Tryz.func152, Tryz.ntmps152
  go_wp2
  go_ret
  exact ⟨rfl, rfl⟩
theorem dk_replaced {w w1 : World} {F : Nat → Prop} {g n m : Nat} {L T bs : List UInt8} (h : DkAt K w F g L T n) {A1 : Option Addr} {c1 : Nat} (hm : m = bs.length) (hl : m ≤ 4194304)
    (ho : w1.ownsRow w.heap.size 5 1 (.slice A1 bs.length c1) bs.length (bs.map byteV)) (hb : Below w.heap.size w w1) :
    DkTo K (.int .i64 0) F g bs [] n w (.returned (.int .i64 0)) ((w1.setCell ⟨g, 0, none⟩ (.slice A1 bs.length c1)).setCell ⟨g, 1, none⟩ (.slice none 0 0)) := by
  subst hm
  obtain ⟨A, c, A', c', h⟩ := h
  have hb1 := h.blk.below hb (h.lt g h.fg)
  have hb2 := (hb1.e0 (.slice A1 bs.length c1)).e1 (.slice none 0 0)
  have hk : ∀ k, k ≠ g → ((w1.setCell ⟨g, 0, none⟩ (.slice A1 bs.length c1)).setCell ⟨g, 1, none⟩ (.slice none 0 0)).heap[k]? = w1.heap[k]? := fun k hk =>
    (Below.heap_setCell _ ⟨g, 1, none⟩ _ k hk).trans (Below.heap_setCell _ ⟨g, 0, none⟩ _ k hk)
  have hsz : ((w1.setCell ⟨g, 0, none⟩ (.slice A1 bs.length c1)).setCell ⟨g, 1, none⟩ (.slice none 0 0)).heap.size = w1.heap.size := by simp [World.setCell]
  refine ⟨rfl, fun k => (F k ∨ w.heap.size ≤ k) ∧ k < w1.heap.size, fun k hk => hk.1, ⟨A1, c1, none, 0, ?_⟩, (((Touch.refl F w).thenBelow hb).set_ (Or.inl h.fg) _).set_ (Or.inl h.fg) _⟩
  refine ⟨hb2, ?_, World.ownsRow_nil _ _ _ _, ?_, inF_none _, apart_none _, ?_, ?_, ?_⟩
  · exact ownKeep (ownBase ho (Nat.zero_le _)) fun a ha => hk _ (ownNe ho hb1 K.hne ha)
  · exact fun a ha => ⟨Or.inr (ownIn ho ha).1, (ownIn ho ha).2.1⟩
  · exact ⟨Or.inl h.fg, Nat.lt_of_lt_of_le (h.lt g h.fg) hb.size⟩
  · intro k hk; rw [hsz]; exact hk.2
  · rw [List.length_nil]; omega
theorem replace_any (F : Nat → Prop) (g n m B c0 : Nat) (L T bs : List UInt8) (A0 : Option Addr) (hm : m = bs.length) (hl : m ≤ 4194304) (w : World) (h : DkAt K w F g L T n) (hr : Row w B A0 (bs.map byteV)) (hB : B ≤ w.heap.size) :
    Calls Tryz.prog 152 #[.pointer (some ⟨g, 0, none⟩), .slice A0 m c0] w (DkTo K (.int .i64 0) F g bs [] n w) := by
  have HC := Lib.hid (clone_any B c0 A0 bs m hm w hr hB (by omega))
  have HD := Lib.hid h
  have HM := Lib.hid hm
  have hli : (m : Int) ≤ 4194304 := by omega
  clear h hr hm
  go_enter Tryz.func152, Tryz.ntmps152
  go_wp2_with fail
  refine HC.out.mono ?_
  rintro e w1 ⟨A1, c1, rfl, ho, hb⟩
  have hx : ∃ x y z, Blk w1 g K.ty (dkC K [x, y, z]) ∧ x.cells.size = 1 ∧ y.cells.size = 1 := by
    obtain ⟨A, c, A', c', h⟩ := HD.out
    exact ⟨_, _, _, h.blk.below hb (h.lt g h.fg), rfl, rfl⟩
  obtain ⟨x, y, z, hblk, _, _⟩ := hx
  have d0 : w1.cell? ⟨g, 0, none⟩ = some x := hblk.d0
  have d1 : w1.cell? ⟨g, 1, none⟩ = some y := hblk.d1
  have z0 := hblk.frozen 0
  have z1 := hblk.frozen 1
  have HX := Lib.hid (dk_replaced HD.out HM.out hl ho hb)
  clear ho hb hblk
  go_wp2
  go_ret
  exact HX.out
/-- A new disk, in blocks of its own. -/
def NewDk (v : Value → Value) (L T : List UInt8) (n : Nat) (w : World) (e : Ending) (w' : World) : Prop :=
  ∃ g F, e = .returned (v (.pointer (some ⟨g, 0, none⟩))) ∧ (∀ k, F k → w.heap.size ≤ k) ∧ DkAt dk0 w' F g L T n ∧ Below w.heap.size w w'
theorem new_at (w : World) : DkAt dk0 (w.alloc (.cells #[.slice none 0 0, .slice none 0 0, .int .i64 0] 100)) (fun k => k = w.heap.size) w.heap.size [] [] 0 :=
  ⟨none, 0, none, 0, ⟨Blk.new _ _ _, World.ownsRow_nil _ _ _ _, World.ownsRow_nil _ _ _ _, inF_none _, inF_none _, apart_none _, rfl, fun k hk => by subst hk; simp, by simp⟩⟩
theorem newdk_any (w : World) : Calls Tryz.prog 95 #[] w (NewDk id [] [] 0 w) := by
  have HN := Lib.hid (new_at w)
  go_enter Tryz.func95, Tryz.ntmps95
  go_wp2
  go_ret
  exact ⟨w.heap.size, _, rfl, fun k hk => by subst hk; exact Nat.le_refl _, HN.out, (Below.refl _ _).alloc (Nat.le_refl _) _⟩
end Go.Proofs.YtkdpfjenjcpcfaaGreatDoor
namespace Go.Proofs.YtkdpfjenjcpcfaaGreatDoor
open Go.RowKit Mem
set_option maxRecDepth 10000
set_option maxHeartbeats 2000000
set_option linter.unusedVariables false
variable {K : DkK}
theorem lasting_any (F : Nat → Prop) (g n : Nat) (L T : List UInt8) (w : World) (h : DkAt K w F g L T n) :
    Calls Tryz.prog 41 #[.pointer (some ⟨g, 0, none⟩)] w (Made w.heap.size L w) := by
  obtain ⟨A, c, A', c', h⟩ := h
  have c0 : w.cell? ⟨g, 0, none⟩ = some (.slice A L.length c) := h.blk.d0
  have HC := Lib.hid (clone_any w.heap.size c A L L.length rfl w (Row.of_own h.ol) (Nat.le_refl _) (by have := h.mx; omega))
  clear h
  go_enter Tryz.func41, Tryz.ntmps41
  go_wp2_with fail
  refine HC.out.mono ?_
  rintro e w1 ⟨A1, c1, rfl, ho, hb⟩
  have HX := Lib.hid (And.intro ho hb)
  clear ho hb
  go_wp2
  go_ret
  exact ⟨A1, c1, rfl, HX.out.1, HX.out.2⟩
theorem tail_any (F : Nat → Prop) (g n : Nat) (L T : List UInt8) (w : World) (h : DkAt K w F g L T n) :
    Calls Tryz.prog 42 #[.pointer (some ⟨g, 0, none⟩)] w (Made w.heap.size T w) := by
  obtain ⟨A, c, A', c', h⟩ := h
  have c0 : w.cell? ⟨g, 1, none⟩ = some (.slice A' T.length c') := h.blk.d1
  have HC := Lib.hid (clone_any w.heap.size c' A' T T.length rfl w (Row.of_own h.ot) (Nat.le_refl _) (by have := h.mx; omega))
  clear h
  go_enter Tryz.func42, Tryz.ntmps42
  go_wp2_with fail
  refine HC.out.mono ?_
  rintro e w1 ⟨A1, c1, rfl, ho, hb⟩
  have HX := Lib.hid (And.intro ho hb)
  clear ho hb
  go_wp2
  go_ret
  exact ⟨A1, c1, rfl, HX.out.1, HX.out.2⟩
theorem made_drew {B : Nat} {bs : List UInt8} {w w0 : World} {e : Ending} {w' : World} (hb : Below w.heap.size w w0) (h : Made w0.heap.size bs w0 e w') : Made w.heap.size bs w e w' := by
  obtain ⟨A1, c1, rfl, ho, hb2⟩ := h
  exact ⟨A1, c1, rfl, ownBase ho hb.size, hb.trans (hb2.mono hb.size)⟩
theorem bytes_any (F : Nat → Prop) (g n : Nat) (L T : List UInt8) (w : World) (h : DkAt K w F g L T n) :
    Calls Tryz.prog 28 #[.pointer (some ⟨g, 0, none⟩)] w (Made w.heap.size (L ++ T) w) := by
  obtain ⟨A, c, A', c', h⟩ := h
  have c0 : w.cell? ⟨g, 0, none⟩ = some (.slice A L.length c) := h.blk.d0
  have c1 : w.cell? ⟨g, 1, none⟩ = some (.slice A' T.length c') := h.blk.d1
  have HC : Hid (Calls Tryz.prog 56 #[.slice (some ⟨w.heap.size, 0, none⟩) 2 2] (w.alloc (.cells #[.slice A L.length c, .slice A' T.length c'] 27)).drew (Made w.heap.size (L ++ T) w)) := Lib.hid (by
    have hb2 : Below w.heap.size w (w.alloc (.cells #[.slice A L.length c, .slice A' T.length c'] 27)).drew := ((Below.refl _ _).alloc (Nat.le_refl _) _).drew
    have hrow : Row (w.alloc (.cells #[.slice A L.length c, .slice A' T.length c'] 27)).drew (w.heap.size + 1) (some ⟨w.heap.size, 0, none⟩) (List.map rowV [(A, L, c), (A', T, c')]) := (row_cells rfl : Row _ _ _ _).drew
    have hcat : catB [(A, L, c), (A', T, c')] = L ++ T := by simp [catB]
    have := concat_any (w.heap.size + 1) 2 2 (some ⟨w.heap.size, 0, none⟩) [(A, L, c), (A', T, c')] rfl _ hrow (by simp) (fun r hr => by
      rcases (by simpa using hr : r = (A, L, c) ∨ r = (A', T, c')) with rfl | rfl
      · exact ((Row.of_own h.ol).below hb2).more hb2.size
      · exact ((Row.of_own h.ot).below hb2).more hb2.size) (by rw [hcat, List.length_append]; have := h.mx; omega) (by omega)
    rw [hcat] at this
    exact this.mono fun e w' hm => made_drew (B := 0) hb2 hm)
  obtain ⟨X, hX⟩ : ∃ X, L ++ T = X := ⟨_, rfl⟩
  rw [hX] at HC ⊢
  clear h hX
  go_enter Tryz.func28, Tryz.ntmps28
  go_wp2_with fail
  go_region_with (go_at_call 56; refine HC.out.mono ?_; rintro e w1 ⟨A1, c2, rfl, ho, hb⟩; have HX := Lib.hid (And.intro ho hb); clear ho hb)
  all_goals
    go_wp2
    go_ret
    exact ⟨A1, c2, rfl, HX.out.1, HX.out.2⟩
theorem dk_copied {w w1 : World} {L T : List UInt8} {n g : Nat} {x y : Value} {A1 A2 : Option Addr} {c1 c2 : Nat} (hg : g = w.heap.size) (hb : Below w.heap.size w w1) (hblk : Blk w1 g dk0.ty (dkC dk0 [x, y, .int .i64 (n : Int)]))
    (ho1 : w1.ownsRow w.heap.size 5 1 (.slice A1 L.length c1) L.length (L.map byteV)) (ho2 : w1.ownsRow w.heap.size 5 1 (.slice A2 T.length c2) T.length (T.map byteV)) (ha : Apart A1 A2) (hm : L.length + T.length ≤ 4194304) :
    NewDk id L T n w (.returned (.pointer (some ⟨g, 0, none⟩))) ((w1.setCell ⟨g, 0, none⟩ (.slice A1 L.length c1)).setCell ⟨g, 1, none⟩ (.slice A2 T.length c2)) := by
  subst hg
  have hb2 := (hblk.e0 (.slice A1 L.length c1)).e1 (.slice A2 T.length c2)
  have hk : ∀ k, k ≠ w.heap.size → ((w1.setCell ⟨w.heap.size, 0, none⟩ (.slice A1 L.length c1)).setCell ⟨w.heap.size, 1, none⟩ (.slice A2 T.length c2)).heap[k]? = w1.heap[k]? := fun k hk =>
    (Below.heap_setCell _ ⟨w.heap.size, 1, none⟩ _ k hk).trans (Below.heap_setCell _ ⟨w.heap.size, 0, none⟩ _ k hk)
  have hsz : ((w1.setCell ⟨w.heap.size, 0, none⟩ (.slice A1 L.length c1)).setCell ⟨w.heap.size, 1, none⟩ (.slice A2 T.length c2)).heap.size = w1.heap.size := by simp [World.setCell]
  refine ⟨w.heap.size, fun k => w.heap.size ≤ k ∧ k < w1.heap.size, rfl, fun k hk => hk.1, ⟨A1, c1, A2, c2, ?_⟩, (hb.setCell (p := ⟨w.heap.size, 0, none⟩) (Nat.le_refl _) _).setCell (p := ⟨w.heap.size, 1, none⟩) (Nat.le_refl _) _⟩
  refine ⟨hb2, ?_, ?_, ?_, ?_, ha, ⟨Nat.le_refl _, hblk.lt⟩, fun k hk => by rw [hsz]; exact hk.2, hm⟩
  · exact ownKeep (ownBase ho1 (Nat.zero_le _)) fun a ha => hk _ (ownNe ho1 hblk dk0.hne ha)
  · exact ownKeep (ownBase ho2 (Nat.zero_le _)) fun a ha => hk _ (ownNe ho2 hblk dk0.hne ha)
  · exact fun a ha => ⟨(ownIn ho1 ha).1, (ownIn ho1 ha).2.1⟩
  · exact fun a ha => ⟨(ownIn ho2 ha).1, (ownIn ho2 ha).2.1⟩
theorem apart_of {w1 w2 : World} {B n m c c' k k' : Nat} {A A' : Option Addr} {xs ys : List Value} (h1 : w1.ownsRow B 5 1 (.slice A n c) k xs) (h2 : w2.ownsRow w1.heap.size 5 1 (.slice A' m c') k' ys) : Apart A A' := fun a a' ha ha' e => by
  have := (ownIn h1 ha).2.1
  have := (ownIn h2 ha').1
  omega
theorem apart_symm {A A' : Option Addr} (h : Apart A A') : Apart A' A := fun a a' h1 h2 e => h a' a h2 h1 e.symm
theorem copy_any (F : Nat → Prop) (g n : Nat) (L T : List UInt8) (w : World) (h : DkAt K w F g L T n) :
    Calls Tryz.prog 119 #[.pointer (some ⟨g, 0, none⟩)] w (NewDk id L T n w) := by
  obtain ⟨A, c, A', c', h⟩ := h
  have c0 : w.cell? ⟨g, 0, none⟩ = some (.slice A L.length c) := h.blk.d0
  have c1 : w.cell? ⟨g, 1, none⟩ = some (.slice A' T.length c') := h.blk.d1
  have c2 : w.cell? ⟨g, 2, none⟩ = some (.int .i64 (n : Int)) := h.blk.d2
  have hgl := h.lt g h.fg
  have hmx := h.mx
  have HC1 : Hid (∀ W, Below w.heap.size w W → Calls Tryz.prog 71 #[.slice A L.length c] W (Made W.heap.size L W)) := Lib.hid fun W hb =>
    clone_any w.heap.size c A L L.length rfl W ((Row.of_own h.ol).below hb) hb.size (by omega)
  have HC2 : Hid (∀ W, Below w.heap.size w W → Calls Tryz.prog 71 #[.slice A' T.length c'] W (Made W.heap.size T W)) := Lib.hid fun W hb =>
    clone_any w.heap.size c' A' T T.length rfl W ((Row.of_own h.ot).below hb) hb.size (by omega)
  have H := Lib.hid h
  have HM := Lib.hid hmx
  have HW : Hid (Below w.heap.size w (w.alloc (.cells #[.slice A L.length c, .slice A' T.length c', .int .i64 (n : Int)] 100)).drew) := Lib.hid ((Below.refl _ _).alloc (Nat.le_refl _) _).drew
  have HNB : Hid (Blk (w.alloc (.cells #[.slice A L.length c, .slice A' T.length c', .int .i64 (n : Int)] 100)).drew w.heap.size dk0.ty (dkC dk0 [.slice A L.length c, .slice A' T.length c', .int .i64 (n : Int)])) := Lib.hid (Blk.new _ _ _).drew
  clear h hmx
  go_enter Tryz.func119, Tryz.ntmps119
  go_wp2_with fail
  go_region_with (first
    | (go_at_call 71; refine (HC1.out _ HW.out).mono ?_; rintro e w1 ⟨A1, k1, rfl, ho, hb⟩; have HB1 := Lib.hid (HW.out.trans (hb.mono HW.out.size)); have HO1 := Lib.hid ho; have HNB1 := Lib.hid (HNB.out.below hb HNB.out.lt); clear ho hb; (have d1 : w1.cell? ⟨g, 1, none⟩ = some (.slice A' T.length c') := (HB1.out.cell (p := ⟨g, 1, none⟩) hgl).trans c1); (have f0 : w1.cell? ⟨w.heap.size, 0, none⟩ = some (.slice A L.length c) := HNB1.out.d0); (have f1 : w1.cell? ⟨w.heap.size, 1, none⟩ = some (.slice A' T.length c') := HNB1.out.d1); have y0 := HNB1.out.frozen 0; have y1 := HNB1.out.frozen 1)
    | (go_at_call 71; refine (HC2.out _ HB1.out).mono ?_; rintro e w2 ⟨A2, k2, rfl, ho, hb⟩; have HB2 := Lib.hid (HB1.out.trans (hb.mono HB1.out.size)); have HAP := Lib.hid (apart_of HO1.out ho); have HO1 := Lib.hid (own_later HO1.out hb); have HO2 := Lib.hid ho; have HNB2 := Lib.hid (HNB1.out.below hb HNB1.out.lt); clear ho hb; (have f0 : w2.cell? ⟨w.heap.size, 0, none⟩ = some (.slice A L.length c) := HNB2.out.d0); (have f1 : w2.cell? ⟨w.heap.size, 1, none⟩ = some (.slice A' T.length c') := HNB2.out.d1); have y0 := HNB2.out.frozen 0; have y1 := HNB2.out.frozen 1)
    | (go_at_call 71; refine (HC2.out _ HW.out).mono ?_; rintro e w1 ⟨A2, k2, rfl, ho, hb⟩; have HB1 := Lib.hid (HW.out.trans (hb.mono HW.out.size)); have HO2 := Lib.hid ho; have HNB1 := Lib.hid (HNB.out.below hb HNB.out.lt); clear ho hb; (have d0 : w1.cell? ⟨g, 0, none⟩ = some (.slice A L.length c) := (HB1.out.cell (p := ⟨g, 0, none⟩) hgl).trans c0); (have f0 : w1.cell? ⟨w.heap.size, 0, none⟩ = some (.slice A L.length c) := HNB1.out.d0); (have f1 : w1.cell? ⟨w.heap.size, 1, none⟩ = some (.slice A' T.length c') := HNB1.out.d1); have y0 := HNB1.out.frozen 0; have y1 := HNB1.out.frozen 1)
    | (go_at_call 71; refine (HC1.out _ HB1.out).mono ?_; rintro e w2 ⟨A1, k1, rfl, ho, hb⟩; have HB2 := Lib.hid (HB1.out.trans (hb.mono HB1.out.size)); have HAP := Lib.hid (apart_symm (apart_of HO2.out ho)); have HO2 := Lib.hid (own_later HO2.out hb); have HO1 := Lib.hid ho; have HNB2 := Lib.hid (HNB1.out.below hb HNB1.out.lt); clear ho hb; (have f0 : w2.cell? ⟨w.heap.size, 0, none⟩ = some (.slice A L.length c) := HNB2.out.d0); (have f1 : w2.cell? ⟨w.heap.size, 1, none⟩ = some (.slice A' T.length c') := HNB2.out.d1); have y0 := HNB2.out.frozen 0; have y1 := HNB2.out.frozen 1))
  all_goals
    go_wp2
    go_ret
    exact dk_copied rfl HB2.out HNB2.out (ownBase HO1.out (by have := HB1.out.size; have := HW.out.size; omega)) (ownBase HO2.out (by have := HB1.out.size; have := HW.out.size; omega)) HAP.out HM.out
end Go.Proofs.YtkdpfjenjcpcfaaGreatDoor
namespace Go.Proofs.YtkdpfjenjcpcfaaGreatDoor
open Go.RowKit Mem
set_option maxRecDepth 10000
set_option maxHeartbeats 2000000
set_option linter.unusedVariables false
/-- What is counted: all, or that they are too many. -/
def cntZ (t m : Nat) : Int := if t ≤ m then (t : Int) else 0
def cntE (t m : Nat) : Int := if t ≤ m then 0 else 3
theorem count_any (n m B c : Nat) (A : Option Addr) (rs : List RowV) (hn : n = rs.length) (hnl : n ≤ maxLen) (hx : ∀ r ∈ rs, r.2.1.length ≤ maxLen) (hm : m ≤ 4194304) (w : World) (h : Row w B A (rs.map rowV)) :
    Calls Tryz.prog 205 #[.slice A n c, .int .i64 (m : Int)] w fun e w' => e = .returned (.tuple #[.int .i64 (cntZ (catB rs).length m), .int .i64 (cntE (catB rs).length m)]) ∧ w = w' := by
  have HR := Lib.hid h
  have HX := Lib.hid hx
  have HN := Lib.hid hn
  have hmi : (m : Int) ≤ 4194304 := by omega
  have hni : (n : Int) ≤ 9223372036854775807 := by unfold maxLen at hnl; omega
  clear h hx hn hnl hm
  go_enter Tryz.func205, Tryz.ntmps205
  go_wp2_with fail
  go_step3
  go_wp2_with fail
  go_step3
  go_wp2_with fail
  go_loopg [6, 7, 12] n (fun gk z e i wr => ∃ k : Nat, k + gk = n ∧ i = .int .i64 k ∧ z = .int .i64 ((catB (rs.take k)).length : Nat) ∧ e = .int .i64 0 ∧ Hid ((catB (rs.take k)).length ≤ m) ∧ w = wr)
  case atStart => exact ⟨0, by omega, rfl, rfl, rfl, Lib.hid (by simp [catB]), rfl⟩
  case round =>
    obtain ⟨k, hk, rfl, rfl, rfl, HLE, rfl⟩ := hrel
    by_cases hlt : k < n
    · have hk1 : k < rs.length := by rw [← HN.out]; exact hlt
      obtain ⟨b, o, rfl, _, hc⟩ := HR.out.open_ (by simp; omega)
      have hcell : w.cell? ⟨b, o + k, none⟩ = some (rowV rs[k]) := (hc k (by simpa using hk1)).trans (congrArg some (List.getElem_map (f := rowV) (h := by simpa using hk1)))
      have hxk := HX.out rs[k] (List.getElem_mem hk1)
      obtain ⟨⟨A1, y1, c1⟩, hy1⟩ : ∃ y, rs[k] = y := ⟨_, rfl⟩
      rw [hy1] at hcell hxk
      unfold rowV at hcell
      simp only at hcell hxk
      have hs := catB_snoc rs k hk1
      rw [hy1] at hs
      have hle := catB_le rs (k + 1)
      rw [hs, List.length_append] at hle
      simp only at hle
      obtain ⟨z, hz⟩ : ∃ z, (catB (rs.take k)).length = z := ⟨_, rfl⟩
      have HS : Hid ((catB (rs.take (k + 1))).length = z + y1.length) := Lib.hid (by rw [hs, List.length_append, hz])
      have hzm := HLE.out
      rw [hz] at hle hzm ⊢
      have hzi : (z : Int) ≤ (m : Int) := by omega
      have hz0 : (0 : Int) ≤ (z : Int) := by omega
      have hyl : (y1.length : Int) ≤ 9223372036854775807 := by unfold maxLen at hxk; omega
      have hki : (0 : Int) ≤ (k : Int) := by omega
      have hki2 : (k : Int) < (n : Int) := by omega
      by_cases hf : y1.length + z ≤ m
      · have hfi : (y1.length : Int) ≤ (m : Int) - (z : Int) := by omega
        have HF := Lib.hid hf
        have HG : Hid (k + 1 + (gk - 1) = n ∧ gk - 1 < gk) := Lib.hid (by omega)
        clear hc hy1 hs hz hle hf hxk
        go_wp2
        go_roundg (gk - 1)
        case measure => exact HG.out.2
        case rel => exact ⟨k + 1, HG.out.1, by go_num, by rw [HS.out]; go_num, rfl, Lib.hid (by rw [HS.out]; have := HF.out; omega), rfl⟩
      · have hfi : (m : Int) - (z : Int) < (y1.length : Int) := by omega
        have HT : Hid (cntZ (catB rs).length m = 0 ∧ cntE (catB rs).length m = 3) := Lib.hid ⟨if_neg (by omega), if_neg (by omega)⟩
        clear hc hy1 hs hz hle hf hxk
        go_wp2
        try rw [Exit.noGoto_ret]
        go_ret2
        rw [HT.out.1, HT.out.2]
        exact ⟨rfl, rfl⟩
    · obtain rfl : k = n := by omega
      have ht : rs.take k = rs := List.take_of_length_le (by rw [← HN.out]; omega)
      rw [ht]
      have hle := HLE.out
      rw [ht] at hle
      have HT : Hid (cntZ (catB rs).length m = ((catB rs).length : Nat) ∧ cntE (catB rs).length m = 0) := Lib.hid ⟨if_pos hle, if_pos hle⟩
      clear hle
      go_wp2
      try rw [Exit.noGoto_ret]
      go_ret2
      rw [HT.out.1, HT.out.2]
      exact ⟨rfl, rfl⟩
end Go.Proofs.YtkdpfjenjcpcfaaGreatDoor
namespace Go.Proofs.YtkdpfjenjcpcfaaGreatDoor
open Go.RowKit Mem
set_option maxRecDepth 10000
set_option maxHeartbeats 2000000
set_option linter.unusedVariables false
variable {K : DkK}
instance laterNonempty6 (w : World) : Nonempty (Later w) := ⟨⟨w, Below.refl _ _⟩⟩
theorem grow_zeros {w : World} {A : Option Addr} {n c k q : Nat} {bs : List UInt8} (ho : w.ownsRow 0 5 1 (.slice A n c) n (bs.map byteV)) (hq : n + k = c + q) (h0 : 0 < q) (hs : n + k ≤ 4194304) :
    ∃ C w1, (Builtin.append_ #[27, 3] 27 #[.slice A c c, .int .i64 ((k : Int) - ((c : Int) - (n : Int)))]).run Tryz.prog w = .ok (.slice (some ⟨w.heap.size, 0, none⟩) (c + q) C) w1 ∧ n ≤ C ∧
      w1.ownsRow w.heap.size 5 1 (.slice (some ⟨w.heap.size, 0, none⟩) n C) n (bs.map byteV) ∧ Below w.heap.size w w1 := by
  obtain ⟨i0, hi0, hz0, hz1, hz2⟩ := info_parts info_b
  obtain ⟨olds, hold, hol, hot⟩ : ∃ olds : List Value, (Builtin.firstCells i0.size c (.slice A c c)).run Tryz.prog w.drew = .ok olds.toArray w.drew ∧ olds.length = c ∧ olds.take n = bs.map byteV := by
    have hl := ho.1
    rw [hz1]
    rcases ho.2 with ⟨hv, hn⟩ | ⟨g, cap, cur, hv, _, hh, hnc, _, hsz, htk⟩
    · injection hv with h1 h2 h3
      subst h1; subst h2; subst h3
      exact ⟨[], run_firstCells_none (P := Tryz.prog) w.drew 1 0 0 0, rfl, by simpa using (List.eq_nil_of_length_eq_zero (by simpa using hl)).symm⟩
    · injection hv with h1 h2 h3
      subst h1; subst h3
      rw [Nat.mul_one] at hsz htk
      refine ⟨cur.toList, run_firstCells_some (P := Tryz.prog) w.drew 1 c ⟨g, 0, none⟩ c c cur.toList (by simpa using hsz) (fun j v hj => ?_), by simpa using hsz, htk⟩
      have hc := cell_of_row w.drew g j cur 5 (0, 0) hh
      have ea : (⟨g, 0, none⟩ : Addr).add j = ⟨g, j, none⟩ := by
        unfold Addr.add; split
        · subst_vars; rfl
        · simp
      rw [ea, hc]
      simpa using hj
  have hfit : Builtin.nextslicecap (c + q) c * i0.bytes ≤ 281474976710656 := growslice_fits (by omega) (by rw [hz2]; omega)
  have hr := Lib.run_append_grow_zeros (P := Tryz.prog) w 27 3 27 5 i0 (.int .u8 0) .i64 .i64 Tryz.underlying27 Tryz.underlying3 hi0 hz0 A c c olds hold q h0 (by omega) (by omega) (by omega) (by rw [hz2]; omega) hfit
  rw [show (k : Int) - ((c : Int) - (n : Int)) = ((q : Nat) : Int) by omega]
  have hge := grownCap_ge w (c + q) c 5
  have hnC : n ≤ c := by
    rcases ho.2 with ⟨hv, hn⟩ | ⟨g, cap, cur, hv, _, _, hnc, _⟩
    · omega
    · injection hv with _ _ h3; omega
  refine ⟨_, _, hr, by omega, ⟨by rw [ho.1], Or.inr ⟨w.heap.size, _, _, rfl, Nat.le_refl _, heap_alloc_new w.drew _, by omega, grownCap_le_maxLen w _ _ _ (by unfold maxLen; omega), ?_, ?_⟩⟩, ((Below.refl _ _).drew).alloc (Nat.le_refl _) _⟩
  · rw [Array.size_append, Array.size_append, size_zeroCells, size_zeroCells]
    have e1 : (Value.int IntKind.u8 0).cells.size = 1 := rfl
    rw [e1]
    simp [hol]
    omega
  · rw [Nat.mul_one, Array.toList_append, Array.toList_append, List.append_assoc, List.take_append_of_le_length (by simpa [hol] using hnC)]
    simpa using hot
/-- A row of the call's own with room: as it was, or all of it in a new block. -/
def Grew (A : Option Addr) (bs : List UInt8) (w : World) (e : Ending) (w' : World) : Prop :=
  ∃ A' C, e = .returned (.slice A' bs.length C) ∧ w'.ownsRow 0 5 1 (.slice A' bs.length C) bs.length (bs.map byteV) ∧ (∀ a, A' = some a → A = some a ∨ a.block = w.heap.size) ∧ Below w.heap.size w w'
theorem growown_any (n c k : Nat) (A : Option Addr) (bs : List UInt8) (hn : n = bs.length) (w : World) (ho : w.ownsRow 0 5 1 (.slice A n c) n (bs.map byteV)) (hs : n + k ≤ 4194304) :
    Calls Tryz.prog 84 #[.slice A n c, .int .i64 (k : Int)] w (Grew A bs w) := by
  subst hn
  have hcc := own_cap ho
  have hnl : (bs.length : Int) + (k : Int) ≤ 4194304 := by omega
  have hci : (bs.length : Int) ≤ (c : Int) := by omega
  have hcm : (c : Int) ≤ 9223372036854775807 := by have := hcc.2; unfold maxLen at this; omega
  have hk0 : (0 : Int) ≤ (k : Int) := by omega
  have hb0 : (0 : Int) ≤ (bs.length : Int) := by omega
  have HO := Lib.hid ho
  by_cases hg : c < bs.length + k
  · obtain ⟨q, hq⟩ : ∃ q, bs.length + k = c + q := ⟨bs.length + k - c, by omega⟩
    obtain ⟨C, w1, hr, hC, ho1, hb1⟩ := grow_zeros ho hq (by omega) hs
    have hcut1 := fun W => run_cut_h (P := Tryz.prog) (w := W) 27 5 _ _ Tryz.underlying27 info_b A bs.length c c (Nat.le_refl _)
    have hcut2 := fun W => run_cut_h (P := Tryz.prog) (w := W) 27 5 _ _ Tryz.underlying27 info_b (some ⟨w.heap.size, 0, none⟩) (c + q) C bs.length hC
    have HZ := Lib.hid hr
    have HO1 := Lib.hid ho1
    have HB1 := Lib.hid hb1
    have hgi : (c : Int) < (bs.length : Int) + (k : Int) := by omega
    have hpos : (0 : Int) < (k : Int) - ((c : Int) - (bs.length : Int)) := by omega
    clear ho hr hC ho1 hb1 hg hq hs hcc
    go_enter Tryz.func84, Tryz.ntmps84
    go_wp2_with (at_builtin; refine Lib.wpList_append_run _ rfl _ _ _ _ rfl _ _ rfl rfl _ _ HZ.out ?_)
    go_ret
    exact ⟨_, C, rfl, ownBase HO1.out (Nat.zero_le _), fun a ha => Or.inr (by injection ha with ha; subst ha; rfl), HB1.out⟩
  · have hgi : (bs.length : Int) + (k : Int) ≤ (c : Int) := by omega
    clear ho hg hs hcc
    go_enter Tryz.func84, Tryz.ntmps84
    go_wp2
    go_ret
    exact ⟨A, c, rfl, HO.out, fun a ha => Or.inl ha, Below.refl _ _⟩
/-- A row that lies outside of the blocks of F. -/
def RowN (F : Nat → Prop) (w : World) (A : Option Addr) (xs : List Value) : Prop := xs = [] ∨ ∃ b o, A = some ⟨b, o, none⟩ ∧ ¬ F b ∧ b < w.heap.size ∧ ∀ j (h : j < xs.length), w.cell? ⟨b, o + j, none⟩ = some xs[j]
theorem RowN.touch {F : Nat → Prop} {w w' : World} {A : Option Addr} {xs : List Value} (h : RowN F w A xs) (ht : Touch F w w') : RowN F w' A xs := by
  rcases h with h | ⟨b, o, e, hf, hb, hc⟩
  · exact Or.inl h
  · exact Or.inr ⟨b, o, e, hf, Nat.lt_of_lt_of_le hb ht.size, fun j hj => (World.cell?_of_block (ht.block b hb hf)).trans (hc j hj)⟩
theorem RowN.row {F : Nat → Prop} {w : World} {A : Option Addr} {xs : List Value} (h : RowN F w A xs) : Row w w.heap.size A xs := by
  rcases h with h | ⟨b, o, e, hf, hb, hc⟩
  · exact Or.inl h
  · exact Or.inr ⟨b, o, e, hb, hc⟩
theorem RowN.of_low {F : Nat → Prop} {w : World} {A : Option Addr} {xs : List Value} {B : Nat} (h : Row w B A xs) (hB : B ≤ w.heap.size) (hF : ∀ k, F k → B ≤ k) : RowN F w A xs := by
  rcases h with h | ⟨b, o, e, hb, hc⟩
  · exact Or.inl h
  · exact Or.inr ⟨b, o, e, fun hf => by have := hF b hf; omega, by omega, hc⟩
theorem dk_tail {w w1 : World} {F : Nat → Prop} {g n m d : Nat} {L T T' : List UInt8} {A A' A1 : Option Addr} {c c' C1 : Nat} (h : DkB K w F g L T n A c A' c') (hg : w.grownBy w1 (Value.slice A' m d).ownBlock)
    (ho : w1.ownsRow 0 5 1 (.slice A1 T'.length C1) T'.length (T'.map byteV)) (ha : ∀ a, A1 = some a → (∃ a', A' = some a' ∧ a'.block = a.block) ∨ w.heap.size ≤ a.block) (hmx : L.length + T'.length ≤ 4194304) :
    DkB K (w1.setCell ⟨g, 1, none⟩ (.slice A1 T'.length C1)) (fun k => (F k ∨ w.heap.size ≤ k) ∧ k < w1.heap.size) g L T' n A c A1 C1 ∧ Touch F w (w1.setCell ⟨g, 1, none⟩ (.slice A1 T'.length C1)) := by
  have hrow : ∀ k, (Value.slice A' m d).ownBlock = some k → ∃ a', A' = some a' ∧ a'.block = k := fun k hk => by
    cases A' with
    | none => cases hk
    | some a => exact ⟨a, rfl, by simpa [Value.ownBlock] using hk⟩
  have hne : ∀ k, (Value.slice A' m d).ownBlock = some k → F k ∧ k ≠ g := fun k hk => by
    obtain ⟨a', h1, rfl⟩ := hrow k hk
    exact ⟨h.ft a' h1, ownNe h.ot h.blk K.hne h1⟩
  have hb1 : Blk w1 g K.ty (dkC K [.slice A L.length c, .slice A' T.length c', .int .i64 (n : Int)]) := h.blk.grown hg (fun e => (hne g e.symm).2 rfl)
  have hb2 := hb1.e1 (.slice A1 T'.length C1)
  have hk : ∀ k, k ≠ g → (w1.setCell ⟨g, 1, none⟩ (.slice A1 T'.length C1)).heap[k]? = w1.heap[k]? := fun k hk => Below.heap_setCell _ ⟨g, 1, none⟩ _ k hk
  have hsz : (w1.setCell ⟨g, 1, none⟩ (.slice A1 T'.length C1)).heap.size = w1.heap.size := by simp [World.setCell]
  have hin : ∀ a, A1 = some a → F a.block ∨ w.heap.size ≤ a.block := fun a h1 => by
    rcases ha a h1 with ⟨a', h2, h3⟩ | h2
    · exact Or.inl (h3 ▸ h.ft a' h2)
    · exact Or.inr h2
  refine ⟨⟨hb2, ?_, ?_, ?_, ?_, ?_, ?_, ?_, hmx⟩, ((Touch.refl F w).grown hg (fun k hk => Or.inl (hne k hk).1)).set_ (Or.inl h.fg) _⟩
  · refine ownKeep h.ol fun a h1 => (hk _ (ownNe h.ol h.blk K.hne h1)).trans (hg.block _ (ownIn h.ol h1).2.1 fun e => ?_)
    obtain ⟨a', h2, h3⟩ := hrow _ e.symm
    exact h.ap a a' h1 h2 h3.symm
  · exact ownKeep ho fun a h1 => hk _ (ownNe ho hb1 K.hne h1)
  · exact fun a h1 => ⟨Or.inl (h.fl a h1), Nat.lt_of_lt_of_le (h.lt _ (h.fl a h1)) hg.size⟩
  · exact fun a h1 => ⟨hin a h1, (ownIn ho h1).2.1⟩
  · intro a a1 h1 h2 e
    rcases ha a1 h2 with ⟨a', h3, h4⟩ | h3
    · exact h.ap a a' h1 h3 (e.trans h4.symm)
    · have := h.lt _ (h.fl a h1)
      omega
  · exact ⟨Or.inl h.fg, Nat.lt_of_lt_of_le (h.lt g h.fg) hg.size⟩
  · intro k hk'; rw [hsz]; exact hk'.2
theorem append_long (F : Nat → Prop) (g n m c : Nat) (L T : List UInt8) (A0 : Option Addr) (rs : List RowV) (hm : m = rs.length) (hml : m ≤ maxLen) (hx : ∀ r ∈ rs, r.2.1.length ≤ maxLen) (w : World) (h : DkAt K w F g L T n)
    (hr : Row w w.heap.size A0 (rs.map rowV)) (hlong : 4194304 < L.length + T.length + (catB rs).length) :
    Calls Tryz.prog 183 #[.pointer (some ⟨g, 0, none⟩), .slice A0 m c] w fun e w' => e = .returned (.int .i64 3) ∧ Below w.heap.size w w' := by
  obtain ⟨A, cL, A', cT, h⟩ := h
  have l0 := later_cell (show w.cell? ⟨g, 0, none⟩ = some (.slice A L.length cL) from h.blk.d0)
  have l1 := later_cell (show w.cell? ⟨g, 1, none⟩ = some (.slice A' T.length cT) from h.blk.d1)
  have hmx := h.mx
  obtain ⟨q, hq⟩ : ∃ q, q + L.length + T.length = 4194304 := ⟨4194304 - L.length - T.length, by omega⟩
  have hLT : (L.length : Int) + (T.length : Int) ≤ 4194304 := by omega
  have hL0 : (0 : Int) ≤ (L.length : Int) := by omega
  have hT0 : (0 : Int) ≤ (T.length : Int) := by omega
  have hC := fun p : Later w => count_any m q w.heap.size c A0 rs hm hml hx (by omega) p.world (hr.below p.bel)
  rw [show cntZ (catB rs).length q = 0 from if_neg (by omega), show cntE (catB rs).length q = 3 from if_neg (by omega), show ((q : Nat) : Int) = 4194304 - (L.length : Int) - (T.length : Int) by omega] at hC
  have HC := Lib.hid hC
  clear h hC hq hmx hlong hr hx hml hm
  go_enter Tryz.func183, Tryz.ntmps183
  go_wp2_with fail
  refine wp_region_later (by kernel_rfl) (by kernel_rfl) ?_
  repeat (go_big_quiet_step (first
    | (go_at_call 205; exact later_same (HC.out _))))
  refine wpQuiet_nil ?_
  intro w' hw'
  obtain ⟨p, rfl⟩ := hw'
  go_wp2
  go_ret
  exact ⟨rfl, p.bel⟩
end Go.Proofs.YtkdpfjenjcpcfaaGreatDoor
namespace Go.Proofs.YtkdpfjenjcpcfaaGreatDoor
open Go.RowKit Mem
set_option maxRecDepth 10000
set_option maxHeartbeats 2000000
set_option linter.unusedVariables false
variable {K : DkK}
theorem grown_of_below (w w1 : World) (hb : Below w.heap.size w w1) (r : Option Nat) : w.grownBy w1 r := ⟨hb.os, hb.tape, hb.output, hb.size, fun k hk _ => hb.block k hk⟩
theorem append_any (F : Nat → Prop) (g n m c : Nat) (L T : List UInt8) (A0 : Option Addr) (rs : List RowV) (hm : m = rs.length) (hml : m ≤ maxLen) (w : World) (h : DkAt K w F g L T n)
    (hr : RowN F w A0 (rs.map rowV)) (hrs : ∀ r ∈ rs, RowN F w r.1 (r.2.1.map byteV)) (hfit : L.length + T.length + (catB rs).length ≤ 4194304) :
    Calls Tryz.prog 183 #[.pointer (some ⟨g, 0, none⟩), .slice A0 m c] w (DkTo K (.int .i64 0) F g L (T ++ catB rs) n w) := by
  obtain ⟨i0, hi0, hz0, hz1, hz2⟩ := info_parts info_b
  obtain ⟨A, cL, A', cT, h⟩ := h
  have l0 := later_cell (show w.cell? ⟨g, 0, none⟩ = some (.slice A L.length cL) from h.blk.d0)
  have l1 := later_cell (show w.cell? ⟨g, 1, none⟩ = some (.slice A' T.length cT) from h.blk.d1)
  have hmx := h.mx
  have hx : ∀ r ∈ rs, r.2.1.length ≤ maxLen := fun r hr => by
    have : r.2.1.length ≤ (catB rs).length := by
      obtain ⟨a, b, rfl⟩ := List.append_of_mem hr
      unfold catB
      rw [List.flatMap_append, List.flatMap_cons, List.length_append, List.length_append]; omega
    unfold maxLen; omega
  obtain ⟨q, hq⟩ : ∃ q, q + L.length + T.length = 4194304 := ⟨4194304 - L.length - T.length, by omega⟩
  have hLT : (L.length : Int) + (T.length : Int) ≤ 4194304 := by omega
  have hL0 : (0 : Int) ≤ (L.length : Int) := by omega
  have hT0 : (0 : Int) ≤ (T.length : Int) := by omega
  have hmi : (m : Int) ≤ 9223372036854775807 := by unfold maxLen at hml; omega
  have hC := fun p : Later w => count_any m q w.heap.size c A0 rs hm hml hx (by omega) p.world (hr.row.below p.bel)
  rw [show cntZ (catB rs).length q = ((catB rs).length : Nat) from if_pos (by omega), show cntE (catB rs).length q = 0 from if_pos (by omega), show ((q : Nat) : Int) = 4194304 - (L.length : Int) - (T.length : Int) by omega] at hC
  have HC := Lib.hid hC
  have H := Lib.hid h
  have HR := Lib.hid hr
  have HRS := Lib.hid hrs
  have HM := Lib.hid hm
  have HF := Lib.hid hfit
  obtain ⟨S, hS⟩ : ∃ S, (catB rs).length = S := ⟨_, rfl⟩
  rw [hS] at HC
  have HSZ := Lib.hid hS
  have hSi : (S : Int) ≤ 4194304 := by omega
  clear h hC hq hmx hr hrs hx hml hm hfit hS
  go_enter Tryz.func183, Tryz.ntmps183
  go_wp2_with fail
  refine wp_region_later (by kernel_rfl) (by kernel_rfl) ?_
  repeat (go_big_quiet_step (first
    | (go_at_call 205; exact later_same (HC.out _))))
  refine wpQuiet_nil ?_
  intro w' hw'
  obtain ⟨p, rfl⟩ := hw'
  have HP : Hid (DkB K p.world F g L T n A cL A' cT) := Lib.hid (H.out.keep p.bel.size fun k hk => p.bel.block k (H.out.lt k hk))
  have HTP : Hid (Touch F w p.world) := Lib.hid (Touch.ofBelow p.bel)
  have c1 : p.world.cell? ⟨g, 1, none⟩ = some (.slice A' T.length cT) := HP.out.blk.d1
  clear HC l0 l1
  go_wp2_with fail
  refine (growown_any T.length cT S A' T rfl p.world HP.out.ot (by have := HF.out; rw [HSZ.out] at this; omega)).mono ?_
  rintro e w1 ⟨A1, C1, rfl, ho, ha, hb⟩
  have hD := dk_tail (m := T.length) (d := cT) HP.out (grown_of_below _ _ hb _) ho (fun a h1 => by
    rcases ha a h1 with h2 | h2
    · exact Or.inl ⟨a, h2, rfl⟩
    · exact Or.inr (by omega)) HP.out.mx
  have hblk : Blk w1 g K.ty _ := HP.out.blk.below hb (HP.out.lt g HP.out.fg)
  have d1 : w1.cell? ⟨g, 1, none⟩ = some (.slice A' T.length cT) := hblk.d1
  have z1 := hblk.frozen 1
  have HD1 : Hid (∃ F', (∀ k, F' k → F k ∨ w.heap.size ≤ k) ∧ DkAt K (w1.setCell ⟨g, 1, none⟩ (.slice A1 T.length C1)) F' g L T n ∧ Touch F w (w1.setCell ⟨g, 1, none⟩ (.slice A1 T.length C1))) := Lib.hid ⟨_, fun k hk => by
    rcases hk.1 with h | h
    · exact Or.inl h
    · exact Or.inr (Nat.le_trans p.bel.size h), ⟨_, _, _, _, hD.1⟩, HTP.out.trans hD.2 (fun k hk => Or.inl hk)⟩
  clear ho ha hb hD hblk HP HTP c1
  go_wp2_with fail
  go_loopw [42] (fun i wr => ∃ k : Nat, k ≤ m ∧ i = .int .i64 k ∧ Hid (∃ F', (∀ k, F' k → F k ∨ w.heap.size ≤ k) ∧ DkAt K wr F' g L (T ++ catB (rs.take k)) n ∧ Touch F w wr)) (fun i _ => m - (intOf i).toNat)
  case atStart => exact ⟨0, by omega, rfl, Lib.hid (by simpa [catB] using HD1.out)⟩
  case round =>
    obtain ⟨k, hk, rfl, HK⟩ := hrel
    by_cases hlt : k < m
    · have hk1 : k < rs.length := by rw [← HM.out]; exact hlt
      obtain ⟨F', hF', hdk, hto⟩ := HK.out
      obtain ⟨A2, c2, A3, c3, hdk⟩ := hdk
      obtain ⟨b, o, rfl, _, hc⟩ := (HR.out.touch hto).row.open_ (by simp; omega)
      have hcell : wr.cell? ⟨b, o + k, none⟩ = some (rowV rs[k]) := (hc k (by simpa using hk1)).trans (congrArg some (List.getElem_map (f := rowV) (h := by simpa using hk1)))
      have hrow := ((HRS.out rs[k] (List.getElem_mem hk1)).touch hto).row
      obtain ⟨⟨A4, y, c4⟩, hy1⟩ : ∃ y, rs[k] = y := ⟨_, rfl⟩
      rw [hy1] at hcell hrow
      unfold rowV at hcell
      simp only at hcell hrow
      have hs := catB_snoc rs k hk1
      rw [hy1] at hs
      have hle := catB_le rs (k + 1)
      rw [hs, List.length_append] at hle
      simp only at hle
      obtain ⟨Y, hY⟩ : ∃ Y, T ++ catB (rs.take k) = Y := ⟨_, rfl⟩
      have HY : Hid (T ++ catB (rs.take (k + 1)) = Y ++ y) := Lib.hid (by rw [hs, ← hY, List.append_assoc])
      have HLE : Hid (L.length + Y.length + y.length ≤ 4194304) := Lib.hid (by have := HF.out; rw [← hY, List.length_append]; omega)
      rw [hY] at hdk
      have HDK := Lib.hid hdk
      have d1 : wr.cell? ⟨g, 1, none⟩ = some (.slice A3 Y.length c3) := hdk.blk.d1
      have HTO := Lib.hid hto
      have HROW := Lib.hid hrow
      have HFF := Lib.hid hF'
      have hki : (0 : Int) ≤ (k : Int) := by omega
      have hki2 : (k : Int) < (m : Int) := by omega
      clear hc hy1 hs hle hrow hY hdk hto hF' HK
      go_wp2_with (at_builtin; refine wpList_app _ rfl _ _ 27 rfl 0 5 i0 (.int .u8 0) 1 Tryz.underlying27 hi0 hz0 hz1 hz2 rfl _ _ _ rfl HDK.out.ot wr.heap.size _ y.length c4 (y.map byteV) rfl (by simp) HROW.out (byte_one y) (by have := HLE.out; unfold maxLen; omega) (by have := HLE.out; omega) (Nat.zero_le _) ?_)
      intro v' w2 hown hgr hat
      obtain ⟨A5, c5, rfl, _, _⟩ := ownShape hown
      have hD := dk_tail (T' := Y ++ y) (C1 := c5) HDK.out hgr (by rw [List.map_append, List.length_append]; exact hown) (fun a h1 => by
        subst h1
        rcases hat with h2 | h2
        · cases A3 with
          | none => cases h2
          | some a3 => exact Or.inl ⟨a3, rfl, by simpa [Value.ownBlock] using h2.symm⟩
        · exact Or.inr (by simp [Value.ownBlock] at h2; omega)) (by rw [List.length_append]; have := HLE.out; omega)
      have hblk : Blk w2 g K.ty _ := HDK.out.blk.grown hgr (fun e => by
        cases A3 with
        | none => cases e
        | some a3 =>
          have : a3.block = g := by simpa [Value.ownBlock] using e.symm
          exact ownNe HDK.out.ot HDK.out.blk K.hne rfl this)
      have f1 : w2.cell? ⟨g, 1, none⟩ = some (.slice A3 Y.length c3) := hblk.d1
      have y1 := hblk.frozen 1
      rw [List.length_append] at hD
      have HD2 : Hid (∃ F', (∀ k, F' k → F k ∨ w.heap.size ≤ k) ∧ DkAt K (w2.setCell ⟨g, 1, none⟩ (.slice A5 (Y.length + y.length) c5)) F' g L (T ++ catB (rs.take (k + 1))) n ∧ Touch F w (w2.setCell ⟨g, 1, none⟩ (.slice A5 (Y.length + y.length) c5))) := Lib.hid (by
        rw [HY.out]
        exact ⟨_, fun k hk => by
          rcases hk.1 with h | h
          · exact HFF.out k h
          · exact Or.inr (Nat.le_trans HTO.out.size h), ⟨_, _, _, _, hD.1⟩, HTO.out.trans hD.2 (fun k hk => HFF.out k hk)⟩)
      clear hown hgr hat hD hblk
      go_wp2
      go_roundw
      case rel => exact ⟨k + 1, by omega, by go_num, HD2⟩
      case measure => simp [intOf]; omega
    · obtain rfl : k = m := by omega
      have ht : rs.take k = rs := List.take_of_length_le (by rw [← HM.out]; omega)
      rw [ht] at HK
      go_wp2
      go_ret
      exact ⟨rfl, HK.out⟩
end Go.Proofs.YtkdpfjenjcpcfaaGreatDoor
