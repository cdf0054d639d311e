/- A disk in memory: its block, the two rows that it owns, and the blocks that it stands in; what is changed when some blocks alone may be. -/
import Derived.Test.YtmmhiolmeijemaaOwnB
import Derived.Test.YtmmhiolmeijemaaClone
namespace Go.Proofs.Ytmmhiolmeijemaa
open Go.RowKit Mem
set_option maxRecDepth 10000
set_option linter.unusedVariables false
/-- Only the blocks of F, and new ones, are changed. -/
structure Touch (F : Nat → Prop) (w w' : World) : Prop where
  os : w'.os = w.os
  tape : w'.tape = w.tape
  output : w'.output = w.output
  size : w.heap.size ≤ w'.heap.size
  block : ∀ k, k < w.heap.size → ¬ F k → w'.heap[k]? = w.heap[k]?
namespace Touch
variable {F G : Nat → Prop} {w w1 w2 : World} {B : Nat}
theorem refl (F : Nat → Prop) (w : World) : Touch F w w := ⟨rfl, rfl, rfl, Nat.le_refl _, fun _ _ _ => rfl⟩
theorem trans (h : Touch F w w1) (h' : Touch G w1 w2) (hs : ∀ k, G k → F k ∨ w.heap.size ≤ k) : Touch F w w2 :=
  ⟨h'.os.trans h.os, h'.tape.trans h.tape, h'.output.trans h.output, Nat.le_trans h.size h'.size, fun k hk hf =>
    (h'.block k (Nat.lt_of_lt_of_le hk h.size) (fun g => by rcases hs k g with h1 | h1; exact hf h1; omega)).trans (h.block k hk hf)⟩
theorem mono (h : Touch F w w1) (hs : ∀ k, F k → G k) : Touch G w w1 := ⟨h.os, h.tape, h.output, h.size, fun k hk hg => h.block k hk (fun hf => hg (hs k hf))⟩
theorem ofBelow (h : Below w.heap.size w w1) : Touch F w w1 := ⟨h.os, h.tape, h.output, h.size, fun k hk _ => h.block k hk⟩
theorem below (h : Touch F w w1) (hB : B ≤ w.heap.size) (hF : ∀ k, F k → B ≤ k) : Below B w w1 := ⟨h.os, h.tape, h.output, h.size, fun k hk => h.block k (by omega) (fun hf => by have := hF k hf; omega)⟩
theorem thenBelow (h : Touch F w w1) (hb : Below w1.heap.size w1 w2) : Touch F w w2 := h.trans (G := F) (ofBelow hb) (fun k hk => Or.inl hk)
theorem set_ (h : Touch F w w1) {p : Addr} (hp : F p.block ∨ w.heap.size ≤ p.block) (u : Value) : Touch F w (w1.setCell p u) := by
  refine h.trans (G := fun k => k = p.block) ⟨rfl, rfl, rfl, ?_, fun k _ hk => Below.heap_setCell w1 p u k hk⟩ (fun k hk => by subst hk; exact hp)
  exact ((Below.refl 0 w1).setCell (Nat.zero_le _) u).size
theorem alloc (h : Touch F w w1) (o : Obj) : Touch F w (w1.alloc o) := h.thenBelow ((Below.refl _ _).alloc (Nat.le_refl _) _)
theorem grown (h : Touch F w w1) {row : Option Nat} (hg : w1.grownBy w2 row) (hr : ∀ k, row = some k → F k ∨ w.heap.size ≤ k) : Touch F w w2 :=
  h.trans (G := fun k => row = some k) ⟨hg.os, hg.tape, hg.output, hg.size, fun k hk hn => hg.block k hk (fun e => hn e.symm)⟩ hr
end Touch
/-- The blocks of F, and those that are new since. -/
def More (w : World) (F : Nat → Prop) (k : Nat) : Prop := F k ∨ w.heap.size ≤ k
def InF (F : Nat → Prop) (A : Option Addr) : Prop := ∀ a, A = some a → F a.block
def Apart (A A' : Option Addr) : Prop := ∀ a a', A = some a → A' = some a' → a.block ≠ a'.block
theorem inF_none (F : Nat → Prop) : InF F none := fun a h => by cases h
theorem apart_none (A : Option Addr) : Apart A none := fun a a' _ h => by cases h
theorem none_apart (A : Option Addr) : Apart none A := fun a a' h _ => by cases h
theorem ownKeep {w w' : World} {B s n m c : Nat} {e : TypeId} {A : Option Addr} {xs : List Value} (h : w.ownsRow B e s (.slice A m c) n xs) (hk : ∀ a, A = some a → w'.heap[a.block]? = w.heap[a.block]?) : w'.ownsRow B e s (.slice A m c) n xs := by
  obtain ⟨h1, h2⟩ := h
  refine ⟨h1, ?_⟩
  rcases h2 with h2 | ⟨g, cap, cur, hv, hg, hh, r⟩
  · exact Or.inl h2
  · refine Or.inr ⟨g, cap, cur, hv, hg, ?_, r⟩
    injection hv with hv
    rw [hk _ hv]; exact hh
theorem ownIn {w : World} {B s n m c : Nat} {e : TypeId} {A : Option Addr} {xs : List Value} (h : w.ownsRow B e s (.slice A m c) n xs) {a : Addr} (ha : A = some a) : B ≤ a.block ∧ a.block < w.heap.size ∧ ∃ cur, w.heap[a.block]? = some (.cells cur e (0, 0)) := by
  rcases h.2 with ⟨hv, _⟩ | ⟨g, cap, cur, hv, hg, hh, _⟩
  · injection hv with hv; rw [ha] at hv; cases hv
  · injection hv with hv
    rw [ha] at hv
    injection hv with hv
    subst hv
    exact ⟨hg, (Array.getElem?_eq_some_iff.1 hh).1, cur, hh⟩
theorem ownNe {w : World} {B s n m c g : Nat} {e t : TypeId} {A : Option Addr} {xs : List Value} {cs : Array Value} (h : w.ownsRow B e s (.slice A m c) n xs) (hb : Blk w g t cs) (ht : t ≠ e) {a : Addr} (ha : A = some a) : a.block ≠ g := by
  obtain ⟨_, _, cur, hh⟩ := ownIn h ha
  rintro rfl
  unfold Blk at hb
  rw [hh] at hb
  injection hb with hb
  injection hb with _ hb
  exact ht hb.symm
theorem blkKeep {w w' : World} {g : Nat} {t : TypeId} {cs : Array Value} (h : Blk w g t cs) (hk : w'.heap[g]? = w.heap[g]?) : Blk w' g t cs := hk.trans h
/-- A disk in block g, that stands in the blocks of F: L lasts, T is its tail, n its count. -/
structure DkB (w : World) (F : Nat → Prop) (g : Nat) (L T : List UInt8) (n : Nat) (A : Option Addr) (c : Nat) (A' : Option Addr) (c' : Nat) : Prop where
  blk : Blk w g 55 #[.slice A L.length c, .slice A' T.length c', .int .i64 (n : Int)]
  ol : w.ownsRow 0 5 1 (.slice A L.length c) L.length (L.map byteV)
  ot : w.ownsRow 0 5 1 (.slice A' T.length c') T.length (T.map byteV)
  fl : InF F A
  ft : InF F A'
  ap : Apart A A'
  fg : F g
  lt : ∀ k, F k → k < w.heap.size
  mx : L.length + T.length ≤ 4194304
def DkAt (w : World) (F : Nat → Prop) (g : Nat) (L T : List UInt8) (n : Nat) : Prop := ∃ A c A' c', DkB w F g L T n A c A' c'
section
variable {w w' : World} {F G : Nat → Prop} {g n : Nat} {L T : List UInt8} {A A' : Option Addr} {c c' : Nat}
theorem DkB.keep (h : DkB w F g L T n A c A' c') (hs : w.heap.size ≤ w'.heap.size) (hk : ∀ k, F k → w'.heap[k]? = w.heap[k]?) : DkB w' F g L T n A c A' c' :=
  ⟨blkKeep h.blk (hk g h.fg), ownKeep h.ol fun a ha => hk _ (h.fl a ha), ownKeep h.ot fun a ha => hk _ (h.ft a ha), h.fl, h.ft, h.ap, h.fg, fun k hf => Nat.lt_of_lt_of_le (h.lt k hf) hs, h.mx⟩
theorem DkAt.keep (h : DkAt w F g L T n) (hs : w.heap.size ≤ w'.heap.size) (hk : ∀ k, F k → w'.heap[k]? = w.heap[k]?) : DkAt w' F g L T n := by
  obtain ⟨A, c, A', c', h⟩ := h
  exact ⟨A, c, A', c', h.keep hs hk⟩
theorem DkAt.lt (h : DkAt w F g L T n) : ∀ k, F k → k < w.heap.size := by
  obtain ⟨A, c, A', c', h⟩ := h
  exact h.lt
theorem DkAt.mx (h : DkAt w F g L T n) : L.length + T.length ≤ 4194304 := by
  obtain ⟨A, c, A', c', h⟩ := h
  exact h.mx
theorem DkAt.below (h : DkAt w F g L T n) (hb : Below w.heap.size w w') : DkAt w' F g L T n := h.keep hb.size fun k hk => hb.block k (h.lt k hk)
theorem DkAt.touch (h : DkAt w F g L T n) (ht : Touch G w w') (hd : ∀ k, F k → ¬ G k) : DkAt w' F g L T n := h.keep ht.size fun k hk => ht.block k (h.lt k hk) (hd k hk)
theorem DkAt.bounds (h : DkAt w F g L T n) : L.length ≤ 4194304 ∧ T.length ≤ 4194304 := by have := h.mx; omega
/-- A disk's count alone is another one. -/
theorem DkB.setN (h : DkB w F g L T n A c A' c') (m : Nat) : DkB (w.setCell ⟨g, 2, none⟩ (.int .i64 (m : Int))) F g L T m A c A' c' := by
  have hk : ∀ k, k ≠ g → (w.setCell ⟨g, 2, none⟩ (.int .i64 (m : Int))).heap[k]? = w.heap[k]? := fun k hk => Below.heap_setCell w ⟨g, 2, none⟩ _ k hk
  exact ⟨h.blk.set_ 2 (.int .i64 (m : Int)), ownKeep h.ol fun a ha => hk _ (ownNe h.ol h.blk (by decide) ha), ownKeep h.ot fun a ha => hk _ (ownNe h.ot h.blk (by decide) ha), h.fl, h.ft, h.ap, h.fg,
    fun k hf => Nat.lt_of_lt_of_le (h.lt k hf) ((Below.refl 0 w).setCell (p := ⟨g, 2, none⟩) (Nat.zero_le _) _).size, h.mx⟩
end
/-- A call on a disk: its answer, the disk behind it, and that nothing but the disk's own blocks was changed. -/
def DkTo (v : Value) (F : Nat → Prop) (g : Nat) (L T : List UInt8) (n : Nat) (w : World) (e : Ending) (w' : World) : Prop := e = .returned v ∧ ∃ F', (∀ k, F' k → F k ∨ w.heap.size ≤ k) ∧ DkAt w' F' g L T n ∧ Touch F w w'
end Go.Proofs.Ytmmhiolmeijemaa
