/- Something that is done to a disk, by the statements' own call; whether they are more than is looked at. -/
import Derived.Test.YtdmoogbmaodfnaaGreatDos
import Derived.Lib.SlBytesConst
namespace Go.Proofs.YtdmoogbmaodfnaaGreat
open Go.RowKit Mem
set_option maxRecDepth 10000
set_option maxHeartbeats 2000000
set_option linter.unusedVariables false
/-- A disk behind something that is done to it, and what is told. -/
def doS (L T : List UInt8) (n : Nat) (k : Int) (bs : List UInt8) (kp : Int) : List UInt8 × List UInt8 × Nat × Int :=
  if k = 1 then (if 4194304 < L.length + T.length + bs.length then (L, T, n, 3) else (L, T ++ bs, n, 0))
  else if k = 2 then (L ++ T, [], upN T n, 0)
  else if k = 3 then (if 4194304 < bs.length then (L, T, n, 3) else (bs, [], n, 0))
  else if kp < 0 then (L, T, n, 2) else (L ++ T.take kp.toNat, [], n, 0)
def DoneP (F : Nat → Prop) (g : Nat) (s : List UInt8 × List UInt8 × Nat × Int) (w : World) (e : Ending) (w' : World) : Prop :=
  e = .returned (.int .i64 s.2.2.2) ∧ ∃ F', (∀ k, F' k → F k ∨ w.heap.size ≤ k) ∧ DkAt dk0 w' F' g s.1 s.2.1 s.2.2.1 ∧ Touch F w w'
theorem done_stay {F : Nat → Prop} {g n : Nat} {L T : List UInt8} {w w' : World} {v : Int} (h : DkAt dk0 w F g L T n) (hb : Below w.heap.size w w') : DoneP F g (L, T, n, v) w (.returned (.int .i64 v)) w' :=
  ⟨rfl, F, fun k hk => Or.inl hk, h.below hb, Touch.ofBelow hb⟩
theorem done_to {F : Nat → Prop} {g n : Nat} {L T : List UInt8} {w w1 w2 : World} {v : Int} {e : Ending} (hb : Below w.heap.size w w1) (h : DkTo dk0 (.int .i64 v) F g L T n w1 e w2) : DoneP F g (L, T, n, v) w e w2 := by
  obtain ⟨rfl, F', h1, h2, h3⟩ := h
  exact ⟨rfl, F', fun k hk => by rcases h1 k hk with h | h; exact Or.inl h; exact Or.inr (Nat.le_trans hb.size h), h2, (Touch.ofBelow hb).trans h3 (fun k hk => Or.inl hk)⟩
theorem rowN_blk {F : Nat → Prop} {w : World} {b : Nat} {t : TypeId} {cs : Array Value} (h : Blk w b t cs) (hf : ¬ F b) {xs : List Value} (hx : cs.toList = xs) : RowN F w (some ⟨b, 0, none⟩) xs := by
  subst hx
  refine Or.inr ⟨b, 0, rfl, hf, h.lt, fun j hj => ?_⟩
  rw [Nat.zero_add, h.cell j]
  simp
/-- One row of bytes is appended by a new slice of one row. -/
theorem append_one (p : Nat) (F : Nat → Prop) (g n : Nat) (L T : List UInt8) (A : Option Addr) (bs : List UInt8) (c : Nat) (w : World) (hp : p = w.heap.size) (h : DkAt dk0 w F g L T n) (hr : RowN F w A (bs.map byteV)) (hml : bs.length ≤ maxLen) :
    Calls Tryz.prog 17 #[.pointer (some ⟨g, 0, none⟩), .slice (some ⟨p, 0, none⟩) 1 1] (w.alloc (.cells #[.slice A bs.length c] 27))
      (DoneP F g (if 4194304 < L.length + T.length + bs.length then (L, T, n, 3) else (L, T ++ bs, n, 0)) w) := by
  subst hp
  have hb : Below w.heap.size w (w.alloc (.cells #[.slice A bs.length c] 27)) := (Below.refl _ _).alloc (Nat.le_refl _) _
  have hnf : ¬ F w.heap.size := fun hf => by have := h.lt _ hf; omega
  have hrow : RowN F (w.alloc (.cells #[.slice A bs.length c] 27)) (some ⟨w.heap.size, 0, none⟩) ([((A, bs, c) : RowV)].map rowV) := rowN_blk (Blk.new w _ _) hnf rfl
  have hcat : catB [((A, bs, c) : RowV)] = bs := by simp [catB]
  by_cases hl : 4194304 < L.length + T.length + bs.length
  · rw [if_pos hl]
    refine (append_long F g n 1 1 L T (some ⟨w.heap.size, 0, none⟩) [(A, bs, c)] rfl (by unfold maxLen; omega) (fun r hr => by
      have : r = (A, bs, c) := by simpa using hr
      subst this; exact hml) _ (h.below hb) hrow.row (by rw [hcat]; exact hl)).mono ?_
    rintro e w2 ⟨rfl, hb2⟩
    exact done_stay h (hb.trans (hb2.mono hb.size))
  · rw [if_neg hl]
    refine (append_any F g n 1 1 L T (some ⟨w.heap.size, 0, none⟩) [(A, bs, c)] rfl (by unfold maxLen; omega) _ (h.below hb) hrow (fun r hr' => by
      have : r = (A, bs, c) := by simpa using hr'
      subst this; exact hr.touch (Touch.ofBelow hb)) (by rw [hcat]; omega)).mono ?_
    intro e w2 h2
    rw [hcat] at h2
    exact done_to hb h2
def SomeB (w : World) (e : Ending) (w' : World) : Prop := (∃ b, e = .returned (.bool b)) ∧ w = w'
def IsT6 (v : Bool) (w : World) (e : Ending) (w' : World) : Prop := e = .returned (.bool v) ∧ Below w.heap.size w w'
theorem rowN_new {F : Nat → Prop} {w : World} {t : TypeId} {m : Nat × Nat} {cs : Array Value} {xs : List Value} (p : Nat) (hp : p = w.heap.size) (hf : ¬ F p) (hx : cs.toList = xs) : RowN F (w.alloc (.cells cs t m)) (some ⟨p, 0, none⟩) xs := by
  subst hp; subst hx
  refine Or.inr ⟨w.heap.size, 0, rfl, hf, by simp, fun j hj => ?_⟩
  have := cell_of_row (w.alloc (.cells cs t m)) w.heap.size j cs t m (heap_alloc_new w _)
  rw [Nat.zero_add, this]
  simp
theorem RowN.alloc {F : Nat → Prop} {w : World} {A : Option Addr} {xs : List Value} (h : RowN F w A xs) (o : Obj) : RowN F (w.alloc o) A xs := h.touch ((Touch.refl F w).alloc o)
theorem append_ab (F : Nat → Prop) (g n : Nat) (w : World) (h : DkAt dk0 w F g [] [] n) :
    Calls Tryz.prog 17 #[.pointer (some ⟨g, 0, none⟩), .slice (some ⟨w.heap.size + 1 + 1, 0, none⟩) 2 2]
      (((w.alloc (.cells #[.int .u8 97] 5 (1, 2))).alloc (.cells #[.int .u8 98] 5 (1, 2))).alloc (.cells #[.slice (some ⟨w.heap.size, 0, none⟩) 1 1, .slice (some ⟨w.heap.size + 1, 0, none⟩) 1 1] 27))
      (DoneP F g ([], [97, 98], n, 0) w) := by
  have hb : Below w.heap.size w (((w.alloc (.cells #[.int .u8 97] 5 (1, 2))).alloc (.cells #[.int .u8 98] 5 (1, 2))).alloc (.cells #[.slice (some ⟨w.heap.size, 0, none⟩) 1 1, .slice (some ⟨w.heap.size + 1, 0, none⟩) 1 1] 27)) :=
    (((Below.refl _ _).alloc (Nat.le_refl _) _).alloc (by simp) _).alloc (by simp; omega) _
  have hf : ∀ k, w.heap.size ≤ k → ¬ F k := fun k hk hf => by have := h.lt k hf; omega
  exact (append_any F g n 2 2 [] [] (some ⟨w.heap.size + 1 + 1, 0, none⟩) [(some ⟨w.heap.size, 0, none⟩, [97], 1), (some ⟨w.heap.size + 1, 0, none⟩, [98], 1)] rfl (by unfold maxLen; omega) _ (h.below hb)
    (rowN_new _ (by simp) (hf _ (by omega)) rfl) (fun r hr => by
      rcases (by simpa using hr : r = (some ⟨w.heap.size, 0, none⟩, [97], 1) ∨ r = (some ⟨w.heap.size + 1, 0, none⟩, [98], 1)) with rfl | rfl
      · exact ((rowN_new _ rfl (hf _ (by omega)) rfl).alloc _).alloc _
      · exact (rowN_new _ (by simp) (hf _ (by omega)) rfl).alloc _) (by simp [catB])).mono fun e w2 hx => done_to hb hx
theorem append_cde (F : Nat → Prop) (g n : Nat) (w : World) (h : DkAt dk0 w F g [97, 98] [] n) :
    Calls Tryz.prog 17 #[.pointer (some ⟨g, 0, none⟩), .slice (some ⟨w.heap.size + 1, 0, none⟩) 1 1]
      ((w.alloc (.cells #[.int .u8 99, .int .u8 100, .int .u8 101] 5 (3, 4))).alloc (.cells #[.slice (some ⟨w.heap.size, 0, none⟩) 3 3] 27))
      (DoneP F g ([97, 98], [99, 100, 101], n, 0) w) := by
  have hb : Below w.heap.size w ((w.alloc (.cells #[.int .u8 99, .int .u8 100, .int .u8 101] 5 (3, 4))).alloc (.cells #[.slice (some ⟨w.heap.size, 0, none⟩) 3 3] 27)) :=
    ((Below.refl _ _).alloc (Nat.le_refl _) _).alloc (by simp) _
  have hf : ∀ k, w.heap.size ≤ k → ¬ F k := fun k hk hf => by have := h.lt k hf; omega
  exact (append_any F g n 1 1 [97, 98] [] (some ⟨w.heap.size + 1, 0, none⟩) [(some ⟨w.heap.size, 0, none⟩, [99, 100, 101], 3)] rfl (by unfold maxLen; omega) _ (h.below hb)
    (rowN_new _ (by simp) (hf _ (by omega)) rfl) (fun r hr => by
      have : r = (some ⟨w.heap.size, 0, none⟩, [99, 100, 101], 3) := by simpa using hr
      subst this
      exact (rowN_new _ rfl (hf _ (by omega)) rfl).alloc _) (by simp [catB])).mono fun e w2 hx => done_to hb hx
/-- What lasts is below what the disk stands in. -/
def NewF (w : World) (F : Nat → Prop) : Prop := ∀ k, F k → w.heap.size ≤ k
theorem newF_step {w w1 : World} {F F' : Nat → Prop} (h : NewF w F) (hs : w.heap.size ≤ w1.heap.size) (h' : ∀ k, F' k → F k ∨ w1.heap.size ≤ k) : NewF w F' := fun k hk => by
  rcases h' k hk with h1 | h1
  · exact h k h1
  · omega
end Go.Proofs.YtdmoogbmaodfnaaGreat
