/- ClW: A table that stands in more blocks, in fewer; an entry's reply. -/
import Derived.Test.YtpebhfjcakllmaaGreatClM
namespace Go.Proofs.YtpebhfjcakllmaaGreat
open Go.RowKit Mem Be Word Rg Go.Maps
set_option maxRecDepth 10000
set_option maxHeartbeats 1000000
set_option linter.unusedVariables false
def repV (r : RpP) (A : Option Addr) (c : Nat) : Value := .agg #[.string ⟨r.e.k.toArray⟩, .int .i64 r.e.s, .int .i64 r.e.u, .int .i64 r.e.o, .bool r.e.has, .slice A r.e.v.length c, .bool r.wh, .int .i64 r.tok]
theorem _root_.Go.Proofs.YtpebhfjcakllmaaGreat.Mem.Blk.is {w : World} {g : Nat} {t : TypeId} {cs : Array Value} (h : Blk w g t cs) (i : Nat) (v : Value) (hv : cs[i]? = some v) : w.cell? ⟨g, i, none⟩ = some v := (h.cell i).trans hv
/-- A reply, its entry's bytes in memory of their own, the error; the table behind it. -/
def QueryC (F : Nat → Prop) (g b tk : Nat) (R : Cl × RpP × Int) (w : World) (e : Ending) (w' : World) : Prop :=
  ∃ A c, e = .returned (.tuple #[repV R.2.1 A c, .int .i64 R.2.2]) ∧ OwnE w' w.heap.size (R.2.1.e, A, c) ∧ ClAt w' F g b tk R.1 ∧ Touch (Own3 g b tk) w w'
theorem ba_len (k : List UInt8) : ((⟨k.toArray⟩ : ByteArray).size : Int) = (k.length : Int) := by
  show ((k.toArray.size : Nat) : Int) = _
  rw [List.size_toArray]
section
variable {w w' : World} {F F' : Nat → Prop} {g b tk c : Nat} {S : Cl} {V : List CV}
/-- What is new since may be written, too: no cell's bytes lie there. -/
def More2 (F : Nat → Prop) (a z k : Nat) : Prop := F k ∨ (a ≤ k ∧ k < z)
theorem ClB.wide (h : ClB w F g b tk S V c) (hb : Below w.heap.size w w') : ClB w' (More2 F w.heap.size w'.heap.size) g b tk S V c := by
  have h2 := h.below hb
  refine ⟨h2.ent, h2.blk, h2.map, h2.tok, Or.inl h.fg, Or.inl h.fb, Or.inl h.ft, fun x hx => ?_, fun k hk => ?_⟩
  · have h3 := h.val x hx
    refine ⟨?_, h3.cap, h3.mx⟩
    rcases h3.row with e | ⟨b0, o, e, hf, hlt, hc⟩
    · exact Or.inl e
    · refine Or.inr ⟨b0, o, e, fun hk => ?_, Nat.lt_of_lt_of_le hlt hb.size, fun j hj => (hb.cell (p := ⟨b0, o + j, none⟩) hlt).trans (hc j hj)⟩
      rcases hk with hk | hk
      · exact hf hk
      · omega
  · rcases hk with hk | hk
    · exact Nat.lt_of_lt_of_le (h.lt k hk) hb.size
    · exact hk.2
theorem ClB.thin (h : ClB w F' g b tk S V c) (hF : ∀ k, F k → F' k) (fg : F g) (fb : F b) (ft : F tk) : ClB w F g b tk S V c :=
  ⟨h.ent, h.blk, h.map, h.tok, fg, fb, ft, fun x hx => by
    have h3 := h.val x hx
    refine ⟨?_, h3.cap, h3.mx⟩
    rcases h3.row with e | ⟨b0, o, e, hf, hlt, hc⟩
    · exact Or.inl e
    · exact Or.inr ⟨b0, o, e, fun hk => hf (hF _ hk), hlt, hc⟩, fun k hk => h.lt k (hF k hk)⟩
theorem ClB.set_ (h : ClB w F g b tk S V c) {r : Nat} (hr : F r) (hg : g ≠ r) (hb : b ≠ r) (ht : tk ≠ r) (i : Nat) (u : Value) : ClB (w.setCell ⟨r, i, none⟩ u) F g b tk S V c :=
  h.touch (G := fun k => k = r) ((Touch.refl (fun k => k = r) w).set_ (p := ⟨r, i, none⟩) (Or.inl rfl) u) hg hb ht fun k hk => by subst hk; exact hr
theorem ClB.own (h : ClB w F g b tk S V c) : ∀ k, Own3 g b tk k → F k := fun k hk => by rcases hk with rfl | rfl | rfl; exact h.fg; exact h.fb; exact h.ft
theorem ClB.not3 (h : ClB w F g b tk S V c) {r : Nat} (hr : w.heap.size ≤ r) : ¬ Own3 g b tk r := fun hk => by have := h.lt r (h.own r hk); omega
end
theorem cell_set8 {w : World} {g g' i : Nat} {v : Value} (h : w.cell? ⟨g, i, none⟩ = some v) (hn : g ≠ g') (u0 u1 u2 u3 u4 u5 u6 u7 : Value) :
    ((((((((w.setCell ⟨g', 0, none⟩ u0).setCell ⟨g', 1, none⟩ u1).setCell ⟨g', 2, none⟩ u2).setCell ⟨g', 3, none⟩ u3).setCell ⟨g', 4, none⟩ u4).setCell ⟨g', 5, none⟩ u5).setCell ⟨g', 6, none⟩ u6).setCell ⟨g', 7, none⟩ u7).cell? ⟨g, i, none⟩ = some v := by
  rw [← h]
  refine World.cell?_of_block ?_
  have hk : ∀ (W : World) (j : Nat) (u : Value), (W.setCell ⟨g', j, none⟩ u).heap[g]? = W.heap[g]? := fun W j u => Below.heap_setCell W ⟨g', j, none⟩ u g hn
  show _ = w.heap[g]?
  simp only [hk]
end Go.Proofs.YtpebhfjcakllmaaGreat
