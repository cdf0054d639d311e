/- Package disk: what each call answers, and leaves: settle, Sync, Crash, Replace, New, Of. -/
import Derived.Test.YtmmhiolmeijemaaDsk
import Derived.Deep.RegionLaw
namespace Go.Proofs.Ytmmhiolmeijemaa
open Go.RowKit Mem
set_option maxRecDepth 10000
set_option maxHeartbeats 2000000
set_option linter.unusedVariables false
theorem DkB.row {w : World} {F : Nat → Prop} {g n : Nat} {L T : List UInt8} {A A' : Option Addr} {c c' : Nat} (h : DkB w F g L T n A c A' c') {k m d : Nat} (hk : (Value.slice A m d).ownBlock = some k) : F k ∧ k ≠ g := by
  cases A with
  | none => cases hk
  | some a =>
    have : a.block = k := by simpa [Value.ownBlock] using hk
    subst this
    exact ⟨h.fl a rfl, ownNe h.ol h.blk (by decide) rfl⟩
theorem DkB.grownBlk {w w1 : World} {F : Nat → Prop} {g n : Nat} {L T : List UInt8} {A A' : Option Addr} {c c' : Nat} (h : DkB w F g L T n A c A' c') {m d : Nat} (hg : w.grownBy w1 (Value.slice A m d).ownBlock) :
    Blk w1 g 55 #[.slice A L.length c, .slice A' T.length c', .int .i64 (n : Int)] := h.blk.grown hg (fun e => (h.row e.symm).2 rfl)
theorem dk_settled {w w1 : World} {F : Nat → Prop} {g n : Nat} {L T X : List UInt8} {A A' : Option Addr} {c c' : Nat} (h : DkB w F g L T n A c A' c') {v : Value} {m : Nat} (hm : X.length = m) (ho : w1.ownsRow 0 5 1 v (L.length + m) (L.map byteV ++ X.map byteV))
    (hg : w.grownBy w1 (Value.slice A L.length c).ownBlock) (ha : v.ownBlock = (Value.slice A L.length c).ownBlock ∨ v.ownBlock = some w.heap.size) (hX : m ≤ T.length) :
    DkTo (.tuple #[]) F g (L ++ X) [] n w (.returned (.tuple #[])) ((w1.setCell ⟨g, 0, none⟩ v).setCell ⟨g, 1, none⟩ (.slice none 0 0)) := by
  subst hm
  obtain ⟨A1, c1, rfl, hc1, hm1⟩ := ownShape ho
  have hrow : ∀ k, (Value.slice A L.length c).ownBlock = some k → F k ∧ k ≠ g := fun k hk => by
    cases A with
    | none => cases hk
    | some a =>
      have : a.block = k := by simpa [Value.ownBlock] using hk
      subst this
      exact ⟨h.fl a rfl, ownNe h.ol h.blk (by decide) rfl⟩
  have hb1 : Blk w1 g 55 #[.slice A L.length c, .slice A' T.length c', .int .i64 (n : Int)] := h.blk.grown hg (fun e => (hrow g e.symm).2 rfl)
  have hb2 := (hb1.set_ 0 (.slice A1 (L.length + X.length) c1)).set_ 1 (.slice none 0 0)
  have hk : ∀ k, k ≠ g → ((w1.setCell ⟨g, 0, none⟩ (.slice A1 (L.length + X.length) c1)).setCell ⟨g, 1, none⟩ (.slice none 0 0)).heap[k]? = w1.heap[k]? := fun k hk =>
    (Below.heap_setCell _ ⟨g, 1, none⟩ _ k hk).trans (Below.heap_setCell _ ⟨g, 0, none⟩ _ k hk)
  have hin : ∀ a, A1 = some a → F a.block ∨ w.heap.size ≤ a.block := fun a ha1 => by
    subst ha1
    rcases ha with ha | ha
    · exact Or.inl (hrow a.block ha.symm).1
    · have : a.block = w.heap.size := by simpa [Value.ownBlock] using ha
      exact Or.inr (by omega)
  have hsz : ((w1.setCell ⟨g, 0, none⟩ (.slice A1 (L.length + X.length) c1)).setCell ⟨g, 1, none⟩ (.slice none 0 0)).heap.size = w1.heap.size := by simp [World.setCell]
  refine ⟨rfl, fun k => (F k ∨ w.heap.size ≤ k) ∧ k < w1.heap.size, fun k hk => hk.1, ⟨A1, c1, none, 0, ?_⟩, (((Touch.refl F w).grown hg (fun k hk => Or.inl (hrow k hk).1)).set_ (Or.inl h.fg) _).set_ (Or.inl h.fg) _⟩
  refine ⟨?_, ?_, World.ownsRow_nil _ _ _ _, ?_, inF_none _, apart_none _, ?_, ?_, ?_⟩
  · rw [List.length_append]; exact hb2
  · rw [List.length_append, List.map_append]
    exact ownKeep ho fun a ha => hk _ (ownNe ho hb1 (by decide) ha)
  · exact fun a ha => ⟨hin a ha, (ownIn ho ha).2.1⟩
  · exact ⟨Or.inl h.fg, Nat.lt_of_lt_of_le (h.lt g h.fg) hg.size⟩
  · intro k hk; rw [hsz]; exact hk.2
  · have := h.mx
    rw [List.length_append, List.length_nil]; omega
theorem settle_any (F : Nat → Prop) (g n k : Nat) (L T : List UInt8) (hk : k ≤ T.length) (w : World) (h : DkAt w F g L T n) :
    Calls Try.prog 32 #[.pointer (some ⟨g, 0, none⟩), .int .i64 (k : Int)] w (DkTo (.tuple #[]) F g (L ++ T.take k) [] n w) := by
  obtain ⟨i0, hi0, hz0, hz1, hz2⟩ := info_parts info_b
  obtain ⟨A, c, A', c', h⟩ := h
  have c0 : w.cell? ⟨g, 0, none⟩ = some (.slice A L.length c) := h.blk.cell 0
  have c1 : w.cell? ⟨g, 1, none⟩ = some (.slice A' T.length c') := h.blk.cell 1
  have z0 := h.blk.frozen 0
  have z1 := h.blk.frozen 1
  have hcc := (own_cap h.ot).1
  have hcut := fun W => run_cut_h (P := Try.prog) (w := W) 22 5 _ _ Try.underlying22 info_b A' T.length c' k (by omega)
  have hlen : (T.take k).length = k := by rw [List.length_take]; omega
  have hmx := h.mx
  have H := Lib.hid h
  obtain ⟨X, hX⟩ : ∃ X, T.take k = X := ⟨_, rfl⟩
  rw [hX] at hlen ⊢
  have HROW : Hid (Row w w.heap.size A' (X.map byteV)) := Lib.hid (by rw [← hX, List.map_take]; exact take_row (Row.of_own h.ot) k)
  have HL : Hid (X.length = k ∧ k ≤ T.length ∧ L.length + T.length ≤ 4194304) := Lib.hid ⟨hlen, hk, hmx⟩
  clear h hX hlen hmx
  go_enter Try.func32, Try.ntmps32
  go_wp2_with fail
  go_region_law (refine step_app _ (by rfl) _ _ 22 (by rfl) 0 5 i0 (.int .u8 0) 1 Try.underlying22 hi0 hz0 hz1 hz2 rfl (.slice A L.length c) L.length (L.map byteV) (by rfl) (show World.ownsRow _ _ _ _ _ _ _ from H.out.ol) w.heap.size A' k c' (X.map byteV) (by rfl) (by rw [List.length_map]; exact HL.out.1) (show Row _ _ _ _ from HROW.out) (byte_one X) (by have := HL.out; unfold maxLen; omega) (by have := HL.out; omega) (Nat.zero_le _) ?_; intro v' w1 hown hgr hat; obtain ⟨A1, c1, rfl, _, _⟩ := ownShape hown; have HO := Lib.hid hown; have HG := Lib.hid (show w.grownBy w1 _ from ⟨hgr.os, hgr.tape, hgr.output, hgr.size, hgr.block⟩); have HA := Lib.hid hat; (have d0 : w1.cell? ⟨g, 0, none⟩ = some (.slice A L.length c) := (H.out.grownBlk HG.out).cell 0); (have d1 : w1.cell? ⟨g, 1, none⟩ = some (.slice A' T.length c') := (H.out.grownBlk HG.out).cell 1); (have y0 := (H.out.grownBlk HG.out).frozen 0); (have y1 := (H.out.grownBlk HG.out).frozen 1); clear hown hgr hat)
  all_goals
    go_end0
    exact dk_settled H.out HL.out.1 HO.out HG.out HA.out HL.out.2.1
end Go.Proofs.Ytmmhiolmeijemaa
