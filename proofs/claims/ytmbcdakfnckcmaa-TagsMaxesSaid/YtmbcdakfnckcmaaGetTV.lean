/- A tag, and a value, read by a reader. -/
import Derived.Test.YtmbcdakfnckcmaaRefBytes
namespace Go.Proofs.Ytmbcdakfnckcmaa
open Go.RowKit Mem Be
set_option maxRecDepth 10000
set_option maxHeartbeats 4000000
def stepTag (bs : List UInt8) (e : Int) : (Int × Int × Int) × List UInt8 × Int :=
  (((stepB 1099511627776 bs e).1, (stepB 1048576 (stepB 1099511627776 bs e).2.1 (stepB 1099511627776 bs e).2.2).1,
    (stepB 1048576 (stepB 1048576 (stepB 1099511627776 bs e).2.1 (stepB 1099511627776 bs e).2.2).2.1 (stepB 1048576 (stepB 1099511627776 bs e).2.1 (stepB 1099511627776 bs e).2.2).2.2).1),
   (stepB 1048576 (stepB 1048576 (stepB 1099511627776 bs e).2.1 (stepB 1099511627776 bs e).2.2).2.1 (stepB 1048576 (stepB 1099511627776 bs e).2.1 (stepB 1099511627776 bs e).2.2).2.2).2)
theorem rd_put {w : World} {g L : Nat} {bs : List UInt8} {e : Int} (h : Rd w g bs e) (hg : g < L) (i : Nat) (u : Value) : Rd (w.setCell ⟨L, i, none⟩ u) g bs e :=
  rd_grownBy h (grown_set w L i u) (fun k e => by injection e with e; omega)
/-- Nothing that was there is changed but block g, where what is written lies behind what was there. -/
theorem grown_put {w w' : World} {g L : Nat} (h : w.grownBy w' (some g)) (hL : w.heap.size ≤ L) (i : Nat) (u : Value) : w.grownBy (w'.setCell ⟨L, i, none⟩ u) (some g) :=
  ⟨h.os, h.tape, h.output, by simpa [World.setCell] using h.size, fun k hk hne => (Below.heap_setCell w' _ u k (by show k ≠ L; omega)).trans (h.block k hk hne)⟩
theorem grown_alloc1 {w w' : World} {o : Obj} {g : Nat} (h : (w.alloc o).grownBy w' (some g)) : w.grownBy w' (some g) := grown_trans (World.grownBy_alloc w o (some g)) h
/-- A tag, and the reader behind it. -/
def ReadsTag (g : Nat) (r : (Int × Int × Int) × List UInt8 × Int) (w : World) (E : Ending) (w' : World) : Prop := E = .returned (tagV r.1.1 r.1.2.1 r.1.2.2) ∧ Rd w' g r.2.1 r.2.2 ∧ w.grownBy w' (some g)
theorem gettag_any (g : Nat) (bs : List UInt8) (e0 : Int) (w : World) (h : Rd w g bs e0) : Calls Try.prog 24 #[.pointer (some ⟨g, 0, none⟩)] w (ReadsTag g (stepTag bs e0) w) := by
  have hlt := rd_lt h
  obtain ⟨⟨x1, b1, e1⟩, h1⟩ : ∃ y, stepB 1099511627776 bs e0 = y := ⟨_, rfl⟩
  obtain ⟨⟨x2, b2, e2⟩, h2⟩ : ∃ y, stepB 1048576 b1 e1 = y := ⟨_, rfl⟩
  obtain ⟨⟨x3, b3, e3⟩, h3⟩ : ∃ y, stepB 1048576 b2 e2 = y := ⟨_, rfl⟩
  have HT : Hid (stepTag bs e0 = ((x1, x2, x3), b3, e3)) := Lib.hid (by unfold stepTag; rw [h1]; simp only; rw [h2]; simp only; rw [h3])
  have H1 := Lib.hid h1
  have H2 := Lib.hid h2
  have H3 := Lib.hid h3
  have HD := Lib.hid (rd_alloc h (.cells #[.int .i64 0, .int .i64 0, .int .i64 0] 25))
  have HB := Lib.hid (Blk.new w 25 #[.int .i64 0, .int .i64 0, .int .i64 0])
  clear h h1 h2 h3
  rw [HT.out]
  go_enter Try.func24, Try.ntmps24
  go_wp2_with fail
  refine (below_call g bs 1099511627776 e0 _ HD.out).mono ?_
  rw [H1.out]
  rintro e w1 ⟨rfl, hrd, hgr⟩
  have HD1 := Lib.hid hrd
  have HG1 := Lib.hid (grown_alloc1 hgr)
  have HB1 := Lib.hid (HB.out.grown hgr (by simp; omega))
  clear hrd hgr
  go_wp2_with fail
  refine (below_call g b1 1048576 e1 _ HD1.out).mono ?_
  rw [H2.out]
  rintro e w2 ⟨rfl, hrd, hgr⟩
  have HD2 := Lib.hid hrd
  have HG2 := Lib.hid (grown_trans HG1.out hgr)
  have HB2 := Lib.hid (HB1.out.grown hgr (by simp; omega))
  clear hrd hgr
  go_wp2_with fail
  refine (below_call g b2 1048576 e2 _ HD2.out).mono ?_
  rw [H3.out]
  rintro e w3 ⟨rfl, hrd, hgr⟩
  have HD3 := Lib.hid hrd
  have HG3 := Lib.hid (grown_trans HG2.out hgr)
  have HB3 := HB2.out.grown hgr (by simp; omega)
  have q0 : w3.cell? ⟨w.heap.size, 0, none⟩ = some (.int .i64 0) := HB3.cell 0
  have q1 : w3.cell? ⟨w.heap.size, 1, none⟩ = some (.int .i64 0) := HB3.cell 1
  have q2 : w3.cell? ⟨w.heap.size, 2, none⟩ = some (.int .i64 0) := HB3.cell 2
  have z0 := HB3.frozen 0
  have z1 := HB3.frozen 1
  have z2 := HB3.frozen 2
  clear hrd hgr HB3
  go_wp2
  refine bodyPost_ret (v := tagV x1 x2 x3) (by simp [results, Try.results24, go_sem, q0, q1, q2]) rfl ⟨rfl, ?_, ?_⟩
  · exact rd_put (rd_put (rd_put HD3.out hlt _ _) hlt _ _) hlt _ _
  · exact grown_put (grown_put (grown_put HG3.out (Nat.le_refl _) _ _) (Nat.le_refl _) _ _) (Nat.le_refl _) _ _
def stepV (bs : List UInt8) (e : Int) : (Bool × List UInt8) × List UInt8 × Int :=
  if (stepT bs e).1 = true then ((true, (stepR (stepT bs e).2.1 (stepT bs e).2.2).1), (stepR (stepT bs e).2.1 (stepT bs e).2.2).2) else ((false, []), (stepT bs e).2)
/-- A value, its bytes in new memory, and the reader behind it. -/
def ReadsVal (g : Nat) (r : (Bool × List UInt8) × List UInt8 × Int) (w : World) (E : Ending) (w' : World) : Prop :=
  ∃ A c, E = .returned (valV r.1.1 A r.1.2.length c) ∧ w'.ownsRow w.heap.size 5 1 (.slice A r.1.2.length c) r.1.2.length (r.1.2.map byteV) ∧ Rd w' g r.2.1 r.2.2 ∧ w.grownBy w' (some g)
theorem getval_any (g : Nat) (bs : List UInt8) (e0 : Int) (w : World) (h : Rd w g bs e0) : Calls Try.prog 25 #[.pointer (some ⟨g, 0, none⟩)] w (ReadsVal g (stepV bs e0) w) := by
  have hlt := rd_lt h
  obtain ⟨⟨t, b1, e1⟩, h1⟩ : ∃ y, stepT bs e0 = y := ⟨_, rfl⟩
  have HD := Lib.hid (rd_alloc h (.cells #[.bool false, .slice none 0 0] 36))
  have HB := Lib.hid (Blk.new w 36 #[.bool false, .slice none 0 0])
  clear h
  cases t
  · have HT : Hid (stepV bs e0 = ((false, []), b1, e1)) := Lib.hid (by unfold stepV; rw [h1]; simp)
    have H1 := Lib.hid h1
    clear h1
    rw [HT.out]
    go_enter Try.func25, Try.ntmps25
    go_wp2_with fail
    refine (truth_call g bs e0 _ HD.out).mono ?_
    rw [H1.out]
    rintro e w1 ⟨rfl, hrd, hgr⟩
    have HD1 := Lib.hid hrd
    have HG1 := Lib.hid (grown_alloc1 hgr)
    have HB1 := HB.out.grown hgr (by simp; omega)
    have q0 : w1.cell? ⟨w.heap.size, 0, none⟩ = some (.bool false) := HB1.cell 0
    have q1 : w1.cell? ⟨w.heap.size, 1, none⟩ = some (.slice none 0 0) := HB1.cell 1
    have z0 := HB1.frozen 0
    have z1 := HB1.frozen 1
    clear hrd hgr HB1
    go_wp2
    refine bodyPost_ret (v := valV false none 0 0) (by simp [results, Try.results25, go_sem, q0, q1]) rfl ⟨none, 0, rfl, World.ownsRow_nil _ _ _ _, ?_, ?_⟩
    · exact rd_put (rd_put HD1.out hlt _ _) hlt _ _
    · exact grown_put (grown_put HG1.out (Nat.le_refl _) _ _) (Nat.le_refl _) _ _
  · obtain ⟨⟨ys, b2, e2⟩, h2⟩ : ∃ y, stepR b1 e1 = y := ⟨_, rfl⟩
    have HT : Hid (stepV bs e0 = ((true, ys), b2, e2)) := Lib.hid (by unfold stepV; rw [h1]; simp only [if_true]; rw [h2])
    have H1 := Lib.hid h1
    have H2 := Lib.hid h2
    clear h1 h2
    rw [HT.out]
    go_enter Try.func25, Try.ntmps25
    go_wp2_with fail
    refine (truth_call g bs e0 _ HD.out).mono ?_
    rw [H1.out]
    rintro e w1 ⟨rfl, hrd, hgr⟩
    have HD1 := Lib.hid hrd
    have HG1 := Lib.hid (grown_alloc1 hgr)
    have HB1 := Lib.hid (HB.out.grown hgr (by simp; omega))
    clear hrd hgr
    go_wp2_with fail
    refine (row_call g b1 e1 _ HD1.out).mono ?_
    rw [H2.out]
    rintro e w2 ⟨A2, c2, rfl, ho, hrd, hgr⟩
    have HD2 := Lib.hid hrd
    have HG2 := Lib.hid (grown_trans HG1.out hgr)
    have HB2 := HB1.out.grown hgr (by simp; omega)
    have HO2 : Hid (w2.ownsRow w1.heap.size 5 1 (.slice A2 ys.length c2) ys.length (ys.map byteV)) := Lib.hid ho
    have q0 : w2.cell? ⟨w.heap.size, 0, none⟩ = some (.bool false) := HB2.cell 0
    have q1 : w2.cell? ⟨w.heap.size, 1, none⟩ = some (.slice none 0 0) := HB2.cell 1
    have z0 := HB2.frozen 0
    have z1 := HB2.frozen 1
    clear hrd hgr HB2 ho
    go_wp2
    have hs := HG1.out.size
    have hl := HB1.out.lt
    refine bodyPost_ret (v := valV true A2 ys.length c2) (by simp [results, Try.results25, go_sem, q0, q1]) rfl ⟨A2, c2, rfl, ?_, ?_, ?_⟩
    · exact own_base (own_put (own_put HO2.out hl _ _) hl _ _) hs
    · exact rd_put (rd_put HD2.out hlt _ _) hlt _ _
    · exact grown_put (grown_put HG2.out (Nat.le_refl _) _ _) (Nat.le_refl _) _ _
end Go.Proofs.Ytmbcdakfnckcmaa
