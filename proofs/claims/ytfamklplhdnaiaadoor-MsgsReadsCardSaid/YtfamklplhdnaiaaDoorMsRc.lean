/- MsRc: Package msgs: the function values that Read has for the fields. -/
import Derived.Test.YtfamklplhdnaiaaDoorMsRL
import Derived.Test.YtfamklplhdnaiaaDoorDk
import Derived.Deep.MidRow
namespace Go.Proofs.YtfamklplhdnaiaaDoor
open Go.RowKit Mem Be Rg
set_option maxRecDepth 100000
set_option maxHeartbeats 8000000
set_option linter.unusedVariables false
/-- A message that is being read, in block p: all that it has is memory of its own, behind p. -/
structure MsgO (w : World) (p : Nat) (x : MV) : Prop where
  blk : Blk w p 34 #[.int .i64 x.kind, .int .i64 x.fr, .int .i64 x.dst, .int .i64 x.ep, .int .i64 x.op, .int .i64 x.n, .bool x.flag, .string ⟨x.e.1.k.toArray⟩, .int .i64 x.e.1.s, .int .i64 x.e.1.u, .int .i64 x.e.1.o, .bool x.e.1.has, .slice x.e.2.1 x.e.1.v.length x.e.2.2, .slice x.lA x.l.length x.lc, .slice x.rA x.ns.length x.rc, .int .i64 x.each, .int .i64 x.keep]
  ev : w.ownsRow (p + 1) 5 1 (.slice x.e.2.1 x.e.1.v.length x.e.2.2) x.e.1.v.length (x.e.1.v.map byteV)
  lr : w.ownsRow (p + 1) 28 6 (.slice x.lA x.l.length x.lc) x.l.length (entsC x.l)
  le : EntsO w (p + 1) x.l
  rn : w.ownsRow (p + 1) 3 1 (.slice x.rA x.ns.length x.rc) x.ns.length (x.ns.map iV)
  b1 : x.e.1.v.length ≤ 65536 ∧ x.e.1.k.length ≤ 65536
  b2 : x.l.length ≤ 1000 ∧ ∀ y ∈ x.l, y.1.v.length ≤ 65536 ∧ y.1.k.length ≤ 65536
  b3 : x.ns.length ≤ 64
theorem MsgO.grown {w w' : World} {p g : Nat} {x : MV} (h : MsgO w p x) (hg : w.grownBy w' (some g)) (hgp : g < p) : MsgO w' p x :=
  ⟨h.blk.grown hg (fun e => by injection e with e; omega), own_up12 h.ev hg (by omega), own_up12 h.lr hg (by omega), fun y hy => own_up12 (h.le y hy) hg (by omega), own_up12 h.rn hg (by omega), h.b1, h.b2, h.b3⟩
theorem MsgO.below {w w' : World} {p : Nat} {x : MV} (h : MsgO w p x) (hb : Below w.heap.size w w') : MsgO w' p x :=
  ⟨h.blk.below hb h.blk.lt, ownLater h.ev hb, ownLater h.lr hb, entsO_below h.le hb, ownLater h.rn hb, h.b1, h.b2, h.b3⟩
theorem MsgO.msgM {w : World} {p : Nat} {x : MV} (h : MsgO w p x) : MsgM w x :=
  ⟨⟨ownRow h.ev, by have := h.b1; unfold maxLen; omega, by have := h.b1; unfold maxLen; omega, (own_cap h.ev).1⟩,
   ⟨ownRow h.lr, fun y hy => ⟨ownRow (h.le y hy), by have := h.b2.2 y hy; unfold maxLen; omega, by have := h.b2.2 y hy; unfold maxLen; omega, (own_cap (h.le y hy)).1⟩⟩,
   by have := h.b2.1; unfold maxLen; omega, ownRow h.rn, by have := h.b3; unfold maxLen; omega⟩
def FnP (g p : Nat) (m : MsgP) (bs : List UInt8) (e0 : Int) (w : World) (E : Ending) (w' : World) : Prop :=
  E = .returned (.tuple #[]) ∧ Rd w' g bs e0 ∧ (∃ x', mP x' = m ∧ MsgO w' p x') ∧ Touch (fun k => k = g ∨ k = p) w w'
theorem touch_put12 {w w1 w2 : World} {g p : Nat} (hg : w.grownBy w1 (some g)) (hs : w1.grownBy w2 (some p)) : Touch (fun k => k = g ∨ k = p) w w2 :=
  ⟨hs.os.trans hg.os, hs.tape.trans hg.tape, hs.output.trans hg.output, Nat.le_trans hg.size hs.size, fun k hk hf => (hs.block k (Nat.lt_of_lt_of_le hk hg.size) (fun e => hf (Or.inr (by injection e)))).trans (hg.block k hk (fun e => hf (Or.inl (by injection e))))⟩
/-- A message, some of whose cells are written anew. -/
theorem MsgO.put {w w' : World} {p : Nat} {x x' : MV} (h : MsgO w p x) (hs : w.grownBy w' (some p)) (hb : Blk w' p 34 #[.int .i64 x'.kind, .int .i64 x'.fr, .int .i64 x'.dst, .int .i64 x'.ep, .int .i64 x'.op, .int .i64 x'.n, .bool x'.flag, .string ⟨x'.e.1.k.toArray⟩, .int .i64 x'.e.1.s, .int .i64 x'.e.1.u, .int .i64 x'.e.1.o, .bool x'.e.1.has, .slice x'.e.2.1 x'.e.1.v.length x'.e.2.2, .slice x'.lA x'.l.length x'.lc, .slice x'.rA x'.ns.length x'.rc, .int .i64 x'.each, .int .i64 x'.keep])
    (h1 : (x'.e = x.e) ∨ (w.ownsRow (p + 1) 5 1 (.slice x'.e.2.1 x'.e.1.v.length x'.e.2.2) x'.e.1.v.length (x'.e.1.v.map byteV) ∧ x'.e.1.v.length ≤ 65536 ∧ x'.e.1.k.length ≤ 65536))
    (h2 : (x'.lA = x.lA ∧ x'.l = x.l ∧ x'.lc = x.lc) ∨ (w.ownsRow (p + 1) 28 6 (.slice x'.lA x'.l.length x'.lc) x'.l.length (entsC x'.l) ∧ EntsO w (p + 1) x'.l ∧ x'.l.length ≤ 1000 ∧ ∀ y ∈ x'.l, y.1.v.length ≤ 65536 ∧ y.1.k.length ≤ 65536))
    (h3 : (x'.rA = x.rA ∧ x'.ns = x.ns ∧ x'.rc = x.rc) ∨ (w.ownsRow (p + 1) 3 1 (.slice x'.rA x'.ns.length x'.rc) x'.ns.length (x'.ns.map iV) ∧ x'.ns.length ≤ 64)) : MsgO w' p x' := by
  refine ⟨hb, ?_, ?_, ?_, ?_, ?_, ?_, ?_⟩
  · rcases h1 with h1 | h1
    · rw [h1]; exact own_up12 h.ev hs (by omega)
    · exact own_up12 h1.1 hs (by omega)
  · rcases h2 with ⟨e1, e2, e3⟩ | h2
    · rw [e1, e2, e3]; exact own_up12 h.lr hs (by omega)
    · exact own_up12 h2.1 hs (by omega)
  · rcases h2 with ⟨e1, e2, e3⟩ | h2
    · rw [e2]; exact fun y hy => own_up12 (h.le y hy) hs (by omega)
    · exact fun y hy => own_up12 (h2.2.1 y hy) hs (by omega)
  · rcases h3 with ⟨e1, e2, e3⟩ | h3
    · rw [e1, e2, e3]; exact own_up12 h.rn hs (by omega)
    · exact own_up12 h3.1 hs (by omega)
  · rcases h1 with h1 | h1
    · rw [h1]; exact h.b1
    · exact h1.2
  · rcases h2 with ⟨e1, e2, e3⟩ | h2
    · rw [e2]; exact h.b2
    · exact h2.2.2
  · rcases h3 with ⟨e1, e2, e3⟩ | h3
    · rw [e2]; exact h.b3
    · exact h3.2
theorem fn1_any (g q p : Nat) (x : MV) (bs : List UInt8) (e0 : Int) (w : World) (hq : w.cell? ⟨q, 0, none⟩ = some (.pointer (some ⟨g, 0, none⟩))) (hr : Rd w g bs e0) (hm : MsgO w p x) (hgp : g < p) :
    Calls Tryd.prog 55 #[.pointer (some ⟨q, 0, none⟩), .pointer (some ⟨p, 0, none⟩)] w (FnP g p ({ mP x with n := (stepB 1099511627776 bs e0).1 }) (stepB 1099511627776 bs e0).2.1 (stepB 1099511627776 bs e0).2.2 w) := by
  have HC := Lib.hid (readseq_call g bs e0 w hr)
  have HM := Lib.hid hm
  have hpw : p < w.heap.size := hm.blk.lt
  obtain ⟨S, hS⟩ : ∃ S, stepB 1099511627776 bs e0 = S := ⟨_, rfl⟩
  rw [hS] at HC ⊢
  clear hr hm hS
  go_enter Tryd.func55, Tryd.ntmps55
  go_wp2_with fail
  refine HC.out.mono ?_
  rintro e w1 ⟨rfl, hr1, hg1⟩
  have HM1 := Lib.hid (HM.out.grown hg1 hgp)
  have z5 : w1.frozen? ⟨p, 5, none⟩ = false := HM1.out.blk.frozen 5
  have m5 : w1.cell? ⟨p, 5, none⟩ = some (.int .i64 x.n) := HM1.out.blk.cell 5
  have HG1 := Lib.hid hg1
  have HR1 := Lib.hid hr1
  have HS1 : Hid (w1.grownBy (w1.setCell ⟨p, 5, none⟩ (.int .i64 S.1)) (some p)) := Lib.hid (grown_set w1 p 5 _)
  have HF : Hid (Rd (w1.setCell ⟨p, 5, none⟩ (.int .i64 S.1)) g S.2.1 S.2.2 ∧ (∃ x', mP x' = { mP x with n := (S).1 } ∧ MsgO (w1.setCell ⟨p, 5, none⟩ (.int .i64 S.1)) p x') ∧ Touch (fun k => k = g ∨ k = p) w (w1.setCell ⟨p, 5, none⟩ (.int .i64 S.1))) := Lib.hid ⟨rd_other HR1.out HS1.out hgp, ⟨{ x with n := S.1 }, rfl, HM1.out.put HS1.out (by have := (HM1.out.blk.set_ 5 (.int .i64 S.1)); simpa only [List.setIfInBounds_toArray, List.set_cons_succ, List.set_cons_zero] using this) (Or.inl rfl) (Or.inl ⟨rfl, rfl, rfl⟩) (Or.inl ⟨rfl, rfl, rfl⟩)⟩, touch_put12 HG1.out HS1.out⟩
  clear hg1 hr1 HC HM HG1 HR1 HM1 HS1
  go_wp2
  go_end0
  exact ⟨rfl, HF.out⟩
theorem fn2_any (g q p : Nat) (x : MV) (bs : List UInt8) (e0 : Int) (w : World) (hq : w.cell? ⟨q, 0, none⟩ = some (.pointer (some ⟨g, 0, none⟩))) (hr : Rd w g bs e0) (hm : MsgO w p x) (hgp : g < p) :
    Calls Tryd.prog 56 #[.pointer (some ⟨q, 0, none⟩), .pointer (some ⟨p, 0, none⟩)] w (FnP g p ({ mP x with flag := (stepT bs e0).1 }) (stepT bs e0).2.1 (stepT bs e0).2.2 w) := by
  have HC := Lib.hid (truth_call g bs e0 w hr)
  have HM := Lib.hid hm
  have hpw : p < w.heap.size := hm.blk.lt
  obtain ⟨S, hS⟩ : ∃ S, stepT bs e0 = S := ⟨_, rfl⟩
  rw [hS] at HC ⊢
  clear hr hm hS
  go_enter Tryd.func56, Tryd.ntmps56
  go_wp2_with fail
  refine HC.out.mono ?_
  rintro e w1 ⟨rfl, hr1, hg1⟩
  have HM1 := Lib.hid (HM.out.grown hg1 hgp)
  have z6 : w1.frozen? ⟨p, 6, none⟩ = false := HM1.out.blk.frozen 6
  have m6 : w1.cell? ⟨p, 6, none⟩ = some (.bool x.flag) := HM1.out.blk.cell 6
  have HG1 := Lib.hid hg1
  have HR1 := Lib.hid hr1
  have HS1 : Hid (w1.grownBy (w1.setCell ⟨p, 6, none⟩ (.bool S.1)) (some p)) := Lib.hid (grown_set w1 p 6 _)
  have HF : Hid (Rd (w1.setCell ⟨p, 6, none⟩ (.bool S.1)) g S.2.1 S.2.2 ∧ (∃ x', mP x' = { mP x with flag := (S).1 } ∧ MsgO (w1.setCell ⟨p, 6, none⟩ (.bool S.1)) p x') ∧ Touch (fun k => k = g ∨ k = p) w (w1.setCell ⟨p, 6, none⟩ (.bool S.1))) := Lib.hid ⟨rd_other HR1.out HS1.out hgp, ⟨{ x with flag := S.1 }, rfl, HM1.out.put HS1.out (by have := (HM1.out.blk.set_ 6 (.bool S.1)); simpa only [List.setIfInBounds_toArray, List.set_cons_succ, List.set_cons_zero] using this) (Or.inl rfl) (Or.inl ⟨rfl, rfl, rfl⟩) (Or.inl ⟨rfl, rfl, rfl⟩)⟩, touch_put12 HG1.out HS1.out⟩
  clear hg1 hr1 HC HM HG1 HR1 HM1 HS1
  go_wp2
  go_end0
  exact ⟨rfl, HF.out⟩
theorem fn3_any (g q p : Nat) (x : MV) (bs : List UInt8) (e0 : Int) (w : World) (hq : w.cell? ⟨q, 0, none⟩ = some (.pointer (some ⟨g, 0, none⟩))) (hr : Rd w g bs e0) (hm : MsgO w p x) (hgp : g < p) :
    Calls Tryd.prog 58 #[.pointer (some ⟨q, 0, none⟩), .pointer (some ⟨p, 0, none⟩)] w (FnP g p ({ mP x with e := (stepE bs e0).1 }) (stepE bs e0).2.1 (stepE bs e0).2.2 w) := by
  have HC := Lib.hid (get_any g bs e0 w hr)
  have HM := Lib.hid hm
  have hpw : p < w.heap.size := hm.blk.lt
  have HLE := Lib.hid (stepE_len bs e0)
  obtain ⟨S, hS⟩ : ∃ S, stepE bs e0 = S := ⟨_, rfl⟩
  rw [hS] at HC HLE ⊢
  clear hr hm hS
  go_enter Tryd.func58, Tryd.ntmps58
  go_wp2_with fail
  refine HC.out.mono ?_
  rintro e w1 ⟨A, c, rfl, ho1, hr1, hg1⟩
  have HM1 := Lib.hid (HM.out.grown hg1 hgp)
  have z7 : w1.frozen? ⟨p, 7, none⟩ = false := HM1.out.blk.frozen 7
  have m7 : w1.cell? ⟨p, 7, none⟩ = some (.string ⟨x.e.1.k.toArray⟩) := HM1.out.blk.cell 7
  have z8 : w1.frozen? ⟨p, 8, none⟩ = false := HM1.out.blk.frozen 8
  have m8 : w1.cell? ⟨p, 8, none⟩ = some (.int .i64 x.e.1.s) := HM1.out.blk.cell 8
  have z9 : w1.frozen? ⟨p, 9, none⟩ = false := HM1.out.blk.frozen 9
  have m9 : w1.cell? ⟨p, 9, none⟩ = some (.int .i64 x.e.1.u) := HM1.out.blk.cell 9
  have z10 : w1.frozen? ⟨p, 10, none⟩ = false := HM1.out.blk.frozen 10
  have m10 : w1.cell? ⟨p, 10, none⟩ = some (.int .i64 x.e.1.o) := HM1.out.blk.cell 10
  have z11 : w1.frozen? ⟨p, 11, none⟩ = false := HM1.out.blk.frozen 11
  have m11 : w1.cell? ⟨p, 11, none⟩ = some (.bool x.e.1.has) := HM1.out.blk.cell 11
  have z12 : w1.frozen? ⟨p, 12, none⟩ = false := HM1.out.blk.frozen 12
  have m12 : w1.cell? ⟨p, 12, none⟩ = some (.slice x.e.2.1 x.e.1.v.length x.e.2.2) := HM1.out.blk.cell 12
  have HG1 := Lib.hid hg1
  have HR1 := Lib.hid hr1
  have HS1 : Hid (w1.grownBy ((((((w1.setCell ⟨p, 7, none⟩ (.string ⟨S.1.k.toArray⟩)).setCell ⟨p, 8, none⟩ (.int .i64 S.1.s)).setCell ⟨p, 9, none⟩ (.int .i64 S.1.u)).setCell ⟨p, 10, none⟩ (.int .i64 S.1.o)).setCell ⟨p, 11, none⟩ (.bool S.1.has)).setCell ⟨p, 12, none⟩ (.slice A S.1.v.length c)) (some p)) := Lib.hid (grown_trans (grown_trans (grown_trans (grown_trans (grown_trans (grown_set w1 p 7 _) (grown_set _ p 8 _)) (grown_set _ p 9 _)) (grown_set _ p 10 _)) (grown_set _ p 11 _)) (grown_set _ p 12 _))
  have HF : Hid (Rd ((((((w1.setCell ⟨p, 7, none⟩ (.string ⟨S.1.k.toArray⟩)).setCell ⟨p, 8, none⟩ (.int .i64 S.1.s)).setCell ⟨p, 9, none⟩ (.int .i64 S.1.u)).setCell ⟨p, 10, none⟩ (.int .i64 S.1.o)).setCell ⟨p, 11, none⟩ (.bool S.1.has)).setCell ⟨p, 12, none⟩ (.slice A S.1.v.length c)) g S.2.1 S.2.2 ∧ (∃ x', mP x' = { mP x with e := (S).1 } ∧ MsgO ((((((w1.setCell ⟨p, 7, none⟩ (.string ⟨S.1.k.toArray⟩)).setCell ⟨p, 8, none⟩ (.int .i64 S.1.s)).setCell ⟨p, 9, none⟩ (.int .i64 S.1.u)).setCell ⟨p, 10, none⟩ (.int .i64 S.1.o)).setCell ⟨p, 11, none⟩ (.bool S.1.has)).setCell ⟨p, 12, none⟩ (.slice A S.1.v.length c)) p x') ∧ Touch (fun k => k = g ∨ k = p) w ((((((w1.setCell ⟨p, 7, none⟩ (.string ⟨S.1.k.toArray⟩)).setCell ⟨p, 8, none⟩ (.int .i64 S.1.s)).setCell ⟨p, 9, none⟩ (.int .i64 S.1.u)).setCell ⟨p, 10, none⟩ (.int .i64 S.1.o)).setCell ⟨p, 11, none⟩ (.bool S.1.has)).setCell ⟨p, 12, none⟩ (.slice A S.1.v.length c))) := Lib.hid ⟨rd_other HR1.out HS1.out hgp, ⟨{ x with e := (S.1, A, c) }, rfl, HM1.out.put HS1.out (by have := ((((((HM1.out.blk.set_ 7 (.string ⟨S.1.k.toArray⟩)).set_ 8 (.int .i64 S.1.s)).set_ 9 (.int .i64 S.1.u)).set_ 10 (.int .i64 S.1.o)).set_ 11 (.bool S.1.has)).set_ 12 (.slice A S.1.v.length c)); simpa only [List.setIfInBounds_toArray, List.set_cons_succ, List.set_cons_zero] using this) (Or.inr ⟨ownBase ho1 hpw, HLE.out⟩) (Or.inl ⟨rfl, rfl, rfl⟩) (Or.inl ⟨rfl, rfl, rfl⟩)⟩, touch_put12 HG1.out HS1.out⟩
  clear hg1 hr1 HC HM HG1 HR1 HM1 HS1 ho1
  go_wp2
  go_end0
  exact ⟨rfl, HF.out⟩
theorem fn4_any (g q p : Nat) (x : MV) (bs : List UInt8) (e0 : Int) (w : World) (hq : w.cell? ⟨q, 0, none⟩ = some (.pointer (some ⟨g, 0, none⟩))) (hr : Rd w g bs e0) (hm : MsgO w p x) (hgp : g < p) :
    Calls Tryd.prog 60 #[.pointer (some ⟨q, 0, none⟩), .pointer (some ⟨p, 0, none⟩)] w (FnP g p ({ mP x with l := (stepL12 bs e0).1.2 }) (stepL12 bs e0).2.1 (stepL12 bs e0).2.2 w) := by
  have HC := Lib.hid (readlist_any g bs e0 w hr)
  have HM := Lib.hid hm
  have hpw : p < w.heap.size := hm.blk.lt
  obtain ⟨S, hS⟩ : ∃ S, stepL12 bs e0 = S := ⟨_, rfl⟩
  rw [hS] at HC ⊢
  clear hr hm hS
  go_enter Tryd.func60, Tryd.ntmps60
  go_wp2_with fail
  refine HC.out.mono ?_
  rintro e w1 ⟨A, c, us, rfl, hus, hln, hbn, hor, heo, hr1, hg1⟩
  simp only at hus hr1
  have HM1 := Lib.hid (HM.out.grown hg1 hgp)
  have z13 : w1.frozen? ⟨p, 13, none⟩ = false := HM1.out.blk.frozen 13
  have m13 : w1.cell? ⟨p, 13, none⟩ = some (.slice x.lA x.l.length x.lc) := HM1.out.blk.cell 13
  have HG1 := Lib.hid hg1
  have HR1 := Lib.hid hr1
  have HS1 : Hid (w1.grownBy (w1.setCell ⟨p, 13, none⟩ (.slice A us.length c)) (some p)) := Lib.hid (grown_set w1 p 13 _)
  have HF : Hid (Rd (w1.setCell ⟨p, 13, none⟩ (.slice A us.length c)) g S.2.1 S.2.2 ∧ (∃ x', mP x' = { mP x with l := (S).1.2 } ∧ MsgO (w1.setCell ⟨p, 13, none⟩ (.slice A us.length c)) p x') ∧ Touch (fun k => k = g ∨ k = p) w (w1.setCell ⟨p, 13, none⟩ (.slice A us.length c))) := Lib.hid ⟨rd_other HR1.out HS1.out hgp, ⟨{ x with lA := A, l := us, lc := c }, by unfold mP; simp only [hus], HM1.out.put HS1.out (by have := (HM1.out.blk.set_ 13 (.slice A us.length c)); simpa only [List.setIfInBounds_toArray, List.set_cons_succ, List.set_cons_zero] using this) (Or.inl rfl) (Or.inr ⟨ownBase hor hpw, entsO_base heo hpw, hln, hbn⟩) (Or.inl ⟨rfl, rfl, rfl⟩)⟩, touch_put12 HG1.out HS1.out⟩
  clear hg1 hr1 HC HM HG1 HR1 HM1 HS1 hor heo hbn hus hln
  go_wp2
  go_end0
  exact ⟨rfl, HF.out⟩
theorem fn5_any (g q p : Nat) (x : MV) (bs : List UInt8) (e0 : Int) (w : World) (hq : w.cell? ⟨q, 0, none⟩ = some (.pointer (some ⟨g, 0, none⟩))) (hr : Rd w g bs e0) (hm : MsgO w p x) (hgp : g < p) :
    Calls Tryd.prog 62 #[.pointer (some ⟨q, 0, none⟩), .pointer (some ⟨p, 0, none⟩)] w (FnP g p ({ mP x with ns := (stepR12 bs e0).1.2.2.2, each := (stepR12 bs e0).1.1, keep := (stepR12 bs e0).1.2.1 }) (stepR12 bs e0).2.1 (stepR12 bs e0).2.2 w) := by
  have HC := Lib.hid (readring_any g bs e0 w hr)
  have HM := Lib.hid hm
  have hpw : p < w.heap.size := hm.blk.lt
  obtain ⟨S, hS⟩ : ∃ S, stepR12 bs e0 = S := ⟨_, rfl⟩
  rw [hS] at HC ⊢
  clear hr hm hS
  go_enter Tryd.func62, Tryd.ntmps62
  go_wp2_with fail
  refine HC.out.mono ?_
  rintro e w1 ⟨A, c, rfl, hnl, ho1, hr1, hg1⟩
  have HM1 := Lib.hid (HM.out.grown hg1 hgp)
  have z14 : w1.frozen? ⟨p, 14, none⟩ = false := HM1.out.blk.frozen 14
  have m14 : w1.cell? ⟨p, 14, none⟩ = some (.slice x.rA x.ns.length x.rc) := HM1.out.blk.cell 14
  have z15 : w1.frozen? ⟨p, 15, none⟩ = false := HM1.out.blk.frozen 15
  have m15 : w1.cell? ⟨p, 15, none⟩ = some (.int .i64 x.each) := HM1.out.blk.cell 15
  have z16 : w1.frozen? ⟨p, 16, none⟩ = false := HM1.out.blk.frozen 16
  have m16 : w1.cell? ⟨p, 16, none⟩ = some (.int .i64 x.keep) := HM1.out.blk.cell 16
  have HG1 := Lib.hid hg1
  have HR1 := Lib.hid hr1
  have HS1 : Hid (w1.grownBy (((w1.setCell ⟨p, 14, none⟩ (.slice A S.1.2.2.2.length c)).setCell ⟨p, 15, none⟩ (.int .i64 S.1.1)).setCell ⟨p, 16, none⟩ (.int .i64 S.1.2.1)) (some p)) := Lib.hid (grown_trans (grown_trans (grown_set w1 p 14 _) (grown_set _ p 15 _)) (grown_set _ p 16 _))
  have HF : Hid (Rd (((w1.setCell ⟨p, 14, none⟩ (.slice A S.1.2.2.2.length c)).setCell ⟨p, 15, none⟩ (.int .i64 S.1.1)).setCell ⟨p, 16, none⟩ (.int .i64 S.1.2.1)) g S.2.1 S.2.2 ∧ (∃ x', mP x' = { mP x with ns := (S).1.2.2.2, each := (S).1.1, keep := (S).1.2.1 } ∧ MsgO (((w1.setCell ⟨p, 14, none⟩ (.slice A S.1.2.2.2.length c)).setCell ⟨p, 15, none⟩ (.int .i64 S.1.1)).setCell ⟨p, 16, none⟩ (.int .i64 S.1.2.1)) p x') ∧ Touch (fun k => k = g ∨ k = p) w (((w1.setCell ⟨p, 14, none⟩ (.slice A S.1.2.2.2.length c)).setCell ⟨p, 15, none⟩ (.int .i64 S.1.1)).setCell ⟨p, 16, none⟩ (.int .i64 S.1.2.1))) := Lib.hid ⟨rd_other HR1.out HS1.out hgp, ⟨{ x with rA := A, ns := S.1.2.2.2, rc := c, each := S.1.1, keep := S.1.2.1 }, rfl, HM1.out.put HS1.out (by have := (((HM1.out.blk.set_ 14 (.slice A S.1.2.2.2.length c)).set_ 15 (.int .i64 S.1.1)).set_ 16 (.int .i64 S.1.2.1)); simpa only [List.setIfInBounds_toArray, List.set_cons_succ, List.set_cons_zero] using this) (Or.inl rfl) (Or.inl ⟨rfl, rfl, rfl⟩) (Or.inr ⟨ownBase ho1 hpw, hnl⟩)⟩, touch_put12 HG1.out HS1.out⟩
  clear hg1 hr1 HC HM HG1 HR1 HM1 HS1 ho1 hnl
  go_wp2
  go_end0
  exact ⟨rfl, HF.out⟩
end Go.Proofs.YtfamklplhdnaiaaDoor
