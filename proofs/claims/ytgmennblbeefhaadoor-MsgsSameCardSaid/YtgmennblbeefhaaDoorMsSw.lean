/- MsSw: Package msgs: Same. -/
import Derived.Test.YtgmennblbeefhaaDoorMsSi
import Derived.Test.YtgmennblbeefhaaDoorMsSh
import Derived.Test.YtgmennblbeefhaaDoorLaterR
import Derived.ChangeKeysEq
import Derived.BigFrame
namespace Go.Proofs.YtgmennblbeefhaaDoor
open Go.RowKit Mem Be Rg
set_option maxRecDepth 100000
set_option maxHeartbeats 8000000
set_option linter.unusedVariables false
set_option linter.unusedSimpArgs false
def eqH (a0 a1 a2 a3 a4 b0 b1 b2 b3 b4 : Int) : Bool := a0 == b0 && (a1 == b1 && (a2 == b2 && (a3 == b3 && a4 == b4)))
theorem run_eqH (a0 a1 a2 a3 a4 b0 b1 b2 b3 b4 : Int) (w : World) : (Op.equalIn 10000 65 (.agg #[.int .i64 a0, .int .i64 a1, .int .i64 a2, .int .i64 a3, .int .i64 a4]) (.agg #[.int .i64 b0, .int .i64 b1, .int .i64 b2, .int .i64 b3, .int .i64 b4])).run Tryd.prog w = .ok (eqH a0 a1 a2 a3 a4 b0 b1 b2 b3 b4) w := by
  have u3 := Tryd.underlying3
  have ag := Tryd.isAgg3
  have z3 := Tryd.sizeOf3
  obtain ⟨i, hi⟩ : ∃ i, Tryd.prog.info? 3 = some i := ⟨_, rfl⟩
  have hc : Tryd.prog.cellsOf 3 = 1 := by kernel_rfl
  rw [show (10000 : Nat) = 9999 + 1 from rfl, run_equalIn_array (P := Tryd.prog) (w := w) 9999 _ _ Tryd.underlying65 hi, hc, show List.range 5 = [0, 1, 2, 3, 4] from rfl]
  simp only [Op.eqItems]
  go_simp
  unfold eqH
  by_cases h0 : a0 = b0 <;> by_cases h1 : a1 = b1 <;> by_cases h2 : a2 = b2 <;> by_cases h3 : a3 = b3 <;> by_cases h4 : a4 = b4 <;> simp [h0, h1, h2, h3, h4]
theorem sameM_parts (x y : MV) : sameM (mP x) (mP y) = (eqH x.kind x.fr x.dst x.ep x.op y.kind y.fr y.dst y.ep y.op && (x.n == y.n && (x.flag == y.flag && (sEB x.e.1 y.e.1 && (sAllB (x.l.map Prod.fst) (y.l.map Prod.fst) && decide (x.ns = y.ns ∧ x.each = y.each ∧ x.keep = y.keep)))))) := by
  unfold sameM eqH mP
  simp only [Bool.and_assoc]
theorem msame_any (x y : MV) (w : World) (h : MsgM w x) (h' : MsgM w y) : Calls Tryd.prog 24 #[.agg #[.int .i64 x.kind, .int .i64 x.fr, .int .i64 x.dst, .int .i64 x.ep, .int .i64 x.op, .int .i64 x.n, .bool x.flag, .string ⟨x.e.1.k.toArray⟩, .int .i64 x.e.1.s, .int .i64 x.e.1.u, .int .i64 x.e.1.o, .bool x.e.1.has, .slice x.e.2.1 x.e.1.v.length x.e.2.2, .slice x.lA x.l.length x.lc, .slice x.rA x.ns.length x.rc, .int .i64 x.each, .int .i64 x.keep], .agg #[.int .i64 y.kind, .int .i64 y.fr, .int .i64 y.dst, .int .i64 y.ep, .int .i64 y.op, .int .i64 y.n, .bool y.flag, .string ⟨y.e.1.k.toArray⟩, .int .i64 y.e.1.s, .int .i64 y.e.1.u, .int .i64 y.e.1.o, .bool y.e.1.has, .slice y.e.2.1 y.e.1.v.length y.e.2.2, .slice y.lA y.l.length y.lc, .slice y.rA y.ns.length y.rc, .int .i64 y.each, .int .i64 y.keep]] w (IsB (sameM (mP x) (mP y)) w) := by
  have hb : Below w.heap.size w ((w.alloc (.cells #[.int .i64 x.kind, .int .i64 x.fr, .int .i64 x.dst, .int .i64 x.ep, .int .i64 x.op, .int .i64 x.n, .bool x.flag, .string ⟨x.e.1.k.toArray⟩, .int .i64 x.e.1.s, .int .i64 x.e.1.u, .int .i64 x.e.1.o, .bool x.e.1.has, .slice x.e.2.1 x.e.1.v.length x.e.2.2, .slice x.lA x.l.length x.lc, .slice x.rA x.ns.length x.rc, .int .i64 x.each, .int .i64 x.keep] 34)).alloc (.cells #[.int .i64 y.kind, .int .i64 y.fr, .int .i64 y.dst, .int .i64 y.ep, .int .i64 y.op, .int .i64 y.n, .bool y.flag, .string ⟨y.e.1.k.toArray⟩, .int .i64 y.e.1.s, .int .i64 y.e.1.u, .int .i64 y.e.1.o, .bool y.e.1.has, .slice y.e.2.1 y.e.1.v.length y.e.2.2, .slice y.lA y.l.length y.lc, .slice y.rA y.ns.length y.rc, .int .i64 y.each, .int .i64 y.keep] 34)) := ((Below.refl _ _).alloc (Nat.le_refl _) _).alloc (by simp) _
  have hx := (Blk.new w 34 #[.int .i64 x.kind, .int .i64 x.fr, .int .i64 x.dst, .int .i64 x.ep, .int .i64 x.op, .int .i64 x.n, .bool x.flag, .string ⟨x.e.1.k.toArray⟩, .int .i64 x.e.1.s, .int .i64 x.e.1.u, .int .i64 x.e.1.o, .bool x.e.1.has, .slice x.e.2.1 x.e.1.v.length x.e.2.2, .slice x.lA x.l.length x.lc, .slice x.rA x.ns.length x.rc, .int .i64 x.each, .int .i64 x.keep]).alloc (.cells #[.int .i64 y.kind, .int .i64 y.fr, .int .i64 y.dst, .int .i64 y.ep, .int .i64 y.op, .int .i64 y.n, .bool y.flag, .string ⟨y.e.1.k.toArray⟩, .int .i64 y.e.1.s, .int .i64 y.e.1.u, .int .i64 y.e.1.o, .bool y.e.1.has, .slice y.e.2.1 y.e.1.v.length y.e.2.2, .slice y.lA y.l.length y.lc, .slice y.rA y.ns.length y.rc, .int .i64 y.each, .int .i64 y.keep] 34)
  have hy : Blk ((w.alloc (.cells #[.int .i64 x.kind, .int .i64 x.fr, .int .i64 x.dst, .int .i64 x.ep, .int .i64 x.op, .int .i64 x.n, .bool x.flag, .string ⟨x.e.1.k.toArray⟩, .int .i64 x.e.1.s, .int .i64 x.e.1.u, .int .i64 x.e.1.o, .bool x.e.1.has, .slice x.e.2.1 x.e.1.v.length x.e.2.2, .slice x.lA x.l.length x.lc, .slice x.rA x.ns.length x.rc, .int .i64 x.each, .int .i64 x.keep] 34)).alloc (.cells #[.int .i64 y.kind, .int .i64 y.fr, .int .i64 y.dst, .int .i64 y.ep, .int .i64 y.op, .int .i64 y.n, .bool y.flag, .string ⟨y.e.1.k.toArray⟩, .int .i64 y.e.1.s, .int .i64 y.e.1.u, .int .i64 y.e.1.o, .bool y.e.1.has, .slice y.e.2.1 y.e.1.v.length y.e.2.2, .slice y.lA y.l.length y.lc, .slice y.rA y.ns.length y.rc, .int .i64 y.each, .int .i64 y.keep] 34)) (w.heap.size + 1) 34 #[.int .i64 y.kind, .int .i64 y.fr, .int .i64 y.dst, .int .i64 y.ep, .int .i64 y.op, .int .i64 y.n, .bool y.flag, .string ⟨y.e.1.k.toArray⟩, .int .i64 y.e.1.s, .int .i64 y.e.1.u, .int .i64 y.e.1.o, .bool y.e.1.has, .slice y.e.2.1 y.e.1.v.length y.e.2.2, .slice y.lA y.l.length y.lc, .slice y.rA y.ns.length y.rc, .int .i64 y.each, .int .i64 y.keep] := blk_at (by simp) (Blk.new _ _ _)
  have hm1 := h.below hb
  have hm2 := h'.below hb
  obtain ⟨W, hW⟩ : ∃ W, (w.alloc (.cells #[.int .i64 x.kind, .int .i64 x.fr, .int .i64 x.dst, .int .i64 x.ep, .int .i64 x.op, .int .i64 x.n, .bool x.flag, .string ⟨x.e.1.k.toArray⟩, .int .i64 x.e.1.s, .int .i64 x.e.1.u, .int .i64 x.e.1.o, .bool x.e.1.has, .slice x.e.2.1 x.e.1.v.length x.e.2.2, .slice x.lA x.l.length x.lc, .slice x.rA x.ns.length x.rc, .int .i64 x.each, .int .i64 x.keep] 34)).alloc (.cells #[.int .i64 y.kind, .int .i64 y.fr, .int .i64 y.dst, .int .i64 y.ep, .int .i64 y.op, .int .i64 y.n, .bool y.flag, .string ⟨y.e.1.k.toArray⟩, .int .i64 y.e.1.s, .int .i64 y.e.1.u, .int .i64 y.e.1.o, .bool y.e.1.has, .slice y.e.2.1 y.e.1.v.length y.e.2.2, .slice y.lA y.l.length y.lc, .slice y.rA y.ns.length y.rc, .int .i64 y.each, .int .i64 y.keep] 34) = W := ⟨_, rfl⟩
  rw [hW] at hx hy hm1 hm2 hb
  obtain ⟨q0, hq0⟩ : ∃ q, eqH x.kind x.fr x.dst x.ep x.op y.kind y.fr y.dst y.ep y.op = q := ⟨_, rfl⟩
  obtain ⟨q1, hq1⟩ : ∃ q, (x.n == y.n) = q := ⟨_, rfl⟩
  obtain ⟨q2, hq2⟩ : ∃ q, (x.flag == y.flag) = q := ⟨_, rfl⟩
  obtain ⟨qe, hqe⟩ : ∃ q, sEB x.e.1 y.e.1 = q := ⟨_, rfl⟩
  obtain ⟨ql, hql⟩ : ∃ q, sAllB (x.l.map Prod.fst) (y.l.map Prod.fst) = q := ⟨_, rfl⟩
  obtain ⟨qr, hqr⟩ : ∃ q, decide (x.ns = y.ns ∧ x.each = y.each ∧ x.keep = y.keep) = q := ⟨_, rfl⟩
  have hR := sameM_parts x y
  rw [hq0, hq1, hq2, hqe, hql, hqr] at hR
  have hq := run_eqH x.kind x.fr x.dst x.ep x.op y.kind y.fr y.dst y.ep y.op
  rw [hq0] at hq
  have HLX : Hid (∀ p : Later W, Blk p.world w.heap.size 34 #[.int .i64 x.kind, .int .i64 x.fr, .int .i64 x.dst, .int .i64 x.ep, .int .i64 x.op, .int .i64 x.n, .bool x.flag, .string ⟨x.e.1.k.toArray⟩, .int .i64 x.e.1.s, .int .i64 x.e.1.u, .int .i64 x.e.1.o, .bool x.e.1.has, .slice x.e.2.1 x.e.1.v.length x.e.2.2, .slice x.lA x.l.length x.lc, .slice x.rA x.ns.length x.rc, .int .i64 x.each, .int .i64 x.keep]) := Lib.hid fun p => later_blk hx p
  have HLY : Hid (∀ p : Later W, Blk p.world (w.heap.size + 1) 34 #[.int .i64 y.kind, .int .i64 y.fr, .int .i64 y.dst, .int .i64 y.ep, .int .i64 y.op, .int .i64 y.n, .bool y.flag, .string ⟨y.e.1.k.toArray⟩, .int .i64 y.e.1.s, .int .i64 y.e.1.u, .int .i64 y.e.1.o, .bool y.e.1.has, .slice y.e.2.1 y.e.1.v.length y.e.2.2, .slice y.lA y.l.length y.lc, .slice y.rA y.ns.length y.rc, .int .i64 y.each, .int .i64 y.keep]) := Lib.hid fun p => later_blk hy p
  have HH1 : Hid (∀ p : Later W, Calls Tryd.prog 30 #[.agg #[.int .i64 x.kind, .int .i64 x.fr, .int .i64 x.dst, .int .i64 x.ep, .int .i64 x.op, .int .i64 x.n, .bool x.flag, .string ⟨x.e.1.k.toArray⟩, .int .i64 x.e.1.s, .int .i64 x.e.1.u, .int .i64 x.e.1.o, .bool x.e.1.has, .slice x.e.2.1 x.e.1.v.length x.e.2.2, .slice x.lA x.l.length x.lc, .slice x.rA x.ns.length x.rc, .int .i64 x.each, .int .i64 x.keep]] p.world (fun e w' => e = .returned (.agg #[.int .i64 x.kind, .int .i64 x.fr, .int .i64 x.dst, .int .i64 x.ep, .int .i64 x.op]) ∧ Below p.world.heap.size p.world w')) := Lib.hid fun p => msghead_any x p.world
  have HH2 : Hid (∀ p : Later W, Calls Tryd.prog 30 #[.agg #[.int .i64 y.kind, .int .i64 y.fr, .int .i64 y.dst, .int .i64 y.ep, .int .i64 y.op, .int .i64 y.n, .bool y.flag, .string ⟨y.e.1.k.toArray⟩, .int .i64 y.e.1.s, .int .i64 y.e.1.u, .int .i64 y.e.1.o, .bool y.e.1.has, .slice y.e.2.1 y.e.1.v.length y.e.2.2, .slice y.lA y.l.length y.lc, .slice y.rA y.ns.length y.rc, .int .i64 y.each, .int .i64 y.keep]] p.world (fun e w' => e = .returned (.agg #[.int .i64 y.kind, .int .i64 y.fr, .int .i64 y.dst, .int .i64 y.ep, .int .i64 y.op]) ∧ Below p.world.heap.size p.world w')) := Lib.hid fun p => msghead_any y p.world
  have HSE : Hid (∀ p : Later W, Calls Tryd.prog 76 #[entV ⟨x.e.1.k.toArray⟩ x.e.1.s x.e.1.u x.e.1.o x.e.1.has x.e.2.1 x.e.1.v.length x.e.2.2, entV ⟨y.e.1.k.toArray⟩ y.e.1.s y.e.1.u y.e.1.o y.e.1.has y.e.2.1 y.e.1.v.length y.e.2.2] p.world (fun e w' => e = .returned (.bool qe) ∧ Below p.world.heap.size p.world w')) := Lib.hid fun p => by
    have := same_big ⟨x.e.1.k.toArray⟩ ⟨y.e.1.k.toArray⟩ x.e.1.s x.e.1.u x.e.1.o y.e.1.s y.e.1.u y.e.1.o x.e.1.has y.e.1.has x.e.2.1 y.e.2.1 x.e.1.v y.e.1.v x.e.2.2 y.e.2.2 x.e.1.v.length y.e.1.v.length rfl rfl p.world ⟨(hm1.ev.below p.bel).row, hm1.ev.leni⟩ ⟨(hm2.ev.below p.bel).row, hm2.ev.leni⟩
    unfold sEB at hqe
    rw [hqe] at this
    exact this
  have HSL : Hid (∀ p : Later W, Calls Tryd.prog 77 #[.slice x.lA x.l.length x.lc, .slice y.lA y.l.length y.lc, .func (.func 76) #[] #[]] p.world (fun e w' => e = .returned (.bool ql) ∧ Below p.world.heap.size p.world w')) := Lib.hid fun p => by
    have := equalents_big x.l.length x.lc y.l.length y.lc x.lA y.lA x.l y.l rfl rfl hm1.ln hm2.ln p.world (hm1.en.below p.bel) (hm2.en.below p.bel)
    rw [hql] at this
    exact this
  have HSR : Hid (∀ p : Later W, Calls Tryd.prog 78 #[.agg #[.slice x.rA x.ns.length x.rc, .int .i64 x.each, .int .i64 x.keep], .agg #[.slice y.rA y.ns.length y.rc, .int .i64 y.each, .int .i64 y.keep]] p.world (fun e w' => e = .returned (.bool qr) ∧ Below p.world.heap.size p.world w')) := Lib.hid fun p => by
    have := ringsame_gen x.rA y.rA x.ns.length y.ns.length x.rc y.rc x.ns y.ns x.each x.keep y.each y.keep rfl rfl hm1.rl hm2.rl p.world ((hm1.rn.below p.bel).more p.bel.size) ((hm2.rn.below p.bel).more p.bel.size)
    rw [hqr] at this
    exact this
  have x5 := later_blk_cell hx 5 (.int .i64 x.n) rfl
  have y5 := later_blk_cell hy 5 (.int .i64 y.n) rfl
  have x6 := later_blk_cell hx 6 (.bool x.flag) rfl
  have y6 := later_blk_cell hy 6 (.bool y.flag) rfl
  have x7 := later_blk_cell hx 7 (.string ⟨x.e.1.k.toArray⟩) rfl
  have y7 := later_blk_cell hy 7 (.string ⟨y.e.1.k.toArray⟩) rfl
  have x8 := later_blk_cell hx 8 (.int .i64 x.e.1.s) rfl
  have y8 := later_blk_cell hy 8 (.int .i64 y.e.1.s) rfl
  have x9 := later_blk_cell hx 9 (.int .i64 x.e.1.u) rfl
  have y9 := later_blk_cell hy 9 (.int .i64 y.e.1.u) rfl
  have x10 := later_blk_cell hx 10 (.int .i64 x.e.1.o) rfl
  have y10 := later_blk_cell hy 10 (.int .i64 y.e.1.o) rfl
  have x11 := later_blk_cell hx 11 (.bool x.e.1.has) rfl
  have y11 := later_blk_cell hy 11 (.bool y.e.1.has) rfl
  have x12 := later_blk_cell hx 12 (.slice x.e.2.1 x.e.1.v.length x.e.2.2) rfl
  have y12 := later_blk_cell hy 12 (.slice y.e.2.1 y.e.1.v.length y.e.2.2) rfl
  have x13 := later_blk_cell hx 13 (.slice x.lA x.l.length x.lc) rfl
  have y13 := later_blk_cell hy 13 (.slice y.lA y.l.length y.lc) rfl
  have x14 := later_blk_cell hx 14 (.slice x.rA x.ns.length x.rc) rfl
  have y14 := later_blk_cell hy 14 (.slice y.rA y.ns.length y.rc) rfl
  have x15 := later_blk_cell hx 15 (.int .i64 x.each) rfl
  have y15 := later_blk_cell hy 15 (.int .i64 y.each) rfl
  have x16 := later_blk_cell hx 16 (.int .i64 x.keep) rfl
  have y16 := later_blk_cell hy 16 (.int .i64 y.keep) rfl
  rw [hR]
  have HB := Lib.hid hb
  clear h h' hb hx hy hm1 hm2 hR hqe hql hqr hq0
  cases q0
  · as_aux_lemma =>
    go_enter Tryd.func24, Tryd.ntmps24
    go_wp2_with fail
    refine wp_region_later (by kernel_rfl) (by kernel_rfl) ?_
    go_big_quiet_want
    refine quiet_loadrow 34 (.tmp 2) rfl (w.heap.size) rfl HLX.out Tryd.underlying34 rfl (by kernel_rfl) ?_
    simp only [Act.put, List.setIfInBounds_toArray, List.set_cons_succ, List.set_cons_zero]
    go_big_quiet_on
    go_big_quiet_step ((go_at_call 30; exact later_of (HH1.out _)))
    go_big_quiet_want
    refine quiet_loadrow 34 (.tmp 3) rfl (w.heap.size + 1) rfl HLY.out Tryd.underlying34 rfl (by kernel_rfl) ?_
    simp only [Act.put, List.setIfInBounds_toArray, List.set_cons_succ, List.set_cons_zero]
    go_big_quiet_on
    go_big_quiet_step ((go_at_call 30; exact later_of (HH2.out _)))
    repeat (go_big_quiet_step (first
      | (go_at_call 76; exact later_of (HSE.out _))
      | (go_at_call 77; exact later_of (HSL.out _))
      | (go_at_call 78; exact later_of (HSR.out _))))
    refine wpQuiet_nil ?_
    intro w' hw'
    obtain ⟨p, rfl⟩ := hw'
    go_wp2
    go_ret
    exact isB_of (by simp) (HB.out.trans (p.bel.mono HB.out.size))
  cases q1
  · as_aux_lemma =>
    go_enter Tryd.func24, Tryd.ntmps24
    go_wp2_with fail
    refine wp_region_later (by kernel_rfl) (by kernel_rfl) ?_
    go_big_quiet_want
    refine quiet_loadrow 34 (.tmp 2) rfl (w.heap.size) rfl HLX.out Tryd.underlying34 rfl (by kernel_rfl) ?_
    simp only [Act.put, List.setIfInBounds_toArray, List.set_cons_succ, List.set_cons_zero]
    go_big_quiet_on
    go_big_quiet_step ((go_at_call 30; exact later_of (HH1.out _)))
    go_big_quiet_want
    refine quiet_loadrow 34 (.tmp 3) rfl (w.heap.size + 1) rfl HLY.out Tryd.underlying34 rfl (by kernel_rfl) ?_
    simp only [Act.put, List.setIfInBounds_toArray, List.set_cons_succ, List.set_cons_zero]
    go_big_quiet_on
    go_big_quiet_step ((go_at_call 30; exact later_of (HH2.out _)))
    repeat (go_big_quiet_step (first
      | (go_at_call 76; exact later_of (HSE.out _))
      | (go_at_call 77; exact later_of (HSL.out _))
      | (go_at_call 78; exact later_of (HSR.out _))))
    refine wpQuiet_nil ?_
    intro w' hw'
    obtain ⟨p, rfl⟩ := hw'
    go_wp2
    go_ret
    exact isB_of (by simp) (HB.out.trans (p.bel.mono HB.out.size))
  cases q2
  · as_aux_lemma =>
    go_enter Tryd.func24, Tryd.ntmps24
    go_wp2_with fail
    refine wp_region_later (by kernel_rfl) (by kernel_rfl) ?_
    go_big_quiet_want
    refine quiet_loadrow 34 (.tmp 2) rfl (w.heap.size) rfl HLX.out Tryd.underlying34 rfl (by kernel_rfl) ?_
    simp only [Act.put, List.setIfInBounds_toArray, List.set_cons_succ, List.set_cons_zero]
    go_big_quiet_on
    go_big_quiet_step ((go_at_call 30; exact later_of (HH1.out _)))
    go_big_quiet_want
    refine quiet_loadrow 34 (.tmp 3) rfl (w.heap.size + 1) rfl HLY.out Tryd.underlying34 rfl (by kernel_rfl) ?_
    simp only [Act.put, List.setIfInBounds_toArray, List.set_cons_succ, List.set_cons_zero]
    go_big_quiet_on
    go_big_quiet_step ((go_at_call 30; exact later_of (HH2.out _)))
    repeat (go_big_quiet_step (first
      | (go_at_call 76; exact later_of (HSE.out _))
      | (go_at_call 77; exact later_of (HSL.out _))
      | (go_at_call 78; exact later_of (HSR.out _))))
    refine wpQuiet_nil ?_
    intro w' hw'
    obtain ⟨p, rfl⟩ := hw'
    go_wp2
    go_ret
    exact isB_of (by simp) (HB.out.trans (p.bel.mono HB.out.size))
  cases qe
  · as_aux_lemma =>
    go_enter Tryd.func24, Tryd.ntmps24
    go_wp2_with fail
    refine wp_region_later (by kernel_rfl) (by kernel_rfl) ?_
    go_big_quiet_want
    refine quiet_loadrow 34 (.tmp 2) rfl (w.heap.size) rfl HLX.out Tryd.underlying34 rfl (by kernel_rfl) ?_
    simp only [Act.put, List.setIfInBounds_toArray, List.set_cons_succ, List.set_cons_zero]
    go_big_quiet_on
    go_big_quiet_step ((go_at_call 30; exact later_of (HH1.out _)))
    go_big_quiet_want
    refine quiet_loadrow 34 (.tmp 3) rfl (w.heap.size + 1) rfl HLY.out Tryd.underlying34 rfl (by kernel_rfl) ?_
    simp only [Act.put, List.setIfInBounds_toArray, List.set_cons_succ, List.set_cons_zero]
    go_big_quiet_on
    go_big_quiet_step ((go_at_call 30; exact later_of (HH2.out _)))
    repeat (go_big_quiet_step (first
      | (go_at_call 76; exact later_of (HSE.out _))
      | (go_at_call 77; exact later_of (HSL.out _))
      | (go_at_call 78; exact later_of (HSR.out _))))
    refine wpQuiet_nil ?_
    intro w' hw'
    obtain ⟨p, rfl⟩ := hw'
    go_wp2
    go_ret
    exact isB_of (by simp) (HB.out.trans (p.bel.mono HB.out.size))
  cases ql
  · as_aux_lemma =>
    go_enter Tryd.func24, Tryd.ntmps24
    go_wp2_with fail
    refine wp_region_later (by kernel_rfl) (by kernel_rfl) ?_
    go_big_quiet_want
    refine quiet_loadrow 34 (.tmp 2) rfl (w.heap.size) rfl HLX.out Tryd.underlying34 rfl (by kernel_rfl) ?_
    simp only [Act.put, List.setIfInBounds_toArray, List.set_cons_succ, List.set_cons_zero]
    go_big_quiet_on
    go_big_quiet_step ((go_at_call 30; exact later_of (HH1.out _)))
    go_big_quiet_want
    refine quiet_loadrow 34 (.tmp 3) rfl (w.heap.size + 1) rfl HLY.out Tryd.underlying34 rfl (by kernel_rfl) ?_
    simp only [Act.put, List.setIfInBounds_toArray, List.set_cons_succ, List.set_cons_zero]
    go_big_quiet_on
    go_big_quiet_step ((go_at_call 30; exact later_of (HH2.out _)))
    repeat (go_big_quiet_step (first
      | (go_at_call 76; exact later_of (HSE.out _))
      | (go_at_call 77; exact later_of (HSL.out _))
      | (go_at_call 78; exact later_of (HSR.out _))))
    refine wpQuiet_nil ?_
    intro w' hw'
    obtain ⟨p, rfl⟩ := hw'
    go_wp2
    go_ret
    exact isB_of (by simp) (HB.out.trans (p.bel.mono HB.out.size))
  go_enter Tryd.func24, Tryd.ntmps24
  go_wp2_with fail
  refine wp_region_later (by kernel_rfl) (by kernel_rfl) ?_
  go_big_quiet_want
  refine quiet_loadrow 34 (.tmp 2) rfl (w.heap.size) rfl HLX.out Tryd.underlying34 rfl (by kernel_rfl) ?_
  simp only [Act.put, List.setIfInBounds_toArray, List.set_cons_succ, List.set_cons_zero]
  go_big_quiet_on
  go_big_quiet_step ((go_at_call 30; exact later_of (HH1.out _)))
  go_big_quiet_want
  refine quiet_loadrow 34 (.tmp 3) rfl (w.heap.size + 1) rfl HLY.out Tryd.underlying34 rfl (by kernel_rfl) ?_
  simp only [Act.put, List.setIfInBounds_toArray, List.set_cons_succ, List.set_cons_zero]
  go_big_quiet_on
  go_big_quiet_step ((go_at_call 30; exact later_of (HH2.out _)))
  repeat (go_big_quiet_step (first
    | (go_at_call 76; exact later_of (HSE.out _))
    | (go_at_call 77; exact later_of (HSL.out _))
    | (go_at_call 78; exact later_of (HSR.out _))))
  refine wpQuiet_nil ?_
  intro w' hw'
  obtain ⟨p, rfl⟩ := hw'
  go_wp2
  go_ret
  exact isB_of (by simp) (HB.out.trans (p.bel.mono HB.out.size))
end Go.Proofs.YtgmennblbeefhaaDoor
