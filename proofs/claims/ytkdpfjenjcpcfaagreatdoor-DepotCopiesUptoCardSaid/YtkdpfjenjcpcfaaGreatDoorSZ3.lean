/- SvI: What a message makes of a server: (*depot.Server).Handle (written by tools/gen_svi.py). -/
/- SvO: Things to be done to a server, as they come in; how much they have in them. -/
import Derived.Test.YtkdpfjenjcpcfaaGreatDoorSZ1
import Derived.Test.YtkdpfjenjcpcfaaGreatDoorSZ2
import Derived.Test.YtkdpfjenjcpcfaaGreatDoorMsF
import Derived.Test.YtkdpfjenjcpcfaaGreatDoorMZ1
namespace Go.Proofs.YtkdpfjenjcpcfaaGreatDoor
open Go.RowKit Mem Be Word Frm Go.Maps Rg
set_option maxRecDepth 100000
set_option maxHeartbeats 8000000
set_option linter.unusedVariables false
theorem ms_litN {F : Nat → Prop} {w : World} {x : MV} {g : Nat} (h : Blk w g 51 ⟨mL x⟩) (hf : ¬ F g) : RowN F w (some ⟨g, 0, none⟩) (msC [x]) := by
  refine Or.inr ⟨g, 0, rfl, hf, h.lt, fun j hj => ?_⟩
  have e : msC [x] = mL x := by simp [msC]
  have h1 := h.cell (0 + j)
  rw [h1]
  have hj2 : j < (mL x).length := by rw [← e]; exact hj
  rw [Nat.zero_add]
  rw [List.getElem_of_eq e hj]
  show (⟨mL x⟩ : Array Value)[j]? = _
  rw [List.getElem?_toArray, List.getElem?_eq_getElem hj2]
/-- Some blocks, and all that were there. -/
def OldB (F : Nat → Prop) (w : World) : Nat → Prop := fun k => F k ∨ k < w.heap.size
theorem MsN.mono {F G : Nat → Prop} {w : World} {A : Option Addr} {us : List MV} (h : MsN F w A us) (hg : ∀ k, G k → F k) : MsN G w A us := by
  have hr : ∀ {A : Option Addr} {xs : List Value}, RowN F w A xs → RowN G w A xs := fun h => by
    rcases h with h | ⟨b, o, rfl, hf, hb, hc⟩
    · exact Or.inl h
    · exact Or.inr ⟨b, o, rfl, fun h => hf (hg b h), hb, hc⟩
  exact ⟨hr h.row, fun x hx => ⟨hr (h.val x hx).1, (h.val x hx).2⟩⟩
/-- What a message leaves of a server, and what is sent. -/
def HandP (F : Nat → Prop) (g : Nat) (S : St8) (ps : Ps14) (q : Nat) (out : List MsgP) (S' : St8) (ps' : Ps14) (w : World) (e : Ending) (w' : World) : Prop :=
  ∃ F' us A c, e = .returned (.slice A us.length c) ∧ us.map mP = out ∧ MsN (OldB F' w) w' A us ∧ (∀ k, F' k → F k ∨ w.heap.size ≤ k) ∧ SvAt w' F' g S' ps' q ∧ Touch F w w'
theorem handP_none {F : Nat → Prop} {g q : Nat} {S : St8} {ps : Ps14} {w w' : World} {e : Ending} (h : SvAt w F g S ps q) (he : e = .returned (.slice none 0 0)) (hb : Below w.heap.size w w') : HandP F g S ps q [] S ps w e w' :=
  ⟨F, [], none, 0, he, rfl, msN_nil _ _ _, fun k hk => Or.inl hk, h.below hb, Touch.ofBelow hb⟩
theorem svhand_off (F : Nat → Prop) (g q : Nat) (S : St8) (ps : Ps14) (x : MV) (hd : x.dst ≠ 1) (w : World) (h : SvAt w F g S ps q) :
    Calls Tryz.prog 20 #[.pointer (some ⟨g, 0, none⟩), .agg #[.int .i64 x.kind, .int .i64 x.fr, .int .i64 x.dst, .int .i64 x.ep, .int .i64 x.op, .int .i64 x.n, .bool x.flag, .string ⟨x.e.1.k.toArray⟩, .int .i64 x.e.1.s, .int .i64 x.e.1.u, .int .i64 x.e.1.o, .bool x.e.1.has, .slice x.e.2.1 x.e.1.v.length x.e.2.2, .slice x.lA x.l.length x.lc, .slice x.rA x.ns.length x.rc, .int .i64 x.each, .int .i64 x.keep]] w (HandP F g S ps q [] S ps w) := by
  have hb : Below w.heap.size w (w.alloc (.cells #[.int .i64 x.kind, .int .i64 x.fr, .int .i64 x.dst, .int .i64 x.ep, .int .i64 x.op, .int .i64 x.n, .bool x.flag, .string ⟨x.e.1.k.toArray⟩, .int .i64 x.e.1.s, .int .i64 x.e.1.u, .int .i64 x.e.1.o, .bool x.e.1.has, .slice x.e.2.1 x.e.1.v.length x.e.2.2, .slice x.lA x.l.length x.lc, .slice x.rA x.ns.length x.rc, .int .i64 x.each, .int .i64 x.keep] 51)) := (Below.refl _ _).alloc (Nat.le_refl _) _
  have HK := Lib.hid (Blk.new w 51 #[.int .i64 x.kind, .int .i64 x.fr, .int .i64 x.dst, .int .i64 x.ep, .int .i64 x.op, .int .i64 x.n, .bool x.flag, .string ⟨x.e.1.k.toArray⟩, .int .i64 x.e.1.s, .int .i64 x.e.1.u, .int .i64 x.e.1.o, .bool x.e.1.has, .slice x.e.2.1 x.e.1.v.length x.e.2.2, .slice x.lA x.l.length x.lc, .slice x.rA x.ns.length x.rc, .int .i64 x.each, .int .i64 x.keep])
  have HB := Lib.hid hb
  have HSV := Lib.hid h
  have HG : Hid (g < w.heap.size) := Lib.hid (by
    obtain ⟨K, FS, hs⟩ := h.stAt
    exact st_glt hs)
  have n1 : (x.dst == 1) = false := by simpa using hd
  have n2 : (x.dst != 1) = true := by simpa using hd
  clear hb h hd
  go_enter Tryz.func20, Tryz.ntmps20
  go_wp2
  go_ret
  exact handP_none HSV.out rfl HB.out
theorem svhand_bad (F : Nat → Prop) (g q : Nat) (S : St8) (ps : Ps14) (x : MV) (hd : x.dst = 1) (hc : checkM (mP x) = 2) (w : World) (ht : KT w) (h : SvAt w F g S ps q) (hm : MsgM w x) :
    Calls Tryz.prog 20 #[.pointer (some ⟨g, 0, none⟩), .agg #[.int .i64 x.kind, .int .i64 x.fr, .int .i64 x.dst, .int .i64 x.ep, .int .i64 x.op, .int .i64 x.n, .bool x.flag, .string ⟨x.e.1.k.toArray⟩, .int .i64 x.e.1.s, .int .i64 x.e.1.u, .int .i64 x.e.1.o, .bool x.e.1.has, .slice x.e.2.1 x.e.1.v.length x.e.2.2, .slice x.lA x.l.length x.lc, .slice x.rA x.ns.length x.rc, .int .i64 x.each, .int .i64 x.keep]] w (HandP F g S ps q [] S ps w) := by
  have hb : Below w.heap.size w (w.alloc (.cells #[.int .i64 x.kind, .int .i64 x.fr, .int .i64 x.dst, .int .i64 x.ep, .int .i64 x.op, .int .i64 x.n, .bool x.flag, .string ⟨x.e.1.k.toArray⟩, .int .i64 x.e.1.s, .int .i64 x.e.1.u, .int .i64 x.e.1.o, .bool x.e.1.has, .slice x.e.2.1 x.e.1.v.length x.e.2.2, .slice x.lA x.l.length x.lc, .slice x.rA x.ns.length x.rc, .int .i64 x.each, .int .i64 x.keep] 51)) := (Below.refl _ _).alloc (Nat.le_refl _) _
  have HK := Lib.hid (Blk.new w 51 #[.int .i64 x.kind, .int .i64 x.fr, .int .i64 x.dst, .int .i64 x.ep, .int .i64 x.op, .int .i64 x.n, .bool x.flag, .string ⟨x.e.1.k.toArray⟩, .int .i64 x.e.1.s, .int .i64 x.e.1.u, .int .i64 x.e.1.o, .bool x.e.1.has, .slice x.e.2.1 x.e.1.v.length x.e.2.2, .slice x.lA x.l.length x.lc, .slice x.rA x.ns.length x.rc, .int .i64 x.each, .int .i64 x.keep])
  have HB := Lib.hid hb
  have HSV := Lib.hid h
  have HG : Hid (g < w.heap.size) := Lib.hid (by
    obtain ⟨K, FS, hs⟩ := h.stAt
    exact st_glt hs)
  have HC0 := checkm_any x _ (ht.below hb) (hm.below hb)
  rw [hc] at HC0
  have HC := Lib.hid HC0
  rw [hd] at HK HB HC
  rw [hd]
  clear hb h hd hc HC0 ht hm
  go_enter Tryz.func20, Tryz.ntmps20
  go_wp2_with (refine load_rowG rfl 51 _ rfl _ rfl _ _ _ _ (show _ = _ from HK.out) Tryz.underlying51 rfl (by kernel_rfl) ?_)
  refine HC.out.mono ?_
  rintro e w1 ⟨rfl, hb1⟩
  have HB1 := Lib.hid (HB.out.trans (hb1.mono HB.out.size))
  clear hb1 HC
  go_wp2
  go_ret
  exact handP_none HSV.out rfl HB1.out
theorem svhand_else (F : Nat → Prop) (g q : Nat) (S : St8) (ps : Ps14) (x : MV) (hd : x.dst = 1) (hc : checkM (mP x) = 0) (h7 : x.kind ≠ 7) (h10 : x.kind ≠ 10) (w : World) (ht : KT w) (h : SvAt w F g S ps q) (hm : MsgM w x) :
    Calls Tryz.prog 20 #[.pointer (some ⟨g, 0, none⟩), .agg #[.int .i64 x.kind, .int .i64 x.fr, .int .i64 x.dst, .int .i64 x.ep, .int .i64 x.op, .int .i64 x.n, .bool x.flag, .string ⟨x.e.1.k.toArray⟩, .int .i64 x.e.1.s, .int .i64 x.e.1.u, .int .i64 x.e.1.o, .bool x.e.1.has, .slice x.e.2.1 x.e.1.v.length x.e.2.2, .slice x.lA x.l.length x.lc, .slice x.rA x.ns.length x.rc, .int .i64 x.each, .int .i64 x.keep]] w (HandP F g S ps q [] S ps w) := by
  have hb : Below w.heap.size w (w.alloc (.cells #[.int .i64 x.kind, .int .i64 x.fr, .int .i64 x.dst, .int .i64 x.ep, .int .i64 x.op, .int .i64 x.n, .bool x.flag, .string ⟨x.e.1.k.toArray⟩, .int .i64 x.e.1.s, .int .i64 x.e.1.u, .int .i64 x.e.1.o, .bool x.e.1.has, .slice x.e.2.1 x.e.1.v.length x.e.2.2, .slice x.lA x.l.length x.lc, .slice x.rA x.ns.length x.rc, .int .i64 x.each, .int .i64 x.keep] 51)) := (Below.refl _ _).alloc (Nat.le_refl _) _
  have HK := Lib.hid (Blk.new w 51 #[.int .i64 x.kind, .int .i64 x.fr, .int .i64 x.dst, .int .i64 x.ep, .int .i64 x.op, .int .i64 x.n, .bool x.flag, .string ⟨x.e.1.k.toArray⟩, .int .i64 x.e.1.s, .int .i64 x.e.1.u, .int .i64 x.e.1.o, .bool x.e.1.has, .slice x.e.2.1 x.e.1.v.length x.e.2.2, .slice x.lA x.l.length x.lc, .slice x.rA x.ns.length x.rc, .int .i64 x.each, .int .i64 x.keep])
  have HB := Lib.hid hb
  have HSV := Lib.hid h
  have HG : Hid (g < w.heap.size) := Lib.hid (by
    obtain ⟨K, FS, hs⟩ := h.stAt
    exact st_glt hs)
  have HC0 := checkm_any x _ (ht.below hb) (hm.below hb)
  rw [hc] at HC0
  have HC := Lib.hid HC0
  have n1 : (x.kind == 7) = false := by simpa using h7
  have n2 : (x.kind == 10) = false := by simpa using h10
  rw [hd] at HK HB HC
  rw [hd]
  clear hb h hd hc HC0 ht hm h7 h10
  go_enter Tryz.func20, Tryz.ntmps20
  go_wp2_with (refine load_rowG rfl 51 _ rfl _ rfl _ _ _ _ (show _ = _ from HK.out) Tryz.underlying51 rfl (by kernel_rfl) ?_)
  refine HC.out.mono ?_
  rintro e w1 ⟨rfl, hb1⟩
  have HB1 := Lib.hid (HB.out.trans (hb1.mono HB.out.size))
  have HK1 := Lib.hid (HK.out.below hb1 HK.out.lt)
  have k0 : w1.cell? ⟨w.heap.size, 0, none⟩ = some (.int .i64 x.kind) := HK1.out.cell 0
  clear hb1 HC
  go_wp2
  go_ret
  exact handP_none HSV.out rfl HB1.out
theorem svhand_flush (F : Nat → Prop) (g q : Nat) (S : St8) (ps : Ps14) (x : MV) (hd : x.dst = 1) (hc : checkM (mP x) = 0) (h10 : x.kind = 10) (hacks : S.acks.length ≤ 1466015503701) (hps : ps.length ≤ 700000000000) (w : World) (ht : KT w) (h : SvAt w F g S ps q) (hm : MsgM w x) (hN : RowN F w x.e.2.1 (x.e.1.v.map byteV)) :
    Calls Tryz.prog 20 #[.pointer (some ⟨g, 0, none⟩), .agg #[.int .i64 x.kind, .int .i64 x.fr, .int .i64 x.dst, .int .i64 x.ep, .int .i64 x.op, .int .i64 x.n, .bool x.flag, .string ⟨x.e.1.k.toArray⟩, .int .i64 x.e.1.s, .int .i64 x.e.1.u, .int .i64 x.e.1.o, .bool x.e.1.has, .slice x.e.2.1 x.e.1.v.length x.e.2.2, .slice x.lA x.l.length x.lc, .slice x.rA x.ns.length x.rc, .int .i64 x.each, .int .i64 x.keep]] w (HandP F g S ps q [] (putS S x.e.1 x.fr).1 (putP S ps x.e.1 x.fr) w) := by
  have hb : Below w.heap.size w (w.alloc (.cells #[.int .i64 x.kind, .int .i64 x.fr, .int .i64 x.dst, .int .i64 x.ep, .int .i64 x.op, .int .i64 x.n, .bool x.flag, .string ⟨x.e.1.k.toArray⟩, .int .i64 x.e.1.s, .int .i64 x.e.1.u, .int .i64 x.e.1.o, .bool x.e.1.has, .slice x.e.2.1 x.e.1.v.length x.e.2.2, .slice x.lA x.l.length x.lc, .slice x.rA x.ns.length x.rc, .int .i64 x.each, .int .i64 x.keep] 51)) := (Below.refl _ _).alloc (Nat.le_refl _) _
  have HK := Lib.hid (Blk.new w 51 #[.int .i64 x.kind, .int .i64 x.fr, .int .i64 x.dst, .int .i64 x.ep, .int .i64 x.op, .int .i64 x.n, .bool x.flag, .string ⟨x.e.1.k.toArray⟩, .int .i64 x.e.1.s, .int .i64 x.e.1.u, .int .i64 x.e.1.o, .bool x.e.1.has, .slice x.e.2.1 x.e.1.v.length x.e.2.2, .slice x.lA x.l.length x.lc, .slice x.rA x.ns.length x.rc, .int .i64 x.each, .int .i64 x.keep])
  have HB := Lib.hid hb
  have HSV := Lib.hid h
  have HG : Hid (g < w.heap.size) := Lib.hid (by
    obtain ⟨K, FS, hs⟩ := h.stAt
    exact st_glt hs)
  have HC0 := checkm_any x _ (ht.below hb) (hm.below hb)
  rw [hc] at HC0
  have HC := Lib.hid HC0
  have HP : Hid (∀ W, Below w.heap.size w W → Calls Tryz.prog 52 #[.pointer (some ⟨g, 0, none⟩), .agg #[.string ⟨x.e.1.k.toArray⟩, .int .i64 x.e.1.s, .int .i64 x.e.1.u, .int .i64 x.e.1.o, .bool x.e.1.has, .slice x.e.2.1 x.e.1.v.length x.e.2.2], .int .i64 x.fr] W (SvTo (.int .i64 (putS S x.e.1 x.fr).2) F g (putS S x.e.1 x.fr).1 (putP S ps x.e.1 x.fr) q W)) := Lib.hid fun W hW =>
    svput_any F g q S ps x.e x.fr hacks hps hm.ev.leni hm.ev.kleni W (h.below hW) ((hm.ev.row.below hW).more hW.size) hm.ev.cap (hN.touch (Touch.ofBelow hW))
  obtain ⟨c2, hc2⟩ : ∃ c2, (putS S x.e.1 x.fr).2 = c2 := ⟨_, rfl⟩
  obtain ⟨S2, hS2⟩ : ∃ S2, (putS S x.e.1 x.fr).1 = S2 := ⟨_, rfl⟩
  obtain ⟨p2, hp2⟩ : ∃ p2, putP S ps x.e.1 x.fr = p2 := ⟨_, rfl⟩
  rw [hc2, hS2, hp2] at HP
  rw [hS2, hp2]
  rw [hd, h10] at HK HB HC
  rw [hd, h10]
  clear hb h hd hc HC0 ht hm h10 hN hacks hps hc2 hS2 hp2
  go_enter Tryz.func20, Tryz.ntmps20
  go_wp2_with (refine load_rowG rfl 51 _ rfl _ rfl _ _ _ _ (show _ = _ from HK.out) Tryz.underlying51 rfl (by kernel_rfl) ?_)
  refine HC.out.mono ?_
  rintro e w1 ⟨rfl, hb1⟩
  have HB1 := Lib.hid (HB.out.trans (hb1.mono HB.out.size))
  have HK1 := Lib.hid (HK.out.below hb1 HK.out.lt)
  have HBD : Hid (Below w.heap.size w w1.drew) := Lib.hid HB1.out.drew
  have k0 : w1.cell? ⟨w.heap.size, 0, none⟩ = some (.int .i64 10) := HK1.out.cell 0
  have k1 : w1.cell? ⟨w.heap.size, 1, none⟩ = some (.int .i64 x.fr) := HK1.out.cell 1
  have k7 : w1.cell? ⟨w.heap.size, 7, none⟩ = some (.string ⟨x.e.1.k.toArray⟩) := HK1.out.cell 7
  have k8 : w1.cell? ⟨w.heap.size, 8, none⟩ = some (.int .i64 x.e.1.s) := HK1.out.cell 8
  have k9 : w1.cell? ⟨w.heap.size, 9, none⟩ = some (.int .i64 x.e.1.u) := HK1.out.cell 9
  have k10 : w1.cell? ⟨w.heap.size, 10, none⟩ = some (.int .i64 x.e.1.o) := HK1.out.cell 10
  have k11 : w1.cell? ⟨w.heap.size, 11, none⟩ = some (.bool x.e.1.has) := HK1.out.cell 11
  have k12 : w1.cell? ⟨w.heap.size, 12, none⟩ = some (.slice x.e.2.1 x.e.1.v.length x.e.2.2) := HK1.out.cell 12
  have hg1 : g < w1.heap.size := by have := HG.out; have := HB1.out.size; omega
  clear hb1 HC
  go_wp2_with fail
  go_region_law (go_simp; go_at_call 52; refine (HP.out _ HBD.out).mono ?_; rintro e w2 hp; have HTO := Lib.hid hp; obtain ⟨rfl, hrest⟩ := hp; clear hrest)
  all_goals
    clear k0 k1 k7 k8 k9 k10 k11 k12
    go_wp2
    go_ret
    obtain ⟨_, F2, hF2, hs2, ht2⟩ := svTo_pre HBD.out HTO.out
    exact ⟨F2, [], none, 0, rfl, rfl, msN_nil _ _ _, hF2, hs2, ht2⟩
theorem svhand_look (F : Nat → Prop) (g q : Nat) (S : St8) (ps : Ps14) (x : MV) (hd : x.dst = 1) (hc : checkM (mP x) = 0) (h7 : x.kind = 7) (w : World) (ht : KT w) (h : SvAt w F g S ps q) (hm : MsgM w x) :
    Calls Tryz.prog 20 #[.pointer (some ⟨g, 0, none⟩), .agg #[.int .i64 x.kind, .int .i64 x.fr, .int .i64 x.dst, .int .i64 x.ep, .int .i64 x.op, .int .i64 x.n, .bool x.flag, .string ⟨x.e.1.k.toArray⟩, .int .i64 x.e.1.s, .int .i64 x.e.1.u, .int .i64 x.e.1.o, .bool x.e.1.has, .slice x.e.2.1 x.e.1.v.length x.e.2.2, .slice x.lA x.l.length x.lc, .slice x.rA x.ns.length x.rc, .int .i64 x.each, .int .i64 x.keep]] w (HandP F g S ps q [foundM S (mP x)] S ps w) := by
  have hb : Below w.heap.size w (w.alloc (.cells #[.int .i64 x.kind, .int .i64 x.fr, .int .i64 x.dst, .int .i64 x.ep, .int .i64 x.op, .int .i64 x.n, .bool x.flag, .string ⟨x.e.1.k.toArray⟩, .int .i64 x.e.1.s, .int .i64 x.e.1.u, .int .i64 x.e.1.o, .bool x.e.1.has, .slice x.e.2.1 x.e.1.v.length x.e.2.2, .slice x.lA x.l.length x.lc, .slice x.rA x.ns.length x.rc, .int .i64 x.each, .int .i64 x.keep] 51)) := (Below.refl _ _).alloc (Nat.le_refl _) _
  have HK := Lib.hid (Blk.new w 51 #[.int .i64 x.kind, .int .i64 x.fr, .int .i64 x.dst, .int .i64 x.ep, .int .i64 x.op, .int .i64 x.n, .bool x.flag, .string ⟨x.e.1.k.toArray⟩, .int .i64 x.e.1.s, .int .i64 x.e.1.u, .int .i64 x.e.1.o, .bool x.e.1.has, .slice x.e.2.1 x.e.1.v.length x.e.2.2, .slice x.lA x.l.length x.lc, .slice x.rA x.ns.length x.rc, .int .i64 x.each, .int .i64 x.keep])
  have HB := Lib.hid hb
  have HSV := Lib.hid h
  have HG : Hid (g < w.heap.size) := Lib.hid (by
    obtain ⟨K, FS, hs⟩ := h.stAt
    exact st_glt hs)
  have HC0 := checkm_any x _ (ht.below hb) (hm.below hb)
  rw [hc] at HC0
  have HC := Lib.hid HC0
  have HT := Lib.hid (ht.below hb)
  have HFM : Hid (foundM S (mP x) = ⟨8, 1, x.fr, x.ep, x.op, 0, false, ofT S.L x.e.1.k, [], [], 0, 0⟩) := Lib.hid (by rw [← hd]; rfl)
  have HGL0 : (ofT S.L x.e.1.k).v.length ≤ 60000 := by
    obtain ⟨K, FS, hs⟩ := h.stAt
    exact ofT_len hs.ok.lOk _
  have HGK0 : (ofT S.L x.e.1.k).k = x.e.1.k := ofT_key S.L x.e.1.k
  have HKL : Hid (x.e.1.k.length ≤ maxLen) := Lib.hid hm.ev.klen
  have HGT0 : ∀ W, Below w.heap.size w W → Calls Tryz.prog 17 #[.pointer (some ⟨g, 0, none⟩), .string ⟨x.e.1.k.toArray⟩] W (GetP (ofT S.L x.e.1.k) W) := fun W hW => svget_any F g q S ps x.e.1.k hm.ev.klen W (h.below hW)
  have HFF : Hid (∀ k, F k → k < w.heap.size) := Lib.hid h.lt
  obtain ⟨y, hy⟩ : ∃ y, ofT S.L x.e.1.k = y := ⟨_, rfl⟩
  rw [hy] at HGT0 HGL0 HGK0 HFM
  have HGT := Lib.hid HGT0
  have HGL := Lib.hid HGL0
  have HGK := Lib.hid HGK0
  rw [HFM.out]
  rw [hd, h7] at HK HB HC HT
  rw [hd, h7]
  clear hb h hd hc HC0 ht hm h7 hy HFM HGT0 HGL0 HGK0
  go_enter Tryz.func20, Tryz.ntmps20
  go_wp2_with (refine load_rowG rfl 51 _ rfl _ rfl _ _ _ _ (show _ = _ from HK.out) Tryz.underlying51 rfl (by kernel_rfl) ?_)
  refine HC.out.mono ?_
  rintro e w1 ⟨rfl, hb1⟩
  have HB1 := Lib.hid (HB.out.trans (hb1.mono HB.out.size))
  have HK1 := Lib.hid (HK.out.below hb1 HK.out.lt)
  have HT1 := Lib.hid (HT.out.below hb1)
  have k0 : w1.cell? ⟨w.heap.size, 0, none⟩ = some (.int .i64 7) := HK1.out.cell 0
  have HBC0 := back_any 8 7 x.fr 1 x.ep x.op x.n x.flag ⟨x.e.1.k.toArray⟩ x.e.1.s x.e.1.u x.e.1.o x.e.1.has x.e.2.1 x.e.1.v.length x.e.2.2 x.lA x.l.length x.lc x.rA x.ns.length x.rc x.each x.keep w1 HT1.out
  have HBC := Lib.hid HBC0
  unfold msgC BackP at HBC
  clear hb1 HC HBC0
  go_wp2_with (refine wpList_load_row rfl 51 _ rfl _ rfl _ _ _ _ (show _ = _ from HK1.out) Tryz.underlying51 rfl (by kernel_rfl) ?_)
  refine HBC.out.mono ?_
  rintro e w2 ⟨rfl, hb2⟩
  have hbk : backKey 8 ⟨x.e.1.k.toArray⟩ = ⟨x.e.1.k.toArray⟩ := rfl
  rw [hbk]
  have HB2 := Lib.hid (HB1.out.trans (hb2.mono HB1.out.size))
  have HK2 := Lib.hid (HK1.out.below hb2 HK1.out.lt)
  clear hb2 HBC HK HK1 k0 hbk HT1 HT
  go_upto_region 6 with (refine wpList_boxM rfl rfl _ rfl 51 #[.int .i64 0, .int .i64 0, .int .i64 0, .int .i64 0, .int .i64 0, .int .i64 0, .bool false, .string ⟨#[]⟩, .int .i64 0, .int .i64 0, .int .i64 0, .bool false, .slice none 0 0, .slice none 0 0, .slice none 0 0, .int .i64 0, .int .i64 0] (by kernel_rfl) _ _ rfl #[.int .i64 8, .int .i64 1, .int .i64 x.fr, .int .i64 x.ep, .int .i64 x.op, .int .i64 0, .bool false, .string ⟨x.e.1.k.toArray⟩, .int .i64 0, .int .i64 0, .int .i64 0, .bool false, .slice none 0 0, .slice none 0 0, .slice none 0 0, .int .i64 0, .int .i64 0] rfl rfl rfl (by kernel_rfl) (by kernel_rfl) ?_)
  obtain ⟨w3, hw3⟩ : ∃ W, w2.alloc (.cells #[.int .i64 8, .int .i64 1, .int .i64 x.fr, .int .i64 x.ep, .int .i64 x.op, .int .i64 0, .bool false, .string ⟨x.e.1.k.toArray⟩, .int .i64 0, .int .i64 0, .int .i64 0, .bool false, .slice none 0 0, .slice none 0 0, .slice none 0 0, .int .i64 0, .int .i64 0] 51) = W := ⟨_, rfl⟩
  obtain ⟨g3, hg3⟩ : ∃ g, w2.heap.size = g := ⟨_, rfl⟩
  have HX3 : Hid (Blk w3 g3 51 #[.int .i64 8, .int .i64 1, .int .i64 x.fr, .int .i64 x.ep, .int .i64 x.op, .int .i64 0, .bool false, .string ⟨x.e.1.k.toArray⟩, .int .i64 0, .int .i64 0, .int .i64 0, .bool false, .slice none 0 0, .slice none 0 0, .slice none 0 0, .int .i64 0, .int .i64 0]) := Lib.hid (by rw [← hw3, ← hg3]; exact Blk.new _ _ _)
  have hb3 : Below w2.heap.size w2 w3 := by rw [← hw3]; exact (Below.refl _ _).alloc (Nat.le_refl _) _
  have HB3 := Lib.hid (HB2.out.trans (hb3.mono HB2.out.size))
  have HK3 := Lib.hid (HK2.out.below hb3 HK2.out.lt)
  have HG3 : Hid (w.heap.size + 1 ≤ g3) := Lib.hid (by rw [← hg3]; exact HK2.out.lt)
  have hg3l : g < w3.heap.size := by have := HG.out; have := HB3.out.size; omega
  have k7 : w3.cell? ⟨w.heap.size, 7, none⟩ = some (.string ⟨x.e.1.k.toArray⟩) := HK3.out.cell 7
  simp only [hw3, hg3]
  clear hb3 hw3 hg3 HB2 HK2
  have HGC := Lib.hid (HGT.out w3 HB3.out)
  go_wp2_with fail
  refine HGC.out.mono ?_
  rintro e w4 ⟨A2, c2, rfl, ho4, hb4⟩
  have HB4 := Lib.hid (HB3.out.trans (hb4.mono HB3.out.size))
  have HX4 := Lib.hid (HX3.out.below hb4 HX3.out.lt)
  have HO4 := Lib.hid ho4
  have HL3 : Hid (g3 < w3.heap.size) := Lib.hid HX3.out.lt
  have r7 : w4.cell? ⟨g3, 7, none⟩ = some (.string ⟨x.e.1.k.toArray⟩) := HX4.out.cell 7
  have r8 : w4.cell? ⟨g3, 8, none⟩ = some (.int .i64 0) := HX4.out.cell 8
  have r9 : w4.cell? ⟨g3, 9, none⟩ = some (.int .i64 0) := HX4.out.cell 9
  have r10 : w4.cell? ⟨g3, 10, none⟩ = some (.int .i64 0) := HX4.out.cell 10
  have r11 : w4.cell? ⟨g3, 11, none⟩ = some (.bool false) := HX4.out.cell 11
  have r12 : w4.cell? ⟨g3, 12, none⟩ = some (.slice none 0 0) := HX4.out.cell 12
  have z7 := HX4.out.frozen 7
  have z8 := HX4.out.frozen 8
  have z9 := HX4.out.frozen 9
  have z10 := HX4.out.frozen 10
  have z11 := HX4.out.frozen 11
  have z12 := HX4.out.frozen 12
  unfold evV
  clear ho4 hb4 HGC HGT k7 HX3 HK3
  go_upto_region 7 with fail
  obtain ⟨w5, hw5⟩ : ∃ W, (((((w4.setCell ⟨g3, 7, none⟩ (.string ⟨y.k.toArray⟩)).setCell ⟨g3, 8, none⟩ (.int .i64 y.s)).setCell ⟨g3, 9, none⟩ (.int .i64 y.u)).setCell ⟨g3, 10, none⟩ (.int .i64 y.o)).setCell ⟨g3, 11, none⟩ (.bool y.has)).setCell ⟨g3, 12, none⟩ (.slice A2 y.v.length c2) = W := ⟨_, rfl⟩
  have HX5 : Hid (Blk w5 g3 51 #[.int .i64 8, .int .i64 1, .int .i64 x.fr, .int .i64 x.ep, .int .i64 x.op, .int .i64 0, .bool false, .string ⟨y.k.toArray⟩, .int .i64 y.s, .int .i64 y.u, .int .i64 y.o, .bool y.has, .slice A2 y.v.length c2, .slice none 0 0, .slice none 0 0, .int .i64 0, .int .i64 0]) := Lib.hid (by rw [← hw5]; exact (((((HX4.out.set_ 7 (.string ⟨y.k.toArray⟩)).set_ 8 (.int .i64 y.s)).set_ 9 (.int .i64 y.u)).set_ 10 (.int .i64 y.o)).set_ 11 (.bool y.has)).set_ 12 (.slice A2 y.v.length c2))
  have HB5 : Hid (Below w.heap.size w w5) := Lib.hid (by
    have hg : w.heap.size ≤ g3 := by have := HG3.out; omega
    rw [← hw5]; exact below_set (below_set (below_set (below_set (below_set (below_set HB4.out hg 7 _) hg 8 _) hg 9 _) hg 10 _) hg 11 _) hg 12 _)
  have HO5 : Hid (w5.ownsRow w.heap.size 5 1 (.slice A2 y.v.length c2) y.v.length (y.v.map byteV)) := Lib.hid (by
    have h3 : g3 < w3.heap.size := HL3.out
    rw [← hw5]
    exact ownBase (own_put (own_put (own_put (own_put (own_put (own_put HO4.out h3 _ _) h3 _ _) h3 _ _) h3 _ _) h3 _ _) h3 _ _) HB3.out.size)
  rw [hw5]
  clear hw5 r7 r8 r9 r10 r11 r12 z7 z8 z9 z10 z11 z12 HX4 HO4 HB4
  go_wp2_with (refine wpList_load_row rfl 51 _ rfl _ rfl _ _ _ _ (show _ = _ from HX5.out) Tryz.underlying51 rfl (by kernel_rfl) ?_)
  have HB6 : Hid (Below w.heap.size w (w5.alloc (.cells #[.int .i64 8, .int .i64 1, .int .i64 x.fr, .int .i64 x.ep, .int .i64 x.op, .int .i64 0, .bool false, .string ⟨y.k.toArray⟩, .int .i64 y.s, .int .i64 y.u, .int .i64 y.o, .bool y.has, .slice A2 y.v.length c2, .slice none 0 0, .slice none 0 0, .int .i64 0, .int .i64 0] 51))) := Lib.hid (HB5.out.alloc HB5.out.size _)
  have HBL : Hid (Blk (w5.alloc (.cells #[.int .i64 8, .int .i64 1, .int .i64 x.fr, .int .i64 x.ep, .int .i64 x.op, .int .i64 0, .bool false, .string ⟨y.k.toArray⟩, .int .i64 y.s, .int .i64 y.u, .int .i64 y.o, .bool y.has, .slice A2 y.v.length c2, .slice none 0 0, .slice none 0 0, .int .i64 0, .int .i64 0] 51)) w5.heap.size 51 #[.int .i64 8, .int .i64 1, .int .i64 x.fr, .int .i64 x.ep, .int .i64 x.op, .int .i64 0, .bool false, .string ⟨y.k.toArray⟩, .int .i64 y.s, .int .i64 y.u, .int .i64 y.o, .bool y.has, .slice A2 y.v.length c2, .slice none 0 0, .slice none 0 0, .int .i64 0, .int .i64 0]) := Lib.hid (Blk.new _ _ _)
  have HO6 : Hid ((w5.alloc (.cells #[.int .i64 8, .int .i64 1, .int .i64 x.fr, .int .i64 x.ep, .int .i64 x.op, .int .i64 0, .bool false, .string ⟨y.k.toArray⟩, .int .i64 y.s, .int .i64 y.u, .int .i64 y.o, .bool y.has, .slice A2 y.v.length c2, .slice none 0 0, .slice none 0 0, .int .i64 0, .int .i64 0] 51)).ownsRow w.heap.size 5 1 (.slice A2 y.v.length c2) y.v.length (y.v.map byteV)) := Lib.hid (ownLater HO5.out ((Below.refl _ _).alloc (Nat.le_refl _) _))
  go_ret
  have hF : ∀ k, OldB F w k → k < w.heap.size := fun k hk => hk.elim (HFF.out k) fun h => h
  have h5 := HB5.out.size
  refine ⟨F, [⟨8, 1, x.fr, x.ep, x.op, 0, false, (y, A2, c2), none, [], 0, none, [], 0, 0, 0⟩], some ⟨w5.heap.size, 0, none⟩, 1, rfl, rfl, ⟨?_, fun z hz => ?_⟩, fun k hk => Or.inl hk, HSV.out.below HB6.out, Touch.ofBelow HB6.out⟩
  · exact ms_litN HBL.out (fun hf => by have := hF _ hf; omega)
  · obtain rfl : z = ⟨8, 1, x.fr, x.ep, x.op, 0, false, (y, A2, c2), none, [], 0, none, [], 0, 0, 0⟩ := by simpa using hz
    have hcap := (own_cap HO6.out).1
    refine ⟨rowN_own hF HO6.out, ?_, ?_, hcap, rfl, rfl⟩
    · show y.v.length ≤ maxLen
      have := HGL.out; unfold maxLen; omega
    · show y.k.length ≤ maxLen
      rw [HGK.out]; exact HKL.out
theorem checkM_02 (m : MsgP) : checkM m = 0 ∨ checkM m = 2 := by unfold checkM; split <;> simp
theorem svhand_any (F : Nat → Prop) (g q : Nat) (S : St8) (ps : Ps14) (x : MV) (hacks : S.acks.length ≤ 1466015503701) (hps : ps.length ≤ 700000000000) (w : World) (ht : KT w) (h : SvAt w F g S ps q) (hm : MsgM w x) (hN : RowN F w x.e.2.1 (x.e.1.v.map byteV)) :
    Calls Tryz.prog 20 #[.pointer (some ⟨g, 0, none⟩), .agg #[.int .i64 x.kind, .int .i64 x.fr, .int .i64 x.dst, .int .i64 x.ep, .int .i64 x.op, .int .i64 x.n, .bool x.flag, .string ⟨x.e.1.k.toArray⟩, .int .i64 x.e.1.s, .int .i64 x.e.1.u, .int .i64 x.e.1.o, .bool x.e.1.has, .slice x.e.2.1 x.e.1.v.length x.e.2.2, .slice x.lA x.l.length x.lc, .slice x.rA x.ns.length x.rc, .int .i64 x.each, .int .i64 x.keep]] w (HandP F g S ps q (handM S (mP x)) (handS S ps (mP x)).1 (handS S ps (mP x)).2 w) := by
  by_cases hd : x.dst = 1
  · rcases checkM_02 (mP x) with hc | hc
    · by_cases h7 : x.kind = 7
      · have e1 : handM S (mP x) = [foundM S (mP x)] := if_pos ⟨hc, hd, h7⟩
        have e2 : handS S ps (mP x) = (S, ps) := if_neg (fun hh => by have h3 : x.kind = 10 := hh.2.2; omega)
        rw [e1, e2]
        exact svhand_look F g q S ps x hd hc h7 w ht h hm
      · have e1 : handM S (mP x) = [] := if_neg (fun hh => h7 hh.2.2)
        by_cases h10 : x.kind = 10
        · have e2 : handS S ps (mP x) = ((putS S x.e.1 x.fr).1, putP S ps x.e.1 x.fr) := if_pos ⟨hc, hd, h10⟩
          rw [e1, e2]
          exact svhand_flush F g q S ps x hd hc h10 hacks hps w ht h hm hN
        · have e2 : handS S ps (mP x) = (S, ps) := if_neg (fun hh => h10 hh.2.2)
          rw [e1, e2]
          exact svhand_else F g q S ps x hd hc h7 h10 w ht h hm
    · have e1 : handM S (mP x) = [] := if_neg (fun hh => by have := hh.1; omega)
      have e2 : handS S ps (mP x) = (S, ps) := if_neg (fun hh => by have := hh.1; omega)
      rw [e1, e2]
      exact svhand_bad F g q S ps x hd hc w ht h hm
  · have e1 : handM S (mP x) = [] := if_neg (fun hh => hd hh.2.1)
    have e2 : handS S ps (mP x) = (S, ps) := if_neg (fun hh => hd hh.2.1)
    rw [e1, e2]
    exact svhand_off F g q S ps x hd w h
end Go.Proofs.YtkdpfjenjcpcfaaGreatDoor
namespace Go.Proofs.YtkdpfjenjcpcfaaGreatDoor
open Go.RowKit Go.ChangeShapes Go.WideShapes Mem Rg
set_option maxRecDepth 100000
set_option maxHeartbeats 4000000
set_option linter.unusedVariables false
structure O14 where
  kind : Int
  m : MV
  kept : Int
abbrev mV0 : MV := ⟨0, 0, 0, 0, 0, 0, false, (⟨[], 0, 0, 0, false, []⟩, none, 0), none, [], 0, none, [], 0, 0, 0⟩
instance o14inh : Inhabited O14 := ⟨⟨0, mV0, 0⟩⟩
def oC (r : O14) : List Value := .int .i64 r.kind :: (mL r.m ++ [.int .i64 r.kept])
abbrev osC (rs : List O14) : List Value := rs.flatMap oC
theorem osC_len (rs : List O14) : (osC rs).length = rs.length * 19 := by
  induction rs with
  | nil => rfl
  | cons p rs ih => simp only [osC, List.flatMap_cons, List.length_append, oC, mL, List.length_cons, List.length_nil]; have := ih; unfold osC at this; omega
theorem osC_at (rs : List O14) (i : Nat) (h : i < rs.length) (j : Nat) (hj : j < 19) : (osC rs)[i * 19 + j]? = (oC rs[i])[j]? := by
  induction rs generalizing i with
  | nil => simp at h
  | cons p rs ih =>
    have hc : osC (p :: rs) = oC p ++ osC rs := rfl
    rw [hc]
    have hl : (oC p).length = 19 := rfl
    rcases i with _ | i
    · rw [List.getElem?_append_left (by omega), Nat.zero_mul, Nat.zero_add]; rfl
    · rw [List.getElem?_append_right (by omega), hl, show (i + 1) * 19 + j - 19 = i * 19 + j by omega, ih i (by simpa using h)]
      rfl
theorem os_open {w : World} {B : Nat} {A : Option Addr} {rs : List O14} (h : Row w B A (osC rs)) (hn : 0 < rs.length) :
    ∃ b o, A = some ⟨b, o, none⟩ ∧ b < B ∧ ∀ i (hi : i < rs.length), ∀ j v, (oC rs[i])[j]? = some v → w.cell? ⟨b, o + i * 19 + j, none⟩ = some v := by
  obtain ⟨b, o, hA, hb, hc⟩ := h.open_ (by rw [osC_len]; omega)
  refine ⟨b, o, hA, hb, fun i hi j v hv => ?_⟩
  have hj : j < 19 := (List.getElem?_eq_some_iff.1 hv).1
  have hlt : i * 19 + j < (osC rs).length := by rw [osC_len]; omega
  rw [show o + i * 19 + j = o + (i * 19 + j) by omega, hc (i * 19 + j) hlt, ← hv, ← osC_at rs i hi j hj, List.getElem?_eq_getElem hlt]
/-- What may come in. -/
structure O14Ok (w : World) (r : O14) : Prop where
  m : MsgM w r.m
  k0 : -9223372036854775808 ≤ r.kind
  k1 : r.kind ≤ 9223372036854775807
  p0 : -9223372036854775808 ≤ r.kept
  p1 : r.kept ≤ 9223372036854775807
/-- Such a row, as it came in. -/
structure InO (w : World) (A : Option Addr) (rs : List O14) : Prop where
  row : Row w w.heap.size A (osC rs)
  ok : ∀ r ∈ rs, O14Ok w r
theorem InO.rowAt {w W : World} {A : Option Addr} {rs : List O14} (h : InO w A rs) (hb : Below w.heap.size w W) : Row W w.heap.size A (osC rs) := h.row.below hb
theorem InO.msg {w W : World} {A : Option Addr} {rs : List O14} (h : InO w A rs) (hb : Below w.heap.size w W) {k : Nat} (hk : k < rs.length) : MsgM W rs[k].m := (h.ok _ (List.getElem_mem hk)).m.below hb
theorem InO.apart {w W : World} {F : Nat → Prop} {A : Option Addr} {rs : List O14} (h : InO w A rs) (hb : Below w.heap.size w W) {k : Nat} (hk : k < rs.length) (hF : ∀ k, F k → w.heap.size ≤ k) : RowN F W rs[k].m.e.2.1 (rs[k].m.e.1.v.map byteV) := RowN.of_low ((h.ok _ (List.getElem_mem hk)).m.ev.row.below hb) hb.size hF
section
variable {H : Type} {enc : TypeId × Value → H} {w : World} {base : Nat} {held : Bool}
theorem msg_cells14 {fuel : Nat} {c0 c1 c2 c3 c4 c5 c6 c7 c8 c9 c10 c11 c12 c13 c14 c15 c16 : Value} {x : DataW H × List MemPlace} (hf : DataW.trod enc Tryz.prog w base (fun _ => true) held fuel 51 [c0, c1, c2, c3, c4, c5, c6, c7, c8, c9, c10, c11, c12, c13, c14, c15, c16] = some x) :
    ∃ y : MV, [c0, c1, c2, c3, c4, c5, c6, c7, c8, c9, c10, c11, c12, c13, c14, c15, c16] = mL y ∧ MsgM w y := by
  obtain ⟨xs, n, _, _, _, hlen, hg⟩ := DataW.trod_struct Tryz.underlying51 hf
  have e1 : Tryz.prog.cellsOf 3 = 1 := by kernel_rfl
  have e2 : Tryz.prog.cellsOf 4 = 1 := by kernel_rfl
  have e3 : Tryz.prog.cellsOf 46 = 6 := by kernel_rfl
  have e4 : Tryz.prog.cellsOf 33 = 1 := by kernel_rfl
  have e5 : Tryz.prog.cellsOf 49 = 3 := by kernel_rfl
  match xs, hlen with
  | [y0, y1, y2, y3, y4, y5, y6, y7, y8, y9], _ =>
    have h0 := hg 0 _ rfl
    have h1 := hg 1 _ rfl
    have h2 := hg 2 _ rfl
    have h3 := hg 3 _ rfl
    have h4 := hg 4 _ rfl
    have h5 := hg 5 _ rfl
    have h6 := hg 6 _ rfl
    have h7 := hg 7 _ rfl
    have h8 := hg 8 _ rfl
    have h9 := hg 9 _ rfl
    obtain ⟨a0, ha0, _, _⟩ := DataW.trod_int Tryz.underlying3 (x := y0) (by simpa [Value.cells, e1, e2, e3, e4, e5] using h0)
    obtain ⟨a1, ha1, _, _⟩ := DataW.trod_int Tryz.underlying3 (x := y1) (by simpa [Value.cells, e1, e2, e3, e4, e5] using h1)
    obtain ⟨a2, ha2, _, _⟩ := DataW.trod_int Tryz.underlying3 (x := y2) (by simpa [Value.cells, e1, e2, e3, e4, e5] using h2)
    obtain ⟨a3, ha3, _, _⟩ := DataW.trod_int Tryz.underlying3 (x := y3) (by simpa [Value.cells, e1, e2, e3, e4, e5] using h3)
    obtain ⟨a4, ha4, _, _⟩ := DataW.trod_int Tryz.underlying3 (x := y4) (by simpa [Value.cells, e1, e2, e3, e4, e5] using h4)
    obtain ⟨a5, ha5, _, _⟩ := DataW.trod_int Tryz.underlying3 (x := y5) (by simpa [Value.cells, e1, e2, e3, e4, e5] using h5)
    obtain ⟨fl, hfl, _⟩ := DataW.trod_bool Tryz.underlying4 (x := y6) (by simpa [Value.cells, e1, e2, e3, e4, e5] using h6)
    obtain ⟨y, hy, hr, hc, hm, hkl⟩ := ent_cells12 (x := y7) (by simpa [Value.cells, e1, e2, e3, e4, e5] using h7)
    have h8' : DataW.trod enc Tryz.prog w base (fun _ => true) held n 33 [c13] = some y8 := by simpa [Value.cells, e1, e2, e3, e4, e5] using h8
    obtain ⟨la, ll, lc, hl13⟩ : ∃ a len cap, c13 = .slice a len cap := by
      rcases DataW.trod_slice Tryz.underlying33 h8' with ⟨hcs, _⟩ | ⟨a, len, cap, _, _, _, _, hcs, _⟩
      · exact ⟨none, 0, 0, by simpa using hcs⟩
      · exact ⟨some a, len, cap, by simpa using hcs⟩
    subst hl13
    obtain ⟨rs, hrs, hlc, hlm, hrow, hval⟩ := open_ents12 h8'
    obtain ⟨rA, ns, rc, re, rk, q1, q2, q3, hrr, hrn, hrm⟩ := ring_cells12 (x := y9) (by simpa [Value.cells, e1, e2, e3, e4, e5] using h9)
    unfold entC at hy
    simp only [List.cons.injEq, and_true] at hy
    obtain ⟨p1, p2, p3, p4, p5, p6⟩ := hy
    subst hrs
    have hb0 : c0 = .int .i64 a0 := by simpa using ha0
    have hb1 : c1 = .int .i64 a1 := by simpa using ha1
    have hb2 : c2 = .int .i64 a2 := by simpa using ha2
    have hb3 : c3 = .int .i64 a3 := by simpa using ha3
    have hb4 : c4 = .int .i64 a4 := by simpa using ha4
    have hb5 : c5 = .int .i64 a5 := by simpa using ha5
    have hb6 : c6 = .bool fl := by simpa using hfl
    refine ⟨⟨a0, a1, a2, a3, a4, a5, fl, y, la, rs, lc, rA, ns, rc, re, rk⟩, ?_, ⟨hr, Nat.le_trans hc hm, hkl, hc⟩, ⟨hrow, hval⟩, by show rs.length ≤ maxLen; omega, hrr, by show ns.length ≤ maxLen; omega⟩
    unfold mL
    rw [hb0, hb1, hb2, hb3, hb4, hb5, hb6, p1, p2, p3, p4, p5, p6, q1, q2, q3]
theorem op_cells14 {fuel : Nat} {d0 d1 d2 d3 d4 d5 d6 d7 d8 d9 d10 d11 d12 d13 d14 d15 d16 d17 d18 : Value} {x : DataW H × List MemPlace} (h : DataW.trod enc Tryz.prog w base (fun _ => true) held fuel 53 [d0, d1, d2, d3, d4, d5, d6, d7, d8, d9, d10, d11, d12, d13, d14, d15, d16, d17, d18] = some x) :
    ∃ r : O14, [d0, d1, d2, d3, d4, d5, d6, d7, d8, d9, d10, d11, d12, d13, d14, d15, d16, d17, d18] = oC r ∧ O14Ok w r := by
  obtain ⟨xs, n, _, _, _, hlen, hg⟩ := DataW.trod_struct Tryz.underlying53 h
  have e1 : Tryz.prog.cellsOf 3 = 1 := by kernel_rfl
  have e2 : Tryz.prog.cellsOf 51 = 17 := by kernel_rfl
  match xs, hlen with
  | [y0, y1, y2], _ =>
    have h0 := hg 0 _ rfl
    have h1 := hg 1 _ rfl
    have h2 := hg 2 _ rfl
    obtain ⟨k, hk, _, wk⟩ := DataW.trod_int Tryz.underlying3 (x := y0) (by simpa [e1, e2] using h0)
    obtain ⟨y, hy, hm⟩ := msg_cells14 (x := y1) (c0 := d1) (c1 := d2) (c2 := d3) (c3 := d4) (c4 := d5) (c5 := d6) (c6 := d7) (c7 := d8) (c8 := d9) (c9 := d10) (c10 := d11) (c11 := d12) (c12 := d13) (c13 := d14) (c14 := d15) (c15 := d16) (c16 := d17) (by simpa [e1, e2] using h1)
    obtain ⟨t, ht, _, wt⟩ := DataW.trod_int Tryz.underlying3 (x := y2) (by simpa [e1, e2] using h2)
    have hkb := bounds_i64 wk
    have htb := bounds_i64 wt
    have hk' : d0 = .int .i64 k := by simpa using hk
    have ht' : d18 = .int .i64 t := by simpa using ht
    refine ⟨⟨k, y, t⟩, ?_, hm, hkb.1, hkb.2, htb.1, htb.2⟩
    unfold oC
    rw [← hy, hk', ht']
    rfl
theorem open_ops {a : Option Addr} {len cap : Nat} {d : DataW H} {ps : List MemPlace} (h : DataW.Trod enc Tryz.prog w base (fun _ => true) held 22 (.slice a len cap) d ps) :
    ∃ rs : List O14, len = rs.length ∧ len ≤ cap ∧ cap ≤ maxLen ∧ InO w a rs := by
  obtain ⟨fuel, hf⟩ := h
  rcases Go.Deep.open_slice Tryz.underlying22 (by simpa [Value.cells] using hf) with ⟨hcs, _⟩ | ⟨x, l, c, m, n, D, Pl, hcs, _, hl, hm, hmm, hd, hx⟩
  · simp only [List.cons.injEq, and_true] at hcs
    injection hcs with h1 h2 h3
    subst h1; subst h2; subst h3
    exact ⟨[], rfl, Nat.le_refl _, by unfold maxLen; omega, ⟨Row.nil _ _ _, by simp⟩⟩
  · simp only [List.cons.injEq, and_true] at hcs
    injection hcs with h1 h2 h3
    subst h1; subst h2; subst h3
    simp only [if_true] at hmm
    subst hmm
    have hC : Tryz.prog.cellsOf 53 = 19 := by kernel_rfl
    rw [hC] at hx
    obtain ⟨V, hV⟩ := Go.Deep.choose_lt (n := len) (α := O14) (p := fun i r => (∀ j, j < 19 → w.cell? (x.add (i * 19 + j)) = (oC r)[j]?) ∧ O14Ok w r) (fun i hi => by
      obtain ⟨cs', h1, h2⟩ := hx i (by omega)
      obtain ⟨_, hlen, hat⟩ := World.cells?_some h1
      match cs', hlen with
      | [d0, d1, d2, d3, d4, d5, d6, d7, d8, d9, d10, d11, d12, d13, d14, d15, d16, d17, d18], _ =>
        obtain ⟨r, hr, ho⟩ := op_cells14 h2
        refine ⟨r, fun j hj => ?_, ho⟩
        rw [← Go.Deep.add_add, hat j hj, hr])
    refine ⟨(List.range len).map V, by simp, hl, hm, ⟨?_, ?_⟩⟩
    · rcases Nat.eq_zero_or_pos len with h0 | h0
      · subst h0; exact Or.inl rfl
      · have hc0 := (hV 0 h0).1 0 (by omega)
        have hc0' : w.cell? x = some (.int .i64 (V 0).kind) := by
          have e : x.add (0 * 19 + 0) = x := by simp [Addr.add]
          rw [e] at hc0; exact hc0
        obtain ⟨b, o, spot⟩ := x
        have hspot : spot = none := World.cell?_spot hc0'
        subst hspot
        refine Or.inr ⟨b, o, rfl, block_lt hc0', fun j hj => ?_⟩
        have hj9 : j < len * 19 := by rw [osC_len] at hj; simpa using hj
        have hi : j / 19 < len := by omega
        have hdd : j = j / 19 * 19 + j % 19 := by omega
        have hv := (hV (j / 19) hi).1 (j % 19) (by omega)
        rw [← hdd] at hv
        have e : (⟨b, o, none⟩ : Addr).add j = ⟨b, o + j, none⟩ := by
          unfold Addr.add; split
          · subst_vars; rfl
          · rfl
        rw [e] at hv
        have ht := osC_at ((List.range len).map V) (j / 19) (by simpa using hi) (j % 19) (by omega)
        rw [← hdd, List.getElem?_eq_getElem hj] at ht
        rw [hv, ht, List.getElem_map, List.getElem_range]
    · intro r hr
      obtain ⟨i, hi, rfl⟩ := List.mem_map.1 hr
      exact (hV i (List.mem_range.1 hi)).2
end
end Go.Proofs.YtkdpfjenjcpcfaaGreatDoor
