/- MsL: How much there is of a message: some number. -/
import Derived.Test.YtgmennblbeefhaaDoorMsN
import Derived.Test.YtgmennblbeefhaaDoorAppS
import Derived.BigQuiet
namespace Go.Proofs.YtgmennblbeefhaaDoor
open Go.RowKit Mem Be Rg
set_option maxRecDepth 100000
set_option maxHeartbeats 8000000
set_option linter.unusedVariables false
def SomeI12 (w : World) (e : Ending) (w' : World) : Prop := ∃ n : Int, e = .returned (.int .i64 n) ∧ Below w.heap.size w w'
def SomeB12 (w : World) (e : Ending) (w' : World) : Prop := ∃ b : Bool, e = .returned (.bool b) ∧ Below w.heap.size w w'
theorem reflong12 (x : MV) (w : World) (h : MsgM w x) : Calls Tryd.prog 27 #[.agg #[.int .i64 x.kind, .int .i64 x.fr, .int .i64 x.dst, .int .i64 x.ep, .int .i64 x.op, .int .i64 x.n, .bool x.flag, .string ⟨x.e.1.k.toArray⟩, .int .i64 x.e.1.s, .int .i64 x.e.1.u, .int .i64 x.e.1.o, .bool x.e.1.has, .slice x.e.2.1 x.e.1.v.length x.e.2.2, .slice x.lA x.l.length x.lc, .slice x.rA x.ns.length x.rc, .int .i64 x.each, .int .i64 x.keep]] w (SomeI12 w) := by
  have hb : Below w.heap.size w (w.alloc (.cells #[.int .i64 x.kind, .int .i64 x.fr, .int .i64 x.dst, .int .i64 x.ep, .int .i64 x.op, .int .i64 x.n, .bool x.flag, .string ⟨x.e.1.k.toArray⟩, .int .i64 x.e.1.s, .int .i64 x.e.1.u, .int .i64 x.e.1.o, .bool x.e.1.has, .slice x.e.2.1 x.e.1.v.length x.e.2.2, .slice x.lA x.l.length x.lc, .slice x.rA x.ns.length x.rc, .int .i64 x.each, .int .i64 x.keep] 34)) := (Below.refl _ _).alloc (Nat.le_refl _) _
  have HK := Lib.hid (Blk.new w 34 #[.int .i64 x.kind, .int .i64 x.fr, .int .i64 x.dst, .int .i64 x.ep, .int .i64 x.op, .int .i64 x.n, .bool x.flag, .string ⟨x.e.1.k.toArray⟩, .int .i64 x.e.1.s, .int .i64 x.e.1.u, .int .i64 x.e.1.o, .bool x.e.1.has, .slice x.e.2.1 x.e.1.v.length x.e.2.2, .slice x.lA x.l.length x.lc, .slice x.rA x.ns.length x.rc, .int .i64 x.each, .int .i64 x.keep])
  have HB := Lib.hid hb
  have HM := Lib.hid (h.below hb)
  have k7 : (w.alloc (.cells #[.int .i64 x.kind, .int .i64 x.fr, .int .i64 x.dst, .int .i64 x.ep, .int .i64 x.op, .int .i64 x.n, .bool x.flag, .string ⟨x.e.1.k.toArray⟩, .int .i64 x.e.1.s, .int .i64 x.e.1.u, .int .i64 x.e.1.o, .bool x.e.1.has, .slice x.e.2.1 x.e.1.v.length x.e.2.2, .slice x.lA x.l.length x.lc, .slice x.rA x.ns.length x.rc, .int .i64 x.each, .int .i64 x.keep] 34)).cell? ⟨w.heap.size, 7, none⟩ = some (.string ⟨x.e.1.k.toArray⟩) := HK.out.cell 7
  have k12 : (w.alloc (.cells #[.int .i64 x.kind, .int .i64 x.fr, .int .i64 x.dst, .int .i64 x.ep, .int .i64 x.op, .int .i64 x.n, .bool x.flag, .string ⟨x.e.1.k.toArray⟩, .int .i64 x.e.1.s, .int .i64 x.e.1.u, .int .i64 x.e.1.o, .bool x.e.1.has, .slice x.e.2.1 x.e.1.v.length x.e.2.2, .slice x.lA x.l.length x.lc, .slice x.rA x.ns.length x.rc, .int .i64 x.each, .int .i64 x.keep] 34)).cell? ⟨w.heap.size, 12, none⟩ = some (.slice x.e.2.1 x.e.1.v.length x.e.2.2) := HK.out.cell 12
  have k13 : (w.alloc (.cells #[.int .i64 x.kind, .int .i64 x.fr, .int .i64 x.dst, .int .i64 x.ep, .int .i64 x.op, .int .i64 x.n, .bool x.flag, .string ⟨x.e.1.k.toArray⟩, .int .i64 x.e.1.s, .int .i64 x.e.1.u, .int .i64 x.e.1.o, .bool x.e.1.has, .slice x.e.2.1 x.e.1.v.length x.e.2.2, .slice x.lA x.l.length x.lc, .slice x.rA x.ns.length x.rc, .int .i64 x.each, .int .i64 x.keep] 34)).cell? ⟨w.heap.size, 13, none⟩ = some (.slice x.lA x.l.length x.lc) := HK.out.cell 13
  have k14 : (w.alloc (.cells #[.int .i64 x.kind, .int .i64 x.fr, .int .i64 x.dst, .int .i64 x.ep, .int .i64 x.op, .int .i64 x.n, .bool x.flag, .string ⟨x.e.1.k.toArray⟩, .int .i64 x.e.1.s, .int .i64 x.e.1.u, .int .i64 x.e.1.o, .bool x.e.1.has, .slice x.e.2.1 x.e.1.v.length x.e.2.2, .slice x.lA x.l.length x.lc, .slice x.rA x.ns.length x.rc, .int .i64 x.each, .int .i64 x.keep] 34)).cell? ⟨w.heap.size, 14, none⟩ = some (.slice x.rA x.ns.length x.rc) := HK.out.cell 14
  obtain ⟨W1, hW1⟩ : ∃ W1, w.alloc (.cells #[.int .i64 x.kind, .int .i64 x.fr, .int .i64 x.dst, .int .i64 x.ep, .int .i64 x.op, .int .i64 x.n, .bool x.flag, .string ⟨x.e.1.k.toArray⟩, .int .i64 x.e.1.s, .int .i64 x.e.1.u, .int .i64 x.e.1.o, .bool x.e.1.has, .slice x.e.2.1 x.e.1.v.length x.e.2.2, .slice x.lA x.l.length x.lc, .slice x.rA x.ns.length x.rc, .int .i64 x.each, .int .i64 x.keep] 34) = W1 := ⟨_, rfl⟩
  rw [hW1] at HB HM k7 k12 k13 k14 HK
  have hmx := HM.out.ln
  have hni : (x.l.length : Int) ≤ 9223372036854775807 := by unfold maxLen at hmx; omega
  have hni0 : (0 : Int) ≤ (x.l.length : Int) := by omega
  obtain ⟨n, hn⟩ : ∃ n, x.l.length = n := ⟨_, rfl⟩
  have HN := Lib.hid hn
  have HK13 : Hid (∀ W, Below W1.heap.size W1 W → W.cell? ⟨w.heap.size, 13, none⟩ = some (.slice x.lA n x.lc)) := Lib.hid fun W hb => by
    rw [← hn]; exact (HK.out.below hb HK.out.lt).cell 13
  rw [hn] at k13 hni hni0
  clear hb h hn hmx
  go_enter Tryd.func27, Tryd.ntmps27
  go_wp2
  clear k7 k12 k13 k14 hW1
  go_loopw [3, 4] (fun z i wr => ∃ k : Nat, k ≤ n ∧ i = .int .i64 k ∧ (∃ q : Int, z = .int .i64 q) ∧ Hid (Below W1.heap.size W1 wr)) (fun _ i _ => n - (intOf i).toNat)
  case atStart => exact ⟨0, by omega, rfl, ⟨_, rfl⟩, Lib.hid (Below.refl _ _)⟩
  case round =>
    obtain ⟨k, hk, rfl, ⟨q, rfl⟩, HBR⟩ := hrel
    by_cases hlt : k < n
    · have hk1 : k < x.l.length := by rw [HN.out]; exact hlt
      obtain ⟨b, o, hlA, hb, hc⟩ := ents_open (HM.out.en.below HBR.out).row (by omega)
      obtain ⟨a0, _, _, _, _, a5⟩ := hc k hk1
      have hEB := HM.out.en.val _ (List.getElem_mem hk1)
      have h13 : wr.cell? ⟨w.heap.size, 13, none⟩ = some (.slice (some ⟨b, o, none⟩) n x.lc) := by rw [← hlA]; exact HK13.out wr HBR.out
      have l13 := later_cell h13
      have l0 := later_cell a0
      have l5 := later_cell a5
      have hvl := hEB.leni
      have hkl : ((⟨x.l[k].1.k.toArray⟩ : ByteArray).size : Int) ≤ 9223372036854775807 := by
        show ((x.l[k].1.k.toArray.size : Nat) : Int) ≤ _
        rw [List.size_toArray]; exact hEB.kleni
      have hki : (0 : Int) ≤ (k : Int) := by omega
      have hki2 : (k : Int) < (n : Int) := by omega
      clear hc a0 a5 hEB
      go_wp2_with fail
      refine wp_region_later (by kernel_rfl) (by kernel_rfl) ?_
      repeat (go_big_quiet_step (fail))
      refine wpQuiet_nil ?_
      intro w' hw'
      obtain ⟨p, rfl⟩ := hw'
      go_wp2
      go_roundw
      case rel => exact ⟨k + 1, by omega, by go_num, ⟨_, rfl⟩, Lib.hid (HBR.out.trans (p.bel.mono HBR.out.size))⟩
      case measure => simp [intOf]; omega
    · obtain rfl : k = n := by omega
      have h13 : wr.cell? ⟨w.heap.size, 13, none⟩ = some (.slice x.lA k x.lc) := HK13.out wr HBR.out
      have HBW := Lib.hid (HB.out.trans (HBR.out.mono HB.out.size))
      go_wp2_with fail
      refine (copyb_any wr.heap.size 0 0 none [] rfl wr (Row.nil _ _ _) (Nat.le_refl _) (by decide)).mono ?_
      rintro e w2 ⟨A2, c2, rfl, _, hb2⟩
      have HB2 := Lib.hid (HBW.out.trans (hb2.mono HBW.out.size))
      clear hb2
      go_wp2
      go_ret
      exact ⟨_, rfl, HB2.out⟩
theorem long12 (x : MV) (w : World) (h : MsgM w x) : Calls Tryd.prog 10 #[.agg #[.int .i64 x.kind, .int .i64 x.fr, .int .i64 x.dst, .int .i64 x.ep, .int .i64 x.op, .int .i64 x.n, .bool x.flag, .string ⟨x.e.1.k.toArray⟩, .int .i64 x.e.1.s, .int .i64 x.e.1.u, .int .i64 x.e.1.o, .bool x.e.1.has, .slice x.e.2.1 x.e.1.v.length x.e.2.2, .slice x.lA x.l.length x.lc, .slice x.rA x.ns.length x.rc, .int .i64 x.each, .int .i64 x.keep]] w (SomeB12 w) := by
  have hb : Below w.heap.size w (w.alloc (.cells #[.int .i64 x.kind, .int .i64 x.fr, .int .i64 x.dst, .int .i64 x.ep, .int .i64 x.op, .int .i64 x.n, .bool x.flag, .string ⟨x.e.1.k.toArray⟩, .int .i64 x.e.1.s, .int .i64 x.e.1.u, .int .i64 x.e.1.o, .bool x.e.1.has, .slice x.e.2.1 x.e.1.v.length x.e.2.2, .slice x.lA x.l.length x.lc, .slice x.rA x.ns.length x.rc, .int .i64 x.each, .int .i64 x.keep] 34)) := (Below.refl _ _).alloc (Nat.le_refl _) _
  have HK := Lib.hid (Blk.new w 34 #[.int .i64 x.kind, .int .i64 x.fr, .int .i64 x.dst, .int .i64 x.ep, .int .i64 x.op, .int .i64 x.n, .bool x.flag, .string ⟨x.e.1.k.toArray⟩, .int .i64 x.e.1.s, .int .i64 x.e.1.u, .int .i64 x.e.1.o, .bool x.e.1.has, .slice x.e.2.1 x.e.1.v.length x.e.2.2, .slice x.lA x.l.length x.lc, .slice x.rA x.ns.length x.rc, .int .i64 x.each, .int .i64 x.keep])
  have HB := Lib.hid hb
  have HL := Lib.hid (reflong12 x _ (h.below hb))
  clear hb h
  go_enter Tryd.func10, Tryd.ntmps10
  go_wp2_with (refine wpList_load_row rfl 34 _ rfl _ rfl _ _ _ _ (show _ = _ from HK.out) Tryd.underlying34 rfl (by kernel_rfl) ?_)
  refine HL.out.mono ?_
  rintro e w1 ⟨n, rfl, hb1⟩
  have HB1 := Lib.hid (HB.out.trans (hb1.mono HB.out.size))
  clear hb1 HB HL HK
  have hn : Hid (∃ b, decide (1000 < n) = b) := Lib.hid ⟨_, rfl⟩
  go_wp2
  exact bodyPost_ret (v := .bool (decide (1000 < n))) (by simp [results, Tryd.results10, go_sem]) rfl ⟨_, rfl, HB1.out⟩
end Go.Proofs.YtgmennblbeefhaaDoor
