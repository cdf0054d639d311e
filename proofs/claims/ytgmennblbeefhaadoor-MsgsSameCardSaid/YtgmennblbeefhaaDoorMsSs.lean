/- MsSs: Whether any two messages are the same, the one back, of any kind, and copies: walked. -/
import Derived.Test.YtgmennblbeefhaaDoorMsSw
import Derived.Test.YtgmennblbeefhaaDoorMsCo
import Derived.Test.YtgmennblbeefhaaDoorMsDr
import Derived.Test.YtgmennblbeefhaaDoorMsD
import Derived.Test.YtgmennblbeefhaaDoorMsL
import Derived.Test.YtgmennblbeefhaaDoorMsN
import Derived.Test.YtgmennblbeefhaaDoorMsW
import Derived.Test.YtgmennblbeefhaaDoorBoxM
import Derived.BigFrame
import Derived.Deep.MidRow
namespace Go.Proofs.YtgmennblbeefhaaDoor
open Go.RowKit Mem Be Rg
set_option maxRecDepth 100000
set_option maxHeartbeats 8000000
set_option linter.unusedVariables false
set_option linter.unusedSimpArgs false
def kindV : Value → Nat
  | .int .u8 _ => 1
  | .string _ => 2
  | .int .i64 _ => 3
  | _ => 0
theorem kindV_1 {v : Value} (h : kindV v = 1) : ∃ n, v = .int .u8 n := by
  unfold kindV at h
  split at h
  · exact ⟨_, rfl⟩
  all_goals cases h
theorem kindV_2 {v : Value} (h : kindV v = 2) : ∃ n, v = .string n := by
  unfold kindV at h
  split at h
  · cases h
  · exact ⟨_, rfl⟩
  all_goals cases h
theorem kindV_3 {v : Value} (h : kindV v = 3) : ∃ n, v = .int .i64 n := by
  unfold kindV at h
  split at h
  · cases h
  · cases h
  · exact ⟨_, rfl⟩
  · cases h
/-- Cells of blocks from B0 to B1 are written over, by what is of their kind; nothing else is. -/
structure SpM (B0 B1 : Nat) (w w' : World) : Prop where
  bel : Below B0 w w'
  hi : ∀ k, B1 ≤ k → w'.heap[k]? = w.heap[k]?
  knd : ∀ b o v, w.cell? ⟨b, o, none⟩ = some v → ∃ v', w'.cell? ⟨b, o, none⟩ = some v' ∧ kindV v' = kindV v
  frz : ∀ b o v, w.cell? ⟨b, o, none⟩ = some v → w.frozen? ⟨b, o, none⟩ = false → w'.frozen? ⟨b, o, none⟩ = false
theorem SpM.refl (B0 B1 : Nat) (w : World) : SpM B0 B1 w w := ⟨Below.refl _ _, fun _ _ => rfl, fun _ _ v h => ⟨v, h, rfl⟩, fun _ _ _ _ h => h⟩
theorem SpM.drew {B0 B1 : Nat} {w w' : World} (h : SpM B0 B1 w w') : SpM B0 B1 w w'.drew := ⟨h.bel.drew, h.hi, h.knd, h.frz⟩
theorem SpM.set {B0 B1 : Nat} {w w' : World} (h : SpM B0 B1 w w') {b o : Nat} {v0 v : Value} (h0 : B0 ≤ b) (h1 : b < B1) (hc : w'.cell? ⟨b, o, none⟩ = some v0) (hk : kindV v = kindV v0) : SpM B0 B1 w (w'.setCell ⟨b, o, none⟩ v) := by
  refine ⟨h.bel.setCell h0 _, fun k hkk => ?_, fun b1 o1 v1 hv => ?_, fun b1 o1 v1 hv hf => ?_⟩
  · have := (grown_set w' b o v).block
    by_cases hlt : k < w'.heap.size
    · exact (this k hlt (fun e => by injection e with e; omega)).trans (h.hi k hkk)
    · rw [← h.hi k hkk, Array.getElem?_eq_none (by simp; omega), Array.getElem?_eq_none (by omega)]
  · obtain ⟨v2, h2, h3⟩ := h.knd b1 o1 v1 hv
    by_cases e : (⟨b, o, none⟩ : Addr) = ⟨b1, o1, none⟩
    · refine ⟨v, ?_, ?_⟩
      · rw [← e]; exact World.cell?_setCell_same _ _ _ hc
      · rw [e, h2] at hc
        injection hc with hc
        rw [hk, ← hc, h3]
    · exact ⟨v2, (World.cell?_setCell_other _ _ _ _ e).trans h2, h3⟩
  · have h2 := h.frz b1 o1 v1 hv hf
    rw [← h2]; simp
theorem SpM.blk {B0 B1 : Nat} {w w' : World} (h : SpM B0 B1 w w') {g : Nat} {t : TypeId} {cs : Array Value} (hb : Blk w g t cs) (hg : B1 ≤ g) : Blk w' g t cs := (h.hi g hg).trans hb
theorem SpM.own {B0 B1 : Nat} {w w' : World} (h : SpM B0 B1 w w') {B s n m c : Nat} {e : TypeId} {A : Option Addr} {xs : List Value} (ho : w.ownsRow B e s (.slice A m c) n xs) (hB : B1 ≤ B) : w'.ownsRow B e s (.slice A m c) n xs :=
  ownKeep ho fun a ha => h.hi a.block (Nat.le_trans hB (ownIn ho ha).1)
/-- A copy, as a message that lies in memory. -/
structure OwnM (w : World) (B : Nat) (y : MV) : Prop where
  e : OwnE w B y.e
  l : w.ownsRow B 28 6 (.slice y.lA y.l.length y.lc) y.l.length (entsC y.l)
  es : EntsO w B y.l
  n : IntsO w B y.rA y.ns y.rc
theorem OwnM.below {w w' : World} {B : Nat} {y : MV} (h : OwnM w B y) (hb : Below w.heap.size w w') : OwnM w' B y := ⟨ownLater h.e hb, ownLater h.l hb, entsO_below h.es hb, ownLater h.n hb⟩
theorem OwnM.sp {B0 B1 : Nat} {w w' : World} {B : Nat} {y : MV} (h : OwnM w B y) (hs : SpM B0 B1 w w') (hB : B1 ≤ B) : OwnM w' B y := ⟨hs.own h.e hB, hs.own h.l hB, fun q hq => hs.own (h.es q hq) hB, hs.own h.n hB⟩
theorem OwnM.msg {w w1 : World} {B : Nat} {x y : MV} (h : OwnM w B y) (hx : MsgM w1 x) (he : mP y = mP x) : MsgM w y := by
  have h1 : y.e.1 = x.e.1 := congrArg MsgP.e he
  have h2 : y.l.map Prod.fst = x.l.map Prod.fst := congrArg MsgP.l he
  refine ⟨⟨ownRow h.e, Nat.le_trans (own_cap h.e).1 (own_cap h.e).2, by rw [h1]; exact hx.ev.klen, (own_cap h.e).1⟩, ⟨ownRow h.l, fun q hq => ⟨ownRow (h.es q hq), Nat.le_trans (own_cap (h.es q hq)).1 (own_cap (h.es q hq)).2, ?_, (own_cap (h.es q hq)).1⟩⟩, ?_, ownRow h.n, Nat.le_trans (own_cap h.n).1 (own_cap h.n).2⟩
  · have : q.1 ∈ x.l.map Prod.fst := by rw [← h2]; exact List.mem_map_of_mem hq
    obtain ⟨z, hz, e⟩ := List.mem_map.1 this
    rw [← e]; exact (hx.en.val z hz).klen
  · have : y.l.length = x.l.length := by have := congrArg List.length h2; simpa using this
    rw [this]; exact hx.ln
theorem own_frz {w : World} {B s n m c : Nat} {e : TypeId} {b o : Nat} {xs : List Value} (h : w.ownsRow B e s (.slice (some ⟨b, o, none⟩) m c) n xs) (j : Nat) : w.frozen? ⟨b, j, none⟩ = false := by
  obtain ⟨_, _, cur, hc⟩ := ownIn h rfl
  simp only at hc
  simp [World.frozen?, hc]
theorem msgssame12 (x y : MV) (kd : Int) (w : World) (ht : KT w) (h : MsgM w x) (h' : MsgM w y) (hz : SzM x) : Calls Tryd.prog 6 #[.agg #[.int .i64 x.kind, .int .i64 x.fr, .int .i64 x.dst, .int .i64 x.ep, .int .i64 x.op, .int .i64 x.n, .bool x.flag, .string ⟨x.e.1.k.toArray⟩, .int .i64 x.e.1.s, .int .i64 x.e.1.u, .int .i64 x.e.1.o, .bool x.e.1.has, .slice x.e.2.1 x.e.1.v.length x.e.2.2, .slice x.lA x.l.length x.lc, .slice x.rA x.ns.length x.rc, .int .i64 x.each, .int .i64 x.keep], .agg #[.int .i64 y.kind, .int .i64 y.fr, .int .i64 y.dst, .int .i64 y.ep, .int .i64 y.op, .int .i64 y.n, .bool y.flag, .string ⟨y.e.1.k.toArray⟩, .int .i64 y.e.1.s, .int .i64 y.e.1.u, .int .i64 y.e.1.o, .bool y.e.1.has, .slice y.e.2.1 y.e.1.v.length y.e.2.2, .slice y.lA y.l.length y.lc, .slice y.rA y.ns.length y.rc, .int .i64 y.each, .int .i64 y.keep], .int .i64 kd] w (IsT12 w) := by
  have hb : Below w.heap.size w ((w.alloc (.cells #[.int .i64 x.kind, .int .i64 x.fr, .int .i64 x.dst, .int .i64 x.ep, .int .i64 x.op, .int .i64 x.n, .bool x.flag, .string ⟨x.e.1.k.toArray⟩, .int .i64 x.e.1.s, .int .i64 x.e.1.u, .int .i64 x.e.1.o, .bool x.e.1.has, .slice x.e.2.1 x.e.1.v.length x.e.2.2, .slice x.lA x.l.length x.lc, .slice x.rA x.ns.length x.rc, .int .i64 x.each, .int .i64 x.keep] 34)).alloc (.cells #[.int .i64 y.kind, .int .i64 y.fr, .int .i64 y.dst, .int .i64 y.ep, .int .i64 y.op, .int .i64 y.n, .bool y.flag, .string ⟨y.e.1.k.toArray⟩, .int .i64 y.e.1.s, .int .i64 y.e.1.u, .int .i64 y.e.1.o, .bool y.e.1.has, .slice y.e.2.1 y.e.1.v.length y.e.2.2, .slice y.lA y.l.length y.lc, .slice y.rA y.ns.length y.rc, .int .i64 y.each, .int .i64 y.keep] 34)) := ((Below.refl _ _).alloc (Nat.le_refl _) _).alloc (by simp) _
  have HX0 := Lib.hid ((Blk.new w 34 #[.int .i64 x.kind, .int .i64 x.fr, .int .i64 x.dst, .int .i64 x.ep, .int .i64 x.op, .int .i64 x.n, .bool x.flag, .string ⟨x.e.1.k.toArray⟩, .int .i64 x.e.1.s, .int .i64 x.e.1.u, .int .i64 x.e.1.o, .bool x.e.1.has, .slice x.e.2.1 x.e.1.v.length x.e.2.2, .slice x.lA x.l.length x.lc, .slice x.rA x.ns.length x.rc, .int .i64 x.each, .int .i64 x.keep]).alloc (.cells #[.int .i64 y.kind, .int .i64 y.fr, .int .i64 y.dst, .int .i64 y.ep, .int .i64 y.op, .int .i64 y.n, .bool y.flag, .string ⟨y.e.1.k.toArray⟩, .int .i64 y.e.1.s, .int .i64 y.e.1.u, .int .i64 y.e.1.o, .bool y.e.1.has, .slice y.e.2.1 y.e.1.v.length y.e.2.2, .slice y.lA y.l.length y.lc, .slice y.rA y.ns.length y.rc, .int .i64 y.each, .int .i64 y.keep] 34))
  have HY0 : Hid (Blk ((w.alloc (.cells #[.int .i64 x.kind, .int .i64 x.fr, .int .i64 x.dst, .int .i64 x.ep, .int .i64 x.op, .int .i64 x.n, .bool x.flag, .string ⟨x.e.1.k.toArray⟩, .int .i64 x.e.1.s, .int .i64 x.e.1.u, .int .i64 x.e.1.o, .bool x.e.1.has, .slice x.e.2.1 x.e.1.v.length x.e.2.2, .slice x.lA x.l.length x.lc, .slice x.rA x.ns.length x.rc, .int .i64 x.each, .int .i64 x.keep] 34)).alloc (.cells #[.int .i64 y.kind, .int .i64 y.fr, .int .i64 y.dst, .int .i64 y.ep, .int .i64 y.op, .int .i64 y.n, .bool y.flag, .string ⟨y.e.1.k.toArray⟩, .int .i64 y.e.1.s, .int .i64 y.e.1.u, .int .i64 y.e.1.o, .bool y.e.1.has, .slice y.e.2.1 y.e.1.v.length y.e.2.2, .slice y.lA y.l.length y.lc, .slice y.rA y.ns.length y.rc, .int .i64 y.each, .int .i64 y.keep] 34)) (w.heap.size + 1) 34 #[.int .i64 y.kind, .int .i64 y.fr, .int .i64 y.dst, .int .i64 y.ep, .int .i64 y.op, .int .i64 y.n, .bool y.flag, .string ⟨y.e.1.k.toArray⟩, .int .i64 y.e.1.s, .int .i64 y.e.1.u, .int .i64 y.e.1.o, .bool y.e.1.has, .slice y.e.2.1 y.e.1.v.length y.e.2.2, .slice y.lA y.l.length y.lc, .slice y.rA y.ns.length y.rc, .int .i64 y.each, .int .i64 y.keep]) := Lib.hid (blk_at (by simp) (Blk.new _ _ _))
  have HMX0 := Lib.hid (h.below hb)
  have HMY0 := Lib.hid (h'.below hb)
  have HT0 := Lib.hid (ht.below hb)
  have HB0 := Lib.hid hb
  have HL1 := Lib.hid fun W (hm : MsgM W x) => long12 x W hm
  have HL2 := Lib.hid fun W (hm : MsgM W y) => long12 y W hm
  have HZ := Lib.hid hz
  have HTW := Lib.hid ht
  have HMW := Lib.hid h
  have HHAS := Lib.hid fun W (hW : KT W) => has_any kd W hW
  unfold HasP at HHAS
  have HRN := Lib.hid fun W => rhasN_any kd W
  have HRF := Lib.hid fun W => rhasF_any kd W
  have HRE := Lib.hid fun W => rhasE_any kd W
  have HRL := Lib.hid fun W => rhasL_any kd W
  have HRR := Lib.hid fun W => rhasR_any kd W
  obtain ⟨bN, hbN⟩ : ∃ b, hasN kd = b := ⟨_, rfl⟩
  obtain ⟨bF, hbF⟩ : ∃ b, hasF kd = b := ⟨_, rfl⟩
  obtain ⟨bE, hbE⟩ : ∃ b, hasE kd = b := ⟨_, rfl⟩
  obtain ⟨bL, hbL⟩ : ∃ b, hasL kd = b := ⟨_, rfl⟩
  obtain ⟨bR, hbR⟩ : ∃ b, hasR kd = b := ⟨_, rfl⟩
  rw [hbN, hbF, hbE, hbL, hbR] at HHAS
  rw [hbN] at HRN
  rw [hbF] at HRF
  rw [hbE] at HRE
  rw [hbL] at HRL
  rw [hbR] at HRR
  have eN : (bN != bN) = false := by simp
  have eF : (bF != bF) = false := by simp
  have eE : (bE != bE) = false := by simp
  have eL : (bL != bL) = false := by simp
  have eR : (bR != bR) = false := by simp
  clear h h' hb ht hz hbN hbF hbE hbL hbR
  go_enter Tryd.func6, Tryd.ntmps6
  go_wp2_with (refine wpList_load_row rfl 34 _ rfl _ rfl _ _ _ _ (show _ = _ from HX0.out) Tryd.underlying34 rfl (by kernel_rfl) ?_)
  refine (HL1.out _ HMX0.out).mono ?_
  rintro e w1 ⟨q, rfl, hb1⟩
  have HX1 := Lib.hid (HX0.out.below hb1 HX0.out.lt)
  have HY1 := Lib.hid (HY0.out.below hb1 HY0.out.lt)
  have HB1 := Lib.hid (HB0.out.trans (hb1.mono HB0.out.size))
  have HT1 := Lib.hid (HT0.out.below hb1)
  have HMX1 := Lib.hid (HMX0.out.below hb1)
  have HMY1 := Lib.hid (HMY0.out.below hb1)
  clear hb1 HX0 HY0 HB0 HT0 HMX0 HMY0
  cases q
  case true =>
    go_wp2_with fail
    refine (known12 _ HT1.out).mono ?_
    rintro e wz ⟨rfl, hbz⟩
    have HBZ := Lib.hid (HB1.out.trans (hbz.mono HB1.out.size))
    clear hbz
    go_wp2
    go_ret
    exact ⟨rfl, HBZ.out⟩
  case false =>
  go_wp2_with (refine load_rowG rfl 34 _ rfl _ rfl _ _ _ _ (show _ = _ from HY1.out) Tryd.underlying34 rfl (by kernel_rfl) ?_)
  refine (HL2.out _ HMY1.out).mono ?_
  rintro e w2 ⟨q, rfl, hb2⟩
  have HX2 := Lib.hid (HX1.out.below hb2 HX1.out.lt)
  have HY2 := Lib.hid (HY1.out.below hb2 HY1.out.lt)
  have HB2 := Lib.hid (HB1.out.trans (hb2.mono HB1.out.size))
  have HT2 := Lib.hid (HT1.out.below hb2)
  have HMX2 := Lib.hid (HMX1.out.below hb2)
  have HMY2 := Lib.hid (HMY1.out.below hb2)
  clear hb2 HX1 HY1 HB1 HT1 HMX1 HMY1
  clear HL1 HL2
  cases q
  case true =>
    go_wp2_with fail
    refine (known12 _ HT2.out).mono ?_
    rintro e wz ⟨rfl, hbz⟩
    have HBZ := Lib.hid (HB2.out.trans (hbz.mono HB2.out.size))
    clear hbz
    go_wp2
    go_ret
    exact ⟨rfl, HBZ.out⟩
  case false =>
  go_wp2_with fail
  refine (HHAS.out _ HT2.out).mono ?_
  rintro e w3 ⟨rfl, hb3⟩
  have HX3 := Lib.hid (HX2.out.below hb3 HX2.out.lt)
  have HY3 := Lib.hid (HY2.out.below hb3 HY2.out.lt)
  have HB3 := Lib.hid (HB2.out.trans (hb3.mono HB2.out.size))
  have HT3 := Lib.hid (HT2.out.below hb3)
  have HMX3 := Lib.hid (HMX2.out.below hb3)
  have HMY3 := Lib.hid (HMY2.out.below hb3)
  clear hb3 HX2 HY2 HB2 HT2 HMX2 HMY2
  clear HHAS
  go_wp2_with fail
  refine (HRN.out _).mono ?_
  rintro e w4 ⟨rfl, hb4⟩
  have HX4 := Lib.hid (HX3.out.below hb4 HX3.out.lt)
  have HY4 := Lib.hid (HY3.out.below hb4 HY3.out.lt)
  have HB4 := Lib.hid (HB3.out.trans (hb4.mono HB3.out.size))
  have HT4 := Lib.hid (HT3.out.below hb4)
  have HMX4 := Lib.hid (HMX3.out.below hb4)
  have HMY4 := Lib.hid (HMY3.out.below hb4)
  clear hb4 HX3 HY3 HB3 HT3 HMX3 HMY3
  clear HRN
  go_wp2_with fail
  refine (HRF.out _).mono ?_
  rintro e w5 ⟨rfl, hb5⟩
  have HX5 := Lib.hid (HX4.out.below hb5 HX4.out.lt)
  have HY5 := Lib.hid (HY4.out.below hb5 HY4.out.lt)
  have HB5 := Lib.hid (HB4.out.trans (hb5.mono HB4.out.size))
  have HT5 := Lib.hid (HT4.out.below hb5)
  have HMX5 := Lib.hid (HMX4.out.below hb5)
  have HMY5 := Lib.hid (HMY4.out.below hb5)
  clear hb5 HX4 HY4 HB4 HT4 HMX4 HMY4
  clear HRF
  go_wp2_with fail
  refine (HRE.out _).mono ?_
  rintro e w6 ⟨rfl, hb6⟩
  have HX6 := Lib.hid (HX5.out.below hb6 HX5.out.lt)
  have HY6 := Lib.hid (HY5.out.below hb6 HY5.out.lt)
  have HB6 := Lib.hid (HB5.out.trans (hb6.mono HB5.out.size))
  have HT6 := Lib.hid (HT5.out.below hb6)
  have HMX6 := Lib.hid (HMX5.out.below hb6)
  have HMY6 := Lib.hid (HMY5.out.below hb6)
  clear hb6 HX5 HY5 HB5 HT5 HMX5 HMY5
  clear HRE
  go_wp2_with fail
  refine (HRL.out _).mono ?_
  rintro e w7 ⟨rfl, hb7⟩
  have HX7 := Lib.hid (HX6.out.below hb7 HX6.out.lt)
  have HY7 := Lib.hid (HY6.out.below hb7 HY6.out.lt)
  have HB7 := Lib.hid (HB6.out.trans (hb7.mono HB6.out.size))
  have HT7 := Lib.hid (HT6.out.below hb7)
  have HMX7 := Lib.hid (HMX6.out.below hb7)
  have HMY7 := Lib.hid (HMY6.out.below hb7)
  clear hb7 HX6 HY6 HB6 HT6 HMX6 HMY6
  clear HRL
  go_wp2_with fail
  refine (HRR.out _).mono ?_
  rintro e w8 ⟨rfl, hb8⟩
  have HX8 := Lib.hid (HX7.out.below hb8 HX7.out.lt)
  have HY8 := Lib.hid (HY7.out.below hb8 HY7.out.lt)
  have HB8 := Lib.hid (HB7.out.trans (hb8.mono HB7.out.size))
  have HT8 := Lib.hid (HT7.out.below hb8)
  have HMX8 := Lib.hid (HMX7.out.below hb8)
  have HMY8 := Lib.hid (HMY7.out.below hb8)
  clear hb8 HX7 HY7 HB7 HT7 HMX7 HMY7
  clear HRR
  have HCP := Lib.hid (mcopy_any x w8 HMX8.out HZ.out)
  unfold CopyM at HCP
  go_wp2_with (refine wpList_load_row rfl 34 _ rfl _ rfl _ _ _ _ (show _ = _ from HX8.out) Tryd.underlying34 rfl (by kernel_rfl) ?_)
  refine HCP.out.mono ?_
  rintro e w9 ⟨c, rfl, hpc, oc1, oc2, oc3, oc4, hb9⟩
  have HPC := Lib.hid hpc
  obtain ⟨B0, hB0⟩ : ∃ B, w8.heap.size = B := ⟨_, rfl⟩
  have HOC9 : Hid (OwnM w9 B0 c) := Lib.hid (by rw [← hB0]; exact ⟨oc1, oc2, oc3, oc4⟩)
  have HLO : Hid (w.heap.size + 1 < B0) := Lib.hid (by rw [← hB0]; exact HY8.out.lt)
  have HX9 := Lib.hid (HX8.out.below hb9 HX8.out.lt)
  have HY9 := Lib.hid (HY8.out.below hb9 HY8.out.lt)
  have HB9 := Lib.hid (HB8.out.trans (hb9.mono HB8.out.size))
  have HT9 := Lib.hid (HT8.out.below hb9)
  have HMX9 := Lib.hid (HMX8.out.below hb9)
  have HMY9 := Lib.hid (HMY8.out.below hb9)
  clear hb9 HX8 HY8 HB8 HT8 HMX8 HMY8
  clear HCP oc1 oc2 oc3 oc4 hpc hB0
  go_upto_region 7 with (refine wpList_boxM rfl rfl _ rfl 34 #[.int .i64 0, .int .i64 0, .int .i64 0, .int .i64 0, .int .i64 0, .int .i64 0, .bool false, .string ⟨#[]⟩, .int .i64 0, .int .i64 0, .int .i64 0, .bool false, .slice none 0 0, .slice none 0 0, .slice none 0 0, .int .i64 0, .int .i64 0] (by kernel_rfl) _ _ rfl #[.int .i64 c.kind, .int .i64 c.fr, .int .i64 c.dst, .int .i64 c.ep, .int .i64 c.op, .int .i64 c.n, .bool c.flag, .string ⟨c.e.1.k.toArray⟩, .int .i64 c.e.1.s, .int .i64 c.e.1.u, .int .i64 c.e.1.o, .bool c.e.1.has, .slice c.e.2.1 c.e.1.v.length c.e.2.2, .slice c.lA c.l.length c.lc, .slice c.rA c.ns.length c.rc, .int .i64 c.each, .int .i64 c.keep] rfl rfl rfl (by kernel_rfl) (by kernel_rfl) ?_)
  obtain ⟨W10, hW10⟩ : ∃ W, w9.alloc (.cells #[.int .i64 c.kind, .int .i64 c.fr, .int .i64 c.dst, .int .i64 c.ep, .int .i64 c.op, .int .i64 c.n, .bool c.flag, .string ⟨c.e.1.k.toArray⟩, .int .i64 c.e.1.s, .int .i64 c.e.1.u, .int .i64 c.e.1.o, .bool c.e.1.has, .slice c.e.2.1 c.e.1.v.length c.e.2.2, .slice c.lA c.l.length c.lc, .slice c.rA c.ns.length c.rc, .int .i64 c.each, .int .i64 c.keep] 34) = W := ⟨_, rfl⟩
  obtain ⟨B1, hB1⟩ : ∃ g, w9.heap.size = g := ⟨_, rfl⟩
  have HIN : Hid ((∀ b o, c.e.2.1 = some ⟨b, o, none⟩ → B0 ≤ b ∧ b < B1) ∧ (∀ b o, c.lA = some ⟨b, o, none⟩ → B0 ≤ b ∧ b < B1) ∧ (∀ b o, c.rA = some ⟨b, o, none⟩ → B0 ≤ b ∧ b < B1)) := Lib.hid (by
    rw [← hB1]
    exact ⟨fun b o e => ⟨(ownIn HOC9.out.e e).1, (ownIn HOC9.out.e e).2.1⟩, fun b o e => ⟨(ownIn HOC9.out.l e).1, (ownIn HOC9.out.l e).2.1⟩, fun b o e => ⟨(ownIn HOC9.out.n e).1, (ownIn HOC9.out.n e).2.1⟩⟩)
  have hb10 : Below w9.heap.size w9 W10 := by rw [← hW10]; exact (Below.refl _ _).alloc (Nat.le_refl _) _
  have HC10 : Hid (Blk W10 B1 34 #[.int .i64 c.kind, .int .i64 c.fr, .int .i64 c.dst, .int .i64 c.ep, .int .i64 c.op, .int .i64 c.n, .bool c.flag, .string ⟨c.e.1.k.toArray⟩, .int .i64 c.e.1.s, .int .i64 c.e.1.u, .int .i64 c.e.1.o, .bool c.e.1.has, .slice c.e.2.1 c.e.1.v.length c.e.2.2, .slice c.lA c.l.length c.lc, .slice c.rA c.ns.length c.rc, .int .i64 c.each, .int .i64 c.keep]) := Lib.hid (by rw [← hW10, ← hB1]; exact Blk.new _ _ _)
  have HS10 : Hid (B1 < W10.heap.size) := Lib.hid HC10.out.lt
  have HOC10 := Lib.hid (HOC9.out.below hb10)
  have HX10 := Lib.hid (HX9.out.below hb10 HX9.out.lt)
  have HY10 := Lib.hid (HY9.out.below hb10 HY9.out.lt)
  have HB10 := Lib.hid (HB9.out.trans (hb10.mono HB9.out.size))
  have HT10 := Lib.hid (HT9.out.below hb10)
  have HMX10 := Lib.hid (HMX9.out.below hb10)
  have HMY10 := Lib.hid (HMY9.out.below hb10)
  clear hb10 HX9 HY9 HB9 HT9 HMX9 HMY9
  clear HOC9
  simp only [hW10, hB1]
  clear hW10 hB1
  have HCP := Lib.hid (mcopy_any x W10 HMX10.out HZ.out)
  unfold CopyM at HCP
  go_wp2_with (refine wpList_load_row rfl 34 _ rfl _ rfl _ _ _ _ (show _ = _ from HX10.out) Tryd.underlying34 rfl (by kernel_rfl) ?_)
  refine HCP.out.mono ?_
  rintro e w11 ⟨d, rfl, hpd, od1, od2, od3, od4, hb11⟩
  have HPD := Lib.hid hpd
  obtain ⟨B2, hB2⟩ : ∃ B, W10.heap.size = B := ⟨_, rfl⟩
  have HOD11 : Hid (OwnM w11 B2 d) := Lib.hid (by rw [← hB2]; exact ⟨od1, od2, od3, od4⟩)
  have HL12 : Hid (B1 < B2) := Lib.hid (by rw [← hB2]; exact HS10.out)
  have HOC11 := Lib.hid (HOC10.out.below hb11)
  have HX11 := Lib.hid (HX10.out.below hb11 HX10.out.lt)
  have HY11 := Lib.hid (HY10.out.below hb11 HY10.out.lt)
  have HB11 := Lib.hid (HB10.out.trans (hb11.mono HB10.out.size))
  have HT11 := Lib.hid (HT10.out.below hb11)
  have HMX11 := Lib.hid (HMX10.out.below hb11)
  have HMY11 := Lib.hid (HMY10.out.below hb11)
  have HC11 := Lib.hid (HC10.out.below hb11 HC10.out.lt)
  clear hb11 HX10 HY10 HB10 HT10 HMX10 HMY10 HC10
  clear HCP od1 od2 od3 od4 hpd HS10 HOC10
  go_upto_region 8 with (refine wpList_boxM rfl rfl _ rfl 34 #[.int .i64 0, .int .i64 0, .int .i64 0, .int .i64 0, .int .i64 0, .int .i64 0, .bool false, .string ⟨#[]⟩, .int .i64 0, .int .i64 0, .int .i64 0, .bool false, .slice none 0 0, .slice none 0 0, .slice none 0 0, .int .i64 0, .int .i64 0] (by kernel_rfl) _ _ rfl #[.int .i64 d.kind, .int .i64 d.fr, .int .i64 d.dst, .int .i64 d.ep, .int .i64 d.op, .int .i64 d.n, .bool d.flag, .string ⟨d.e.1.k.toArray⟩, .int .i64 d.e.1.s, .int .i64 d.e.1.u, .int .i64 d.e.1.o, .bool d.e.1.has, .slice d.e.2.1 d.e.1.v.length d.e.2.2, .slice d.lA d.l.length d.lc, .slice d.rA d.ns.length d.rc, .int .i64 d.each, .int .i64 d.keep] rfl rfl rfl (by kernel_rfl) (by kernel_rfl) ?_)
  obtain ⟨W12, hW12⟩ : ∃ W, w11.alloc (.cells #[.int .i64 d.kind, .int .i64 d.fr, .int .i64 d.dst, .int .i64 d.ep, .int .i64 d.op, .int .i64 d.n, .bool d.flag, .string ⟨d.e.1.k.toArray⟩, .int .i64 d.e.1.s, .int .i64 d.e.1.u, .int .i64 d.e.1.o, .bool d.e.1.has, .slice d.e.2.1 d.e.1.v.length d.e.2.2, .slice d.lA d.l.length d.lc, .slice d.rA d.ns.length d.rc, .int .i64 d.each, .int .i64 d.keep] 34) = W := ⟨_, rfl⟩
  obtain ⟨gd, hgd⟩ : ∃ g, w11.heap.size = g := ⟨_, rfl⟩
  have hb12 : Below w11.heap.size w11 W12 := by rw [← hW12]; exact (Below.refl _ _).alloc (Nat.le_refl _) _
  have HD12 : Hid (Blk W12 gd 34 #[.int .i64 d.kind, .int .i64 d.fr, .int .i64 d.dst, .int .i64 d.ep, .int .i64 d.op, .int .i64 d.n, .bool d.flag, .string ⟨d.e.1.k.toArray⟩, .int .i64 d.e.1.s, .int .i64 d.e.1.u, .int .i64 d.e.1.o, .bool d.e.1.has, .slice d.e.2.1 d.e.1.v.length d.e.2.2, .slice d.lA d.l.length d.lc, .slice d.rA d.ns.length d.rc, .int .i64 d.each, .int .i64 d.keep]) := Lib.hid (by rw [← hW12, ← hgd]; exact Blk.new _ _ _)
  have HGD : Hid (B1 < gd) := Lib.hid (by rw [← hgd]; exact HC11.out.lt)
  have HOC12 := Lib.hid (HOC11.out.below hb12)
  have HOD12 := Lib.hid (HOD11.out.below hb12)
  have HX12 := Lib.hid (HX11.out.below hb12 HX11.out.lt)
  have HY12 := Lib.hid (HY11.out.below hb12 HY11.out.lt)
  have HB12 := Lib.hid (HB11.out.trans (hb12.mono HB11.out.size))
  have HT12 := Lib.hid (HT11.out.below hb12)
  have HMX12 := Lib.hid (HMX11.out.below hb12)
  have HMY12 := Lib.hid (HMY11.out.below hb12)
  have HC12 := Lib.hid (HC11.out.below hb12 HC11.out.lt)
  clear hb12 HX11 HY11 HB11 HT11 HMX11 HMY11 HC11
  clear HOC11 HOD11
  simp only [hW12, hgd]
  clear hW12 hgd hB2
  obtain ⟨R, hR⟩ : ∃ R, sameM (mP x) (mP y) = R := ⟨_, rfl⟩
  have eRR : (R != R) = false := by simp
  have HMC := Lib.hid (HOC12.out.msg HMX12.out HPC.out)
  have HS1 : Hid (∀ p : Later W12, Calls Tryd.prog 19 #[.agg #[.int .i64 c.kind, .int .i64 c.fr, .int .i64 c.dst, .int .i64 c.ep, .int .i64 c.op, .int .i64 c.n, .bool c.flag, .string ⟨c.e.1.k.toArray⟩, .int .i64 c.e.1.s, .int .i64 c.e.1.u, .int .i64 c.e.1.o, .bool c.e.1.has, .slice c.e.2.1 c.e.1.v.length c.e.2.2, .slice c.lA c.l.length c.lc, .slice c.rA c.ns.length c.rc, .int .i64 c.each, .int .i64 c.keep], .agg #[.int .i64 x.kind, .int .i64 x.fr, .int .i64 x.dst, .int .i64 x.ep, .int .i64 x.op, .int .i64 x.n, .bool x.flag, .string ⟨x.e.1.k.toArray⟩, .int .i64 x.e.1.s, .int .i64 x.e.1.u, .int .i64 x.e.1.o, .bool x.e.1.has, .slice x.e.2.1 x.e.1.v.length x.e.2.2, .slice x.lA x.l.length x.lc, .slice x.rA x.ns.length x.rc, .int .i64 x.each, .int .i64 x.keep]] p.world (fun e w' => e = .returned (.bool true) ∧ Below p.world.heap.size p.world w')) := Lib.hid fun p => by
    have := refsame12 c x p.world (HMC.out.below p.bel) (HMX12.out.below p.bel)
    rw [HPC.out, sameM_refl] at this
    exact this
  have HS2 : Hid (∀ p : Later W12, Calls Tryd.prog 24 #[.agg #[.int .i64 x.kind, .int .i64 x.fr, .int .i64 x.dst, .int .i64 x.ep, .int .i64 x.op, .int .i64 x.n, .bool x.flag, .string ⟨x.e.1.k.toArray⟩, .int .i64 x.e.1.s, .int .i64 x.e.1.u, .int .i64 x.e.1.o, .bool x.e.1.has, .slice x.e.2.1 x.e.1.v.length x.e.2.2, .slice x.lA x.l.length x.lc, .slice x.rA x.ns.length x.rc, .int .i64 x.each, .int .i64 x.keep], .agg #[.int .i64 y.kind, .int .i64 y.fr, .int .i64 y.dst, .int .i64 y.ep, .int .i64 y.op, .int .i64 y.n, .bool y.flag, .string ⟨y.e.1.k.toArray⟩, .int .i64 y.e.1.s, .int .i64 y.e.1.u, .int .i64 y.e.1.o, .bool y.e.1.has, .slice y.e.2.1 y.e.1.v.length y.e.2.2, .slice y.lA y.l.length y.lc, .slice y.rA y.ns.length y.rc, .int .i64 y.each, .int .i64 y.keep]] p.world (fun e w' => e = .returned (.bool R) ∧ Below p.world.heap.size p.world w')) := Lib.hid fun p => by
    have := msame_any x y p.world (HMX12.out.below p.bel) (HMY12.out.below p.bel)
    rw [hR] at this
    exact this
  have HS3 : Hid (∀ p : Later W12, Calls Tryd.prog 19 #[.agg #[.int .i64 x.kind, .int .i64 x.fr, .int .i64 x.dst, .int .i64 x.ep, .int .i64 x.op, .int .i64 x.n, .bool x.flag, .string ⟨x.e.1.k.toArray⟩, .int .i64 x.e.1.s, .int .i64 x.e.1.u, .int .i64 x.e.1.o, .bool x.e.1.has, .slice x.e.2.1 x.e.1.v.length x.e.2.2, .slice x.lA x.l.length x.lc, .slice x.rA x.ns.length x.rc, .int .i64 x.each, .int .i64 x.keep], .agg #[.int .i64 y.kind, .int .i64 y.fr, .int .i64 y.dst, .int .i64 y.ep, .int .i64 y.op, .int .i64 y.n, .bool y.flag, .string ⟨y.e.1.k.toArray⟩, .int .i64 y.e.1.s, .int .i64 y.e.1.u, .int .i64 y.e.1.o, .bool y.e.1.has, .slice y.e.2.1 y.e.1.v.length y.e.2.2, .slice y.lA y.l.length y.lc, .slice y.rA y.ns.length y.rc, .int .i64 y.each, .int .i64 y.keep]] p.world (fun e w' => e = .returned (.bool R) ∧ Below p.world.heap.size p.world w')) := Lib.hid fun p => by
    have := refsame12 x y p.world (HMX12.out.below p.bel) (HMY12.out.below p.bel)
    rw [hR] at this
    exact this
  obtain ⟨kk, hkk⟩ : ∃ kk : List UInt8, backKey kd ⟨x.e.1.k.toArray⟩ = ⟨kk.toArray⟩ ∧ kk.length ≤ maxLen := by
    unfold backKey
    cases hasE kd
    · exact ⟨[], rfl, Nat.zero_le _⟩
    · exact ⟨x.e.1.k, rfl, HMX12.out.ev.klen⟩
  have HBK : Hid (∀ p : Later W12, Calls Tryd.prog 25 #[.agg #[.int .i64 x.kind, .int .i64 x.fr, .int .i64 x.dst, .int .i64 x.ep, .int .i64 x.op, .int .i64 x.n, .bool x.flag, .string ⟨x.e.1.k.toArray⟩, .int .i64 x.e.1.s, .int .i64 x.e.1.u, .int .i64 x.e.1.o, .bool x.e.1.has, .slice x.e.2.1 x.e.1.v.length x.e.2.2, .slice x.lA x.l.length x.lc, .slice x.rA x.ns.length x.rc, .int .i64 x.each, .int .i64 x.keep], .int .i64 kd] p.world (fun e w' => e = .returned (.agg #[.int .i64 kd, .int .i64 x.dst, .int .i64 x.fr, .int .i64 x.ep, .int .i64 x.op, .int .i64 0, .bool false, .string ⟨kk.toArray⟩, .int .i64 0, .int .i64 0, .int .i64 0, .bool false, .slice none 0 0, .slice none 0 0, .slice none 0 0, .int .i64 0, .int .i64 0]) ∧ Below p.world.heap.size p.world w')) := Lib.hid fun p => by
    have := back_any kd x.kind x.fr x.dst x.ep x.op x.n x.flag ⟨x.e.1.k.toArray⟩ x.e.1.s x.e.1.u x.e.1.o x.e.1.has x.e.2.1 x.e.1.v.length x.e.2.2 x.lA x.l.length x.lc x.rA x.ns.length x.rc x.each x.keep p.world (HT12.out.below p.bel)
    unfold BackP at this
    rw [hkk.1] at this
    exact this
  have HRB : Hid (∀ p : Later W12, Calls Tryd.prog 26 #[.agg #[.int .i64 x.kind, .int .i64 x.fr, .int .i64 x.dst, .int .i64 x.ep, .int .i64 x.op, .int .i64 x.n, .bool x.flag, .string ⟨x.e.1.k.toArray⟩, .int .i64 x.e.1.s, .int .i64 x.e.1.u, .int .i64 x.e.1.o, .bool x.e.1.has, .slice x.e.2.1 x.e.1.v.length x.e.2.2, .slice x.lA x.l.length x.lc, .slice x.rA x.ns.length x.rc, .int .i64 x.each, .int .i64 x.keep], .int .i64 kd] p.world (fun e w' => e = .returned (.agg #[.int .i64 kd, .int .i64 x.dst, .int .i64 x.fr, .int .i64 x.ep, .int .i64 x.op, .int .i64 0, .bool false, .string ⟨kk.toArray⟩, .int .i64 0, .int .i64 0, .int .i64 0, .bool false, .slice none 0 0, .slice none 0 0, .slice none 0 0, .int .i64 0, .int .i64 0]) ∧ Below p.world.heap.size p.world w')) := Lib.hid fun p => by
    have := refback12 x kd p.world
    unfold BackP at this
    rw [hkk.1] at this
    exact this
  have HS4 : Hid (∀ p : Later W12, Calls Tryd.prog 19 #[.agg #[.int .i64 kd, .int .i64 x.dst, .int .i64 x.fr, .int .i64 x.ep, .int .i64 x.op, .int .i64 0, .bool false, .string ⟨kk.toArray⟩, .int .i64 0, .int .i64 0, .int .i64 0, .bool false, .slice none 0 0, .slice none 0 0, .slice none 0 0, .int .i64 0, .int .i64 0], .agg #[.int .i64 kd, .int .i64 x.dst, .int .i64 x.fr, .int .i64 x.ep, .int .i64 x.op, .int .i64 0, .bool false, .string ⟨kk.toArray⟩, .int .i64 0, .int .i64 0, .int .i64 0, .bool false, .slice none 0 0, .slice none 0 0, .slice none 0 0, .int .i64 0, .int .i64 0]] p.world (fun e w' => e = .returned (.bool true) ∧ Below p.world.heap.size p.world w')) := Lib.hid fun p => by
    have hm : MsgM p.world ⟨kd, x.dst, x.fr, x.ep, x.op, 0, false, (⟨kk, 0, 0, 0, false, []⟩, none, 0), none, [], 0, none, [], 0, 0, 0⟩ := ⟨⟨Row.nil _ _ _, Nat.zero_le _, hkk.2, Nat.le_refl _⟩, ⟨Row.nil _ _ _, fun q hq => by cases hq⟩, Nat.zero_le _, Row.nil _ _ _, Nat.zero_le _⟩
    have := refsame12 ⟨kd, x.dst, x.fr, x.ep, x.op, 0, false, (⟨kk, 0, 0, 0, false, []⟩, none, 0), none, [], 0, none, [], 0, 0, 0⟩ ⟨kd, x.dst, x.fr, x.ep, x.op, 0, false, (⟨kk, 0, 0, 0, false, []⟩, none, 0), none, [], 0, none, [], 0, 0, 0⟩ p.world hm hm
    rw [sameM_refl] at this
    exact this
  have HLX : Hid (∀ p : Later W12, Blk p.world w.heap.size 34 #[.int .i64 x.kind, .int .i64 x.fr, .int .i64 x.dst, .int .i64 x.ep, .int .i64 x.op, .int .i64 x.n, .bool x.flag, .string ⟨x.e.1.k.toArray⟩, .int .i64 x.e.1.s, .int .i64 x.e.1.u, .int .i64 x.e.1.o, .bool x.e.1.has, .slice x.e.2.1 x.e.1.v.length x.e.2.2, .slice x.lA x.l.length x.lc, .slice x.rA x.ns.length x.rc, .int .i64 x.each, .int .i64 x.keep]) := Lib.hid fun p => later_blk HX12.out p
  have HLY : Hid (∀ p : Later W12, Blk p.world (w.heap.size + 1) 34 #[.int .i64 y.kind, .int .i64 y.fr, .int .i64 y.dst, .int .i64 y.ep, .int .i64 y.op, .int .i64 y.n, .bool y.flag, .string ⟨y.e.1.k.toArray⟩, .int .i64 y.e.1.s, .int .i64 y.e.1.u, .int .i64 y.e.1.o, .bool y.e.1.has, .slice y.e.2.1 y.e.1.v.length y.e.2.2, .slice y.lA y.l.length y.lc, .slice y.rA y.ns.length y.rc, .int .i64 y.each, .int .i64 y.keep]) := Lib.hid fun p => later_blk HY12.out p
  have HLC : Hid (∀ p : Later W12, Blk p.world B1 34 #[.int .i64 c.kind, .int .i64 c.fr, .int .i64 c.dst, .int .i64 c.ep, .int .i64 c.op, .int .i64 c.n, .bool c.flag, .string ⟨c.e.1.k.toArray⟩, .int .i64 c.e.1.s, .int .i64 c.e.1.u, .int .i64 c.e.1.o, .bool c.e.1.has, .slice c.e.2.1 c.e.1.v.length c.e.2.2, .slice c.lA c.l.length c.lc, .slice c.rA c.ns.length c.rc, .int .i64 c.each, .int .i64 c.keep]) := Lib.hid fun p => later_blk HC12.out p
  clear hR hkk HMC
  go_wp2_with fail
  refine wp_region_later (by kernel_rfl) (by kernel_rfl) ?_
  simp only [Act.put, List.setIfInBounds_toArray, List.set_cons_succ, List.set_cons_zero]
  go_big_quiet_want
  refine quiet_loadrow 34 (.tmp 12) rfl (B1) rfl HLC.out Tryd.underlying34 rfl (by kernel_rfl) ?_
  simp only [Act.put, List.setIfInBounds_toArray, List.set_cons_succ, List.set_cons_zero]
  go_big_quiet_on
  go_big_quiet_want
  refine quiet_loadrow 34 (.tmp 3) rfl (w.heap.size) rfl HLX.out Tryd.underlying34 rfl (by kernel_rfl) ?_
  simp only [Act.put, List.setIfInBounds_toArray, List.set_cons_succ, List.set_cons_zero]
  go_big_quiet_on
  go_big_quiet_step ((go_at_call 19; exact later_of (HS1.out _)))
  go_big_quiet_step (fail)
  go_big_quiet_step (fail)
  go_big_quiet_want
  refine quiet_loadrow 34 (.tmp 3) rfl (w.heap.size) rfl HLX.out Tryd.underlying34 rfl (by kernel_rfl) ?_
  simp only [Act.put, List.setIfInBounds_toArray, List.set_cons_succ, List.set_cons_zero]
  go_big_quiet_on
  go_big_quiet_want
  refine quiet_loadrow 34 (.tmp 4) rfl (w.heap.size + 1) rfl HLY.out Tryd.underlying34 rfl (by kernel_rfl) ?_
  simp only [Act.put, List.setIfInBounds_toArray, List.set_cons_succ, List.set_cons_zero]
  go_big_quiet_on
  go_big_quiet_step ((go_at_call 24; exact later_of (HS2.out _)))
  go_big_quiet_want
  refine quiet_loadrow 34 (.tmp 3) rfl (w.heap.size) rfl HLX.out Tryd.underlying34 rfl (by kernel_rfl) ?_
  simp only [Act.put, List.setIfInBounds_toArray, List.set_cons_succ, List.set_cons_zero]
  go_big_quiet_on
  go_big_quiet_want
  refine quiet_loadrow 34 (.tmp 4) rfl (w.heap.size + 1) rfl HLY.out Tryd.underlying34 rfl (by kernel_rfl) ?_
  simp only [Act.put, List.setIfInBounds_toArray, List.set_cons_succ, List.set_cons_zero]
  go_big_quiet_on
  go_big_quiet_step ((go_at_call 19; exact later_of (HS3.out _)))
  go_big_quiet_step (fail)
  go_big_quiet_step (fail)
  go_big_quiet_step (fail)
  go_big_quiet_want
  refine quiet_loadrow 34 (.tmp 3) rfl (w.heap.size) rfl HLX.out Tryd.underlying34 rfl (by kernel_rfl) ?_
  simp only [Act.put, List.setIfInBounds_toArray, List.set_cons_succ, List.set_cons_zero]
  go_big_quiet_on
  go_big_quiet_step (fail)
  go_big_quiet_step ((go_at_call 25; exact later_of (HBK.out _)))
  go_big_quiet_want
  refine quiet_loadrow 34 (.tmp 3) rfl (w.heap.size) rfl HLX.out Tryd.underlying34 rfl (by kernel_rfl) ?_
  simp only [Act.put, List.setIfInBounds_toArray, List.set_cons_succ, List.set_cons_zero]
  go_big_quiet_on
  go_big_quiet_step (fail)
  go_big_quiet_step ((go_at_call 26; exact later_of (HRB.out _)))
  go_big_quiet_step ((go_at_call 19; exact later_of (HS4.out _)))
  go_big_quiet_step (fail)
  go_big_quiet_step (fail)
  refine wpQuiet_nil ?_
  intro w13 hw'
  obtain ⟨p, hp13⟩ := hw'
  have hb13 : Below W12.heap.size W12 w13 := by rw [hp13]; exact p.bel
  have HOC13 := Lib.hid (HOC12.out.below hb13)
  have HOD13 := Lib.hid (HOD12.out.below hb13)
  have HX13 := Lib.hid (HX12.out.below hb13 HX12.out.lt)
  have HY13 := Lib.hid (HY12.out.below hb13 HY12.out.lt)
  have HB13 := Lib.hid (HB12.out.trans (hb13.mono HB12.out.size))
  have HT13 := Lib.hid (HT12.out.below hb13)
  have HMX13 := Lib.hid (HMX12.out.below hb13)
  have HMY13 := Lib.hid (HMY12.out.below hb13)
  have HC13 := Lib.hid (HC12.out.below hb13 HC12.out.lt)
  have HD13 := Lib.hid (HD12.out.below hb13 HD12.out.lt)
  clear hb13 HX12 HY12 HB12 HT12 HMX12 HMY12 HC12 HD12
  clear HOC12 HOD12 HS1 HS2 HS3 HS4 HBK HRB HLX HLY HLC hp13 p
  have hl0 : (0 : Int) ≤ (c.l.length : Int) := by omega
  have hl1 : (c.l.length : Int) ≤ 9223372036854775807 := by obtain ⟨_, _, e, h1, h2⟩ := ownShape HOC13.out.l; injection e with _ _ e; unfold maxLen at h2; omega
  have hn0 : (0 : Int) ≤ (c.ns.length : Int) := by omega
  have hn1 : (c.ns.length : Int) ≤ 9223372036854775807 := by have := (own_cap HOC13.out.n).1; have h2 := (own_cap HOC13.out.n).2; unfold maxLen at h2; omega
  have he0 : (0 : Int) ≤ (c.e.1.v.length : Int) := by omega
  have he1 : (c.e.1.v.length : Int) ≤ 9223372036854775807 := by have := (own_cap HOC13.out.e).1; have h2 := (own_cap HOC13.out.e).2; unfold maxLen at h2; omega
  have HC13' : Hid (∀ wr, SpM B0 B1 w13 wr → Blk wr B1 34 #[.int .i64 c.kind, .int .i64 c.fr, .int .i64 c.dst, .int .i64 c.ep, .int .i64 c.op, .int .i64 c.n, .bool c.flag, .string ⟨c.e.1.k.toArray⟩, .int .i64 c.e.1.s, .int .i64 c.e.1.u, .int .i64 c.e.1.o, .bool c.e.1.has, .slice c.e.2.1 c.e.1.v.length c.e.2.2, .slice c.lA c.l.length c.lc, .slice c.rA c.ns.length c.rc, .int .i64 c.each, .int .i64 c.keep]) := Lib.hid fun wr hs => hs.blk HC13.out (Nat.le_refl _)
  go_wp2
  go_loopw [14] (fun i wr => ∃ j : Nat, j ≤ c.l.length ∧ i = .int .i64 j ∧ Hid (SpM B0 B1 w13 wr)) (fun i _ => c.l.length - (intOf i).toNat)
  case atStart => exact ⟨0, Nat.zero_le _, rfl, Lib.hid (SpM.refl _ _ _)⟩
  case round =>
    obtain ⟨j, hj, rfl, HS⟩ := hrel
    by_cases hlt : j < c.l.length
    · obtain ⟨b, o, hA, hb, hc⟩ := ents_open (ownRow HOC13.out.l) (by omega)
      obtain ⟨v', hv', hk'⟩ := HS.out.knd _ _ _ (hc j hlt).1
      obtain ⟨s', rfl⟩ := kindV_2 hk'
      have hfz := HS.out.frz _ _ _ (hc j hlt).1 (by have h0 := HOC13.out.l; rw [hA] at h0; exact own_frz h0 _)
      have HIB := Lib.hid (HIN.out.2.1 b o hA)
      have HCE := Lib.hid hv'
      have c13 : wr.cell? ⟨B1, 13, none⟩ = some (.slice (some ⟨b, o, none⟩) c.l.length c.lc) := by rw [← hA]; exact (HC13'.out wr HS.out).cell 13
      have hji : (0 : Int) ≤ (j : Int) := by omega
      have hji2 : (j : Int) < (c.l.length : Int) := by omega
      clear hc hA hk' hb
      go_wp2
      go_roundw
      case rel => exact ⟨j + 1, by omega, by go_num, Lib.hid (HS.out.set HIB.out.1 HIB.out.2 HCE.out rfl)⟩
      case measure => simp [intOf]; omega
    · obtain rfl : j = c.l.length := by omega
      have c13 : wr.cell? ⟨B1, 13, none⟩ = some (.slice c.lA c.l.length c.lc) := (HC13'.out wr HS.out).cell 13
      go_wp2
      clear c13
      go_loopw [15] (fun i wr => ∃ j : Nat, j ≤ c.ns.length ∧ i = .int .i64 j ∧ Hid (SpM B0 B1 w13 wr)) (fun i _ => c.ns.length - (intOf i).toNat)
      case atStart => exact ⟨0, Nat.zero_le _, rfl, HS⟩
      case round =>
        clear HS
        obtain ⟨j, hj, rfl, HS⟩ := hrel
        by_cases hlt : j < c.ns.length
        · obtain ⟨b, o, hA, hb, hc⟩ := (ownRow HOC13.out.n).open_ (by simp; omega)
          have hcj := hc j (by simpa using hlt)
          rw [List.getElem_map] at hcj
          obtain ⟨v', hv', hk'⟩ := HS.out.knd _ _ _ hcj
          obtain ⟨s', rfl⟩ := kindV_3 hk'
          have hfz := HS.out.frz _ _ _ hcj (by have h0 := HOC13.out.n; unfold IntsO at h0; rw [hA] at h0; exact own_frz h0 _)
          have HIB := Lib.hid (HIN.out.2.2 b o hA)
          have HCE := Lib.hid hv'
          have c14 : wr.cell? ⟨B1, 14, none⟩ = some (.slice (some ⟨b, o, none⟩) c.ns.length c.rc) := by rw [← hA]; exact (HC13'.out wr HS.out).cell 14
          have hji : (0 : Int) ≤ (j : Int) := by omega
          have hji2 : (j : Int) < (c.ns.length : Int) := by omega
          clear hc hcj hA hk' hb
          go_wp2
          go_roundw
          case rel => exact ⟨j + 1, by omega, by go_num, Lib.hid (HS.out.set HIB.out.1 HIB.out.2 HCE.out rfl)⟩
          case measure => simp [intOf]; omega
        · obtain rfl : j = c.ns.length := by omega
          have c14 : wr.cell? ⟨B1, 14, none⟩ = some (.slice c.rA c.ns.length c.rc) := (HC13'.out wr HS.out).cell 14
          go_wp2
          clear c14
          go_loopw [16] (fun i wr => ∃ j : Nat, j ≤ c.e.1.v.length ∧ i = .int .i64 j ∧ Hid (SpM B0 B1 w13 wr)) (fun i _ => c.e.1.v.length - (intOf i).toNat)
          case atStart => exact ⟨0, Nat.zero_le _, rfl, HS⟩
          case round =>
            clear HS
            obtain ⟨j, hj, rfl, HS⟩ := hrel
            by_cases hlt : j < c.e.1.v.length
            · obtain ⟨b, o, hA, hb, hc⟩ := (ownRow HOC13.out.e).open_ (by simp; omega)
              have hcj := hc j (by simpa using hlt)
              rw [List.getElem_map] at hcj
              obtain ⟨v', hv', hk'⟩ := HS.out.knd _ _ _ hcj
              obtain ⟨s', rfl⟩ := kindV_1 hk'
              have hfz := HS.out.frz _ _ _ hcj (by have h0 := HOC13.out.e; unfold OwnE at h0; rw [hA] at h0; exact own_frz h0 _)
              have HIB := Lib.hid (HIN.out.1 b o hA)
              have HCE := Lib.hid hv'
              have c12 : wr.cell? ⟨B1, 12, none⟩ = some (.slice (some ⟨b, o, none⟩) c.e.1.v.length c.e.2.2) := by rw [← hA]; exact (HC13'.out wr HS.out).cell 12
              have hji : (0 : Int) ≤ (j : Int) := by omega
              have hji2 : (j : Int) < (c.e.1.v.length : Int) := by omega
              clear hc hcj hA hk' hb
              go_wp2_with fail
              go_region
              all_goals
                go_wp2
                go_roundw
                case rel => exact ⟨j + 1, by omega, by go_num, Lib.hid (by refine SpM.drew ?_; exact HS.out.set HIB.out.1 HIB.out.2 HCE.out rfl)⟩
                case measure => simp [intOf]; omega
            · obtain rfl : j = c.e.1.v.length := by omega
              have c12 : wr.cell? ⟨B1, 12, none⟩ = some (.slice c.e.2.1 c.e.1.v.length c.e.2.2) := (HC13'.out wr HS.out).cell 12
              have hlo := HLO.out
              have hbw : Below (w.heap.size + 2) w13 wr := HS.out.bel.mono (by omega)
              have hmx0 : Below w.heap.size w wr := HB13.out.trans (hbw.mono (by omega))
              have HXZ := Lib.hid (HX13.out.below hbw (by omega))
              have HDZ := Lib.hid (HS.out.blk HD13.out (by have := HGD.out; omega))
              have HBZ := Lib.hid hmx0
              have HOZ := Lib.hid (HOD13.out.sp HS.out (by have := HL12.out; omega))
              have HTZ := Lib.hid (HTW.out.below hmx0)
              have HMZ := Lib.hid (HMW.out.below hmx0)
              have HSZ : Hid (∀ W, Below wr.heap.size wr W → Calls Tryd.prog 19 #[.agg #[.int .i64 x.kind, .int .i64 x.fr, .int .i64 x.dst, .int .i64 x.ep, .int .i64 x.op, .int .i64 x.n, .bool x.flag, .string ⟨x.e.1.k.toArray⟩, .int .i64 x.e.1.s, .int .i64 x.e.1.u, .int .i64 x.e.1.o, .bool x.e.1.has, .slice x.e.2.1 x.e.1.v.length x.e.2.2, .slice x.lA x.l.length x.lc, .slice x.rA x.ns.length x.rc, .int .i64 x.each, .int .i64 x.keep], .agg #[.int .i64 d.kind, .int .i64 d.fr, .int .i64 d.dst, .int .i64 d.ep, .int .i64 d.op, .int .i64 d.n, .bool d.flag, .string ⟨d.e.1.k.toArray⟩, .int .i64 d.e.1.s, .int .i64 d.e.1.u, .int .i64 d.e.1.o, .bool d.e.1.has, .slice d.e.2.1 d.e.1.v.length d.e.2.2, .slice d.lA d.l.length d.lc, .slice d.rA d.ns.length d.rc, .int .i64 d.each, .int .i64 d.keep]] W (fun e w' => e = .returned (.bool true) ∧ Below W.heap.size W w')) := Lib.hid fun W hb => by
                have := refsame12 x d W (HMZ.out.below hb) ((HOZ.out.msg HMZ.out HPD.out).below hb)
                rw [HPD.out, sameM_refl] at this
                exact this
              clear hbw hmx0 HOD13 HOC13
              go_wp2_with (first | (refine wpList_load_row rfl 34 _ rfl _ rfl _ _ _ _ (show _ = _ from HXZ.out) Tryd.underlying34 rfl (by kernel_rfl) ?_) | (refine wpList_load_row rfl 34 _ rfl _ rfl _ _ _ _ (show _ = _ from HDZ.out) Tryd.underlying34 rfl (by kernel_rfl) ?_))
              refine (HSZ.out wr (Below.refl _ _)).mono ?_
              rintro e w14 ⟨rfl, hb14⟩
              have HB14 := Lib.hid (HBZ.out.trans (hb14.mono HBZ.out.size))
              have HT14 := Lib.hid (HTZ.out.below hb14)
              clear hb14 HSZ
              go_wp2_with fail
              refine (known12 _ HT14.out).mono ?_
              rintro e wz ⟨rfl, hbz⟩
              have HBZ := Lib.hid (HB14.out.trans (hbz.mono HB14.out.size))
              clear hbz
              go_wp2
              go_ret
              exact ⟨rfl, HBZ.out⟩
end Go.Proofs.YtgmennblbeefhaaDoor
