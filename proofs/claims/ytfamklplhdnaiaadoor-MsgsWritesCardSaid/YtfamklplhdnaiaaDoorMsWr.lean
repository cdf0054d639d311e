/- MsWr: The law that a message has the bytes that the chapter says: walked. -/
import Derived.Test.YtfamklplhdnaiaaDoorMsBy
import Derived.Test.YtfamklplhdnaiaaDoorMsL
import Derived.Test.YtfamklplhdnaiaaDoorMsN
import Derived.Test.YtfamklplhdnaiaaDoorRelyL
import Derived.BigFrame
namespace Go.Proofs.YtfamklplhdnaiaaDoor
open Go.RowKit Mem Be Rg
set_option maxRecDepth 100000
set_option maxHeartbeats 8000000
set_option linter.unusedVariables false
set_option linter.unusedSimpArgs false
def wr12 (A1 : Option Addr) (c1 : Nat) (A2 : Option Addr) (c2 : Nat) (X : List UInt8) (er k : Int) (x : MV) : Nat → Value → World → Prop
  | 0, v, _ => v = .slice A1 X.length c1
  | 1, v, _ => v = .slice A2 X.length c2
  | 2, v, _ => v = .bool true
  | 3, v, _ => v = .bool true
  | 4, v, _ => v = .int .i64 er
  | 5, v, _ => v = .int .i64 er
  | 6, v, _ => v = .bool true
  | 7, v, _ => v = .bool true
  | 8, v, _ => v = .bool true
  | 9, v, _ => v = .agg #[.int .i64 x.kind, .int .i64 x.fr, .int .i64 x.dst, .int .i64 x.ep, .int .i64 x.op, .int .i64 x.n, .bool x.flag, .string ⟨x.e.1.k.toArray⟩, .int .i64 x.e.1.s, .int .i64 x.e.1.u, .int .i64 x.e.1.o, .bool x.e.1.has, .slice x.e.2.1 x.e.1.v.length x.e.2.2, .slice x.lA x.l.length x.lc, .slice x.rA x.ns.length x.rc, .int .i64 x.each, .int .i64 x.keep]
  | 10, v, _ => v = .int .i64 k
  | 11, v, _ => v = .agg #[.int .i64 x.kind, .int .i64 x.fr, .int .i64 x.dst, .int .i64 x.ep, .int .i64 x.op, .int .i64 x.n, .bool x.flag, .string ⟨x.e.1.k.toArray⟩, .int .i64 x.e.1.s, .int .i64 x.e.1.u, .int .i64 x.e.1.o, .bool x.e.1.has, .slice x.e.2.1 x.e.1.v.length x.e.2.2, .slice x.lA x.l.length x.lc, .slice x.rA x.ns.length x.rc, .int .i64 x.each, .int .i64 x.keep]
  | 12, v, _ => v = .int .i64 k
  | 13, v, _ => v = .bool true
  | 14, v, _ => v = .bool true
  | 15, v, _ => v = .bool true
  | 16, v, _ => v = .bool true
  | 17, v, _ => v = .bool true
  | _, v, _ => v = .bool true
theorem wr12_later (A1 : Option Addr) (c1 : Nat) (A2 : Option Addr) (c2 : Nat) (X : List UInt8) (er k : Int) (x : MV) : ∀ i v w1 w2, wr12 A1 c1 A2 c2 X er k x i v w1 → Below w1.heap.size w1 w2 → wr12 A1 c1 A2 c2 X er k x i v w2 := by
  intro i v w1 w2 h hb
  unfold wr12 at h ⊢
  split at h <;> first | exact h | (obtain ⟨p, e, hk⟩ := h; exact ⟨p, e, hk.below hb hk.lt⟩) | (obtain ⟨a, b, e, hk⟩ := h; exact ⟨a, b, e, own_later hk hb⟩)

theorem writes12_any (x : MV) (w : World) (ht : KT w) (h : MsgM w x) : Calls Tryd.prog 3 #[.agg #[.int .i64 x.kind, .int .i64 x.fr, .int .i64 x.dst, .int .i64 x.ep, .int .i64 x.op, .int .i64 x.n, .bool x.flag, .string ⟨x.e.1.k.toArray⟩, .int .i64 x.e.1.s, .int .i64 x.e.1.u, .int .i64 x.e.1.o, .bool x.e.1.has, .slice x.e.2.1 x.e.1.v.length x.e.2.2, .slice x.lA x.l.length x.lc, .slice x.rA x.ns.length x.rc, .int .i64 x.each, .int .i64 x.keep]] w (IsT12 w) := by
  have hb : Below w.heap.size w (w.alloc (.cells #[.int .i64 x.kind, .int .i64 x.fr, .int .i64 x.dst, .int .i64 x.ep, .int .i64 x.op, .int .i64 x.n, .bool x.flag, .string ⟨x.e.1.k.toArray⟩, .int .i64 x.e.1.s, .int .i64 x.e.1.u, .int .i64 x.e.1.o, .bool x.e.1.has, .slice x.e.2.1 x.e.1.v.length x.e.2.2, .slice x.lA x.l.length x.lc, .slice x.rA x.ns.length x.rc, .int .i64 x.each, .int .i64 x.keep] 34)) := (Below.refl _ _).alloc (Nat.le_refl _) _
  have HX0 := Lib.hid (Blk.new w 34 #[.int .i64 x.kind, .int .i64 x.fr, .int .i64 x.dst, .int .i64 x.ep, .int .i64 x.op, .int .i64 x.n, .bool x.flag, .string ⟨x.e.1.k.toArray⟩, .int .i64 x.e.1.s, .int .i64 x.e.1.u, .int .i64 x.e.1.o, .bool x.e.1.has, .slice x.e.2.1 x.e.1.v.length x.e.2.2, .slice x.lA x.l.length x.lc, .slice x.rA x.ns.length x.rc, .int .i64 x.each, .int .i64 x.keep])
  have HM0 := Lib.hid (h.below hb)
  have HT0 := Lib.hid (ht.below hb)
  have HB0 := Lib.hid hb
  have HL1 := Lib.hid fun W (hm : MsgM W x) => long12 x W hm
  clear h hb ht
  go_enter Tryd.func3, Tryd.ntmps3
  go_wp2_with (refine wpList_load_row rfl 34 _ rfl _ rfl _ _ _ _ (show _ = _ from HX0.out) Tryd.underlying34 rfl (by kernel_rfl) ?_)
  refine (HL1.out _ HM0.out).mono ?_
  rintro e w1 ⟨q, rfl, hb1⟩
  have HX1 := Lib.hid (HX0.out.below hb1 HX0.out.lt)
  have HB1 := Lib.hid (HB0.out.trans (hb1.mono HB0.out.size))
  have HT1 := Lib.hid (HT0.out.below hb1)
  have HM1 := Lib.hid (HM0.out.below hb1)
  clear hb1 HX0 HB0 HT0 HM0
  clear HL1
  cases q
  case true =>
    go_wp2_with fail
    refine (known12 _ HT1.out).mono ?_
    rintro e wz ⟨rfl, hbz⟩
    have HBZ := Lib.hid (HB1.out.trans (hbz.mono HB1.out.size))
    clear hbz
    go_wp2
    go_ret
    exact ⟨rfl, HBZ.out⟩
  case false =>
  have HC1 := Lib.hid fun W (ht : KT W) (hm : MsgM W x) => bytes_any12 x W ht hm
  have HC2 := Lib.hid fun W (hm : MsgM W x) => refbytes12_any x W hm
  unfold BytE at HC1
  obtain ⟨⟨X, er⟩, hX⟩ : ∃ r, bytesM (mP x) = r := ⟨_, rfl⟩
  rw [hX] at HC1 HC2
  clear hX
  go_wp2_with (refine wpList_load_row rfl 34 _ rfl _ rfl _ _ _ _ (show _ = _ from HX1.out) Tryd.underlying34 rfl (by kernel_rfl) ?_)
  refine (HC1.out w1 HT1.out HM1.out).mono ?_
  rintro e w2 ⟨A1, c1, rfl, ho2, hb2⟩
  try simp only at ho2
  have HX2 := Lib.hid (HX1.out.below hb2 HX1.out.lt)
  have HB2 := Lib.hid (HB1.out.trans (hb2.mono HB1.out.size))
  have HT2 := Lib.hid (HT1.out.below hb2)
  have HM2 := Lib.hid (HM1.out.below hb2)
  clear hb2 HX1 HB1 HT1 HM1
  have HO12 := Lib.hid ho2
  clear ho2 HC1
  go_wp2_with (refine wpList_load_row rfl 34 _ rfl _ rfl _ _ _ _ (show _ = _ from HX2.out) Tryd.underlying34 rfl (by kernel_rfl) ?_)
  refine (HC2.out w2 HM2.out).mono ?_
  rintro e w3 ⟨A2, c2, rfl, ho3, hb3⟩
  try simp only at ho3
  have HX3 := Lib.hid (HX2.out.below hb3 HX2.out.lt)
  have HB3 := Lib.hid (HB2.out.trans (hb3.mono HB2.out.size))
  have HT3 := Lib.hid (HT2.out.below hb3)
  have HM3 := Lib.hid (HM2.out.below hb3)
  have HO13 := Lib.hid (own_later HO12.out hb3)
  clear hb3 HX2 HB2 HT2 HM2 HO12
  have HO23 := Lib.hid ho3
  clear ho3 HC2
  have HSA : Hid (∀ W, Below w3.heap.size w3 W → Calls Tryd.prog 14 #[.slice A1 X.length c1, .slice A2 X.length c2] W fun e w' => e = .returned (.bool true) ∧ W = w') := Lib.hid fun W hb => same_val _ _ _ _ _ _ _ _ X X true (by simp) W ((Row.of_own HO13.out).below hb) ((Row.of_own HO23.out).below hb) rfl rfl
  have HLX : Hid (∀ W, Below w3.heap.size w3 W → Blk W w.heap.size 34 #[.int .i64 x.kind, .int .i64 x.fr, .int .i64 x.dst, .int .i64 x.ep, .int .i64 x.op, .int .i64 x.n, .bool x.flag, .string ⟨x.e.1.k.toArray⟩, .int .i64 x.e.1.s, .int .i64 x.e.1.u, .int .i64 x.e.1.o, .bool x.e.1.has, .slice x.e.2.1 x.e.1.v.length x.e.2.2, .slice x.lA x.l.length x.lc, .slice x.rA x.ns.length x.rc, .int .i64 x.each, .int .i64 x.keep]) := Lib.hid fun W hb => HX3.out.below hb HX3.out.lt
  obtain ⟨k, hk⟩ : ∃ k, checkM (mP x) = k := ⟨_, rfl⟩
  have HCK : Hid (∀ W, Below w3.heap.size w3 W → Calls Tryd.prog 15 #[.agg #[.int .i64 x.kind, .int .i64 x.fr, .int .i64 x.dst, .int .i64 x.ep, .int .i64 x.op, .int .i64 x.n, .bool x.flag, .string ⟨x.e.1.k.toArray⟩, .int .i64 x.e.1.s, .int .i64 x.e.1.u, .int .i64 x.e.1.o, .bool x.e.1.has, .slice x.e.2.1 x.e.1.v.length x.e.2.2, .slice x.lA x.l.length x.lc, .slice x.rA x.ns.length x.rc, .int .i64 x.each, .int .i64 x.keep]] W fun e w' => e = .returned (.int .i64 k) ∧ Below W.heap.size W w') := Lib.hid fun W hb => by rw [← hk]; exact checkm_any x W (HT3.out.below hb) (HM3.out.below hb)
  have HRC : Hid (∀ W, Below w3.heap.size w3 W → Calls Tryd.prog 16 #[.agg #[.int .i64 x.kind, .int .i64 x.fr, .int .i64 x.dst, .int .i64 x.ep, .int .i64 x.op, .int .i64 x.n, .bool x.flag, .string ⟨x.e.1.k.toArray⟩, .int .i64 x.e.1.s, .int .i64 x.e.1.u, .int .i64 x.e.1.o, .bool x.e.1.has, .slice x.e.2.1 x.e.1.v.length x.e.2.2, .slice x.lA x.l.length x.lc, .slice x.rA x.ns.length x.rc, .int .i64 x.each, .int .i64 x.keep]] W fun e w' => e = .returned (.int .i64 k) ∧ Below W.heap.size W w') := Lib.hid fun W hb => by rw [← hk]; exact refcheck12 x W (HM3.out.below hb)
  have HKN : Hid (∀ W, Below w3.heap.size w3 W → Calls Tryd.prog 11 #[] W (IsT12 W)) := Lib.hid fun W hb => known12 W (HT3.out.below hb)
  have HB := HB3
  clear hk HO13 HO23 HX3 HB3 HT3 HM3
  go_wp2
  refine Rely.wp_region_by [[], [], [(0, 20), (1, 21)], [(2, 22)], [(3, 23)], [(3, 23)], [(3, 23), (4, 24), (5, 25)], [(3, 23), (6, 26)], [(7, 27)], [(8, 28)], [(8, 28), (9, 29)], [(8, 28)], [(8, 28), (11, 31)], [(8, 28), (10, 30), (12, 32)], [(8, 28), (13, 33)], [(14, 34)], [(15, 35)], [(15, 35), (16, 36)], [(17, 37)]] [(0, 20), (1, 21), (2, 22), (3, 23), (4, 24), (5, 25), (6, 26), (7, 27), (8, 28), (9, 29), (10, 30), (11, 31), (12, 32), (13, 33), (14, 34), (15, 35), (16, 36), (17, 37), (18, 2)] [] (wr12 A1 c1 A2 c2 X er k x) (by kernel_rfl) (by kernel_rfl) (by kernel_rfl) (by kernel_rfl) (by kernel_rfl) (by kernel_rfl) (wr12_later A1 c1 A2 c2 X er k x) ?_ ?_
  · skip
    refine Rely.stepsZ_cons (by
      intro vs w' hb hp
      simp only [Rely.Pre, wr12] at hp
      unfold Rely.gives
      simp only [Rely.sel, List.foldl_cons, List.foldl_nil]
      go_simp
      exact ⟨Below.refl _ _, rfl⟩) ?_
    refine Rely.stepsZ_cons (by
      intro vs w' hb hp
      simp only [Rely.Pre, wr12] at hp
      unfold Rely.gives
      simp only [Rely.sel, List.foldl_cons, List.foldl_nil]
      go_simp
      exact ⟨Below.refl _ _, rfl⟩) ?_
    refine Rely.stepsZ_cons (by
      intro vs w' hb hp
      simp only [Rely.Pre, wr12] at hp
      obtain ⟨h20, h21, _⟩ := hp
      unfold Rely.gives
      simp only [Rely.sel, List.foldl_cons, List.foldl_nil]
      go_simp
      simp only [Rely.GivesR]
      refine (HSA.out w' hb).mono ?_
      rintro e w3 ⟨rfl, rfl⟩
      exact ⟨_, rfl, Below.refl _ _, rfl⟩) ?_
    refine Rely.stepsZ_cons (by
      intro vs w' hb hp
      simp only [Rely.Pre, wr12] at hp
      obtain ⟨h22, _⟩ := hp
      unfold Rely.gives
      simp only [Rely.sel, List.foldl_cons, List.foldl_nil]
      go_simp
      exact ⟨Below.refl _ _, rfl⟩) ?_
    refine Rely.stepsZ_cons (by
      intro vs w' hb hp
      simp only [Rely.Pre, wr12] at hp
      obtain ⟨h23, _⟩ := hp
      unfold Rely.gives
      simp only [Rely.sel, List.foldl_cons, List.foldl_nil]
      go_simp
      exact ⟨Below.refl _ _, rfl⟩) ?_
    refine Rely.stepsZ_cons (by
      intro vs w' hb hp
      simp only [Rely.Pre, wr12] at hp
      obtain ⟨h23, _⟩ := hp
      unfold Rely.gives
      simp only [Rely.sel, List.foldl_cons, List.foldl_nil]
      go_simp
      exact ⟨Below.refl _ _, rfl⟩) ?_
    refine Rely.stepsZ_cons (by
      intro vs w' hb hp
      simp only [Rely.Pre, wr12] at hp
      obtain ⟨h23, h24, h25, _⟩ := hp
      unfold Rely.gives
      simp only [Rely.sel, List.foldl_cons, List.foldl_nil]
      go_simp
      exact ⟨Below.refl _ _, rfl⟩) ?_
    refine Rely.stepsZ_cons (by
      intro vs w' hb hp
      simp only [Rely.Pre, wr12] at hp
      obtain ⟨h23, h26, _⟩ := hp
      unfold Rely.gives
      simp only [Rely.sel, List.foldl_cons, List.foldl_nil]
      go_simp
      exact ⟨Below.refl _ _, rfl⟩) ?_
    refine Rely.stepsZ_cons (by
      intro vs w' hb hp
      simp only [Rely.Pre, wr12] at hp
      obtain ⟨h27, _⟩ := hp
      unfold Rely.gives
      simp only [Rely.sel, List.foldl_cons, List.foldl_nil]
      go_simp
      exact ⟨Below.refl _ _, rfl⟩) ?_
    refine Rely.stepsZ_cons (by
      intro vs w' hb hp
      simp only [Rely.Pre, wr12] at hp
      obtain ⟨h28, _⟩ := hp
      split
      rotate_left
      · rename_i hw; exact absurd (by simp only [Rely.sel, List.foldl_cons, List.foldl_nil]; go_simp) hw
      simp only [Rely.sel, List.foldl_cons, List.foldl_nil]
      refine gives_loadrow 34 (.tmp 1) ?_ (w.heap.size) ?_ (HLX.out w' hb) Tryd.underlying34 ?_ ?_ ?_
      · rfl
      · rfl
      · rfl
      · kernel_rfl
      · exact ⟨Below.refl _ _, rfl⟩) ?_
    refine Rely.stepsZ_cons (by
      intro vs w' hb hp
      simp only [Rely.Pre, wr12] at hp
      obtain ⟨h28, h29, _⟩ := hp
      unfold Rely.gives
      simp only [Rely.sel, List.foldl_cons, List.foldl_nil]
      go_simp
      simp only [Rely.GivesR]
      refine (HCK.out w' hb).mono ?_
      rintro e w3 ⟨rfl, hb3⟩
      exact ⟨_, rfl, hb3, rfl⟩) ?_
    refine Rely.stepsZ_cons (by
      intro vs w' hb hp
      simp only [Rely.Pre, wr12] at hp
      obtain ⟨h28, _⟩ := hp
      split
      rotate_left
      · rename_i hw; exact absurd (by simp only [Rely.sel, List.foldl_cons, List.foldl_nil]; go_simp) hw
      simp only [Rely.sel, List.foldl_cons, List.foldl_nil]
      refine gives_loadrow 34 (.tmp 1) ?_ (w.heap.size) ?_ (HLX.out w' hb) Tryd.underlying34 ?_ ?_ ?_
      · rfl
      · rfl
      · rfl
      · kernel_rfl
      · exact ⟨Below.refl _ _, rfl⟩) ?_
    refine Rely.stepsZ_cons (by
      intro vs w' hb hp
      simp only [Rely.Pre, wr12] at hp
      obtain ⟨h28, h31, _⟩ := hp
      unfold Rely.gives
      simp only [Rely.sel, List.foldl_cons, List.foldl_nil]
      go_simp
      simp only [Rely.GivesR]
      refine (HRC.out w' hb).mono ?_
      rintro e w3 ⟨rfl, hb3⟩
      exact ⟨_, rfl, hb3, rfl⟩) ?_
    refine Rely.stepsZ_cons (by
      intro vs w' hb hp
      simp only [Rely.Pre, wr12] at hp
      obtain ⟨h28, h30, h32, _⟩ := hp
      unfold Rely.gives
      simp only [Rely.sel, List.foldl_cons, List.foldl_nil]
      go_simp
      exact ⟨Below.refl _ _, rfl⟩) ?_
    refine Rely.stepsZ_cons (by
      intro vs w' hb hp
      simp only [Rely.Pre, wr12] at hp
      obtain ⟨h28, h33, _⟩ := hp
      unfold Rely.gives
      simp only [Rely.sel, List.foldl_cons, List.foldl_nil]
      go_simp
      exact ⟨Below.refl _ _, rfl⟩) ?_
    refine Rely.stepsZ_cons (by
      intro vs w' hb hp
      simp only [Rely.Pre, wr12] at hp
      obtain ⟨h34, _⟩ := hp
      unfold Rely.gives
      simp only [Rely.sel, List.foldl_cons, List.foldl_nil]
      go_simp
      exact ⟨Below.refl _ _, rfl⟩) ?_
    refine Rely.stepsZ_cons (by
      intro vs w' hb hp
      simp only [Rely.Pre, wr12] at hp
      obtain ⟨h35, _⟩ := hp
      unfold Rely.gives
      simp only [Rely.sel, List.foldl_cons, List.foldl_nil]
      go_simp
      simp only [Rely.GivesR]
      refine (HKN.out w' hb).mono ?_
      rintro e w3 ⟨rfl, hb3⟩
      exact ⟨_, rfl, hb3, rfl⟩) ?_
    refine Rely.stepsZ_cons (by
      intro vs w' hb hp
      simp only [Rely.Pre, wr12] at hp
      obtain ⟨h35, h36, _⟩ := hp
      unfold Rely.gives
      simp only [Rely.sel, List.foldl_cons, List.foldl_nil]
      go_simp
      exact ⟨Below.refl _ _, rfl⟩) ?_
    refine Rely.stepsZ_cons (by
      intro vs w' hb hp
      simp only [Rely.Pre, wr12] at hp
      obtain ⟨h37, _⟩ := hp
      unfold Rely.gives
      simp only [Rely.sel, List.foldl_cons, List.foldl_nil]
      go_simp
      exact ⟨Below.refl _ _, rfl⟩) ?_
    exact Rely.stepsZ_nil
  intro vs w1 hb1 hp _
  simp only [Rely.Pre, wr12] at hp
  obtain ⟨h0, h1, h2, h3, h4, h5, h6, h7, h8, h9, h10, h11, h12, h13, h14, h15, h16, h17, h18, _⟩ := hp
  simp only [Rely.sel, List.foldl_cons, List.foldl_nil, h0, h1, h2, h3, h4, h5, h6, h7, h8, h9, h10, h11, h12, h13, h14, h15, h16, h17, h18]
  clear h0 h1 h2 h3 h4 h5 h6 h7 h8 h9 h10 h11 h12 h13 h14 h15 h16 h17 h18
  simp only [Act.put, List.setIfInBounds_toArray, List.set_cons_succ, List.set_cons_zero]
  go_wp2
  go_ret
  exact ⟨rfl, HB.out.trans (hb1.mono HB.out.size)⟩
end Go.Proofs.YtfamklplhdnaiaaDoor
