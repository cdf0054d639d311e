/- The law StoreSteps, walked. Written by tools/gen_steps8.py. -/
import Derived.Test.YtndbggkpobcpjaaGreatRefSt8
import Derived.Test.YtndbggkpobcpjaaGreatRefM8
import Derived.Test.YtndbggkpobcpjaaGreatInvA8
import Derived.Test.YtndbggkpobcpjaaGreatRely
import Derived.Deep.RegionHeld3
namespace Go.Proofs.YtndbggkpobcpjaaGreat
open Go.RowKit Go.ChangeShapes Mem Be Word Frm Go.Maps
set_option maxRecDepth 100000
set_option maxHeartbeats 40000000
set_option linter.unusedVariables false
set_option linter.unusedSimpArgs false
def rg8S (g bt nU nV cU cV : Nat) (key : List UInt8) (x1 x2 : EntP) (AU AV : Option Addr) : Nat → Value → World → Prop
  | 0, v, _ => v = .pointer (some ⟨g, 0, none⟩)
  | 1, v, _ => v = .string ⟨key.toArray⟩
  | 2, v, w => ∃ A' c', v = .agg #[.string ⟨key.toArray⟩, .int .i64 x1.s, .int .i64 x1.u, .int .i64 x1.o, .bool x1.has, .slice A' x1.v.length c'] ∧ ValOk w x1.has A' x1.v c'
  | 3, v, _ => v = .pointer (some ⟨bt, 6, none⟩)
  | 4, v, _ => v = .slice AV nV cV
  | 5, v, _ => v = .string ⟨key.toArray⟩
  | 6, v, w => ∃ A' c', v = .agg #[.string ⟨key.toArray⟩, .int .i64 x1.s, .int .i64 x1.u, .int .i64 x1.o, .bool x1.has, .slice A' x1.v.length c'] ∧ ValOk w x1.has A' x1.v c'
  | 7, v, _ => v = .bool true
  | 8, v, _ => v = .bool false
  | 9, v, _ => v = .bool false
  | 10, v, _ => v = .pointer (some ⟨g, 0, none⟩)
  | 11, v, _ => v = .string ⟨key.toArray⟩
  | 12, v, w => ∃ A' c', v = .agg #[.string ⟨key.toArray⟩, .int .i64 x2.s, .int .i64 x2.u, .int .i64 x2.o, .bool x2.has, .slice A' x2.v.length c'] ∧ ValOk w x2.has A' x2.v c'
  | 13, v, _ => v = .pointer (some ⟨bt, 5, none⟩)
  | 14, v, _ => v = .slice AU nU cU
  | 15, v, _ => v = .string ⟨key.toArray⟩
  | 16, v, w => ∃ A' c', v = .agg #[.string ⟨key.toArray⟩, .int .i64 x2.s, .int .i64 x2.u, .int .i64 x2.o, .bool x2.has, .slice A' x2.v.length c'] ∧ ValOk w x2.has A' x2.v c'
  | 17, v, _ => v = .bool true
  | 18, v, _ => v = .bool false
  | _, v, _ => v = .bool false
theorem rg8S_later (g bt nU nV cU cV : Nat) (key : List UInt8) (x1 x2 : EntP) (AU AV : Option Addr) : ∀ i v w1 w2, rg8S g bt nU nV cU cV key x1 x2 AU AV i v w1 → Below w1.heap.size w1 w2 → rg8S g bt nU nV cU cV key x1 x2 AU AV i v w2 := by
  intro i v w1 w2 h hb
  unfold rg8S at h ⊢
  split at h <;> first | exact h | (obtain ⟨p, e, hk⟩ := h; exact ⟨p, e, hk.below hb hk.lt⟩) | (obtain ⟨a, b, e, hk⟩ := h; exact ⟨a, b, e, hk.below hb⟩)
theorem set8_cell {w : World} {b : Nat} {u0 u1 u2 u3 u4 u5 u6 u7 : Value} {p : Addr} (hp : p.block ≠ b) : (set8 w b u0 u1 u2 u3 u4 u5 u6 u7).cell? p = w.cell? p := by
  have ht := (set8_touch (F := fun _ => False) (w := w) (b := b) u0 u1 u2 u3 u4 u5 u6 u7)
  by_cases hl : p.block < w.heap.size
  · exact World.cell?_of_block (ht.block p.block hl (fun h => by rcases h with h | h; exact h; exact hp h))
  · have h1 : (set8 w b u0 u1 u2 u3 u4 u5 u6 u7).heap.size = w.heap.size := by unfold set8; simp [World.setCell]
    have e1 : w.heap[p.block]? = none := Array.getElem?_eq_none (by omega)
    have e2 : (set8 w b u0 u1 u2 u3 u4 u5 u6 u7).heap[p.block]? = none := Array.getElem?_eq_none (by omega)
    unfold World.cell?
    rw [e1, e2]
/-- The reference's store in the statement's own box, apart from the store's blocks. -/
def RefH (w : World) (F : Nat → Prop) (bt : Nat) (S : St8) (nq : Nat) : Prop :=
  ∃ (AL : Option Addr) (cL : Nat) (AT : Option Addr) (cT : Nat) (R : Option Addr) (c : Nat) (vs : List RecV) (AU : Option Addr) (cU : Nat) (us : List EV) (AV : Option Addr) (cV : Nat) (ls : List EV) (AC : Option Addr) (cC : Nat),
    Blk w bt 36 #[.slice AL (allB (S.rs.take S.m)).length cL, .slice AT (allB (S.rs.drop S.m)).length cT, .int .i64 (nq : Int), .slice R vs.length c, .int .i64 (S.m : Int), .slice AU us.length cU, .slice AV ls.length cV, .slice AC S.acks.length cC] ∧ RefTR w (AndB F bt) S AL cL AT cT R c vs AU cU us AV cV ls AC cC ∧ ¬ F bt
theorem RefH.to {w w1 : World} {F F' : Nat → Prop} {bt nq : Nat} {S : St8} (h : RefH w F bt S nq) (hf : ∀ k, F' k → F k ∨ w.heap.size ≤ k) (ht : Touch F w w1) : RefH w1 F' bt S nq := by
  obtain ⟨AL, cL, AT, cT, R, c, vs, AU, cU, us, AV, cV, ls, AC, cC, h1, h2, h3⟩ := h
  refine ⟨AL, cL, AT, cT, R, c, vs, AU, cU, us, AV, cV, ls, AC, cC, blkTouch h1 ht h3, h2.step (ht.mono fun k hk => Or.inl hk) (fun k hk => ?_), fun hx => ?_⟩
  · rcases hk with h4 | h4
    · rcases hf k h4 with h5 | h5
      · exact Or.inl (Or.inl h5)
      · exact Or.inr h5
    · exact Or.inl (Or.inr h4)
  · rcases hf bt hx with h4 | h4
    · exact h3 h4
    · have := h1.lt; omega
theorem RefH.below {w w1 : World} {F : Nat → Prop} {bt nq : Nat} {S : St8} (h : RefH w F bt S nq) (hb : Below w.heap.size w w1) : RefH w1 F bt S nq := h.to (fun k hk => Or.inl hk) (Touch.ofBelow hb)
theorem far8s {w : World} {b i g : Nat} {x : Option Value} {u0 u1 u2 u3 u4 u5 u6 u7 : Value} (h : w.cell? ⟨b, i, none⟩ = x) (hb : b ≠ g) : (((((((((w).setCell ⟨g, 0, none⟩ (u0)).setCell ⟨g, 1, none⟩ (u1)).setCell ⟨g, 2, none⟩ (u2)).setCell ⟨g, 3, none⟩ (u3)).setCell ⟨g, 4, none⟩ (u4)).setCell ⟨g, 5, none⟩ (u5)).setCell ⟨g, 6, none⟩ (u6)).setCell ⟨g, 7, none⟩ (u7)).cell? ⟨b, i, none⟩ = x := by
  have hs := (set8_cell (w := w) (b := g) (u0 := u0) (u1 := u1) (u2 := u2) (u3 := u3) (u4 := u4) (u5 := u5) (u6 := u6) (u7 := u7) (p := ⟨b, i, none⟩) hb)
  unfold set8 at hs
  exact hs.trans h
/-- What holds ahead of each round. -/
def INV8 (w wr : World) (bt g k : Nat) : Prop :=
  ∃ (F : Nat → Prop) (S : St8) (q nq : Nat), q ≤ k ∧ nq ≤ k ∧ S.acks.length ≤ k ∧ St1 w wr F g S q ∧ RefH wr F bt S nq ∧ w.heap.size ≤ bt
/-- What a call tells of an entry. -/
def EntT (key : List UInt8) (x : EntP) (w : World) (e : Ending) (w' : World) : Prop := ∃ A c, e = .returned (.agg #[.string ⟨key.toArray⟩, .int .i64 x.s, .int .i64 x.u, .int .i64 x.o, .bool x.has, .slice A x.v.length c]) ∧ ValOk w' x.has A x.v c ∧ Below w.heap.size w w'
theorem steps_put8 {w0 w2 W : World} {F : Nat → Prop} {g bt q q3 : Nat} {S S2 : St8} {x0 x1 x2 x3 x4 x5 x6 x7 : Value} {AL3 AT3 R3 AU3 AV3 AC3 : Option Addr} {cL3 cT3 c3 cU3 cV3 cC3 : Nat} {vs3 : List RecV} {us3 ls3 : List EV} (hd : St1 w0 w2 F g S q) (hb : Below w2.heap.size w2 W) (hblk : Blk w2 bt 36 #[x0, x1, x2, x3, x4, x5, x6, x7]) (hnf : ¬ F bt) (hbt : w0.heap.size ≤ bt)
    (hl : RefTR W (AndB F bt) S2 AL3 cL3 AT3 cT3 R3 c3 vs3 AU3 cU3 us3 AV3 cV3 ls3 AC3 cC3) :
    St1 w0 (set8 W bt (.slice AL3 (allB (S2.rs.take S2.m)).length cL3) (.slice AT3 (allB (S2.rs.drop S2.m)).length cT3) (.int .i64 (q3 : Int)) (.slice R3 vs3.length c3) (.int .i64 (S2.m : Int)) (.slice AU3 us3.length cU3) (.slice AV3 ls3.length cV3) (.slice AC3 S2.acks.length cC3)) F g S q ∧ RefH (set8 W bt (.slice AL3 (allB (S2.rs.take S2.m)).length cL3) (.slice AT3 (allB (S2.rs.drop S2.m)).length cT3) (.int .i64 (q3 : Int)) (.slice R3 vs3.length c3) (.int .i64 (S2.m : Int)) (.slice AU3 us3.length cU3) (.slice AV3 ls3.length cV3) (.slice AC3 S2.acks.length cC3)) F bt S2 q3 := by
  have ht := (set8_touch (F := fun _ => False) (w := W) (b := bt) (.slice AL3 (allB (S2.rs.take S2.m)).length cL3) (.slice AT3 (allB (S2.rs.drop S2.m)).length cT3) (.int .i64 (q3 : Int)) (.slice R3 vs3.length c3) (.int .i64 (S2.m : Int)) (.slice AU3 us3.length cU3) (.slice AV3 ls3.length cV3) (.slice AC3 S2.acks.length cC3))
  refine ⟨(hd.below hb).touch ht (fun k hk hx => ?_) (fun k hk => ?_), ⟨AL3, cL3, AT3, cT3, R3, c3, vs3, AU3, cU3, us3, AV3, cV3, ls3, AC3, cC3, (set8_fin (hblk.below hb hblk.lt) _ _ _ _ _ _ _ _).1, hl.step (set8_touch _ _ _ _ _ _ _ _) (fun k hk => Or.inl hk), hnf⟩⟩
  · rcases hx with hx | hx
    · exact hx
    · exact hnf (hx ▸ hk)
  · rcases hk with hk | hk
    · exact hk.elim
    · rw [hk]; exact hbt
theorem steps8_walk (A : Option Addr) (rs : List D8) (n c : Nat) (key : List UInt8) (hkey : key.length ≤ maxLen) (hn : n = rs.length) (hnl : n ≤ 1466015503701) (w : World) (h : InD8 w A rs) :
    Calls Tryz.prog 3 #[.slice A n c, .string ⟨key.toArray⟩] w (IsT8 true w) := by
  have HLG := Lib.hid (long8_any n c A rs hn (by unfold maxLen; omega) w h)
  have HIN := Lib.hid h
  have HN := Lib.hid hn
  have HNL := Lib.hid hnl
  have HKY := Lib.hid hkey
  have hni : (n : Int) ≤ 1466015503701 := by omega
  have hni0 : (0 : Int) ≤ (n : Int) := by omega
  have hkl : (key.length : Int) ≤ 9223372036854775807 := by unfold maxLen at hkey; omega
  clear h hn hnl hkey
  have fin : ∀ w1, Below w.heap.size w w1 → Calls Tryz.prog 5 #[] w1 (IsT8 true w) := fun w1 hb => (known8_any w1).mono fun e w2 ⟨he, hb2⟩ => ⟨he, hb.trans (hb2.mono hb.size)⟩
  have FIN := Lib.hid fin
  clear fin
  go_enter Tryz.func3, Tryz.ntmps3
  go_wp2_with fail
  refine HLG.out.mono ?_
  rintro e w0 ⟨⟨lb, rfl⟩, hb⟩
  have HB0 := Lib.hid hb
  clear HLG hb
  by_cases hlb : 1500 < lb
  · go_wp2_with fail
    refine (FIN.out _ HB0.out).mono ?_
    rintro e w1 ⟨rfl, hb⟩
    have HB := Lib.hid hb
    clear hb
    go_wp2
    go_ret
    exact ⟨rfl, HB.out⟩
  have hlb2 : lb ≤ 1500 := by omega
  clear hlb
  by_cases hkb : (300 : Int) < (key.length : Int)
  · go_wp2_with fail
    refine (FIN.out _ HB0.out).mono ?_
    rintro e w1 ⟨rfl, hb⟩
    have HB := Lib.hid hb
    clear hb
    go_wp2
    go_ret
    exact ⟨rfl, HB.out⟩
  have hkb2 : (key.length : Int) ≤ 300 := by omega
  clear hkb
  go_wp2_with fail
  refine (newst_any w0).mono ?_
  rintro e w1 ⟨g0, F0, rfl, hF, hd, hb⟩
  have HK0 : Hid (St1 w w1 F0 g0 st0 0) := Lib.hid ⟨fun k hk => Nat.le_trans HB0.out.size (hF k hk), hd, HB0.out.trans (hb.mono HB0.out.size)⟩
  simp only [id]
  clear hF hd hb
  have HD1 : Hid (St1 w (w1.alloc (.cells #[.slice none 0 0, .slice none 0 0, .int .i64 0, .slice none 0 0, .int .i64 0, .slice none 0 0, .slice none 0 0, .slice none 0 0] 36)) F0 g0 st0 0) := Lib.hid (HK0.out.below ((Below.refl _ _).alloc (Nat.le_refl _) _))
  have HE1 : Hid (RefH (w1.alloc (.cells #[.slice none 0 0, .slice none 0 0, .int .i64 0, .slice none 0 0, .int .i64 0, .slice none 0 0, .slice none 0 0, .slice none 0 0] 36)) F0 w1.heap.size st0 0) := Lib.hid
    ⟨none, 0, none, 0, none, 0, [], none, 0, [], none, 0, [], none, 0, Blk.new _ _ _, ⟨rfl, ⟨Nat.le_refl _, Nat.le_refl _, Nat.le_refl _, Or.inl rfl, Or.inl rfl, Or.inl rfl, fun v hv => by cases hv⟩, rfl, Nat.le_refl _, ⟨Or.inl rfl, fun y hy => by cases hy⟩, rfl, Nat.le_refl _, ⟨Or.inl rfl, fun y hy => by cases hy⟩, Or.inl rfl, Nat.le_refl _⟩, fun hf => by have := HK0.out.at_.lt _ hf; omega⟩
  have HBT : Hid (w.heap.size ≤ w1.heap.size) := Lib.hid HK0.out.bel.size
  obtain ⟨bt, hbt⟩ : ∃ bt, w1.heap.size = bt := ⟨_, rfl⟩
  rw [hbt] at HE1 HBT
  clear HK0
  go_wp2_with fail
  clear hbt
  go_loopw [5, 7] (fun z i wr => ∃ k : Nat, k ≤ n ∧ i = .int .i64 k ∧ ∃ g, z = .pointer (some ⟨g, 0, none⟩) ∧ Hid (INV8 w wr bt g k)) (fun _ i _ => n - (intOf i).toNat)
  case atStart => exact ⟨0, by omega, rfl, g0, rfl, Lib.hid ⟨F0, st0, 0, 0, by omega, by omega, Nat.le_refl _, HD1.out, HE1.out, HBT.out⟩⟩
  case round =>
    obtain ⟨k, hk, rfl, g, rfl, HK⟩ := hrel
    obtain ⟨F, S, q, nq, hq, hnq, ha, hd, he, _⟩ := HK.out
    have HD := Lib.hid hd
    have HE := Lib.hid he
    have HQ := Lib.hid (And.intro hq hnq)
    have HA := Lib.hid ha
    clear HK hd he hq hnq ha HD1 HE1
    by_cases hlt : k < n
    · have hk1 : k < rs.length := by rw [← HN.out]; exact hlt
      obtain ⟨b, o, rfl, hb0, _⟩ := d8s_open (HIN.out w (Below.refl _ _)).1 (by omega)
      have HCL : Hid (∀ W, Below w.heap.size w W → W.cell? ⟨b, o + k * 9, none⟩ = some (.int .i64 rs[k].kind) ∧ W.cell? ⟨b, o + k * 9 + 1, none⟩ = some (.string ⟨rs[k].e.1.k.toArray⟩) ∧ W.cell? ⟨b, o + k * 9 + 2, none⟩ = some (.int .i64 rs[k].e.1.s) ∧ W.cell? ⟨b, o + k * 9 + 3, none⟩ = some (.int .i64 rs[k].e.1.u) ∧ W.cell? ⟨b, o + k * 9 + 4, none⟩ = some (.int .i64 rs[k].e.1.o) ∧ W.cell? ⟨b, o + k * 9 + 5, none⟩ = some (.bool rs[k].e.1.has) ∧ W.cell? ⟨b, o + k * 9 + 6, none⟩ = some (.slice rs[k].e.2.1 rs[k].e.1.v.length rs[k].e.2.2) ∧ W.cell? ⟨b, o + k * 9 + 7, none⟩ = some (.int .i64 rs[k].who) ∧ W.cell? ⟨b, o + k * 9 + 8, none⟩ = some (.int .i64 rs[k].kept)) := Lib.hid fun W hb => by
        obtain ⟨b', o', e, _, hc⟩ := d8s_open (HIN.out W hb).1 (by omega)
        injection e with e
        injection e with e1 e2
        subst e1; subst e2
        have c0 := hc k hk1 0 _ rfl
        rw [Nat.add_zero] at c0
        exact ⟨c0, hc k hk1 1 _ rfl, hc k hk1 2 _ rfl, hc k hk1 3 _ rfl, hc k hk1 4 _ rfl, hc k hk1 5 _ rfl, hc k hk1 6 _ rfl, hc k hk1 7 _ rfl, hc k hk1 8 _ rfl⟩
      have C := done8_round HIN.out HD.out hk1 (by have := HQ.out; have := HNL.out; omega) (by have := HA.out; have := HNL.out; omega)
      have HOK : Hid (∀ W, Below w.heap.size w W → D8Ok W w.heap.size rs[k]) := Lib.hid fun W hb => (HIN.out W hb).2 rs[k] (List.getElem_mem hk1)
      have hstep := d8S_acks S rs[k]
      have hrl : (d8S S rs[k]).2.1.length ≤ S.acks.length := by
        unfold d8S
        split
        · exact Nat.zero_le _
        split
        · exact Nat.le_refl _
        split
        · exact Nat.zero_le _
        split
        · exact Nat.zero_le _
        · exact Nat.zero_le _
      obtain ⟨d, hy1⟩ : ∃ y, rs[k] = y := ⟨_, rfl⟩
      rw [hy1] at HCL C HOK hstep hrl
      have HRD : Hid (∀ W (G : Nat → Prop) v, (∀ j, G j → j < W.heap.size) → Below w.heap.size w W → RefTV G S nq W v → RowN G W d.e.2.1 (d.e.1.v.map byteV) → Calls Tryz.prog 8 #[v, dV d] W (RefSt G (d8S S d) nq W)) := Lib.hid fun W G v hG hbW hv hrn => by
        have hm := tab_many HD.out.at_
        have hok := HOK.out W hbW
        exact refst8_any W G S nq d (by have := HQ.out; have := HNL.out; omega) HD.out.at_.ok HD.out.at_.mx HD.out.at_.ok.nOk hm.2 (by have := HA.out; have := HNL.out; omega) ⟨hok.row.more hbW.size, hok.cap, hok.capm, hok.key, hok.k0, hok.k1, hok.p0, hok.p1⟩ HD.out.at_.short hG hrn v hv
      obtain ⟨⟨S2, as2, er⟩, hR⟩ : ∃ R, d8S S d = R := ⟨_, rfl⟩
      rw [hR] at C HRD hstep hrl
      simp only at hstep hrl
      have HAS : Hid (S2.acks.length ≤ k + 1) := Lib.hid (by have := HA.out; omega)
      have HALN : Hid (as2.length ≤ 1466015503701) := Lib.hid (by have := HA.out; have := HNL.out; omega)
      have hasl : (as2.length : Int) ≤ 1466015503701 := by have := HALN.out; omega
      unfold dV at C HRD
      obtain ⟨kd, ⟨⟨ek, es, eu, eo, eh, ev⟩, eA, ec⟩, ew, kp⟩ := d
      simp only at HCL C HOK HRD
      have HC := Lib.hid C
      have HOKR : Hid (∀ W, Below w.heap.size w W → Row W w.heap.size eA (ev.map byteV)) := Lib.hid fun W hb => (HOK.out W hb).row
      have hki : (0 : Int) ≤ (k : Int) := by omega
      have hki2 : (k : Int) < (n : Int) := by omega
      obtain ⟨d0, d1, d2, d3, d4, d5, d6, d7, d8⟩ := HCL.out wr HD.out.bel
      clear C hb0 HOK hR hstep hrl hy1
      go_wp2_with fail
      refine HC.out.mono ?_
      rintro e w2 ⟨g2, F2, q2, A2, c2, rfl, hf, hl, hq2, ht, ho2, hn2⟩
      have HE2 := Lib.hid (HE.out.to hf ht)
      have HD2 := Lib.hid (HD.out.to hf hl ht)
      simp only at HD2 ho2 hn2 ⊢
      obtain ⟨AL, cL, AT, cT, R, c, vs, AU, cU, us, AV, cV, ls, AC, cC, hkb, htr, hnf⟩ := HE2.out
      have HTB := Lib.hid hkb
      have HTR := Lib.hid htr
      have HNF := Lib.hid hnf
      have hQ2 : q2 ≤ k + 1 := by have := HQ.out; omega
      have HQ2' := Lib.hid hQ2
      have HNQ : Hid (nq ≤ k) := Lib.hid HQ.out.2
      have HAK : Hid (RowN (AndB F2 bt) w2 A2 (acksC as2)) := Lib.hid (by
        rcases ownRow ho2 with h | ⟨b', o', e', hb', hc'⟩
        · exact Or.inl h
        · refine Or.inr ⟨b', o', e', fun hx => ?_, hb', hc'⟩
          rcases hx with hx | hx
          · exact hn2 _ e' hx
          · subst hx
            rcases ho2.2 with ⟨hv, _⟩ | ⟨g', cap', cur, hv, _, hh, _⟩
            · injection hv with h1 _ _; rw [e'] at h1; cases h1
            · injection hv with h1 _ _
              rw [e'] at h1
              injection h1 with h1
              injection h1 with h1 _ _
              subst h1
              have hk := HTB.out
              unfold Blk at hk
              rw [hk] at hh
              injection hh with hh
              injection hh with _ hh _
              exact absurd hh (by decide))
      have HS : Hid (∀ W (G : Nat → Prop), Below w2.heap.size w2 W → (∀ j, G j → AndB F2 bt j ∨ w2.heap.size ≤ j) → (∀ j, G j → j < W.heap.size) → Calls Tryz.prog 8 #[.agg #[.slice AL (allB (S.rs.take S.m)).length cL, .slice AT (allB (S.rs.drop S.m)).length cT, .int .i64 (nq : Int), .slice R vs.length c, .int .i64 (S.m : Int), .slice AU us.length cU, .slice AV ls.length cV, .slice AC S.acks.length cC], .agg #[.int .i64 kd, .string ⟨ek.toArray⟩, .int .i64 es, .int .i64 eu, .int .i64 eo, .bool eh, .slice eA ev.length ec, .int .i64 ew, .int .i64 kp]] W (RefSt G (S2, as2, er) nq W)) := Lib.hid fun W G hb hG hGl => by
        have hlow : ∀ j, G j → w.heap.size ≤ j := fun j hj => by
          rcases hG j hj with h1 | h1
          · rcases h1 with h1 | h1
            · exact HD2.out.new j h1
            · have := HBT.out; omega
          · exact Nat.le_trans HD2.out.bel.size h1
        have hWB := HD2.out.bel.trans (hb.mono HD2.out.bel.size)
        exact HRD.out W G _ hGl hWB ⟨AL, cL, AT, cT, R, c, vs, AU, cU, us, AV, cV, ls, AC, cC, rfl, HTR.out.step (Touch.ofBelow hb) hG⟩ (RowN.of_low (HOKR.out W hWB) hWB.size hlow)
      obtain ⟨d0, d1, d2, d3, d4, d5, d6, d7, d8⟩ := HCL.out w2 HD2.out.bel
      have t0 : w2.cell? ⟨bt, 0, none⟩ = some (.slice AL (allB (S.rs.take S.m)).length cL) := HTB.out.cell 0
      have t1 : w2.cell? ⟨bt, 1, none⟩ = some (.slice AT (allB (S.rs.drop S.m)).length cT) := HTB.out.cell 1
      have t2 : w2.cell? ⟨bt, 2, none⟩ = some (.int .i64 (nq : Int)) := HTB.out.cell 2
      have t3 : w2.cell? ⟨bt, 3, none⟩ = some (.slice R vs.length c) := HTB.out.cell 3
      have t4 : w2.cell? ⟨bt, 4, none⟩ = some (.int .i64 (S.m : Int)) := HTB.out.cell 4
      have t5 : w2.cell? ⟨bt, 5, none⟩ = some (.slice AU us.length cU) := HTB.out.cell 5
      have t6 : w2.cell? ⟨bt, 6, none⟩ = some (.slice AV ls.length cV) := HTB.out.cell 6
      have t7 : w2.cell? ⟨bt, 7, none⟩ = some (.slice AC S.acks.length cC) := HTB.out.cell 7
      have HDR : Hid (Below w2.heap.size w2 w2.drew) := Lib.hid (Below.refl _ _).drew
      have HDA : Hid (Below w2.heap.size w2 (w2.alloc (.cells #[.slice none 0 0, .slice none 0 0, .int .i64 0, .slice none 0 0, .int .i64 0, .slice none 0 0, .slice none 0 0, .slice none 0 0] 36)).drew) := Lib.hid ((Below.refl _ _).alloc (Nat.le_refl _) _).drew
      have HUB : Hid (Blk (w2.alloc (.cells #[.slice none 0 0, .slice none 0 0, .int .i64 0, .slice none 0 0, .int .i64 0, .slice none 0 0, .slice none 0 0, .slice none 0 0] 36)).drew w2.heap.size 36 #[.slice none 0 0, .slice none 0 0, .int .i64 0, .slice none 0 0, .int .i64 0, .slice none 0 0, .slice none 0 0, .slice none 0 0]) := Lib.hid (Blk.new _ _ _).drew
      have HG1 : Hid (∀ j, AndB F2 bt j → j < w2.drew.heap.size) := Lib.hid fun j hj => by
        rcases hj with h1 | h1
        · exact HD2.out.at_.lt j h1
        · subst h1; exact HTB.out.lt
      have HG2 : Hid (∀ j, AndB (AndB F2 bt) w2.heap.size j → j < (w2.alloc (.cells #[.slice none 0 0, .slice none 0 0, .int .i64 0, .slice none 0 0, .int .i64 0, .slice none 0 0, .slice none 0 0, .slice none 0 0] 36)).drew.heap.size) := Lib.hid fun j hj => by
        rcases hj with h1 | h1
        · exact Nat.lt_of_lt_of_le (HG1.out j h1) HDA.out.size
        · subst h1; exact HUB.out.lt
      have hbtl : bt < w2.heap.size := HTB.out.lt
      have hbl : b < w2.heap.size := block_lt d0
      clear hf hl ht hq2 hQ2 HC HD HE HE2 HQ HRD ho2 hn2 hkb htr hnf
      go_wp2_with fail
      go_region_held3 (fun w' => w'.cell? ⟨bt, 0, none⟩ = some (.slice AL (allB (S.rs.take S.m)).length cL) ∧ w'.cell? ⟨bt, 1, none⟩ = some (.slice AT (allB (S.rs.drop S.m)).length cT) ∧ w'.cell? ⟨bt, 2, none⟩ = some (.int .i64 (nq : Int)) ∧ w'.cell? ⟨bt, 3, none⟩ = some (.slice R vs.length c) ∧ w'.cell? ⟨bt, 4, none⟩ = some (.int .i64 (S.m : Int)) ∧ w'.cell? ⟨bt, 5, none⟩ = some (.slice AU us.length cU) ∧ w'.cell? ⟨bt, 6, none⟩ = some (.slice AV ls.length cV) ∧ w'.cell? ⟨bt, 7, none⟩ = some (.slice AC S.acks.length cC) ∧ w'.cell? ⟨b, o + k * 9, none⟩ = some (.int .i64 kd) ∧ w'.cell? ⟨b, o + k * 9 + 1, none⟩ = some (.string ⟨ek.toArray⟩) ∧ w'.cell? ⟨b, o + k * 9 + 2, none⟩ = some (.int .i64 es) ∧ w'.cell? ⟨b, o + k * 9 + 3, none⟩ = some (.int .i64 eu) ∧ w'.cell? ⟨b, o + k * 9 + 4, none⟩ = some (.int .i64 eo) ∧ w'.cell? ⟨b, o + k * 9 + 5, none⟩ = some (.bool eh) ∧ w'.cell? ⟨b, o + k * 9 + 6, none⟩ = some (.slice eA ev.length ec) ∧ w'.cell? ⟨b, o + k * 9 + 7, none⟩ = some (.int .i64 ew) ∧ w'.cell? ⟨b, o + k * 9 + 8, none⟩ = some (.int .i64 kp))
        (first | with_reducible exact ⟨f0, f1, f2, f3, f4, f5, f6, f7, f8, f9, f10, f11, f12, f13, f14, f15, f16⟩ | with_reducible exact ⟨cell_al _ f0, cell_al _ f1, cell_al _ f2, cell_al _ f3, cell_al _ f4, cell_al _ f5, cell_al _ f6, cell_al _ f7, cell_al _ f8, cell_al _ f9, cell_al _ f10, cell_al _ f11, cell_al _ f12, cell_al _ f13, cell_al _ f14, cell_al _ f15, cell_al _ f16⟩ | with_reducible exact ⟨cell_al _ t0, cell_al _ t1, cell_al _ t2, cell_al _ t3, cell_al _ t4, cell_al _ t5, cell_al _ t6, cell_al _ t7, cell_al _ d0, cell_al _ d1, cell_al _ d2, cell_al _ d3, cell_al _ d4, cell_al _ d5, cell_al _ d6, cell_al _ d7, cell_al _ d8⟩ | with_reducible exact ⟨far8s f0 (by omega), far8s f1 (by omega), far8s f2 (by omega), far8s f3 (by omega), far8s f4 (by omega), far8s f5 (by omega), far8s f6 (by omega), far8s f7 (by omega), far8s f8 (by omega), far8s f9 (by omega), far8s f10 (by omega), far8s f11 (by omega), far8s f12 (by omega), far8s f13 (by omega), far8s f14 (by omega), far8s f15 (by omega), far8s f16 (by omega)⟩ | go_keep)
        (first
          | (go_at_call 8; refine (HS.out _ (AndB F2 bt) HDR.out (fun j hj => Or.inl hj) HG1.out).mono ?_; rintro e w3 ⟨v3, q3, A3, c4, rfl, hq3, ⟨AL3, cL3, AT3, cT3, R3, c3, vs3, AU3, cU3, us3, AV3, cV3, ls3, AC3, cC3, rfl, hl3⟩, ha3, hb3⟩; have HB3 := Lib.hid (HDR.out.trans (hb3.mono HDR.out.size)); have HL3 := Lib.hid hl3; have HA3 := Lib.hid ha3; have HQ3 := Lib.hid hq3; simp only at HL3 HA3 ⊢; (have f0 : w3.cell? ⟨bt, 0, none⟩ = some (.slice AL (allB (S.rs.take S.m)).length cL) := (HTB.out.below HB3.out HTB.out.lt).cell 0); (have f1 : w3.cell? ⟨bt, 1, none⟩ = some (.slice AT (allB (S.rs.drop S.m)).length cT) := (HTB.out.below HB3.out HTB.out.lt).cell 1); (have f2 : w3.cell? ⟨bt, 2, none⟩ = some (.int .i64 (nq : Int)) := (HTB.out.below HB3.out HTB.out.lt).cell 2); (have f3 : w3.cell? ⟨bt, 3, none⟩ = some (.slice R vs.length c) := (HTB.out.below HB3.out HTB.out.lt).cell 3); (have f4 : w3.cell? ⟨bt, 4, none⟩ = some (.int .i64 (S.m : Int)) := (HTB.out.below HB3.out HTB.out.lt).cell 4); (have f5 : w3.cell? ⟨bt, 5, none⟩ = some (.slice AU us.length cU) := (HTB.out.below HB3.out HTB.out.lt).cell 5); (have f6 : w3.cell? ⟨bt, 6, none⟩ = some (.slice AV ls.length cV) := (HTB.out.below HB3.out HTB.out.lt).cell 6); (have f7 : w3.cell? ⟨bt, 7, none⟩ = some (.slice AC S.acks.length cC) := (HTB.out.below HB3.out HTB.out.lt).cell 7); obtain ⟨f8, f9, f10, f11, f12, f13, f14, f15, f16⟩ := HCL.out w3 (HD2.out.bel.trans (HB3.out.mono HD2.out.bel.size)); clear hl3 hb3 ha3 hq3)
          | (go_at_call 8; refine (HS.out _ (AndB (AndB F2 bt) w2.heap.size) HDA.out (fun j hj => by rcases hj with h1 | h1; exact Or.inl h1; exact Or.inr (by omega)) HG2.out).mono ?_; rintro e w3 ⟨v3, q3, A3, c4, rfl, hq3, ⟨AL3, cL3, AT3, cT3, R3, c3, vs3, AU3, cU3, us3, AV3, cV3, ls3, AC3, cC3, rfl, hl3⟩, ha3, hb3⟩; have HB3 := Lib.hid (HDA.out.trans (hb3.mono HDA.out.size)); have HL3 := Lib.hid hl3; have HA3 := Lib.hid ha3; have HQ3 := Lib.hid hq3; have HU3 := Lib.hid (HUB.out.below hb3 HUB.out.lt); simp only at HL3 HA3 ⊢; (have f0 : w3.cell? ⟨bt, 0, none⟩ = some (.slice AL (allB (S.rs.take S.m)).length cL) := (HTB.out.below HB3.out HTB.out.lt).cell 0); (have f1 : w3.cell? ⟨bt, 1, none⟩ = some (.slice AT (allB (S.rs.drop S.m)).length cT) := (HTB.out.below HB3.out HTB.out.lt).cell 1); (have f2 : w3.cell? ⟨bt, 2, none⟩ = some (.int .i64 (nq : Int)) := (HTB.out.below HB3.out HTB.out.lt).cell 2); (have f3 : w3.cell? ⟨bt, 3, none⟩ = some (.slice R vs.length c) := (HTB.out.below HB3.out HTB.out.lt).cell 3); (have f4 : w3.cell? ⟨bt, 4, none⟩ = some (.int .i64 (S.m : Int)) := (HTB.out.below HB3.out HTB.out.lt).cell 4); (have f5 : w3.cell? ⟨bt, 5, none⟩ = some (.slice AU us.length cU) := (HTB.out.below HB3.out HTB.out.lt).cell 5); (have f6 : w3.cell? ⟨bt, 6, none⟩ = some (.slice AV ls.length cV) := (HTB.out.below HB3.out HTB.out.lt).cell 6); (have f7 : w3.cell? ⟨bt, 7, none⟩ = some (.slice AC S.acks.length cC) := (HTB.out.below HB3.out HTB.out.lt).cell 7); obtain ⟨f8, f9, f10, f11, f12, f13, f14, f15, f16⟩ := HCL.out w3 (HD2.out.bel.trans (HB3.out.mono HD2.out.bel.size)); have x0 := HU3.out.cell 0; have y0 := HU3.out.frozen 0; have x1 := HU3.out.cell 1; have y1 := HU3.out.frozen 1; have x2 := HU3.out.cell 2; have y2 := HU3.out.frozen 2; have x3 := HU3.out.cell 3; have y3 := HU3.out.frozen 3; have x4 := HU3.out.cell 4; have y4 := HU3.out.frozen 4; have x5 := HU3.out.cell 5; have y5 := HU3.out.frozen 5; have x6 := HU3.out.cell 6; have y6 := HU3.out.frozen 6; have x7 := HU3.out.cell 7; have y7 := HU3.out.frozen 7; clear hl3 hb3 ha3 hq3))
      · obtain ⟨W5, hW5⟩ : ∃ W, w3.alloc (.cells #[.slice AL3 (allB (S2.rs.take S2.m)).length cL3, .slice AT3 (allB (S2.rs.drop S2.m)).length cT3, .int .i64 (q3 : Int), .slice R3 vs3.length c3, .int .i64 (S2.m : Int), .slice AU3 us3.length cU3, .slice AV3 ls3.length cV3, .slice AC3 S2.acks.length cC3] 36) = W := ⟨_, rfl⟩
        have HQ2 : Hid (q2 ≤ k + 1 ∧ q3 ≤ k + 1) := Lib.hid ⟨HQ2'.out, by have := HNQ.out; have := HQ3.out; omega⟩
        have HU : Hid (Blk (w3.alloc (.cells #[.slice AL3 (allB (S2.rs.take S2.m)).length cL3, .slice AT3 (allB (S2.rs.drop S2.m)).length cT3, .int .i64 (q3 : Int), .slice R3 vs3.length c3, .int .i64 (S2.m : Int), .slice AU3 us3.length cU3, .slice AV3 ls3.length cV3, .slice AC3 S2.acks.length cC3] 36)) w3.heap.size 36 #[.slice AL3 (allB (S2.rs.take S2.m)).length cL3, .slice AT3 (allB (S2.rs.drop S2.m)).length cT3, .int .i64 (q3 : Int), .slice R3 vs3.length c3, .int .i64 (S2.m : Int), .slice AU3 us3.length cU3, .slice AV3 ls3.length cV3, .slice AC3 S2.acks.length cC3] ∧ Below w2.heap.size w2 (w3.alloc (.cells #[.slice AL3 (allB (S2.rs.take S2.m)).length cL3, .slice AT3 (allB (S2.rs.drop S2.m)).length cT3, .int .i64 (q3 : Int), .slice R3 vs3.length c3, .int .i64 (S2.m : Int), .slice AU3 us3.length cU3, .slice AV3 ls3.length cV3, .slice AC3 S2.acks.length cC3] 36)) ∧ RefTR (w3.alloc (.cells #[.slice AL3 (allB (S2.rs.take S2.m)).length cL3, .slice AT3 (allB (S2.rs.drop S2.m)).length cT3, .int .i64 (q3 : Int), .slice R3 vs3.length c3, .int .i64 (S2.m : Int), .slice AU3 us3.length cU3, .slice AV3 ls3.length cV3, .slice AC3 S2.acks.length cC3] 36)) (AndB F2 bt) S2 AL3 cL3 AT3 cT3 R3 c3 vs3 AU3 cU3 us3 AV3 cV3 ls3 AC3 cC3 ∧ RowN (AndB F2 bt) (w3.alloc (.cells #[.slice AL3 (allB (S2.rs.take S2.m)).length cL3, .slice AT3 (allB (S2.rs.drop S2.m)).length cT3, .int .i64 (q3 : Int), .slice R3 vs3.length c3, .int .i64 (S2.m : Int), .slice AU3 us3.length cU3, .slice AV3 ls3.length cV3, .slice AC3 S2.acks.length cC3] 36)) A3 (acksC as2)) := Lib.hid (by
          have hal : Below w3.heap.size w3 (w3.alloc (.cells #[.slice AL3 (allB (S2.rs.take S2.m)).length cL3, .slice AT3 (allB (S2.rs.drop S2.m)).length cT3, .int .i64 (q3 : Int), .slice R3 vs3.length c3, .int .i64 (S2.m : Int), .slice AU3 us3.length cU3, .slice AV3 ls3.length cV3, .slice AC3 S2.acks.length cC3] 36)) := (Below.refl _ _).alloc (Nat.le_refl _) _
          exact ⟨Blk.new _ _ _, HB3.out.trans (hal.mono HB3.out.size), HL3.out.below hal, HA3.out.below hal⟩)
        rw [hW5] at HU
        rw [hW5]
        have u0 := HU.out.1.cell 0
        have u1 := HU.out.1.cell 1
        have u2 := HU.out.1.cell 2
        have u3 := HU.out.1.cell 3
        have u4 := HU.out.1.cell 4
        have u5 := HU.out.1.cell 5
        have u6 := HU.out.1.cell 6
        have u7 := HU.out.1.cell 7
        have v0 := (HTB.out.below HU.out.2.1 HTB.out.lt).cell 0
        have z0 := (HTB.out.below HU.out.2.1 HTB.out.lt).frozen 0
        have v1 := (HTB.out.below HU.out.2.1 HTB.out.lt).cell 1
        have z1 := (HTB.out.below HU.out.2.1 HTB.out.lt).frozen 1
        have v2 := (HTB.out.below HU.out.2.1 HTB.out.lt).cell 2
        have z2 := (HTB.out.below HU.out.2.1 HTB.out.lt).frozen 2
        have v3 := (HTB.out.below HU.out.2.1 HTB.out.lt).cell 3
        have z3 := (HTB.out.below HU.out.2.1 HTB.out.lt).frozen 3
        have v4 := (HTB.out.below HU.out.2.1 HTB.out.lt).cell 4
        have z4 := (HTB.out.below HU.out.2.1 HTB.out.lt).frozen 4
        have v5 := (HTB.out.below HU.out.2.1 HTB.out.lt).cell 5
        have z5 := (HTB.out.below HU.out.2.1 HTB.out.lt).frozen 5
        have v6 := (HTB.out.below HU.out.2.1 HTB.out.lt).cell 6
        have z6 := (HTB.out.below HU.out.2.1 HTB.out.lt).frozen 6
        have v7 := (HTB.out.below HU.out.2.1 HTB.out.lt).cell 7
        have z7 := (HTB.out.below HU.out.2.1 HTB.out.lt).frozen 7
        have HP := Lib.hid (steps_put8 (q3 := q3) HD2.out HU.out.2.1 HTB.out HNF.out HBT.out HU.out.2.2.1)
        have HRA : Hid (Row (set8 W5 bt (.slice AL3 (allB (S2.rs.take S2.m)).length cL3) (.slice AT3 (allB (S2.rs.drop S2.m)).length cT3) (.int .i64 (q3 : Int)) (.slice R3 vs3.length c3) (.int .i64 (S2.m : Int)) (.slice AU3 us3.length cU3) (.slice AV3 ls3.length cV3) (.slice AC3 S2.acks.length cC3)) (set8 W5 bt (.slice AL3 (allB (S2.rs.take S2.m)).length cL3) (.slice AT3 (allB (S2.rs.drop S2.m)).length cT3) (.int .i64 (q3 : Int)) (.slice R3 vs3.length c3) (.int .i64 (S2.m : Int)) (.slice AU3 us3.length cU3) (.slice AV3 ls3.length cV3) (.slice AC3 S2.acks.length cC3)).heap.size A2 (acksC as2)) := Lib.hid ((HAK.out.touch (Touch.ofBelow HU.out.2.1)).touch (set8_touch (F := F2) _ _ _ _ _ _ _ _)).row
        have HRB : Hid (Row (set8 W5 bt (.slice AL3 (allB (S2.rs.take S2.m)).length cL3) (.slice AT3 (allB (S2.rs.drop S2.m)).length cT3) (.int .i64 (q3 : Int)) (.slice R3 vs3.length c3) (.int .i64 (S2.m : Int)) (.slice AU3 us3.length cU3) (.slice AV3 ls3.length cV3) (.slice AC3 S2.acks.length cC3)) (set8 W5 bt (.slice AL3 (allB (S2.rs.take S2.m)).length cL3) (.slice AT3 (allB (S2.rs.drop S2.m)).length cT3) (.int .i64 (q3 : Int)) (.slice R3 vs3.length c3) (.int .i64 (S2.m : Int)) (.slice AU3 us3.length cU3) (.slice AV3 ls3.length cV3) (.slice AC3 S2.acks.length cC3)).heap.size A3 (acksC as2)) := Lib.hid (HU.out.2.2.2.touch (set8_touch (F := F2) _ _ _ _ _ _ _ _)).row
        obtain ⟨W6, hW6⟩ : ∃ W, set8 W5 bt (.slice AL3 (allB (S2.rs.take S2.m)).length cL3) (.slice AT3 (allB (S2.rs.drop S2.m)).length cT3) (.int .i64 (q3 : Int)) (.slice R3 vs3.length c3) (.int .i64 (S2.m : Int)) (.slice AU3 us3.length cU3) (.slice AV3 ls3.length cV3) (.slice AC3 S2.acks.length cC3) = W := ⟨_, rfl⟩
        rw [hW6] at HP HRA HRB
        have HW6 := Lib.hid hW6
        clear hW5 hW6 f0 f1 f2 f3 f4 f5 f6 f7 f8 f9 f10 f11 f12 f13 f14 f15 f16 HB3 HL3 d0 d1 d2 d3 d4 d5 d6 d7 d8
        have hee : (er != er) = false := by simp
        go_wp2_with fail
        have hW6 := HW6.out
        unfold set8 at hW6
        rw [hW6]
        refine (sameacks_true as2.length c2 as2.length c4 A2 A3 as2 rfl rfl (by have := HALN.out; unfold maxLen; omega) W6 HRA.out HRB.out).mono ?_
        rintro e w7 ⟨rfl, hb7⟩
        clear hW6
        obtain ⟨AL4, cL4, AT4, cT4, R4, c4, vs4, AU4, cU4, us4, AV4, cV4, ls4, AC4, cC4, hkb, htr, hnf⟩ := HP.out.2
        have hst7 := HP.out.1.below hb7
        have hkb7 := hkb.below hb7 hkb.lt
        have htr7 := htr.below hb7
        have HST7 := Lib.hid hst7
        have HKB7 := Lib.hid hkb7
        have HTR7 := Lib.hid htr7
        have HNF7 := Lib.hid hnf
        have p0 := HKB7.out.cell 0
        have p1 := HKB7.out.cell 1
        have p2 := HKB7.out.cell 2
        have p3 := HKB7.out.cell 3
        have p4 := HKB7.out.cell 4
        have p5 := HKB7.out.cell 5
        have p6 := HKB7.out.cell 6
        have p7 := HKB7.out.cell 7
        clear hb7 HP HRA HRB hkb htr hnf hst7 hkb7 htr7 u0 v0 z0 u1 v1 z1 u2 v2 z2 u3 v3 z3 u4 v4 z4 u5 v5 z5 u6 v6 z6 u7 v7 z7
        go_wp2_with fail
        have hm1 := tab_many HST7.out.at_
        refine (same8_any F2 g2 q2 _ _ _ _ _ _ _ _ _ _ _ _ S2 _ _ us4 ls4 _ _ _ _ _ _ _ _ rfl rfl rfl rfl rfl rfl rfl HTR7.out.un HTR7.out.ln (by rw [← HTR7.out.un, List.length_map] at hm1; omega) (by rw [← HTR7.out.ln, List.length_map] at hm1; omega) w7 HST7.out.at_ HTR7.out.log.rl.row HTR7.out.log.rt.row HTR7.out.ue.env HTR7.out.le.env).mono ?_
        rintro e w8 ⟨rfl, hb8⟩
        have HST8 := Lib.hid (HST7.out.below hb8)
        have HKB8 := Lib.hid (HKB7.out.below hb8 HKB7.out.lt)
        have HTR8 := Lib.hid (HTR7.out.below hb8)
        have hm2 : us4.length ≤ 8388608 ∧ ls4.length ≤ 8388608 := by
          rw [← HTR7.out.un, ← HTR7.out.ln, List.length_map, List.length_map] at hm1
          exact ⟨hm1.2, hm1.1⟩
        have HM2 := Lib.hid hm2
        clear hb8 hm1 hm2 HST7 HKB7 HTR7 p0 p1 p2 p3 p4 p5 p6 p7
        have hx1k := ofT_key S2.L key
        have hx2k := ofT_key S2.N key
        have hx1l := ofT_len HST8.out.at_.ok.lOk key
        have hx2l := ofT_len HST8.out.at_.ok.nOk key
        have HG1 := Lib.hid fun w' (hb : Below w8.heap.size w8 w') => get_any8 F2 g2 q2 S2 key HKY.out w' (HST8.out.at_.below hb)
        have HG2 := Lib.hid fun w' (hb : Below w8.heap.size w8 w') => getnew_any8 F2 g2 q2 S2 key HKY.out w' (HST8.out.at_.below hb)
        have HO1 := Lib.hid fun w' (hb : Below w8.heap.size w8 w') => refof_any ls4.length cV4 AV4 ls4 key rfl (by have := HM2.out.2; omega) w' (HTR8.out.le.below hb).env
        have HO2 := Lib.hid fun w' (hb : Below w8.heap.size w8 w') => refof_any us4.length cU4 AU4 us4 key rfl (by have := HM2.out.1; omega) w' (HTR8.out.ue.below hb).env
        rw [HTR8.out.ln] at HO1
        rw [HTR8.out.un] at HO2
        obtain ⟨x1, hx1⟩ : ∃ x, ofT S2.L key = x := ⟨_, rfl⟩
        obtain ⟨x2, hx2⟩ : ∃ x, ofT S2.N key = x := ⟨_, rfl⟩
        rw [hx1] at HG1 HO1 hx1k hx1l
        rw [hx2] at HG2 HO2 hx2k hx2l
        replace HG1 : Hid (∀ w', Below w8.heap.size w8 w' → Calls Tryz.prog 12 #[.pointer (some ⟨g2, 0, none⟩), .string ⟨key.toArray⟩] w' (EntT key x1 w')) := Lib.hid fun w' hb => (HG1.out w' hb).mono fun e w3 h => by
          obtain ⟨A, c, h1, h2, h3, h4⟩ := getP_open hx1k hx1l h
          exact ⟨A, c, h1, h2, h4⟩
        replace HG2 : Hid (∀ w', Below w8.heap.size w8 w' → Calls Tryz.prog 14 #[.pointer (some ⟨g2, 0, none⟩), .string ⟨key.toArray⟩] w' (EntT key x2 w')) := Lib.hid fun w' hb => (HG2.out w' hb).mono fun e w3 h => by
          obtain ⟨A, c, h1, h2, h3, h4⟩ := getP_open hx2k hx2l h
          exact ⟨A, c, h1, h2, h4⟩
        replace HO1 : Hid (∀ w', Below w8.heap.size w8 w' → Calls Tryz.prog 13 #[.slice AV4 ls4.length cV4, .string ⟨key.toArray⟩] w' (EntT key x1 w')) := Lib.hid fun w' hb => (HO1.out w' hb).mono fun e w3 h => by
          obtain ⟨A, c, h1, h2, h3⟩ := h
          rw [hx1k] at h1
          exact ⟨A, c, h1, h2, h3⟩
        replace HO2 : Hid (∀ w', Below w8.heap.size w8 w' → Calls Tryz.prog 13 #[.slice AU4 us4.length cU4, .string ⟨key.toArray⟩] w' (EntT key x2 w')) := Lib.hid fun w' hb => (HO2.out w' hb).mono fun e w3 h => by
          obtain ⟨A, c, h1, h2, h3⟩ := h
          rw [hx2k] at h1
          exact ⟨A, c, h1, h2, h3⟩
        have HTC : Hid (∀ w', Below w8.heap.size w8 w' → w'.cell? ⟨bt, 6, none⟩ = some (.slice AV4 ls4.length cV4) ∧ w'.cell? ⟨bt, 5, none⟩ = some (.slice AU4 us4.length cU4)) := Lib.hid fun w' hb => ⟨(HKB8.out.below hb HKB8.out.lt).cell 6, (HKB8.out.below hb HKB8.out.lt).cell 5⟩
        have HS1 := Lib.hid fun w' A c (h1 : ValOk w' x1.has A x1.v c) A' c' (h2 : ValOk w' x1.has A' x1.v c') => refsame_true ⟨key.toArray⟩ x1.s x1.u x1.o x1.has A A' x1.v c c' x1.v.length x1.v.length rfl rfl w' h1 h2
        have HS2 := Lib.hid fun w' A c (h1 : ValOk w' x2.has A x2.v c) A' c' (h2 : ValOk w' x2.has A' x2.v c') => refsame_true ⟨key.toArray⟩ x2.s x2.u x2.o x2.has A A' x2.v c c' x2.v.length x2.v.length rfl rfl w' h1 h2
        clear hx1 hx2 hx1k hx2k hx1l hx2l
        go_wp2
        refine Rely.wp_region_by [[], [], [(0, 72), (1, 73)], [], [(3, 75)], [], [(4, 76), (5, 77)], [(2, 74), (6, 78)], [(7, 79)], [(8, 80)], [(9, 81)], [(9, 81)], [(9, 81), (10, 82), (11, 83)], [(9, 81)], [(9, 81), (13, 85)], [(9, 81)], [(9, 81), (14, 86), (15, 87)], [(9, 81), (12, 84), (16, 88)], [(9, 81), (17, 89)], [(9, 81), (18, 90)]] [(0, 72), (1, 73), (2, 74), (3, 75), (4, 76), (5, 77), (6, 78), (7, 79), (8, 80), (9, 81), (10, 82), (11, 83), (12, 84), (13, 85), (14, 86), (15, 87), (16, 88), (17, 89), (18, 90), (19, 91)] [] (rg8S g2 bt us4.length ls4.length cU4 cV4 key x1 x2 AU4 AV4) (by kernel_rfl) (by kernel_rfl) (by kernel_rfl) (by kernel_rfl) (by kernel_rfl) (by kernel_rfl) (rg8S_later g2 bt us4.length ls4.length cU4 cV4 key x1 x2 AU4 AV4) ?_ ?_
        · skip
          refine Rely.stepsZ_cons (by
            intro vs w' hb hp
            simp only [Rely.Pre, rg8S] at hp
            unfold Rely.gives
            simp only [Rely.sel, List.foldl_cons, List.foldl_nil]
            go_simp
            exact ⟨Below.refl _ _, rfl⟩) ?_
          refine Rely.stepsZ_cons (by
            intro vs w' hb hp
            simp only [Rely.Pre, rg8S] at hp
            unfold Rely.gives
            simp only [Rely.sel, List.foldl_cons, List.foldl_nil]
            go_simp
            exact ⟨Below.refl _ _, rfl⟩) ?_
          refine Rely.stepsZ_cons (by
            intro vs w' hb hp
            simp only [Rely.Pre, rg8S] at hp
            obtain ⟨h72, h73, _⟩ := hp
            unfold Rely.gives
            simp only [Rely.sel, List.foldl_cons, List.foldl_nil]
            go_simp
            simp only [Rely.GivesR]
            refine (HG1.out w' hb).mono ?_
            rintro e w3 ⟨A3, c3, rfl, ho3, hb3⟩
            exact ⟨_, rfl, hb3, A3, c3, rfl, ho3⟩) ?_
          refine Rely.stepsZ_cons (by
            intro vs w' hb hp
            simp only [Rely.Pre, rg8S] at hp
            unfold Rely.gives
            simp only [Rely.sel, List.foldl_cons, List.foldl_nil]
            go_simp
            exact ⟨Below.refl _ _, rfl⟩) ?_
          refine Rely.stepsZ_cons (by
            intro vs w' hb hp
            simp only [Rely.Pre, rg8S] at hp
            obtain ⟨h75, _⟩ := hp
            have hfact := (HTC.out w' hb).1
            unfold Rely.gives
            simp only [Rely.sel, List.foldl_cons, List.foldl_nil]
            go_simp
            exact ⟨Below.refl _ _, rfl⟩) ?_
          refine Rely.stepsZ_cons (by
            intro vs w' hb hp
            simp only [Rely.Pre, rg8S] at hp
            unfold Rely.gives
            simp only [Rely.sel, List.foldl_cons, List.foldl_nil]
            go_simp
            exact ⟨Below.refl _ _, rfl⟩) ?_
          refine Rely.stepsZ_cons (by
            intro vs w' hb hp
            simp only [Rely.Pre, rg8S] at hp
            obtain ⟨h76, h77, _⟩ := hp
            unfold Rely.gives
            simp only [Rely.sel, List.foldl_cons, List.foldl_nil]
            go_simp
            simp only [Rely.GivesR]
            refine (HO1.out w' hb).mono ?_
            rintro e w3 ⟨A3, c3, rfl, ho3, hb3⟩
            exact ⟨_, rfl, hb3, A3, c3, rfl, ho3⟩) ?_
          refine Rely.stepsZ_cons (by
            intro vs w' hb hp
            simp only [Rely.Pre, rg8S] at hp
            obtain ⟨⟨a74, c74, e74, ho74⟩, ⟨a78, c78, e78, ho78⟩, _⟩ := hp
            unfold Rely.gives
            simp only [Rely.sel, List.foldl_cons, List.foldl_nil]
            go_simp
            simp only [Rely.GivesR]
            refine (HS1.out w' a74 c74 ho74 a78 c78 ho78).mono ?_
            rintro e w3 ⟨rfl, hb3⟩
            exact ⟨_, rfl, hb3, rfl⟩) ?_
          refine Rely.stepsZ_cons (by
            intro vs w' hb hp
            simp only [Rely.Pre, rg8S] at hp
            obtain ⟨h79, _⟩ := hp
            unfold Rely.gives
            simp only [Rely.sel, List.foldl_cons, List.foldl_nil]
            go_simp
            exact ⟨Below.refl _ _, rfl⟩) ?_
          refine Rely.stepsZ_cons (by
            intro vs w' hb hp
            simp only [Rely.Pre, rg8S] at hp
            obtain ⟨h80, _⟩ := hp
            unfold Rely.gives
            simp only [Rely.sel, List.foldl_cons, List.foldl_nil]
            go_simp
            exact ⟨Below.refl _ _, rfl⟩) ?_
          refine Rely.stepsZ_cons (by
            intro vs w' hb hp
            simp only [Rely.Pre, rg8S] at hp
            obtain ⟨h81, _⟩ := hp
            unfold Rely.gives
            simp only [Rely.sel, List.foldl_cons, List.foldl_nil]
            go_simp
            exact ⟨Below.refl _ _, rfl⟩) ?_
          refine Rely.stepsZ_cons (by
            intro vs w' hb hp
            simp only [Rely.Pre, rg8S] at hp
            obtain ⟨h81, _⟩ := hp
            unfold Rely.gives
            simp only [Rely.sel, List.foldl_cons, List.foldl_nil]
            go_simp
            exact ⟨Below.refl _ _, rfl⟩) ?_
          refine Rely.stepsZ_cons (by
            intro vs w' hb hp
            simp only [Rely.Pre, rg8S] at hp
            obtain ⟨h81, h82, h83, _⟩ := hp
            unfold Rely.gives
            simp only [Rely.sel, List.foldl_cons, List.foldl_nil]
            go_simp
            simp only [Rely.GivesR]
            refine (HG2.out w' hb).mono ?_
            rintro e w3 ⟨A3, c3, rfl, ho3, hb3⟩
            exact ⟨_, rfl, hb3, A3, c3, rfl, ho3⟩) ?_
          refine Rely.stepsZ_cons (by
            intro vs w' hb hp
            simp only [Rely.Pre, rg8S] at hp
            obtain ⟨h81, _⟩ := hp
            unfold Rely.gives
            simp only [Rely.sel, List.foldl_cons, List.foldl_nil]
            go_simp
            exact ⟨Below.refl _ _, rfl⟩) ?_
          refine Rely.stepsZ_cons (by
            intro vs w' hb hp
            simp only [Rely.Pre, rg8S] at hp
            obtain ⟨h81, h85, _⟩ := hp
            have hfact := (HTC.out w' hb).2
            unfold Rely.gives
            simp only [Rely.sel, List.foldl_cons, List.foldl_nil]
            go_simp
            exact ⟨Below.refl _ _, rfl⟩) ?_
          refine Rely.stepsZ_cons (by
            intro vs w' hb hp
            simp only [Rely.Pre, rg8S] at hp
            obtain ⟨h81, _⟩ := hp
            unfold Rely.gives
            simp only [Rely.sel, List.foldl_cons, List.foldl_nil]
            go_simp
            exact ⟨Below.refl _ _, rfl⟩) ?_
          refine Rely.stepsZ_cons (by
            intro vs w' hb hp
            simp only [Rely.Pre, rg8S] at hp
            obtain ⟨h81, h86, h87, _⟩ := hp
            unfold Rely.gives
            simp only [Rely.sel, List.foldl_cons, List.foldl_nil]
            go_simp
            simp only [Rely.GivesR]
            refine (HO2.out w' hb).mono ?_
            rintro e w3 ⟨A3, c3, rfl, ho3, hb3⟩
            exact ⟨_, rfl, hb3, A3, c3, rfl, ho3⟩) ?_
          refine Rely.stepsZ_cons (by
            intro vs w' hb hp
            simp only [Rely.Pre, rg8S] at hp
            obtain ⟨h81, ⟨a84, c84, e84, ho84⟩, ⟨a88, c88, e88, ho88⟩, _⟩ := hp
            unfold Rely.gives
            simp only [Rely.sel, List.foldl_cons, List.foldl_nil]
            go_simp
            simp only [Rely.GivesR]
            refine (HS2.out w' a84 c84 ho84 a88 c88 ho88).mono ?_
            rintro e w3 ⟨rfl, hb3⟩
            exact ⟨_, rfl, hb3, rfl⟩) ?_
          refine Rely.stepsZ_cons (by
            intro vs w' hb hp
            simp only [Rely.Pre, rg8S] at hp
            obtain ⟨h81, h89, _⟩ := hp
            unfold Rely.gives
            simp only [Rely.sel, List.foldl_cons, List.foldl_nil]
            go_simp
            exact ⟨Below.refl _ _, rfl⟩) ?_
          refine Rely.stepsZ_cons (by
            intro vs w' hb hp
            simp only [Rely.Pre, rg8S] at hp
            obtain ⟨h81, h90, _⟩ := hp
            unfold Rely.gives
            simp only [Rely.sel, List.foldl_cons, List.foldl_nil]
            go_simp
            exact ⟨Below.refl _ _, rfl⟩) ?_
          exact Rely.stepsZ_nil
        intro tvs wx hbx hp _
        simp only [Rely.Pre, rg8S] at hp
        obtain ⟨h0, h1, ⟨a2, b2, h2, ho2⟩, h3, h4, h5, ⟨a6, b6, h6, ho6⟩, h7, h8, h9, h10, h11, ⟨a12, b12, h12, ho12⟩, h13, h14, h15, ⟨a16, b16, h16, ho16⟩, h17, h18, h19, _⟩ := hp
        simp only [Rely.sel, List.foldl_cons, List.foldl_nil, h0, h1, h2, h3, h4, h5, h6, h7, h8, h9, h10, h11, h12, h13, h14, h15, h16, h17, h18, h19]
        clear h0 h1 h2 h3 h4 h5 h6 h7 h8 h9 h10 h11 h12 h13 h14 h15 h16 h17 h18 h19
        simp only [Act.put, List.setIfInBounds_toArray, List.set_cons_succ, List.set_cons_zero]
        have HK9 : Hid (INV8 w wx bt g2 (k + 1)) := Lib.hid ⟨F2, S2, q2, q3, HQ2.out.1, HQ2.out.2, HAS.out, HST8.out.below hbx, RefH.below ⟨AL4, cL4, AT4, cT4, R4, c4, vs4, AU4, cU4, us4, AV4, cV4, ls4, AC4, cC4, HKB8.out, HTR8.out, HNF7.out⟩ hbx, HBT.out⟩
        clear hbx HG1 HG2 HO1 HO2 HTC HS1 HS2 HST8 HKB8 HTR8
        go_wp2
        go_roundw
        case rel => exact ⟨k + 1, by omega, by go_num, g2, rfl, HK9⟩
        case measure => simp [intOf]; omega
      · obtain ⟨W5, hW5⟩ : ∃ W, (((((((((w3).setCell ⟨w2.heap.size, 0, none⟩ (.slice AL3 (allB (S2.rs.take S2.m)).length cL3)).setCell ⟨w2.heap.size, 1, none⟩ (.slice AT3 (allB (S2.rs.drop S2.m)).length cT3)).setCell ⟨w2.heap.size, 2, none⟩ (.int .i64 (q3 : Int))).setCell ⟨w2.heap.size, 3, none⟩ (.slice R3 vs3.length c3)).setCell ⟨w2.heap.size, 4, none⟩ (.int .i64 (S2.m : Int))).setCell ⟨w2.heap.size, 5, none⟩ (.slice AU3 us3.length cU3)).setCell ⟨w2.heap.size, 6, none⟩ (.slice AV3 ls3.length cV3)).setCell ⟨w2.heap.size, 7, none⟩ (.slice AC3 S2.acks.length cC3)) = W := ⟨_, rfl⟩
        have HQ2 : Hid (q2 ≤ k + 1 ∧ q3 ≤ k + 1) := Lib.hid ⟨HQ2'.out, by have := HNQ.out; have := HQ3.out; omega⟩
        have HU : Hid (Blk (((((((((w3).setCell ⟨w2.heap.size, 0, none⟩ (.slice AL3 (allB (S2.rs.take S2.m)).length cL3)).setCell ⟨w2.heap.size, 1, none⟩ (.slice AT3 (allB (S2.rs.drop S2.m)).length cT3)).setCell ⟨w2.heap.size, 2, none⟩ (.int .i64 (q3 : Int))).setCell ⟨w2.heap.size, 3, none⟩ (.slice R3 vs3.length c3)).setCell ⟨w2.heap.size, 4, none⟩ (.int .i64 (S2.m : Int))).setCell ⟨w2.heap.size, 5, none⟩ (.slice AU3 us3.length cU3)).setCell ⟨w2.heap.size, 6, none⟩ (.slice AV3 ls3.length cV3)).setCell ⟨w2.heap.size, 7, none⟩ (.slice AC3 S2.acks.length cC3)) w2.heap.size 36 #[.slice AL3 (allB (S2.rs.take S2.m)).length cL3, .slice AT3 (allB (S2.rs.drop S2.m)).length cT3, .int .i64 (q3 : Int), .slice R3 vs3.length c3, .int .i64 (S2.m : Int), .slice AU3 us3.length cU3, .slice AV3 ls3.length cV3, .slice AC3 S2.acks.length cC3] ∧ Below w2.heap.size w2 (((((((((w3).setCell ⟨w2.heap.size, 0, none⟩ (.slice AL3 (allB (S2.rs.take S2.m)).length cL3)).setCell ⟨w2.heap.size, 1, none⟩ (.slice AT3 (allB (S2.rs.drop S2.m)).length cT3)).setCell ⟨w2.heap.size, 2, none⟩ (.int .i64 (q3 : Int))).setCell ⟨w2.heap.size, 3, none⟩ (.slice R3 vs3.length c3)).setCell ⟨w2.heap.size, 4, none⟩ (.int .i64 (S2.m : Int))).setCell ⟨w2.heap.size, 5, none⟩ (.slice AU3 us3.length cU3)).setCell ⟨w2.heap.size, 6, none⟩ (.slice AV3 ls3.length cV3)).setCell ⟨w2.heap.size, 7, none⟩ (.slice AC3 S2.acks.length cC3)) ∧ RefTR (((((((((w3).setCell ⟨w2.heap.size, 0, none⟩ (.slice AL3 (allB (S2.rs.take S2.m)).length cL3)).setCell ⟨w2.heap.size, 1, none⟩ (.slice AT3 (allB (S2.rs.drop S2.m)).length cT3)).setCell ⟨w2.heap.size, 2, none⟩ (.int .i64 (q3 : Int))).setCell ⟨w2.heap.size, 3, none⟩ (.slice R3 vs3.length c3)).setCell ⟨w2.heap.size, 4, none⟩ (.int .i64 (S2.m : Int))).setCell ⟨w2.heap.size, 5, none⟩ (.slice AU3 us3.length cU3)).setCell ⟨w2.heap.size, 6, none⟩ (.slice AV3 ls3.length cV3)).setCell ⟨w2.heap.size, 7, none⟩ (.slice AC3 S2.acks.length cC3)) (AndB F2 bt) S2 AL3 cL3 AT3 cT3 R3 c3 vs3 AU3 cU3 us3 AV3 cV3 ls3 AC3 cC3 ∧ RowN (AndB F2 bt) (((((((((w3).setCell ⟨w2.heap.size, 0, none⟩ (.slice AL3 (allB (S2.rs.take S2.m)).length cL3)).setCell ⟨w2.heap.size, 1, none⟩ (.slice AT3 (allB (S2.rs.drop S2.m)).length cT3)).setCell ⟨w2.heap.size, 2, none⟩ (.int .i64 (q3 : Int))).setCell ⟨w2.heap.size, 3, none⟩ (.slice R3 vs3.length c3)).setCell ⟨w2.heap.size, 4, none⟩ (.int .i64 (S2.m : Int))).setCell ⟨w2.heap.size, 5, none⟩ (.slice AU3 us3.length cU3)).setCell ⟨w2.heap.size, 6, none⟩ (.slice AV3 ls3.length cV3)).setCell ⟨w2.heap.size, 7, none⟩ (.slice AC3 S2.acks.length cC3)) A3 (acksC as2)) := Lib.hid (by
          have hf := set8_fin HU3.out (.slice AL3 (allB (S2.rs.take S2.m)).length cL3) (.slice AT3 (allB (S2.rs.drop S2.m)).length cT3) (.int .i64 (q3 : Int)) (.slice R3 vs3.length c3) (.int .i64 (S2.m : Int)) (.slice AU3 us3.length cU3) (.slice AV3 ls3.length cV3) (.slice AC3 S2.acks.length cC3)
          have htt := set8_touch (F := AndB F2 bt) (w := w3) (b := w2.heap.size) (.slice AL3 (allB (S2.rs.take S2.m)).length cL3) (.slice AT3 (allB (S2.rs.drop S2.m)).length cT3) (.int .i64 (q3 : Int)) (.slice R3 vs3.length c3) (.int .i64 (S2.m : Int)) (.slice AU3 us3.length cU3) (.slice AV3 ls3.length cV3) (.slice AC3 S2.acks.length cC3)
          unfold set8 at hf htt
          exact ⟨hf.1, hf.2.2.1 w2 HB3.out (Nat.le_refl _), HL3.out.step htt (F' := AndB F2 bt) (fun j hj => Or.inl (Or.inl hj)), HA3.out.step htt (F' := AndB F2 bt) (fun j hj => Or.inl (Or.inl hj))⟩)
        rw [hW5] at HU
        rw [hW5]
        have u0 := HU.out.1.cell 0
        have u1 := HU.out.1.cell 1
        have u2 := HU.out.1.cell 2
        have u3 := HU.out.1.cell 3
        have u4 := HU.out.1.cell 4
        have u5 := HU.out.1.cell 5
        have u6 := HU.out.1.cell 6
        have u7 := HU.out.1.cell 7
        have v0 := (HTB.out.below HU.out.2.1 HTB.out.lt).cell 0
        have z0 := (HTB.out.below HU.out.2.1 HTB.out.lt).frozen 0
        have v1 := (HTB.out.below HU.out.2.1 HTB.out.lt).cell 1
        have z1 := (HTB.out.below HU.out.2.1 HTB.out.lt).frozen 1
        have v2 := (HTB.out.below HU.out.2.1 HTB.out.lt).cell 2
        have z2 := (HTB.out.below HU.out.2.1 HTB.out.lt).frozen 2
        have v3 := (HTB.out.below HU.out.2.1 HTB.out.lt).cell 3
        have z3 := (HTB.out.below HU.out.2.1 HTB.out.lt).frozen 3
        have v4 := (HTB.out.below HU.out.2.1 HTB.out.lt).cell 4
        have z4 := (HTB.out.below HU.out.2.1 HTB.out.lt).frozen 4
        have v5 := (HTB.out.below HU.out.2.1 HTB.out.lt).cell 5
        have z5 := (HTB.out.below HU.out.2.1 HTB.out.lt).frozen 5
        have v6 := (HTB.out.below HU.out.2.1 HTB.out.lt).cell 6
        have z6 := (HTB.out.below HU.out.2.1 HTB.out.lt).frozen 6
        have v7 := (HTB.out.below HU.out.2.1 HTB.out.lt).cell 7
        have z7 := (HTB.out.below HU.out.2.1 HTB.out.lt).frozen 7
        have HP := Lib.hid (steps_put8 (q3 := q3) HD2.out HU.out.2.1 HTB.out HNF.out HBT.out HU.out.2.2.1)
        have HRA : Hid (Row (set8 W5 bt (.slice AL3 (allB (S2.rs.take S2.m)).length cL3) (.slice AT3 (allB (S2.rs.drop S2.m)).length cT3) (.int .i64 (q3 : Int)) (.slice R3 vs3.length c3) (.int .i64 (S2.m : Int)) (.slice AU3 us3.length cU3) (.slice AV3 ls3.length cV3) (.slice AC3 S2.acks.length cC3)) (set8 W5 bt (.slice AL3 (allB (S2.rs.take S2.m)).length cL3) (.slice AT3 (allB (S2.rs.drop S2.m)).length cT3) (.int .i64 (q3 : Int)) (.slice R3 vs3.length c3) (.int .i64 (S2.m : Int)) (.slice AU3 us3.length cU3) (.slice AV3 ls3.length cV3) (.slice AC3 S2.acks.length cC3)).heap.size A2 (acksC as2)) := Lib.hid ((HAK.out.touch (Touch.ofBelow HU.out.2.1)).touch (set8_touch (F := F2) _ _ _ _ _ _ _ _)).row
        have HRB : Hid (Row (set8 W5 bt (.slice AL3 (allB (S2.rs.take S2.m)).length cL3) (.slice AT3 (allB (S2.rs.drop S2.m)).length cT3) (.int .i64 (q3 : Int)) (.slice R3 vs3.length c3) (.int .i64 (S2.m : Int)) (.slice AU3 us3.length cU3) (.slice AV3 ls3.length cV3) (.slice AC3 S2.acks.length cC3)) (set8 W5 bt (.slice AL3 (allB (S2.rs.take S2.m)).length cL3) (.slice AT3 (allB (S2.rs.drop S2.m)).length cT3) (.int .i64 (q3 : Int)) (.slice R3 vs3.length c3) (.int .i64 (S2.m : Int)) (.slice AU3 us3.length cU3) (.slice AV3 ls3.length cV3) (.slice AC3 S2.acks.length cC3)).heap.size A3 (acksC as2)) := Lib.hid (HU.out.2.2.2.touch (set8_touch (F := F2) _ _ _ _ _ _ _ _)).row
        obtain ⟨W6, hW6⟩ : ∃ W, set8 W5 bt (.slice AL3 (allB (S2.rs.take S2.m)).length cL3) (.slice AT3 (allB (S2.rs.drop S2.m)).length cT3) (.int .i64 (q3 : Int)) (.slice R3 vs3.length c3) (.int .i64 (S2.m : Int)) (.slice AU3 us3.length cU3) (.slice AV3 ls3.length cV3) (.slice AC3 S2.acks.length cC3) = W := ⟨_, rfl⟩
        rw [hW6] at HP HRA HRB
        have HW6 := Lib.hid hW6
        clear hW5 hW6 f0 f1 f2 f3 f4 f5 f6 f7 f8 f9 f10 f11 f12 f13 f14 f15 f16 HB3 HL3 d0 d1 d2 d3 d4 d5 d6 d7 d8 x0 y0 x1 y1 x2 y2 x3 y3 x4 y4 x5 y5 x6 y6 x7 y7
        have hee : (er != er) = false := by simp
        go_wp2_with fail
        have hW6 := HW6.out
        unfold set8 at hW6
        rw [hW6]
        refine (sameacks_true as2.length c2 as2.length c4 A2 A3 as2 rfl rfl (by have := HALN.out; unfold maxLen; omega) W6 HRA.out HRB.out).mono ?_
        rintro e w7 ⟨rfl, hb7⟩
        clear hW6
        obtain ⟨AL4, cL4, AT4, cT4, R4, c4, vs4, AU4, cU4, us4, AV4, cV4, ls4, AC4, cC4, hkb, htr, hnf⟩ := HP.out.2
        have hst7 := HP.out.1.below hb7
        have hkb7 := hkb.below hb7 hkb.lt
        have htr7 := htr.below hb7
        have HST7 := Lib.hid hst7
        have HKB7 := Lib.hid hkb7
        have HTR7 := Lib.hid htr7
        have HNF7 := Lib.hid hnf
        have p0 := HKB7.out.cell 0
        have p1 := HKB7.out.cell 1
        have p2 := HKB7.out.cell 2
        have p3 := HKB7.out.cell 3
        have p4 := HKB7.out.cell 4
        have p5 := HKB7.out.cell 5
        have p6 := HKB7.out.cell 6
        have p7 := HKB7.out.cell 7
        clear hb7 HP HRA HRB hkb htr hnf hst7 hkb7 htr7 u0 v0 z0 u1 v1 z1 u2 v2 z2 u3 v3 z3 u4 v4 z4 u5 v5 z5 u6 v6 z6 u7 v7 z7
        go_wp2_with fail
        have hm1 := tab_many HST7.out.at_
        refine (same8_any F2 g2 q2 _ _ _ _ _ _ _ _ _ _ _ _ S2 _ _ us4 ls4 _ _ _ _ _ _ _ _ rfl rfl rfl rfl rfl rfl rfl HTR7.out.un HTR7.out.ln (by rw [← HTR7.out.un, List.length_map] at hm1; omega) (by rw [← HTR7.out.ln, List.length_map] at hm1; omega) w7 HST7.out.at_ HTR7.out.log.rl.row HTR7.out.log.rt.row HTR7.out.ue.env HTR7.out.le.env).mono ?_
        rintro e w8 ⟨rfl, hb8⟩
        have HST8 := Lib.hid (HST7.out.below hb8)
        have HKB8 := Lib.hid (HKB7.out.below hb8 HKB7.out.lt)
        have HTR8 := Lib.hid (HTR7.out.below hb8)
        have hm2 : us4.length ≤ 8388608 ∧ ls4.length ≤ 8388608 := by
          rw [← HTR7.out.un, ← HTR7.out.ln, List.length_map, List.length_map] at hm1
          exact ⟨hm1.2, hm1.1⟩
        have HM2 := Lib.hid hm2
        clear hb8 hm1 hm2 HST7 HKB7 HTR7 p0 p1 p2 p3 p4 p5 p6 p7
        have hx1k := ofT_key S2.L key
        have hx2k := ofT_key S2.N key
        have hx1l := ofT_len HST8.out.at_.ok.lOk key
        have hx2l := ofT_len HST8.out.at_.ok.nOk key
        have HG1 := Lib.hid fun w' (hb : Below w8.heap.size w8 w') => get_any8 F2 g2 q2 S2 key HKY.out w' (HST8.out.at_.below hb)
        have HG2 := Lib.hid fun w' (hb : Below w8.heap.size w8 w') => getnew_any8 F2 g2 q2 S2 key HKY.out w' (HST8.out.at_.below hb)
        have HO1 := Lib.hid fun w' (hb : Below w8.heap.size w8 w') => refof_any ls4.length cV4 AV4 ls4 key rfl (by have := HM2.out.2; omega) w' (HTR8.out.le.below hb).env
        have HO2 := Lib.hid fun w' (hb : Below w8.heap.size w8 w') => refof_any us4.length cU4 AU4 us4 key rfl (by have := HM2.out.1; omega) w' (HTR8.out.ue.below hb).env
        rw [HTR8.out.ln] at HO1
        rw [HTR8.out.un] at HO2
        obtain ⟨x1, hx1⟩ : ∃ x, ofT S2.L key = x := ⟨_, rfl⟩
        obtain ⟨x2, hx2⟩ : ∃ x, ofT S2.N key = x := ⟨_, rfl⟩
        rw [hx1] at HG1 HO1 hx1k hx1l
        rw [hx2] at HG2 HO2 hx2k hx2l
        replace HG1 : Hid (∀ w', Below w8.heap.size w8 w' → Calls Tryz.prog 12 #[.pointer (some ⟨g2, 0, none⟩), .string ⟨key.toArray⟩] w' (EntT key x1 w')) := Lib.hid fun w' hb => (HG1.out w' hb).mono fun e w3 h => by
          obtain ⟨A, c, h1, h2, h3, h4⟩ := getP_open hx1k hx1l h
          exact ⟨A, c, h1, h2, h4⟩
        replace HG2 : Hid (∀ w', Below w8.heap.size w8 w' → Calls Tryz.prog 14 #[.pointer (some ⟨g2, 0, none⟩), .string ⟨key.toArray⟩] w' (EntT key x2 w')) := Lib.hid fun w' hb => (HG2.out w' hb).mono fun e w3 h => by
          obtain ⟨A, c, h1, h2, h3, h4⟩ := getP_open hx2k hx2l h
          exact ⟨A, c, h1, h2, h4⟩
        replace HO1 : Hid (∀ w', Below w8.heap.size w8 w' → Calls Tryz.prog 13 #[.slice AV4 ls4.length cV4, .string ⟨key.toArray⟩] w' (EntT key x1 w')) := Lib.hid fun w' hb => (HO1.out w' hb).mono fun e w3 h => by
          obtain ⟨A, c, h1, h2, h3⟩ := h
          rw [hx1k] at h1
          exact ⟨A, c, h1, h2, h3⟩
        replace HO2 : Hid (∀ w', Below w8.heap.size w8 w' → Calls Tryz.prog 13 #[.slice AU4 us4.length cU4, .string ⟨key.toArray⟩] w' (EntT key x2 w')) := Lib.hid fun w' hb => (HO2.out w' hb).mono fun e w3 h => by
          obtain ⟨A, c, h1, h2, h3⟩ := h
          rw [hx2k] at h1
          exact ⟨A, c, h1, h2, h3⟩
        have HTC : Hid (∀ w', Below w8.heap.size w8 w' → w'.cell? ⟨bt, 6, none⟩ = some (.slice AV4 ls4.length cV4) ∧ w'.cell? ⟨bt, 5, none⟩ = some (.slice AU4 us4.length cU4)) := Lib.hid fun w' hb => ⟨(HKB8.out.below hb HKB8.out.lt).cell 6, (HKB8.out.below hb HKB8.out.lt).cell 5⟩
        have HS1 := Lib.hid fun w' A c (h1 : ValOk w' x1.has A x1.v c) A' c' (h2 : ValOk w' x1.has A' x1.v c') => refsame_true ⟨key.toArray⟩ x1.s x1.u x1.o x1.has A A' x1.v c c' x1.v.length x1.v.length rfl rfl w' h1 h2
        have HS2 := Lib.hid fun w' A c (h1 : ValOk w' x2.has A x2.v c) A' c' (h2 : ValOk w' x2.has A' x2.v c') => refsame_true ⟨key.toArray⟩ x2.s x2.u x2.o x2.has A A' x2.v c c' x2.v.length x2.v.length rfl rfl w' h1 h2
        clear hx1 hx2 hx1k hx2k hx1l hx2l
        go_wp2
        refine Rely.wp_region_by [[], [], [(0, 72), (1, 73)], [], [(3, 75)], [], [(4, 76), (5, 77)], [(2, 74), (6, 78)], [(7, 79)], [(8, 80)], [(9, 81)], [(9, 81)], [(9, 81), (10, 82), (11, 83)], [(9, 81)], [(9, 81), (13, 85)], [(9, 81)], [(9, 81), (14, 86), (15, 87)], [(9, 81), (12, 84), (16, 88)], [(9, 81), (17, 89)], [(9, 81), (18, 90)]] [(0, 72), (1, 73), (2, 74), (3, 75), (4, 76), (5, 77), (6, 78), (7, 79), (8, 80), (9, 81), (10, 82), (11, 83), (12, 84), (13, 85), (14, 86), (15, 87), (16, 88), (17, 89), (18, 90), (19, 91)] [] (rg8S g2 bt us4.length ls4.length cU4 cV4 key x1 x2 AU4 AV4) (by kernel_rfl) (by kernel_rfl) (by kernel_rfl) (by kernel_rfl) (by kernel_rfl) (by kernel_rfl) (rg8S_later g2 bt us4.length ls4.length cU4 cV4 key x1 x2 AU4 AV4) ?_ ?_
        · skip
          refine Rely.stepsZ_cons (by
            intro vs w' hb hp
            simp only [Rely.Pre, rg8S] at hp
            unfold Rely.gives
            simp only [Rely.sel, List.foldl_cons, List.foldl_nil]
            go_simp
            exact ⟨Below.refl _ _, rfl⟩) ?_
          refine Rely.stepsZ_cons (by
            intro vs w' hb hp
            simp only [Rely.Pre, rg8S] at hp
            unfold Rely.gives
            simp only [Rely.sel, List.foldl_cons, List.foldl_nil]
            go_simp
            exact ⟨Below.refl _ _, rfl⟩) ?_
          refine Rely.stepsZ_cons (by
            intro vs w' hb hp
            simp only [Rely.Pre, rg8S] at hp
            obtain ⟨h72, h73, _⟩ := hp
            unfold Rely.gives
            simp only [Rely.sel, List.foldl_cons, List.foldl_nil]
            go_simp
            simp only [Rely.GivesR]
            refine (HG1.out w' hb).mono ?_
            rintro e w3 ⟨A3, c3, rfl, ho3, hb3⟩
            exact ⟨_, rfl, hb3, A3, c3, rfl, ho3⟩) ?_
          refine Rely.stepsZ_cons (by
            intro vs w' hb hp
            simp only [Rely.Pre, rg8S] at hp
            unfold Rely.gives
            simp only [Rely.sel, List.foldl_cons, List.foldl_nil]
            go_simp
            exact ⟨Below.refl _ _, rfl⟩) ?_
          refine Rely.stepsZ_cons (by
            intro vs w' hb hp
            simp only [Rely.Pre, rg8S] at hp
            obtain ⟨h75, _⟩ := hp
            have hfact := (HTC.out w' hb).1
            unfold Rely.gives
            simp only [Rely.sel, List.foldl_cons, List.foldl_nil]
            go_simp
            exact ⟨Below.refl _ _, rfl⟩) ?_
          refine Rely.stepsZ_cons (by
            intro vs w' hb hp
            simp only [Rely.Pre, rg8S] at hp
            unfold Rely.gives
            simp only [Rely.sel, List.foldl_cons, List.foldl_nil]
            go_simp
            exact ⟨Below.refl _ _, rfl⟩) ?_
          refine Rely.stepsZ_cons (by
            intro vs w' hb hp
            simp only [Rely.Pre, rg8S] at hp
            obtain ⟨h76, h77, _⟩ := hp
            unfold Rely.gives
            simp only [Rely.sel, List.foldl_cons, List.foldl_nil]
            go_simp
            simp only [Rely.GivesR]
            refine (HO1.out w' hb).mono ?_
            rintro e w3 ⟨A3, c3, rfl, ho3, hb3⟩
            exact ⟨_, rfl, hb3, A3, c3, rfl, ho3⟩) ?_
          refine Rely.stepsZ_cons (by
            intro vs w' hb hp
            simp only [Rely.Pre, rg8S] at hp
            obtain ⟨⟨a74, c74, e74, ho74⟩, ⟨a78, c78, e78, ho78⟩, _⟩ := hp
            unfold Rely.gives
            simp only [Rely.sel, List.foldl_cons, List.foldl_nil]
            go_simp
            simp only [Rely.GivesR]
            refine (HS1.out w' a74 c74 ho74 a78 c78 ho78).mono ?_
            rintro e w3 ⟨rfl, hb3⟩
            exact ⟨_, rfl, hb3, rfl⟩) ?_
          refine Rely.stepsZ_cons (by
            intro vs w' hb hp
            simp only [Rely.Pre, rg8S] at hp
            obtain ⟨h79, _⟩ := hp
            unfold Rely.gives
            simp only [Rely.sel, List.foldl_cons, List.foldl_nil]
            go_simp
            exact ⟨Below.refl _ _, rfl⟩) ?_
          refine Rely.stepsZ_cons (by
            intro vs w' hb hp
            simp only [Rely.Pre, rg8S] at hp
            obtain ⟨h80, _⟩ := hp
            unfold Rely.gives
            simp only [Rely.sel, List.foldl_cons, List.foldl_nil]
            go_simp
            exact ⟨Below.refl _ _, rfl⟩) ?_
          refine Rely.stepsZ_cons (by
            intro vs w' hb hp
            simp only [Rely.Pre, rg8S] at hp
            obtain ⟨h81, _⟩ := hp
            unfold Rely.gives
            simp only [Rely.sel, List.foldl_cons, List.foldl_nil]
            go_simp
            exact ⟨Below.refl _ _, rfl⟩) ?_
          refine Rely.stepsZ_cons (by
            intro vs w' hb hp
            simp only [Rely.Pre, rg8S] at hp
            obtain ⟨h81, _⟩ := hp
            unfold Rely.gives
            simp only [Rely.sel, List.foldl_cons, List.foldl_nil]
            go_simp
            exact ⟨Below.refl _ _, rfl⟩) ?_
          refine Rely.stepsZ_cons (by
            intro vs w' hb hp
            simp only [Rely.Pre, rg8S] at hp
            obtain ⟨h81, h82, h83, _⟩ := hp
            unfold Rely.gives
            simp only [Rely.sel, List.foldl_cons, List.foldl_nil]
            go_simp
            simp only [Rely.GivesR]
            refine (HG2.out w' hb).mono ?_
            rintro e w3 ⟨A3, c3, rfl, ho3, hb3⟩
            exact ⟨_, rfl, hb3, A3, c3, rfl, ho3⟩) ?_
          refine Rely.stepsZ_cons (by
            intro vs w' hb hp
            simp only [Rely.Pre, rg8S] at hp
            obtain ⟨h81, _⟩ := hp
            unfold Rely.gives
            simp only [Rely.sel, List.foldl_cons, List.foldl_nil]
            go_simp
            exact ⟨Below.refl _ _, rfl⟩) ?_
          refine Rely.stepsZ_cons (by
            intro vs w' hb hp
            simp only [Rely.Pre, rg8S] at hp
            obtain ⟨h81, h85, _⟩ := hp
            have hfact := (HTC.out w' hb).2
            unfold Rely.gives
            simp only [Rely.sel, List.foldl_cons, List.foldl_nil]
            go_simp
            exact ⟨Below.refl _ _, rfl⟩) ?_
          refine Rely.stepsZ_cons (by
            intro vs w' hb hp
            simp only [Rely.Pre, rg8S] at hp
            obtain ⟨h81, _⟩ := hp
            unfold Rely.gives
            simp only [Rely.sel, List.foldl_cons, List.foldl_nil]
            go_simp
            exact ⟨Below.refl _ _, rfl⟩) ?_
          refine Rely.stepsZ_cons (by
            intro vs w' hb hp
            simp only [Rely.Pre, rg8S] at hp
            obtain ⟨h81, h86, h87, _⟩ := hp
            unfold Rely.gives
            simp only [Rely.sel, List.foldl_cons, List.foldl_nil]
            go_simp
            simp only [Rely.GivesR]
            refine (HO2.out w' hb).mono ?_
            rintro e w3 ⟨A3, c3, rfl, ho3, hb3⟩
            exact ⟨_, rfl, hb3, A3, c3, rfl, ho3⟩) ?_
          refine Rely.stepsZ_cons (by
            intro vs w' hb hp
            simp only [Rely.Pre, rg8S] at hp
            obtain ⟨h81, ⟨a84, c84, e84, ho84⟩, ⟨a88, c88, e88, ho88⟩, _⟩ := hp
            unfold Rely.gives
            simp only [Rely.sel, List.foldl_cons, List.foldl_nil]
            go_simp
            simp only [Rely.GivesR]
            refine (HS2.out w' a84 c84 ho84 a88 c88 ho88).mono ?_
            rintro e w3 ⟨rfl, hb3⟩
            exact ⟨_, rfl, hb3, rfl⟩) ?_
          refine Rely.stepsZ_cons (by
            intro vs w' hb hp
            simp only [Rely.Pre, rg8S] at hp
            obtain ⟨h81, h89, _⟩ := hp
            unfold Rely.gives
            simp only [Rely.sel, List.foldl_cons, List.foldl_nil]
            go_simp
            exact ⟨Below.refl _ _, rfl⟩) ?_
          refine Rely.stepsZ_cons (by
            intro vs w' hb hp
            simp only [Rely.Pre, rg8S] at hp
            obtain ⟨h81, h90, _⟩ := hp
            unfold Rely.gives
            simp only [Rely.sel, List.foldl_cons, List.foldl_nil]
            go_simp
            exact ⟨Below.refl _ _, rfl⟩) ?_
          exact Rely.stepsZ_nil
        intro tvs wx hbx hp _
        simp only [Rely.Pre, rg8S] at hp
        obtain ⟨h0, h1, ⟨a2, b2, h2, ho2⟩, h3, h4, h5, ⟨a6, b6, h6, ho6⟩, h7, h8, h9, h10, h11, ⟨a12, b12, h12, ho12⟩, h13, h14, h15, ⟨a16, b16, h16, ho16⟩, h17, h18, h19, _⟩ := hp
        simp only [Rely.sel, List.foldl_cons, List.foldl_nil, h0, h1, h2, h3, h4, h5, h6, h7, h8, h9, h10, h11, h12, h13, h14, h15, h16, h17, h18, h19]
        clear h0 h1 h2 h3 h4 h5 h6 h7 h8 h9 h10 h11 h12 h13 h14 h15 h16 h17 h18 h19
        simp only [Act.put, List.setIfInBounds_toArray, List.set_cons_succ, List.set_cons_zero]
        have HK9 : Hid (INV8 w wx bt g2 (k + 1)) := Lib.hid ⟨F2, S2, q2, q3, HQ2.out.1, HQ2.out.2, HAS.out, HST8.out.below hbx, RefH.below ⟨AL4, cL4, AT4, cT4, R4, c4, vs4, AU4, cU4, us4, AV4, cV4, ls4, AC4, cC4, HKB8.out, HTR8.out, HNF7.out⟩ hbx, HBT.out⟩
        clear hbx HG1 HG2 HO1 HO2 HTC HS1 HS2 HST8 HKB8 HTR8
        go_wp2
        go_roundw
        case rel => exact ⟨k + 1, by omega, by go_num, g2, rfl, HK9⟩
        case measure => simp [intOf]; omega
    · obtain rfl : k = n := by omega
      clear HQ HA HE
      go_wp2_with fail
      refine (FIN.out _ HD.out.bel).mono ?_
      rintro e w8 ⟨rfl, hb⟩
      have HB8 := Lib.hid hb
      clear hb
      go_wp2
      go_ret
      exact ⟨rfl, HB8.out⟩
end Go.Proofs.YtndbggkpobcpjaaGreat
