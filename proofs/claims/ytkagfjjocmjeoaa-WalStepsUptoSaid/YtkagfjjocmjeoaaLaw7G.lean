/- The law WalSteps, walked. Written by tools/gen_law7g.py. -/
import Derived.Test.YtkagfjjocmjeoaaRefDo7
import Derived.Test.YtkagfjjocmjeoaaSame7
import Derived.Deep.RegionHeld3
namespace Go.Proofs.Ytkagfjjocmjeoaa
open Go.RowKit Mem Be Word Frm
set_option maxRecDepth 100000
set_option maxHeartbeats 20000000
set_option linter.unusedVariables false
theorem far5 {w : World} {b i g : Nat} {x : Option Value} {u0 u1 u2 u3 u4 : Value} (h : w.cell? ⟨b, i, none⟩ = x) (hb : b ≠ g) : (((((w.setCell ⟨g, 0, none⟩ u0).setCell ⟨g, 1, none⟩ u1).setCell ⟨g, 2, none⟩ u2).setCell ⟨g, 3, none⟩ u3).setCell ⟨g, 4, none⟩ u4).cell? ⟨b, i, none⟩ = x := by
  have hk : (((((w.setCell ⟨g, 0, none⟩ u0).setCell ⟨g, 1, none⟩ u1).setCell ⟨g, 2, none⟩ u2).setCell ⟨g, 3, none⟩ u3).setCell ⟨g, 4, none⟩ u4).heap[b]? = w.heap[b]? :=
    ((((Below.heap_setCell _ ⟨g, 4, none⟩ u4 b hb).trans (Below.heap_setCell _ ⟨g, 3, none⟩ u3 b hb)).trans (Below.heap_setCell _ ⟨g, 2, none⟩ u2 b hb)).trans (Below.heap_setCell _ ⟨g, 1, none⟩ u1 b hb)).trans (Below.heap_setCell _ ⟨g, 0, none⟩ u0 b hb)
  exact (World.cell?_of_block (a := ⟨b, i, none⟩) hk).trans h
/-- The reference's log in block b: its rows lie outside of the other log's blocks, and of b. -/
structure RefG (w : World) (F : Nat → Prop) (b : Nat) (L T : List UInt8) (nq m : Nat) (AL : Option Addr) (cL : Nat) (AT : Option Addr) (cT : Nat) (R : Option Addr) (c : Nat) (vs : List RecV) : Prop where
  blk : Blk w b 32 #[.slice AL L.length cL, .slice AT T.length cT, .int .i64 (nq : Int), .slice R vs.length c, .int .i64 (m : Int)]
  rl : RefL w (AndB F b) AL cL AT cT R c L T vs
  nf : ¬ F b
section
variable {w w1 : World} {F F' : Nat → Prop} {b nq m cL cT c : Nat} {L T : List UInt8} {AL AT R : Option Addr} {vs : List RecV}
theorem RefG.to (h : RefG w F b L T nq m AL cL AT cT R c vs) (hf : ∀ k, F' k → F k ∨ w.heap.size ≤ k) (ht : Touch F w w1) : RefG w1 F' b L T nq m AL cL AT cT R c vs := by
  refine ⟨blkKeep h.blk (ht.block b h.blk.lt h.nf), h.rl.step (ht.mono fun k hk => Or.inl hk) (fun k hk => ?_), fun hx => ?_⟩
  · rcases hk with h1 | h1
    · rcases hf k h1 with h2 | h2
      · exact Or.inl (Or.inl h2)
      · exact Or.inr h2
    · exact Or.inl (Or.inr h1)
  · rcases hf b hx with h1 | h1
    · exact h.nf h1
    · have := h.blk.lt; omega
theorem RefG.below (h : RefG w F b L T nq m AL cL AT cT R c vs) (hb : Below w.heap.size w w1) : RefG w1 F b L T nq m AL cL AT cT R c vs := h.to (fun k hk => Or.inl hk) (Touch.ofBelow hb)
end
theorem ref_put5 {w0 w2 W : World} {F : Nat → Prop} {g bt m q q3 m3 e1 e2 e3 : Nat} {ls : List Rc} {X Z : List UInt8} {A1 A2 R2 : Option Addr} {us : List RecV} {x0 x1 x2 x3 x4 : Value} (hd : Lg1 w0 w2 F g ls m q) (hb : Below w2.heap.size w2 W) (hblk : Blk w2 bt 32 #[x0, x1, x2, x3, x4]) (hnf : ¬ F bt) (hbt : w0.heap.size ≤ bt)
    (hl : RefL W (AndB F bt) A1 e1 A2 e2 R2 e3 X Z us) :
    Lg1 w0 (((((((W).setCell ⟨bt, 0, none⟩ (.slice A1 X.length e1)).setCell ⟨bt, 1, none⟩ (.slice A2 Z.length e2)).setCell ⟨bt, 2, none⟩ (.int .i64 (q3 : Int))).setCell ⟨bt, 3, none⟩ (.slice R2 us.length e3)).setCell ⟨bt, 4, none⟩ (.int .i64 (m3 : Int)))) F g ls m q ∧ RefG (((((((W).setCell ⟨bt, 0, none⟩ (.slice A1 X.length e1)).setCell ⟨bt, 1, none⟩ (.slice A2 Z.length e2)).setCell ⟨bt, 2, none⟩ (.int .i64 (q3 : Int))).setCell ⟨bt, 3, none⟩ (.slice R2 us.length e3)).setCell ⟨bt, 4, none⟩ (.int .i64 (m3 : Int)))) F bt X Z q3 m3 A1 e1 A2 e2 R2 e3 us := by
  have ht : Touch (fun k => k = bt) W (((((((W).setCell ⟨bt, 0, none⟩ (.slice A1 X.length e1)).setCell ⟨bt, 1, none⟩ (.slice A2 Z.length e2)).setCell ⟨bt, 2, none⟩ (.int .i64 (q3 : Int))).setCell ⟨bt, 3, none⟩ (.slice R2 us.length e3)).setCell ⟨bt, 4, none⟩ (.int .i64 (m3 : Int)))) :=
    (((((Touch.refl (fun k => k = bt) W).set_ (p := ⟨bt, 0, none⟩) (Or.inl rfl) _).set_ (p := ⟨bt, 1, none⟩) (Or.inl rfl) _).set_ (p := ⟨bt, 2, none⟩) (Or.inl rfl) _).set_ (p := ⟨bt, 3, none⟩) (Or.inl rfl) _).set_ (p := ⟨bt, 4, none⟩) (Or.inl rfl) _
  have hd2 := hd.below hb
  exact ⟨⟨hd2.new, hd2.at_.touch ht (fun k hk e => hnf (by rw [e] at hk; exact hk)), hd2.bel.trans (ht.below hd2.bel.size (fun k hk => by rw [hk]; exact hbt))⟩,
    (((((hblk.below hb hblk.lt).set_ 0 _).set_ 1 _).set_ 2 _).set_ 3 _).set_ 4 _, hl.step ref_touch (fun k hk => Or.inl hk), hnf⟩
/-- What holds ahead of each round. -/
def INV (w wr : World) (bt g : Nat) (rs : List DoG) (k : Nat) : Prop :=
  ∃ (F : Nat → Prop) (m q nq : Nat) (L T : List UInt8) (AL : Option Addr) (cL : Nat) (AT : Option Addr) (cT : Nat) (R : Option Addr) (c : Nat) (vs : List RecV), q ≤ k ∧ nq ≤ k ∧ Lg1 w wr F g (vs.map rcOf) m q ∧ RefG wr F bt L T nq m AL cL AT cT R c vs ∧
    allB ((vs.map rcOf).take m) = L ∧ allB ((vs.map rcOf).drop m) = T ∧ (allB (vs.map rcOf)).length ≤ 11 * lgN (rs.take k)
theorem steps7_walk (A : Option Addr) (rs : List DoG) (n c : Nat) (hn : n = rs.length) (hnl : n ≤ 140737488355328) (hrl : ∀ r ∈ rs, r.rows.length ≤ 5864062014805) (hlg : lgN rs ≤ 1000000000) (w : World) (h : InG w A rs) :
    Calls Try.prog 3 #[.slice A n c] w (IsT true w) := by
  have HLG := Lib.hid (longG_exact n c A rs hn hlg w h)
  obtain ⟨lb, hlb⟩ : ∃ lb, lgN rs = lb := ⟨_, rfl⟩
  rw [hlb] at HLG
  have HLB := Lib.hid hlb
  have HIN := Lib.hid h
  have HN := Lib.hid hn
  have HNL := Lib.hid hnl
  have HRL := Lib.hid hrl
  have hni : (n : Int) ≤ 140737488355328 := by omega
  have hlb0 : (0 : Int) ≤ (lb : Int) := by omega
  clear h hn hnl hrl hlb hlg
  go_enter Try.func3, Try.ntmps3
  go_wp2_with fail
  refine HLG.out.mono ?_
  rintro e w' ⟨rfl, rfl⟩
  clear HLG
  by_cases h1 : 1000 < lb
  · have h1i : (1000 : Int) < (lb : Int) := by omega
    clear h1
    go_wp2_with fail
    refine (known7_any _).mono ?_
    rintro e w1 ⟨rfl, hb⟩
    have HB := Lib.hid hb
    clear hb
    go_wp2
    go_ret
    exact ⟨rfl, HB.out⟩
  have h1i : (lb : Int) ≤ 1000 := by omega
  have HLL : Hid (lgN rs ≤ 1000) := Lib.hid (by have := HLB.out; omega)
  clear h1
  go_wp2_with fail
  refine (newlg_any w).mono ?_
  rintro e w1 ⟨g0, F0, rfl, hF, hd, hb⟩
  have HD0 : Hid (Lg1 w w1 F0 g0 [] 0 0) := Lib.hid ⟨hF, hd, hb⟩
  simp only [id]
  clear hF hd hb h1i hlb0
  have HD1 : Hid (Lg1 w (w1.alloc (.cells #[.slice none 0 0, .slice none 0 0, .int .i64 0, .slice none 0 0, .int .i64 0] 32)) F0 g0 [] 0 0) := Lib.hid (HD0.out.below ((Below.refl _ _).alloc (Nat.le_refl _) _))
  have HE1 : Hid (RefG (w1.alloc (.cells #[.slice none 0 0, .slice none 0 0, .int .i64 0, .slice none 0 0, .int .i64 0] 32)) F0 w1.heap.size [] [] 0 0 none 0 none 0 none 0 []) := Lib.hid
    ⟨Blk.new _ _ _, ⟨Nat.le_refl _, Nat.le_refl _, Nat.le_refl _, Or.inl rfl, Or.inl rfl, Or.inl rfl, fun v hv => by cases hv⟩, fun hf => by have := HD0.out.at_.lt _ hf; omega⟩
  have HBT : Hid (w.heap.size ≤ w1.heap.size) := Lib.hid HD0.out.bel.size
  obtain ⟨bt, hbt⟩ : ∃ bt, w1.heap.size = bt := ⟨_, rfl⟩
  rw [hbt] at HE1 HBT
  clear HD0
  go_wp2_with fail
  clear hbt
  go_loopw [3, 5] (fun z i wr => ∃ k : Nat, k ≤ n ∧ i = .int .i64 k ∧ ∃ g, z = .pointer (some ⟨g, 0, none⟩) ∧ Hid (INV w wr bt g rs k)) (fun _ i _ => n - (intOf i).toNat)
  case atStart => exact ⟨0, by omega, rfl, g0, rfl, Lib.hid ⟨F0, 0, 0, 0, [], [], none, 0, none, 0, none, 0, [], by omega, by omega, HD1.out, HE1.out, rfl, rfl, by simp [allB]⟩⟩
  case round =>
    obtain ⟨k, hk, rfl, g, rfl, HK⟩ := hrel
    obtain ⟨F, m, q, nq, L, T, AL, cL, AT, cT, R, c, vs, hq, hnq, hd, he, hL, hT, hsz⟩ := HK.out
    have HD := Lib.hid hd
    have HE := Lib.hid he
    have HQ := Lib.hid (And.intro hq hnq)
    have HLT := Lib.hid (And.intro hL hT)
    have HSZ := Lib.hid hsz
    clear HK hd he hq hnq HD1 HE1 hL hT hsz
    by_cases hlt : k < n
    · have hk1 : k < rs.length := by rw [← HN.out]; exact hlt
      obtain ⟨b, o, rfl, hb0, _⟩ := dosG_open (HIN.out w (Below.refl _ _)).1 (by omega)
      have HCL : Hid (∀ W, Below w.heap.size w W → W.cell? ⟨b, o + k * 4, none⟩ = some (.int .i64 rs[k].kind) ∧ W.cell? ⟨b, o + k * 4 + 1, none⟩ = some (.int .u8 (rs[k].of_.toNat : Int)) ∧ W.cell? ⟨b, o + k * 4 + 2, none⟩ = some (.slice rs[k].at_ rs[k].rows.length rs[k].room) ∧ W.cell? ⟨b, o + k * 4 + 3, none⟩ = some (.int .i64 rs[k].kept)) := Lib.hid fun W hb => by
        obtain ⟨b', o', e, _, hc⟩ := dosG_open (HIN.out W hb).1 (by omega)
        injection e with e
        injection e with e1 e2
        subst e1; subst e2
        exact hc k hk1
      have C := doneG_round HIN.out HD.out hk1 (by have := HQ.out; have := HNL.out; omega) HRL.out
      have HOK : Hid (∀ W, Below w.heap.size w W → DoGOk W w.heap.size rs[k]) := Lib.hid fun W hb => (HIN.out W hb).2 rs[k] (List.getElem_mem hk1)
      have hsn := lgN_snoc rs k hk1
      have hsle := lgN_le rs (k + 1)
      have hgl := gS_len (vs.map rcOf) m rs[k] HD.out.at_.le HD.out.at_.short
      have hdp : 1 ≤ lgD rs[k] := by unfold lgD; omega
      obtain ⟨d, hy1⟩ : ∃ y, rs[k] = y := ⟨_, rfl⟩
      rw [hy1] at HCL C HOK hsn hgl hdp
      have HDD : Hid (lgD d ≤ 1000 ∧ (allB (vs.map rcOf)).length ≤ 11000) := Lib.hid ⟨by have := HLL.out; omega, by have := HSZ.out; have := HLL.out; omega⟩
      obtain ⟨⟨ls2, m2, ev⟩, hS⟩ : ∃ s, gS (vs.map rcOf) m d = s := ⟨_, rfl⟩
      have HSZ2 : Hid ((allB ls2).length ≤ 11 * lgN (rs.take (k + 1))) := Lib.hid (by rw [hS] at hgl; simp only at hgl; have := HSZ.out; omega)
      have HRD : Hid (∀ W (G : Nat → Prop) AL' AT' R', (∀ j, G j → j < W.heap.size) → RefL W G AL' cL AT' cT R' c L T vs → RowN G W d.at_ (d.rows.map rowV) → (∀ r ∈ d.rows, RowN G W r.1 (r.2.1.map byteV)) → Calls Try.prog 14 #[.agg #[.slice AL' L.length cL, .slice AT' T.length cT, .int .i64 (nq : Int), .slice R' vs.length c, .int .i64 (m : Int)], .agg #[.int .i64 d.kind, .int .u8 (d.of_.toNat : Int), .slice d.at_ d.rows.length d.room, .int .i64 d.kept]] W (RefP G (fun v => .tuple #[v, .int .i64 ev]) (allB (ls2.take m2)) (allB (ls2.drop m2)) (nS T nq d.kind) m2 ls2 W)) := Lib.hid fun W G AL' AT' R' hG hl hr hrs => by
        obtain ⟨q', rfl, hc⟩ := refdo_any G AL' AT' R' cL cT c m nq L T vs d HLT.out.1 HLT.out.2 HD.out.at_.le (by have := HDD.out; omega) (by have := HDD.out; omega) (by have := HQ.out; have := HNL.out; omega) (HOK.out w (Below.refl _ _)).p1 W hG hl hr hrs
        rw [hS] at hc
        exact hc
      rw [hS] at C
      have hqn := nS_le T nq d.kind
      obtain ⟨q3, hq3⟩ : ∃ x, nS T nq d.kind = x := ⟨_, rfl⟩
      rw [hq3] at HRD hqn
      obtain ⟨X, hX⟩ : ∃ X, allB (ls2.take m2) = X := ⟨_, rfl⟩
      obtain ⟨Z, hZ⟩ : ∃ Z, allB (ls2.drop m2) = Z := ⟨_, rfl⟩
      rw [hX, hZ] at HRD
      have HXZ := Lib.hid (And.intro hX hZ)
      have hnq3 : q3 ≤ k + 1 := by have := HQ.out; omega
      clear hS hX hZ hq3 hqn hsn hsle hgl hdp hy1
      obtain ⟨kd, of_, A0, ys, c0, kp⟩ := d
      simp only at HCL C HOK HRD
      have HC := Lib.hid C
      have HOKR : Hid (∀ W, Below w.heap.size w W → Row W w.heap.size A0 (ys.map rowV) ∧ ∀ r ∈ ys, Row W w.heap.size r.1 (r.2.1.map byteV)) := Lib.hid fun W hb => ⟨(HOK.out W hb).row, fun r hr => ((HOK.out W hb).rows r hr).1⟩
      have hyl : (ys.length : Int) ≤ 9223372036854775807 := by have h1 := (HOK.out w (Below.refl _ _)).cap; have h2 := (HOK.out w (Below.refl _ _)).mx; simp only at h1 h2; unfold maxLen at h2; omega
      have hki : (0 : Int) ≤ (k : Int) := by omega
      have hki2 : (k : Int) < (n : Int) := by omega
      obtain ⟨d0, d1, d2, d3⟩ := HCL.out wr HD.out.bel
      clear C hb0 HOK
      go_wp2_with fail
      refine HC.out.mono ?_
      rintro e w2 ⟨g2, F2, q2, rfl, hf, hl, hq2, ht⟩
      have HE2 := Lib.hid (HE.out.to hf ht)
      have HD2 := Lib.hid (HD.out.to hf hl ht)
      simp only at HD2 ⊢
      have HQ2 : Hid (q2 ≤ k + 1 ∧ q3 ≤ k + 1) := Lib.hid ⟨by have := HQ.out; omega, hnq3⟩
      have HS : Hid (∀ W (G : Nat → Prop), Below w2.heap.size w2 W → (∀ j, G j → AndB F2 bt j ∨ w2.heap.size ≤ j) → (∀ j, G j → j < W.heap.size) → Calls Try.prog 14 #[.agg #[.slice AL L.length cL, .slice AT T.length cT, .int .i64 (nq : Int), .slice R vs.length c, .int .i64 (m : Int)], .agg #[.int .i64 kd, .int .u8 (of_.toNat : Int), .slice A0 ys.length c0, .int .i64 kp]] W (RefP G (fun v => .tuple #[v, .int .i64 ev]) X Z q3 m2 ls2 W)) := Lib.hid fun W G hb hG hGl => by
        have hlow : ∀ j, G j → w.heap.size ≤ j := fun j hj => by
          rcases hG j hj with h1 | h1
          · rcases h1 with h1 | h1
            · exact HD2.out.new j h1
            · have := HBT.out; omega
          · exact Nat.le_trans HD2.out.bel.size h1
        have hWB := HD2.out.bel.trans (hb.mono HD2.out.bel.size)
        exact HRD.out W G AL AT R hGl (HE2.out.rl.step (Touch.ofBelow hb) hG) (RowN.of_low (HOKR.out W hWB).1 hWB.size hlow) (fun r hr => RowN.of_low ((HOKR.out W hWB).2 r hr) hWB.size hlow)
      have HTB := Lib.hid HE2.out.blk
      obtain ⟨d0, d1, d2, d3⟩ := HCL.out w2 HD2.out.bel
      have t0 : w2.cell? ⟨bt, 0, none⟩ = some (.slice AL L.length cL) := HTB.out.cell 0
      have t1 : w2.cell? ⟨bt, 1, none⟩ = some (.slice AT T.length cT) := HTB.out.cell 1
      have t2 : w2.cell? ⟨bt, 2, none⟩ = some (.int .i64 (nq : Int)) := HTB.out.cell 2
      have t3 : w2.cell? ⟨bt, 3, none⟩ = some (.slice R vs.length c) := HTB.out.cell 3
      have t4 : w2.cell? ⟨bt, 4, none⟩ = some (.int .i64 (m : Int)) := HTB.out.cell 4
      have HDR : Hid (Below w2.heap.size w2 w2.drew) := Lib.hid (Below.refl _ _).drew
      have HDA : Hid (Below w2.heap.size w2 (w2.alloc (.cells #[.slice none 0 0, .slice none 0 0, .int .i64 0, .slice none 0 0, .int .i64 0] 32)).drew) := Lib.hid ((Below.refl _ _).alloc (Nat.le_refl _) _).drew
      have HUB : Hid (Blk (w2.alloc (.cells #[.slice none 0 0, .slice none 0 0, .int .i64 0, .slice none 0 0, .int .i64 0] 32)).drew w2.heap.size 32 #[.slice none 0 0, .slice none 0 0, .int .i64 0, .slice none 0 0, .int .i64 0]) := Lib.hid (Blk.new _ _ _).drew
      have HG1 : Hid (∀ j, AndB F2 bt j → j < w2.drew.heap.size) := Lib.hid fun j hj => by
        rcases hj with h1 | h1
        · exact HD2.out.at_.lt j h1
        · subst h1; exact HE2.out.blk.lt
      have HG2 : Hid (∀ j, AndB (AndB F2 bt) w2.heap.size j → j < (w2.alloc (.cells #[.slice none 0 0, .slice none 0 0, .int .i64 0, .slice none 0 0, .int .i64 0] 32)).drew.heap.size) := Lib.hid fun j hj => by
        rcases hj with h1 | h1
        · exact Nat.lt_of_lt_of_le (HG1.out j h1) HDA.out.size
        · subst h1; exact HUB.out.lt
      have hbtl : bt < w2.heap.size := HTB.out.lt
      have hbl : b < w2.heap.size := block_lt d0
      clear hf hl ht hq2 hnq3 HC HD HE HQ HRD
      go_wp2_with fail
      go_region_held3 (fun w' => w'.cell? ⟨bt, 0, none⟩ = some (.slice AL L.length cL) ∧ w'.cell? ⟨bt, 1, none⟩ = some (.slice AT T.length cT) ∧ w'.cell? ⟨bt, 2, none⟩ = some (.int .i64 (nq : Int)) ∧ w'.cell? ⟨bt, 3, none⟩ = some (.slice R vs.length c) ∧ w'.cell? ⟨bt, 4, none⟩ = some (.int .i64 (m : Int)) ∧ w'.cell? ⟨b, o + k * 4, none⟩ = some (.int .i64 kd) ∧ w'.cell? ⟨b, o + k * 4 + 1, none⟩ = some (.int .u8 (of_.toNat : Int)) ∧ w'.cell? ⟨b, o + k * 4 + 2, none⟩ = some (.slice A0 ys.length c0) ∧ w'.cell? ⟨b, o + k * 4 + 3, none⟩ = some (.int .i64 kp))
        (first | with_reducible exact ⟨f0, f1, f2, f3, f4, f5, f6, f7, f8⟩ | with_reducible exact ⟨cell_al _ f0, cell_al _ f1, cell_al _ f2, cell_al _ f3, cell_al _ f4, cell_al _ f5, cell_al _ f6, cell_al _ f7, cell_al _ f8⟩ | with_reducible exact ⟨cell_al _ t0, cell_al _ t1, cell_al _ t2, cell_al _ t3, cell_al _ t4, cell_al _ d0, cell_al _ d1, cell_al _ d2, cell_al _ d3⟩ | with_reducible exact ⟨far5 f0 (by omega), far5 f1 (by omega), far5 f2 (by omega), far5 f3 (by omega), far5 f4 (by omega), far5 f5 (by omega), far5 f6 (by omega), far5 f7 (by omega), far5 f8 (by omega)⟩ | go_keep)
        (first
          | (go_at_call 14; refine (HS.out _ (AndB F2 bt) HDR.out (fun j hj => Or.inl hj) HG1.out).mono ?_; rintro e w3 ⟨A1, e1, A2, e2, R2, e3, us, hus, rfl, hl3, hb3⟩; have HB3 := Lib.hid (HDR.out.trans (hb3.mono HDR.out.size)); have HL3 := Lib.hid hl3; have HUS := Lib.hid hus; simp only at HL3 ⊢; (have f0 : w3.cell? ⟨bt, 0, none⟩ = some (.slice AL L.length cL) := (HTB.out.below HB3.out HTB.out.lt).cell 0); (have f1 : w3.cell? ⟨bt, 1, none⟩ = some (.slice AT T.length cT) := (HTB.out.below HB3.out HTB.out.lt).cell 1); (have f2 : w3.cell? ⟨bt, 2, none⟩ = some (.int .i64 (nq : Int)) := (HTB.out.below HB3.out HTB.out.lt).cell 2); (have f3 : w3.cell? ⟨bt, 3, none⟩ = some (.slice R vs.length c) := (HTB.out.below HB3.out HTB.out.lt).cell 3); (have f4 : w3.cell? ⟨bt, 4, none⟩ = some (.int .i64 (m : Int)) := (HTB.out.below HB3.out HTB.out.lt).cell 4); obtain ⟨f5, f6, f7, f8⟩ := HCL.out w3 (HD2.out.bel.trans (HB3.out.mono HD2.out.bel.size)); clear hl3 hb3 hus)
          | (go_at_call 14; refine (HS.out _ (AndB (AndB F2 bt) w2.heap.size) HDA.out (fun j hj => by rcases hj with h1 | h1; exact Or.inl h1; exact Or.inr (by omega)) HG2.out).mono ?_; rintro e w3 ⟨A1, e1, A2, e2, R2, e3, us, hus, rfl, hl3, hb3⟩; have HB3 := Lib.hid (HDA.out.trans (hb3.mono HDA.out.size)); have HL3 := Lib.hid hl3; have HUS := Lib.hid hus; have HU3 := Lib.hid (HUB.out.below hb3 HUB.out.lt); simp only at HL3 ⊢; (have f0 : w3.cell? ⟨bt, 0, none⟩ = some (.slice AL L.length cL) := (HTB.out.below HB3.out HTB.out.lt).cell 0); (have f1 : w3.cell? ⟨bt, 1, none⟩ = some (.slice AT T.length cT) := (HTB.out.below HB3.out HTB.out.lt).cell 1); (have f2 : w3.cell? ⟨bt, 2, none⟩ = some (.int .i64 (nq : Int)) := (HTB.out.below HB3.out HTB.out.lt).cell 2); (have f3 : w3.cell? ⟨bt, 3, none⟩ = some (.slice R vs.length c) := (HTB.out.below HB3.out HTB.out.lt).cell 3); (have f4 : w3.cell? ⟨bt, 4, none⟩ = some (.int .i64 (m : Int)) := (HTB.out.below HB3.out HTB.out.lt).cell 4); obtain ⟨f5, f6, f7, f8⟩ := HCL.out w3 (HD2.out.bel.trans (HB3.out.mono HD2.out.bel.size)); have x0 := HU3.out.cell 0; have y0 := HU3.out.frozen 0; have x1 := HU3.out.cell 1; have y1 := HU3.out.frozen 1; have x2 := HU3.out.cell 2; have y2 := HU3.out.frozen 2; have x3 := HU3.out.cell 3; have y3 := HU3.out.frozen 3; have x4 := HU3.out.cell 4; have y4 := HU3.out.frozen 4; clear hl3 hb3 hus))
      · obtain ⟨W5, hW5⟩ : ∃ W, w3.alloc (.cells #[.slice A1 X.length e1, .slice A2 Z.length e2, .int .i64 (q3 : Int), .slice R2 us.length e3, .int .i64 (m2 : Int)] 32) = W := ⟨_, rfl⟩
        have HU : Hid (Blk (w3.alloc (.cells #[.slice A1 X.length e1, .slice A2 Z.length e2, .int .i64 (q3 : Int), .slice R2 us.length e3, .int .i64 (m2 : Int)] 32)) w3.heap.size 32 #[.slice A1 X.length e1, .slice A2 Z.length e2, .int .i64 (q3 : Int), .slice R2 us.length e3, .int .i64 (m2 : Int)] ∧ Below w2.heap.size w2 (w3.alloc (.cells #[.slice A1 X.length e1, .slice A2 Z.length e2, .int .i64 (q3 : Int), .slice R2 us.length e3, .int .i64 (m2 : Int)] 32)) ∧ RefL (w3.alloc (.cells #[.slice A1 X.length e1, .slice A2 Z.length e2, .int .i64 (q3 : Int), .slice R2 us.length e3, .int .i64 (m2 : Int)] 32)) (AndB F2 bt) A1 e1 A2 e2 R2 e3 X Z us) := Lib.hid (by
          have hal : Below w3.heap.size w3 (w3.alloc (.cells #[.slice A1 X.length e1, .slice A2 Z.length e2, .int .i64 (q3 : Int), .slice R2 us.length e3, .int .i64 (m2 : Int)] 32)) := (Below.refl _ _).alloc (Nat.le_refl _) _
          exact ⟨Blk.new _ _ _, HB3.out.trans (hal.mono HB3.out.size), HL3.out.below hal⟩)
        rw [hW5] at HU
        rw [hW5]
        have HP := Lib.hid (ref_put5 (q3 := q3) (m3 := m2) HD2.out HU.out.2.1 HTB.out HE2.out.nf HBT.out HU.out.2.2)
        have u0 := HU.out.1.cell 0
        have u1 := HU.out.1.cell 1
        have u2 := HU.out.1.cell 2
        have u3 := HU.out.1.cell 3
        have u4 := HU.out.1.cell 4
        have v0 := (HTB.out.below HU.out.2.1 HTB.out.lt).cell 0
        have z0 := (HTB.out.below HU.out.2.1 HTB.out.lt).frozen 0
        have v1 := (HTB.out.below HU.out.2.1 HTB.out.lt).cell 1
        have z1 := (HTB.out.below HU.out.2.1 HTB.out.lt).frozen 1
        have v2 := (HTB.out.below HU.out.2.1 HTB.out.lt).cell 2
        have z2 := (HTB.out.below HU.out.2.1 HTB.out.lt).frozen 2
        have v3 := (HTB.out.below HU.out.2.1 HTB.out.lt).cell 3
        have z3 := (HTB.out.below HU.out.2.1 HTB.out.lt).frozen 3
        have v4 := (HTB.out.below HU.out.2.1 HTB.out.lt).cell 4
        have z4 := (HTB.out.below HU.out.2.1 HTB.out.lt).frozen 4
        clear hW5 f0 f1 f2 f3 f4 f5 f6 f7 f8 HB3 HL3 d0 d1 d2 d3
        go_wp2_with fail
        have hrl := HP.out.2.rl
        refine (same7_any F2 g2 m2 q2 X.length Z.length us.length e1 e2 e3 ls2 X Z us A1 A2 R2 (q3 : Int) HXZ.out.1 HXZ.out.2 rfl rfl (by rw [← HUS.out, List.length_map]) hrl.hc HUS.out _ HP.out.1.at_ hrl.rl.row hrl.rt.row (fun W hb => ⟨(hrl.below hb).rr.row, fun r hr => ((hrl.below hb).rb r hr).row⟩)).mono ?_
        rintro e w7 ⟨rfl, hb7⟩
        have HK7 : Hid (INV w w7 bt g2 rs (k + 1)) := Lib.hid ⟨F2, m2, q2, q3, X, Z, A1, e1, A2, e2, R2, e3, us, HQ2.out.1, HQ2.out.2, by rw [HUS.out]; exact HP.out.1.below hb7, HP.out.2.below hb7, by rw [HUS.out]; exact HXZ.out.1, by rw [HUS.out]; exact HXZ.out.2, by rw [HUS.out]; exact HSZ2.out⟩
        clear hb7 HP hrl
        go_wp2
        go_roundw
        case rel => exact ⟨k + 1, by omega, by go_num, g2, rfl, HK7⟩
        case measure => simp [intOf]; omega
      · obtain ⟨W5, hW5⟩ : ∃ W, ((((((w3).setCell ⟨w2.heap.size, 0, none⟩ (.slice A1 X.length e1)).setCell ⟨w2.heap.size, 1, none⟩ (.slice A2 Z.length e2)).setCell ⟨w2.heap.size, 2, none⟩ (.int .i64 (q3 : Int))).setCell ⟨w2.heap.size, 3, none⟩ (.slice R2 us.length e3)).setCell ⟨w2.heap.size, 4, none⟩ (.int .i64 (m2 : Int))) = W := ⟨_, rfl⟩
        have HU : Hid (Blk (((((((w3).setCell ⟨w2.heap.size, 0, none⟩ (.slice A1 X.length e1)).setCell ⟨w2.heap.size, 1, none⟩ (.slice A2 Z.length e2)).setCell ⟨w2.heap.size, 2, none⟩ (.int .i64 (q3 : Int))).setCell ⟨w2.heap.size, 3, none⟩ (.slice R2 us.length e3)).setCell ⟨w2.heap.size, 4, none⟩ (.int .i64 (m2 : Int)))) w2.heap.size 32 #[.slice A1 X.length e1, .slice A2 Z.length e2, .int .i64 (q3 : Int), .slice R2 us.length e3, .int .i64 (m2 : Int)] ∧ Below w2.heap.size w2 (((((((w3).setCell ⟨w2.heap.size, 0, none⟩ (.slice A1 X.length e1)).setCell ⟨w2.heap.size, 1, none⟩ (.slice A2 Z.length e2)).setCell ⟨w2.heap.size, 2, none⟩ (.int .i64 (q3 : Int))).setCell ⟨w2.heap.size, 3, none⟩ (.slice R2 us.length e3)).setCell ⟨w2.heap.size, 4, none⟩ (.int .i64 (m2 : Int)))) ∧ RefL (((((((w3).setCell ⟨w2.heap.size, 0, none⟩ (.slice A1 X.length e1)).setCell ⟨w2.heap.size, 1, none⟩ (.slice A2 Z.length e2)).setCell ⟨w2.heap.size, 2, none⟩ (.int .i64 (q3 : Int))).setCell ⟨w2.heap.size, 3, none⟩ (.slice R2 us.length e3)).setCell ⟨w2.heap.size, 4, none⟩ (.int .i64 (m2 : Int)))) (AndB F2 bt) A1 e1 A2 e2 R2 e3 X Z us) := Lib.hid (by
          have hf := refopen_fin (b := w2.heap.size) (u0 := .slice A1 X.length e1) (u1 := .slice A2 Z.length e2) (u2 := .int .i64 (q3 : Int)) (u3 := .slice R2 us.length e3) (u4 := .int .i64 (m2 : Int)) HU3.out
          exact ⟨hf.1, hf.2.2 w2 HB3.out (Nat.le_refl _), HL3.out.step (ref_touch (F := AndB F2 bt) (b := w2.heap.size) (u0 := .slice A1 X.length e1) (u1 := .slice A2 Z.length e2) (u2 := .int .i64 (q3 : Int)) (u3 := .slice R2 us.length e3) (u4 := .int .i64 (m2 : Int))) (F' := AndB F2 bt) (fun j hj => Or.inl (Or.inl hj))⟩)
        rw [hW5] at HU
        rw [hW5]
        have HP := Lib.hid (ref_put5 (q3 := q3) (m3 := m2) HD2.out HU.out.2.1 HTB.out HE2.out.nf HBT.out HU.out.2.2)
        have u0 := HU.out.1.cell 0
        have u1 := HU.out.1.cell 1
        have u2 := HU.out.1.cell 2
        have u3 := HU.out.1.cell 3
        have u4 := HU.out.1.cell 4
        have v0 := (HTB.out.below HU.out.2.1 HTB.out.lt).cell 0
        have z0 := (HTB.out.below HU.out.2.1 HTB.out.lt).frozen 0
        have v1 := (HTB.out.below HU.out.2.1 HTB.out.lt).cell 1
        have z1 := (HTB.out.below HU.out.2.1 HTB.out.lt).frozen 1
        have v2 := (HTB.out.below HU.out.2.1 HTB.out.lt).cell 2
        have z2 := (HTB.out.below HU.out.2.1 HTB.out.lt).frozen 2
        have v3 := (HTB.out.below HU.out.2.1 HTB.out.lt).cell 3
        have z3 := (HTB.out.below HU.out.2.1 HTB.out.lt).frozen 3
        have v4 := (HTB.out.below HU.out.2.1 HTB.out.lt).cell 4
        have z4 := (HTB.out.below HU.out.2.1 HTB.out.lt).frozen 4
        clear hW5 f0 f1 f2 f3 f4 f5 f6 f7 f8 HB3 HL3 d0 d1 d2 d3 x0 y0 x1 y1 x2 y2 x3 y3 x4 y4
        go_wp2_with fail
        have hrl := HP.out.2.rl
        refine (same7_any F2 g2 m2 q2 X.length Z.length us.length e1 e2 e3 ls2 X Z us A1 A2 R2 (q3 : Int) HXZ.out.1 HXZ.out.2 rfl rfl (by rw [← HUS.out, List.length_map]) hrl.hc HUS.out _ HP.out.1.at_ hrl.rl.row hrl.rt.row (fun W hb => ⟨(hrl.below hb).rr.row, fun r hr => ((hrl.below hb).rb r hr).row⟩)).mono ?_
        rintro e w7 ⟨rfl, hb7⟩
        have HK7 : Hid (INV w w7 bt g2 rs (k + 1)) := Lib.hid ⟨F2, m2, q2, q3, X, Z, A1, e1, A2, e2, R2, e3, us, HQ2.out.1, HQ2.out.2, by rw [HUS.out]; exact HP.out.1.below hb7, HP.out.2.below hb7, by rw [HUS.out]; exact HXZ.out.1, by rw [HUS.out]; exact HXZ.out.2, by rw [HUS.out]; exact HSZ2.out⟩
        clear hb7 HP hrl
        go_wp2
        go_roundw
        case rel => exact ⟨k + 1, by omega, by go_num, g2, rfl, HK7⟩
        case measure => simp [intOf]; omega
    · obtain rfl : k = n := by omega
      clear HQ HSZ HLT HE
      go_wp2_with fail
      refine (known7_any _).mono ?_
      rintro e w8 ⟨rfl, hb⟩
      have HB8 := Lib.hid (HD.out.bel.trans (hb.mono HD.out.bel.size))
      clear hb
      go_wp2
      go_ret
      exact ⟨rfl, HB8.out⟩
end Go.Proofs.Ytkagfjjocmjeoaa
