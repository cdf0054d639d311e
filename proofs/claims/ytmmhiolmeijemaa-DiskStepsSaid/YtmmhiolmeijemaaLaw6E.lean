/- The law DiskSteps, walked. -/
import Derived.Test.YtmmhiolmeijemaaSame6
namespace Go.Proofs.Ytmmhiolmeijemaa
open Go.RowKit Mem
set_option maxRecDepth 100000
set_option maxHeartbeats 8000000
set_option linter.unusedVariables false
/-- The blocks of a disk, and one more. -/
def And1 (F : Nat → Prop) (b : Nat) (k : Nat) : Prop := F k ∨ k = b
/-- The document's disk in block b: its rows lie outside of the other disk's blocks, and of b. -/
structure RefD (w : World) (F : Nat → Prop) (b : Nat) (L T : List UInt8) (q : Nat) (AL : Option Addr) (cL : Nat) (AT : Option Addr) (cT : Nat) : Prop where
  blk : Blk w b 31 #[.slice AL L.length cL, .slice AT T.length cT, .int .i64 (q : Int)]
  hl : L.length ≤ cL
  ht : T.length ≤ cT
  rl : RowN (And1 F b) w AL (L.map byteV)
  rt : RowN (And1 F b) w AT (T.map byteV)
  nf : ¬ F b
theorem RefD.to {w w1 : World} {F F' : Nat → Prop} {b q cL cT : Nat} {L T : List UInt8} {AL AT : Option Addr} (h : RefD w F b L T q AL cL AT cT) (hf : ∀ k, F' k → F k ∨ w.heap.size ≤ k) (ht : Touch F w w1) : RefD w1 F' b L T q AL cL AT cT := by
  have ht2 : Touch (And1 F b) w w1 := ht.mono fun k hk => Or.inl hk
  have hf2 : ∀ k, And1 F' b k → And1 F b k ∨ w.heap.size ≤ k := fun k hk => by
    rcases hk with h1 | h1
    · rcases hf k h1 with h2 | h2
      · exact Or.inl (Or.inl h2)
      · exact Or.inr h2
    · exact Or.inl (Or.inr h1)
  refine ⟨blkKeep h.blk (ht.block b h.blk.lt h.nf), h.hl, h.ht, h.rl.step ht2 hf2, h.rt.step ht2 hf2, fun hx => ?_⟩
  rcases hf b hx with h1 | h1
  · exact h.nf h1
  · have := h.blk.lt; omega
theorem RefD.below {w w1 : World} {F : Nat → Prop} {b q cL cT : Nat} {L T : List UInt8} {AL AT : Option Addr} (h : RefD w F b L T q AL cL AT cT) (hb : Below w.heap.size w w1) : RefD w1 F b L T q AL cL AT cT := h.to (fun k hk => Or.inl hk) (Touch.ofBelow hb)
theorem cell_alloc {w : World} {b i : Nat} {v : Value} (o : Obj) (h : w.cell? ⟨b, i, none⟩ = some v) : (w.alloc o).cell? ⟨b, i, none⟩ = some v :=
  (((Below.refl w.heap.size w).alloc (Nat.le_refl _) o).cell (p := ⟨b, i, none⟩) (block_lt h)).trans h
theorem ref_put {w0 w2 W : World} {F : Nat → Prop} {g bt q e2 e3 : Nat} {L T : List UInt8} {A2 A3 : Option Addr} {x y z : Value} (hd : Dk1 w0 w2 F g L T q) (hb : Below w2.heap.size w2 W) (hblk : Blk w2 bt 31 #[x, y, z]) (hnf : ¬ F bt) (hbt : w0.heap.size ≤ bt)
    (r2 : RowN (And1 F bt) W A2 (L.map byteV)) (r3 : RowN (And1 F bt) W A3 (T.map byteV)) (l2 : L.length ≤ e2) (l3 : T.length ≤ e3) :
    Dk1 w0 (((W.setCell ⟨bt, 0, none⟩ (.slice A2 L.length e2)).setCell ⟨bt, 1, none⟩ (.slice A3 T.length e3)).setCell ⟨bt, 2, none⟩ (.int .i64 (q : Int))) F g L T q ∧ RefD (((W.setCell ⟨bt, 0, none⟩ (.slice A2 L.length e2)).setCell ⟨bt, 1, none⟩ (.slice A3 T.length e3)).setCell ⟨bt, 2, none⟩ (.int .i64 (q : Int))) F bt L T q A2 e2 A3 e3 := by
  have ht : Touch (fun k => k = bt) W (((W.setCell ⟨bt, 0, none⟩ (.slice A2 L.length e2)).setCell ⟨bt, 1, none⟩ (.slice A3 T.length e3)).setCell ⟨bt, 2, none⟩ (.int .i64 (q : Int))) :=
    (((Touch.refl (fun k => k = bt) W).set_ (p := ⟨bt, 0, none⟩) (Or.inl rfl) _).set_ (p := ⟨bt, 1, none⟩) (Or.inl rfl) _).set_ (p := ⟨bt, 2, none⟩) (Or.inl rfl) _
  have hd2 := hd.below hb
  refine ⟨⟨hd2.new, hd2.at_.touch ht (fun k hk e => hnf (by rw [e] at hk; exact hk)), hd2.bel.trans (ht.below hd2.bel.size (fun k hk => by rw [hk]; exact hbt))⟩, ?_⟩
  exact ⟨(((hblk.below hb hblk.lt).set_ 0 _).set_ 1 _).set_ 2 _, l2, l3, r2.touch (ht.mono fun k hk => Or.inr hk), r3.touch (ht.mono fun k hk => Or.inr hk), hnf⟩
theorem steps_walk (B A : Option Addr) (bs : List UInt8) (rs : List DoV) (nb cb n c : Nat) (hnb : nb = bs.length) (hcb : nb ≤ cb) (hn : n = rs.length) (hnl : n ≤ 140737488355328) (hsz : ∀ r ∈ rs, r.row.2.1.length ≤ 140737488355328) (w : World) (hB : Row w w.heap.size B (bs.map byteV)) (h : InD w A rs) :
    Calls Try.prog 3 #[.slice B nb cb, .slice A n c] w (IsT6 true w) := by
  by_cases h1 : 300 < nb
  · have hg : (300 : Int) < (nb : Int) := by omega
    clear hB hnb hn hnl hsz h h1 hcb
    go_enter Try.func3, Try.ntmps3
    go_wp2_with fail
    refine (known6_any _).mono ?_
    rintro e w1 ⟨rfl, hb⟩
    have HB := Lib.hid hb
    clear hb
    go_wp2
    go_ret
    exact ⟨rfl, HB.out⟩
  have hnbi : (nb : Int) ≤ 300 := by omega
  subst hnb
  have HLG := Lib.hid (longdo_any n c A rs hn (by unfold maxLen; omega) w h)
  have HIN := Lib.hid h
  have HN := Lib.hid hn
  have HNL := Lib.hid hnl
  have HSZ := Lib.hid hsz
  have HRB := Lib.hid hB
  have HNB : Hid (bs.length ≤ 300 ∧ bs.length ≤ cb) := Lib.hid ⟨by omega, hcb⟩
  have hni : (n : Int) ≤ 140737488355328 := by omega
  clear h hn hnl hsz hB h1 hcb
  go_enter Try.func3, Try.ntmps3
  go_wp2_with fail
  refine HLG.out.mono ?_
  rintro e w' ⟨⟨lb, rfl⟩, rfl⟩
  clear HLG
  cases lb with
  | true =>
    go_wp2_with fail
    refine (known6_any _).mono ?_
    rintro e w1 ⟨rfl, hb⟩
    have HB := Lib.hid hb
    clear hb
    go_wp2
    go_ret
    exact ⟨rfl, HB.out⟩
  | false =>
  go_wp2_with fail
  refine (of_any bs.length w.heap.size cb bs B rfl (by have := HNB.out; omega) w HRB.out (Nat.le_refl _)).mono ?_
  rintro e w1 ⟨g, F0, rfl, hF, hd, hb⟩
  have HD0 : Hid (Dk1 w w1 F0 g bs [] 0) := Lib.hid ⟨hF, hd, hb⟩
  simp only
  clear hF hd hb
  have HD1 : Hid (Dk1 w (w1.alloc (.cells #[.slice B bs.length cb, .slice none 0 0, .int .i64 0] 31)) F0 g bs [] 0) := Lib.hid (HD0.out.below ((Below.refl _ _).alloc (Nat.le_refl _) _))
  have HE1 : Hid (RefD (w1.alloc (.cells #[.slice B bs.length cb, .slice none 0 0, .int .i64 0] 31)) F0 w1.heap.size bs [] 0 B cb none 0) := Lib.hid (by
    refine ⟨Blk.new _ _ _, HNB.out.2, Nat.le_refl _, ?_, Or.inl rfl, fun hf => by have := HD0.out.at_.lt _ hf; omega⟩
    refine RowN.of_low (B := w.heap.size) (HRB.out.below HD1.out.bel) HD1.out.bel.size (fun k hk => ?_)
    rcases hk with h1 | h1
    · exact HD0.out.new k h1
    · have := HD0.out.bel.size; omega)
  have HBT : Hid (w.heap.size ≤ w1.heap.size) := Lib.hid HD0.out.bel.size
  obtain ⟨bt, hbt⟩ : ∃ bt, w1.heap.size = bt := ⟨_, rfl⟩
  rw [hbt] at HE1 HBT
  clear HD0
  go_wp2_with fail
  clear hbt
  go_loopw [8] (fun i wr => ∃ k : Nat, k ≤ n ∧ i = .int .i64 k ∧ Hid (∃ F L T q AL cL AT cT, q ≤ k ∧ Dk1 w wr F g L T q ∧ RefD wr F bt L T q AL cL AT cT)) (fun i _ => n - (intOf i).toNat)
  case atStart => exact ⟨0, by omega, rfl, Lib.hid ⟨F0, bs, [], 0, B, cb, none, 0, by omega, HD1.out, HE1.out⟩⟩
  case round =>
    obtain ⟨k, hk, rfl, HK⟩ := hrel
    obtain ⟨F, L, T, q, AL, cL, AT, cT, hq, hd, he⟩ := HK.out
    have HD := Lib.hid hd
    have HE := Lib.hid he
    have HQ := Lib.hid hq
    clear HK hd he hq HD1 HE1
    by_cases hlt : k < n
    · have hk1 : k < rs.length := by rw [← HN.out]; exact hlt
      obtain ⟨b, o, rfl, hb0, _⟩ := dos_open (HIN.out w (Below.refl _ _)).1 (by omega)
      have HCL : Hid (∀ W, Below w.heap.size w W → W.cell? ⟨b, o + k * 3, none⟩ = some (.int .i64 rs[k].kind) ∧ W.cell? ⟨b, o + k * 3 + 1, none⟩ = some (rowV rs[k].row) ∧ W.cell? ⟨b, o + k * 3 + 2, none⟩ = some (.int .i64 rs[k].kept)) := Lib.hid fun W hb => by
        obtain ⟨b', o', e, _, hc⟩ := dos_open (HIN.out W hb).1 (by omega)
        injection e with e
        injection e with e1 e2
        subst e1; subst e2
        exact hc k hk1
      have C := done_round HIN.out HD.out hk1 (by have := HQ.out; have := HNL.out; omega)
      have HRO : Hid (∀ W, Below w.heap.size w W → Row W w.heap.size rs[k].row.1 (rs[k].row.2.1.map byteV)) := Lib.hid fun W hb => ((HIN.out W hb).2 rs[k] (List.getElem_mem hk1)).row.1
      have HRL : Hid (rs[k].row.2.1.length ≤ 140737488355328) := Lib.hid (HSZ.out _ (List.getElem_mem hk1))
      unfold rowV at HCL
      obtain ⟨⟨kd, ⟨A0, ys, c0⟩, kp⟩, hy1⟩ : ∃ y, rs[k] = y := ⟨_, rfl⟩
      rw [hy1] at HCL C HRO HRL
      simp only at HCL C HRO HRL
      have HC := Lib.hid C
      have hqn := doS_n L T q kd ys kp
      have hki : (0 : Int) ≤ (k : Int) := by omega
      have hki2 : (k : Int) < (n : Int) := by omega
      obtain ⟨d0, d1, d2⟩ := HCL.out wr HD.out.bel
      clear hy1 C hb0
      go_wp2_with fail
      refine HC.out.mono ?_
      rintro e w2 ⟨rfl, F2, hf, hd, ht⟩
      have HE2 := Lib.hid (HE.out.to hf ht)
      have HD2 := Lib.hid (HD.out.to hf hd ht)
      have hmx := HD.out.at_.mx
      have HS : Hid (∀ W (G : Nat → Prop), Below w2.heap.size w2 W → (∀ j, G j → And1 F2 bt j ∨ w2.heap.size ≤ j) → (∀ j, G j → j < W.heap.size) → Calls Try.prog 13 #[.agg #[.slice AL L.length cL, .slice AT T.length cT, .int .i64 (q : Int)], .agg #[.int .i64 kd, .slice A0 ys.length c0, .int .i64 kp]] W (StepP G (doS L T q kd ys kp) W)) := Lib.hid fun W G hb hG hGl =>
        step6_any G L T ys q kd kp AL AT A0 L.length T.length ys.length cL cT c0 rfl rfl rfl HE2.out.hl HE2.out.ht HRL.out hmx (by have := HQ.out; have := HNL.out; omega) W hGl (HE2.out.rl.step (Touch.ofBelow hb) hG) (HE2.out.rt.step (Touch.ofBelow hb) hG) (RowN.of_low (B := w.heap.size) (HRO.out W (HD2.out.bel.trans (hb.mono HD2.out.bel.size))) (Nat.le_trans HD2.out.bel.size hb.size) (fun j hj => by
            rcases hG j hj with h1 | h1
            · rcases h1 with h1 | h1
              · exact HD2.out.new j h1
              · have := HBT.out; omega
            · exact Nat.le_trans HD2.out.bel.size h1))
      obtain ⟨⟨L2, T2, q2, ev⟩, hS⟩ : ∃ s, doS L T q kd ys kp = s := ⟨_, rfl⟩
      rw [hS] at HS HD2 hqn
      simp only [hS]
      simp only at HD2 hqn
      have HQ2 : Hid (q2 ≤ k + 1) := Lib.hid (by have := HQ.out; omega)
      have HTB := Lib.hid HE2.out.blk
      obtain ⟨d0, d1, d2⟩ := HCL.out w2 HD2.out.bel
      have t0 : w2.cell? ⟨bt, 0, none⟩ = some (.slice AL L.length cL) := HTB.out.cell 0
      have t1 : w2.cell? ⟨bt, 1, none⟩ = some (.slice AT T.length cT) := HTB.out.cell 1
      have t2 : w2.cell? ⟨bt, 2, none⟩ = some (.int .i64 (q : Int)) := HTB.out.cell 2
      have HDR : Hid (Below w2.heap.size w2 w2.drew) := Lib.hid (Below.refl _ _).drew
      have HDA : Hid (Below w2.heap.size w2 (w2.alloc (.cells #[.slice none 0 0, .slice none 0 0, .int .i64 0] 31)).drew) := Lib.hid ((Below.refl _ _).alloc (Nat.le_refl _) _).drew
      have HUB : Hid (Blk (w2.alloc (.cells #[.slice none 0 0, .slice none 0 0, .int .i64 0] 31)).drew w2.heap.size 31 #[.slice none 0 0, .slice none 0 0, .int .i64 0]) := Lib.hid (Blk.new _ _ _).drew
      have HG1 : Hid (∀ j, And1 F2 bt j → j < w2.drew.heap.size) := Lib.hid fun j hj => by
        rcases hj with h1 | h1
        · exact HD2.out.at_.lt j h1
        · subst h1; exact HE2.out.blk.lt
      have HG2 : Hid (∀ j, And1 (And1 F2 bt) w2.heap.size j → j < (w2.alloc (.cells #[.slice none 0 0, .slice none 0 0, .int .i64 0] 31)).drew.heap.size) := Lib.hid fun j hj => by
        rcases hj with h1 | h1
        · exact Nat.lt_of_lt_of_le (HG1.out j h1) HDA.out.size
        · subst h1; exact HUB.out.lt
      have hbtl : bt < w2.heap.size := HTB.out.lt
      have hbl : b < w2.heap.size := block_lt d0
      clear hf hd ht hS hqn hmx HC HD HE HQ
      go_wp2_with fail
      go_region_held3 (fun w' => w'.cell? ⟨bt, 0, none⟩ = some (.slice AL L.length cL) ∧ w'.cell? ⟨bt, 1, none⟩ = some (.slice AT T.length cT) ∧ w'.cell? ⟨bt, 2, none⟩ = some (.int .i64 (q : Int)) ∧ w'.cell? ⟨b, o + k * 3, none⟩ = some (.int .i64 kd) ∧ w'.cell? ⟨b, o + k * 3 + 1, none⟩ = some (.slice A0 ys.length c0) ∧ w'.cell? ⟨b, o + k * 3 + 2, none⟩ = some (.int .i64 kp))
        (first | exact ⟨f0, f1, f2, f3, f4, f5⟩ | exact ⟨cell_alloc _ f0, cell_alloc _ f1, cell_alloc _ f2, cell_alloc _ f3, cell_alloc _ f4, cell_alloc _ f5⟩ | exact ⟨cell_alloc _ t0, cell_alloc _ t1, cell_alloc _ t2, cell_alloc _ d0, cell_alloc _ d1, cell_alloc _ d2⟩ | exact ⟨far3 f0 (by omega), far3 f1 (by omega), far3 f2 (by omega), far3 f3 (by omega), far3 f4 (by omega), far3 f5 (by omega)⟩ | go_keep)
        (first
          | (go_at_call 13; refine (HS.out _ (And1 F2 bt) HDR.out (fun j hj => Or.inl hj) HG1.out).mono ?_; rintro e w3 ⟨A2, e2, A3, e3, rfl, hl2, hl3, hr2, hr3, hb3⟩; have HB3 := Lib.hid (HDR.out.trans (hb3.mono HDR.out.size)); have HR2 := Lib.hid hr2; have HR3 := Lib.hid hr3; have HLL := Lib.hid (And.intro hl2 hl3); simp only at HR2 HR3 HLL ⊢; (have f0 : w3.cell? ⟨bt, 0, none⟩ = some (.slice AL L.length cL) := (HTB.out.below HB3.out HTB.out.lt).cell 0); (have f1 : w3.cell? ⟨bt, 1, none⟩ = some (.slice AT T.length cT) := (HTB.out.below HB3.out HTB.out.lt).cell 1); (have f2 : w3.cell? ⟨bt, 2, none⟩ = some (.int .i64 (q : Int)) := (HTB.out.below HB3.out HTB.out.lt).cell 2); obtain ⟨f3, f4, f5⟩ := HCL.out w3 (HD2.out.bel.trans (HB3.out.mono HD2.out.bel.size)); clear hl2 hl3 hr2 hr3 hb3)
          | (go_at_call 13; refine (HS.out _ (And1 (And1 F2 bt) w2.heap.size) HDA.out (fun j hj => by rcases hj with h1 | h1; exact Or.inl h1; exact Or.inr (by omega)) HG2.out).mono ?_; rintro e w3 ⟨A2, e2, A3, e3, rfl, hl2, hl3, hr2, hr3, hb3⟩; have HB3 := Lib.hid (HDA.out.trans (hb3.mono HDA.out.size)); have HR2 := Lib.hid hr2; have HR3 := Lib.hid hr3; have HLL := Lib.hid (And.intro hl2 hl3); have HU3 := Lib.hid (HUB.out.below hb3 HUB.out.lt); simp only at HR2 HR3 HLL ⊢; (have f0 : w3.cell? ⟨bt, 0, none⟩ = some (.slice AL L.length cL) := (HTB.out.below HB3.out HTB.out.lt).cell 0); (have f1 : w3.cell? ⟨bt, 1, none⟩ = some (.slice AT T.length cT) := (HTB.out.below HB3.out HTB.out.lt).cell 1); (have f2 : w3.cell? ⟨bt, 2, none⟩ = some (.int .i64 (q : Int)) := (HTB.out.below HB3.out HTB.out.lt).cell 2); obtain ⟨f3, f4, f5⟩ := HCL.out w3 (HD2.out.bel.trans (HB3.out.mono HD2.out.bel.size)); (have r0 : w3.cell? ⟨w2.heap.size, 0, none⟩ = some (.slice none 0 0) := HU3.out.cell 0); (have r1 : w3.cell? ⟨w2.heap.size, 1, none⟩ = some (.slice none 0 0) := HU3.out.cell 1); (have r2 : w3.cell? ⟨w2.heap.size, 2, none⟩ = some (.int .i64 0) := HU3.out.cell 2); have y0 := HU3.out.frozen 0; have y1 := HU3.out.frozen 1; have y2 := HU3.out.frozen 2; clear hl2 hl3 hr2 hr3 hb3))
      · obtain ⟨W5, hW5⟩ : ∃ W, (w3.alloc (.cells #[.slice A2 L2.length e2, .slice A3 T2.length e3, .int .i64 (q2 : Int)] 31)) = W := ⟨_, rfl⟩
        have HU : Hid (Blk (w3.alloc (.cells #[.slice A2 L2.length e2, .slice A3 T2.length e3, .int .i64 (q2 : Int)] 31)) w3.heap.size 31 #[.slice A2 L2.length e2, .slice A3 T2.length e3, .int .i64 (q2 : Int)] ∧ Below w2.heap.size w2 (w3.alloc (.cells #[.slice A2 L2.length e2, .slice A3 T2.length e3, .int .i64 (q2 : Int)] 31)) ∧ RowN (And1 F2 bt) (w3.alloc (.cells #[.slice A2 L2.length e2, .slice A3 T2.length e3, .int .i64 (q2 : Int)] 31)) A2 (L2.map byteV) ∧ RowN (And1 F2 bt) (w3.alloc (.cells #[.slice A2 L2.length e2, .slice A3 T2.length e3, .int .i64 (q2 : Int)] 31)) A3 (T2.map byteV)) := Lib.hid (by
          have hal : Below w3.heap.size w3 (w3.alloc (.cells #[.slice A2 L2.length e2, .slice A3 T2.length e3, .int .i64 (q2 : Int)] 31)) := (Below.refl _ _).alloc (Nat.le_refl _) _
          exact ⟨Blk.new _ _ _, HB3.out.trans (hal.mono HB3.out.size), HR2.out.below hal, HR3.out.below hal⟩)
        rw [hW5] at HU
        rw [hW5]
        have HP := Lib.hid (ref_put HD2.out HU.out.2.1 HTB.out HE2.out.nf HBT.out HU.out.2.2.1 HU.out.2.2.2 HLL.out.1 HLL.out.2)
        have u0 : W5.cell? ⟨w3.heap.size, 0, none⟩ = some (.slice A2 L2.length e2) := HU.out.1.cell 0
        have u1 : W5.cell? ⟨w3.heap.size, 1, none⟩ = some (.slice A3 T2.length e3) := HU.out.1.cell 1
        have u2 : W5.cell? ⟨w3.heap.size, 2, none⟩ = some (.int .i64 (q2 : Int)) := HU.out.1.cell 2
        have t0 : W5.cell? ⟨bt, 0, none⟩ = some (.slice AL L.length cL) := (HTB.out.below HU.out.2.1 HTB.out.lt).cell 0
        have t1 : W5.cell? ⟨bt, 1, none⟩ = some (.slice AT T.length cT) := (HTB.out.below HU.out.2.1 HTB.out.lt).cell 1
        have t2 : W5.cell? ⟨bt, 2, none⟩ = some (.int .i64 (q : Int)) := (HTB.out.below HU.out.2.1 HTB.out.lt).cell 2
        have z0 := (HTB.out.below HU.out.2.1 HTB.out.lt).frozen 0
        have z1 := (HTB.out.below HU.out.2.1 HTB.out.lt).frozen 1
        have z2 := (HTB.out.below HU.out.2.1 HTB.out.lt).frozen 2
        clear hW5 f0 f1 f2 f3 f4 f5 HB3 HR2 HR3 d0 d1 d2 
        go_wp2_with fail
        refine (samed_any F2 g q2 L2.length T2.length e2 e3 L2 T2 A2 A3 rfl rfl _ HP.out.1.at_ HP.out.2.rl.row HP.out.2.rt.row).mono ?_
        rintro e w7 ⟨rfl, hb7⟩
        have HK7 : Hid (∃ F L T q AL cL AT cT, q ≤ k + 1 ∧ Dk1 w w7 F g L T q ∧ RefD w7 F bt L T q AL cL AT cT) := Lib.hid ⟨F2, L2, T2, q2, A2, e2, A3, e3, HQ2.out, HP.out.1.below hb7, HP.out.2.below hb7⟩
        clear hb7 HP
        go_wp2
        go_roundw
        case rel => exact ⟨k + 1, by omega, by go_num, HK7⟩
        case measure => simp [intOf]; omega
      · obtain ⟨W5, hW5⟩ : ∃ W, (((w3.setCell ⟨w2.heap.size, 0, none⟩ (.slice A2 L2.length e2)).setCell ⟨w2.heap.size, 1, none⟩ (.slice A3 T2.length e3)).setCell ⟨w2.heap.size, 2, none⟩ (.int .i64 (q2 : Int))) = W := ⟨_, rfl⟩
        have HU : Hid (Blk (((w3.setCell ⟨w2.heap.size, 0, none⟩ (.slice A2 L2.length e2)).setCell ⟨w2.heap.size, 1, none⟩ (.slice A3 T2.length e3)).setCell ⟨w2.heap.size, 2, none⟩ (.int .i64 (q2 : Int))) w2.heap.size 31 #[.slice A2 L2.length e2, .slice A3 T2.length e3, .int .i64 (q2 : Int)] ∧ Below w2.heap.size w2 (((w3.setCell ⟨w2.heap.size, 0, none⟩ (.slice A2 L2.length e2)).setCell ⟨w2.heap.size, 1, none⟩ (.slice A3 T2.length e3)).setCell ⟨w2.heap.size, 2, none⟩ (.int .i64 (q2 : Int))) ∧ RowN (And1 F2 bt) (((w3.setCell ⟨w2.heap.size, 0, none⟩ (.slice A2 L2.length e2)).setCell ⟨w2.heap.size, 1, none⟩ (.slice A3 T2.length e3)).setCell ⟨w2.heap.size, 2, none⟩ (.int .i64 (q2 : Int))) A2 (L2.map byteV) ∧ RowN (And1 F2 bt) (((w3.setCell ⟨w2.heap.size, 0, none⟩ (.slice A2 L2.length e2)).setCell ⟨w2.heap.size, 1, none⟩ (.slice A3 T2.length e3)).setCell ⟨w2.heap.size, 2, none⟩ (.int .i64 (q2 : Int))) A3 (T2.map byteV)) := Lib.hid (by
          have ht : Touch (And1 (And1 F2 bt) w2.heap.size) w3 (((w3.setCell ⟨w2.heap.size, 0, none⟩ (.slice A2 L2.length e2)).setCell ⟨w2.heap.size, 1, none⟩ (.slice A3 T2.length e3)).setCell ⟨w2.heap.size, 2, none⟩ (.int .i64 (q2 : Int))) :=
            (((Touch.refl (And1 (And1 F2 bt) w2.heap.size) w3).set_ (p := ⟨w2.heap.size, 0, none⟩) (Or.inl (Or.inr rfl)) _).set_ (p := ⟨w2.heap.size, 1, none⟩) (Or.inl (Or.inr rfl)) _).set_ (p := ⟨w2.heap.size, 2, none⟩) (Or.inl (Or.inr rfl)) _
          exact ⟨((HU3.out.set_ 0 _).set_ 1 _).set_ 2 _, ((HB3.out.setCell (p := ⟨w2.heap.size, 0, none⟩) (Nat.le_refl _) _).setCell (p := ⟨w2.heap.size, 1, none⟩) (Nat.le_refl _) _).setCell (p := ⟨w2.heap.size, 2, none⟩) (Nat.le_refl _) _,
            HR2.out.step ht (fun k hk => Or.inl (Or.inl hk)), HR3.out.step ht (fun k hk => Or.inl (Or.inl hk))⟩)
        rw [hW5] at HU
        rw [hW5]
        have HP := Lib.hid (ref_put HD2.out HU.out.2.1 HTB.out HE2.out.nf HBT.out HU.out.2.2.1 HU.out.2.2.2 HLL.out.1 HLL.out.2)
        have u0 : W5.cell? ⟨w2.heap.size, 0, none⟩ = some (.slice A2 L2.length e2) := HU.out.1.cell 0
        have u1 : W5.cell? ⟨w2.heap.size, 1, none⟩ = some (.slice A3 T2.length e3) := HU.out.1.cell 1
        have u2 : W5.cell? ⟨w2.heap.size, 2, none⟩ = some (.int .i64 (q2 : Int)) := HU.out.1.cell 2
        have t0 : W5.cell? ⟨bt, 0, none⟩ = some (.slice AL L.length cL) := (HTB.out.below HU.out.2.1 HTB.out.lt).cell 0
        have t1 : W5.cell? ⟨bt, 1, none⟩ = some (.slice AT T.length cT) := (HTB.out.below HU.out.2.1 HTB.out.lt).cell 1
        have t2 : W5.cell? ⟨bt, 2, none⟩ = some (.int .i64 (q : Int)) := (HTB.out.below HU.out.2.1 HTB.out.lt).cell 2
        have z0 := (HTB.out.below HU.out.2.1 HTB.out.lt).frozen 0
        have z1 := (HTB.out.below HU.out.2.1 HTB.out.lt).frozen 1
        have z2 := (HTB.out.below HU.out.2.1 HTB.out.lt).frozen 2
        clear hW5 f0 f1 f2 f3 f4 f5 HB3 HR2 HR3 d0 d1 d2 r0 r1 r2 y0 y1 y2
        go_wp2_with fail
        refine (samed_any F2 g q2 L2.length T2.length e2 e3 L2 T2 A2 A3 rfl rfl _ HP.out.1.at_ HP.out.2.rl.row HP.out.2.rt.row).mono ?_
        rintro e w7 ⟨rfl, hb7⟩
        have HK7 : Hid (∃ F L T q AL cL AT cT, q ≤ k + 1 ∧ Dk1 w w7 F g L T q ∧ RefD w7 F bt L T q AL cL AT cT) := Lib.hid ⟨F2, L2, T2, q2, A2, e2, A3, e3, HQ2.out, HP.out.1.below hb7, HP.out.2.below hb7⟩
        clear hb7 HP
        go_wp2
        go_roundw
        case rel => exact ⟨k + 1, by omega, by go_num, HK7⟩
        case measure => simp [intOf]; omega
    · obtain rfl : k = n := by omega
      go_wp2_with fail
      refine (known6_any _).mono ?_
      rintro e w8 ⟨rfl, hb⟩
      have HB8 := Lib.hid (HD.out.bel.trans (hb.mono HD.out.bel.size))
      clear hb
      go_wp2
      go_ret
      exact ⟨rfl, HB8.out⟩
end Go.Proofs.Ytmmhiolmeijemaa
