/- CrW: The reference lays a cell at its place. -/
import Derived.Test.YtpebhfjcakllmaaGreatCrT
import Derived.BigFrame
namespace Go.Proofs.YtpebhfjcakllmaaGreat
open Go.RowKit Go.ChangeShapes Mem Be Word Rg Go.Maps
set_option maxRecDepth 100000
set_option maxHeartbeats 8000000
set_option linter.unusedVariables false
set_option linter.unusedSimpArgs false
theorem cutC (W : World) (A : Option Addr) (n c k : Nat) (h : k ≤ n) : (Instr.slice 31 (.slice A n c) (some (.int .i64 (k : Int))) none none).run Tryz.prog W = .ok (.slice (if c = k then A else A.map (·.add (k * 9))) (n - k) (c - k)) W := by
  obtain ⟨i, hi, hz, hz1, hz2⟩ := info_parts info_cell
  simp [Instr.slice, run_underlying Tryz.underlying31, Instr.sliceBounds, Instr.sliceBound, asIntOf, sizeOf, typeInfo, hi, hz1, h]
theorem rowC_tail {w : World} {B : Nat} {A : Option Addr} {us : List CV} {c k : Nat} (h : Row w B A (cellsC us)) (hc : us.length ≤ c) (hk : k ≤ us.length) : Row w B (if c = k then A else A.map (·.add (k * 9))) (cellsC (us.drop k)) := by
  rcases Nat.lt_or_ge k us.length with hlt | hge
  · obtain ⟨b, o, rfl, hb, hcell⟩ := h.open_ (by rw [cellsC_len]; omega)
    rw [if_neg (by omega)]
    have e : (some (⟨b, o, none⟩ : Addr)).map (·.add (k * 9)) = some ⟨b, o + k * 9, none⟩ := by
      show some ((⟨b, o, none⟩ : Addr).add (k * 9)) = _
      unfold Addr.add
      split
      · rename_i h0
        rw [h0]; rfl
      · rfl
    rw [e]
    refine Or.inr ⟨b, o + k * 9, rfl, hb, fun j hj => ?_⟩
    have hd : cellsC us = cellsC (us.take k) ++ cellsC (us.drop k) := by rw [← cellsC_app, List.take_append_drop]
    have hl : (cellsC (us.take k)).length = k * 9 := by rw [cellsC_len, List.length_take]; congr 1; omega
    have hj2 : k * 9 + j < (cellsC us).length := by rw [hd, List.length_append, hl]; omega
    have h1 := hcell (k * 9 + j) hj2
    rw [show o + k * 9 + j = o + (k * 9 + j) by omega, h1]
    congr 1
    rw [List.getElem_of_eq hd]
    rw [List.getElem_append_right (by omega)]
    congr 1
    omega
  · have : us.drop k = [] := List.drop_eq_nil_of_le hge
    rw [this]; exact Or.inl rfl
theorem tailC (A : Option Addr) (us : List CV) (n c k : Nat) (i : Int) (hi : i = (k : Int)) (hk : k ≤ n) (hn : n = us.length) (hc : n ≤ c) :
    ∃ A9, (∀ W, (Instr.slice 31 (.slice A n c) (some (.int .i64 i)) none none).run Tryz.prog W = .ok (.slice A9 (n - k) (c - k)) W) ∧ ∀ B W, Row W B A (cellsC us) → Row W B A9 (cellsC (us.drop k)) := by
  subst hi
  exact ⟨_, fun W => cutC W A n c k hk, fun B W h => rowC_tail h (by omega) (by omega)⟩
theorem rwith (t : Tr) (F : Nat → Prop) (x : CP) (xA : Option Addr) (xc : Nat) (w : World) (hF : ∀ k, F k → k < w.heap.size) (h : TrN F w t) (hs : SortT kP (trS t).T) (hv : VlN F w x.e.v xA xc) (hl9 : t.L.length ≤ 90000) :
    Calls Tryz.prog 53 #[.agg #[.int .i64 t.rc, .int .i64 t.rb, .int .i64 (t.nb : Int), .bool t.fr, .slice t.A t.L.length t.c, .slice t.tA t.tok.length t.tc, .int .i64 t.us], .agg #[.string ⟨x.e.k.toArray⟩, .int .i64 x.e.s, .int .i64 x.e.u, .int .i64 x.e.o, .bool x.e.has, .slice xA x.e.v.length xc, .bool x.wh, .bool x.cl, .int .i64 x.us]] w (TrP F { trS t with T := putK kP (trS t).T x } w) := by
  obtain ⟨i0, hi0, hz0, hz1, hz2⟩ := info_parts info_cell
  obtain ⟨T, hT⟩ : ∃ T, putK kP (trS t).T x = T := ⟨_, rfl⟩
  have hwp := fun j h1 h2 h3 m h4 => (with_putC (e := x) (trS t).T j hs h1 h2 h3 m h4).symm.trans hT
  rw [hT]
  have HWP := Lib.hid hwp
  have hb : Below w.heap.size w (((w.alloc (.cells #[.int .i64 t.rc, .int .i64 t.rb, .int .i64 (t.nb : Int), .bool t.fr, .slice t.A t.L.length t.c, .slice t.tA t.tok.length t.tc, .int .i64 t.us] 34)).alloc (.cells #[.string ⟨x.e.k.toArray⟩, .int .i64 x.e.s, .int .i64 x.e.u, .int .i64 x.e.o, .bool x.e.has, .slice xA x.e.v.length xc, .bool x.wh, .bool x.cl, .int .i64 x.us] 88)).alloc (.cells #[.int .i64 0, .int .i64 0, .int .i64 0, .bool false, .slice none 0 0, .slice none 0 0, .int .i64 0] 34)) := (((Below.refl _ _).alloc (Nat.le_refl _) _).alloc (by simp) _).alloc (by simp; omega) _
  have HK := Lib.hid (((Blk.new w 34 #[.int .i64 t.rc, .int .i64 t.rb, .int .i64 (t.nb : Int), .bool t.fr, .slice t.A t.L.length t.c, .slice t.tA t.tok.length t.tc, .int .i64 t.us]).alloc (.cells #[.string ⟨x.e.k.toArray⟩, .int .i64 x.e.s, .int .i64 x.e.u, .int .i64 x.e.o, .bool x.e.has, .slice xA x.e.v.length xc, .bool x.wh, .bool x.cl, .int .i64 x.us] 88)).alloc (.cells #[.int .i64 0, .int .i64 0, .int .i64 0, .bool false, .slice none 0 0, .slice none 0 0, .int .i64 0] 34))
  have HC : Hid (Blk (((w.alloc (.cells #[.int .i64 t.rc, .int .i64 t.rb, .int .i64 (t.nb : Int), .bool t.fr, .slice t.A t.L.length t.c, .slice t.tA t.tok.length t.tc, .int .i64 t.us] 34)).alloc (.cells #[.string ⟨x.e.k.toArray⟩, .int .i64 x.e.s, .int .i64 x.e.u, .int .i64 x.e.o, .bool x.e.has, .slice xA x.e.v.length xc, .bool x.wh, .bool x.cl, .int .i64 x.us] 88)).alloc (.cells #[.int .i64 0, .int .i64 0, .int .i64 0, .bool false, .slice none 0 0, .slice none 0 0, .int .i64 0] 34)) (w.heap.size + 1) 88 #[.string ⟨x.e.k.toArray⟩, .int .i64 x.e.s, .int .i64 x.e.u, .int .i64 x.e.o, .bool x.e.has, .slice xA x.e.v.length xc, .bool x.wh, .bool x.cl, .int .i64 x.us]) := Lib.hid (blk_at (by simp) ((Blk.new (w.alloc (.cells #[.int .i64 t.rc, .int .i64 t.rb, .int .i64 (t.nb : Int), .bool t.fr, .slice t.A t.L.length t.c, .slice t.tA t.tok.length t.tc, .int .i64 t.us] 34)) 88 #[.string ⟨x.e.k.toArray⟩, .int .i64 x.e.s, .int .i64 x.e.u, .int .i64 x.e.o, .bool x.e.has, .slice xA x.e.v.length xc, .bool x.wh, .bool x.cl, .int .i64 x.us]).alloc (.cells #[.int .i64 0, .int .i64 0, .int .i64 0, .bool false, .slice none 0 0, .slice none 0 0, .int .i64 0] 34)))
  have HR : Hid (Blk (((w.alloc (.cells #[.int .i64 t.rc, .int .i64 t.rb, .int .i64 (t.nb : Int), .bool t.fr, .slice t.A t.L.length t.c, .slice t.tA t.tok.length t.tc, .int .i64 t.us] 34)).alloc (.cells #[.string ⟨x.e.k.toArray⟩, .int .i64 x.e.s, .int .i64 x.e.u, .int .i64 x.e.o, .bool x.e.has, .slice xA x.e.v.length xc, .bool x.wh, .bool x.cl, .int .i64 x.us] 88)).alloc (.cells #[.int .i64 0, .int .i64 0, .int .i64 0, .bool false, .slice none 0 0, .slice none 0 0, .int .i64 0] 34)) (w.heap.size + 2) 34 #[.int .i64 0, .int .i64 0, .int .i64 0, .bool false, .slice none 0 0, .slice none 0 0, .int .i64 0]) := Lib.hid (blk_at (by simp) (Blk.new _ _ _))
  have HM := Lib.hid (h.m.below hb)
  have HF := Lib.hid hF
  have HMW := Lib.hid h
  have HV := Lib.hid hv
  have HB0 := Lib.hid hb
  have hcp := h.cap
  obtain ⟨W1, hW1⟩ : ∃ W, ((w.alloc (.cells #[.int .i64 t.rc, .int .i64 t.rb, .int .i64 (t.nb : Int), .bool t.fr, .slice t.A t.L.length t.c, .slice t.tA t.tok.length t.tc, .int .i64 t.us] 34)).alloc (.cells #[.string ⟨x.e.k.toArray⟩, .int .i64 x.e.s, .int .i64 x.e.u, .int .i64 x.e.o, .bool x.e.has, .slice xA x.e.v.length xc, .bool x.wh, .bool x.cl, .int .i64 x.us] 88)).alloc (.cells #[.int .i64 0, .int .i64 0, .int .i64 0, .bool false, .slice none 0 0, .slice none 0 0, .int .i64 0] 34) = W := ⟨_, rfl⟩
  rw [hW1] at HK HC HR HM HB0
  have hni : (t.L.length : Int) ≤ 90000 := by omega
  have hni0 : (0 : Int) ≤ (t.L.length : Int) := by omega
  obtain ⟨n, hn⟩ : ∃ n, n = t.L.length := ⟨_, rfl⟩
  have HN := Lib.hid hn
  have HK4 : Hid (∀ W, Below W1.heap.size W1 W → W.cell? ⟨w.heap.size, 4, none⟩ = some (.slice t.A n t.c)) := Lib.hid fun W hb => by
    rw [hn]; exact (HK.out.below hb HK.out.lt).cell 4
  have HC0 : Hid (∀ W, Below W1.heap.size W1 W → W.cell? ⟨w.heap.size + 1, 0, none⟩ = some (.string ⟨x.e.k.toArray⟩)) := Lib.hid fun W hb => (HC.out.below hb HC.out.lt).cell 0
  rw [← hn] at hni hni0 hcp hl9
  have HCP := Lib.hid hcp
  have HL9 := Lib.hid hl9
  clear hb h hn hv hs hT hwp hcp hl9 hF
  go_enter Tryz.func53, Tryz.ntmps53
  go_wp2_with fail
  clear hW1
  go_loopw [5, 6] (fun v i wr => ∃ (j : Nat) (A1 : Option Addr) (c1 N1 : Nat), j ≤ n ∧ i = .int .i64 j ∧ v = .slice A1 N1 c1 ∧ Hid (N1 = (t.L.take j).length) ∧ Hid (wr.ownsRow W1.heap.size 88 9 (.slice A1 N1 c1) N1 (cellsC (t.L.take j))) ∧ Hid (∀ i, ∀ hi : i < t.L.length, i < j → bytesBefore t.L[i].1.e.k x.e.k = true) ∧ Hid (Below W1.heap.size W1 wr)) (fun _ i _ => n - (intOf i).toNat)
  case atStart => exact ⟨0, none, 0, 0, Nat.zero_le _, rfl, rfl, Lib.hid rfl, Lib.hid (World.ownsRow_nil _ _ _ _), Lib.hid (fun i _ h => by omega), Lib.hid (Below.refl _ _)⟩
  case round =>
    obtain ⟨j, A1, c1, N1, hj, rfl, rfl, HN1, HO, HBF, HB⟩ := hrel
    obtain rfl : j = N1 := by have := HN1.out; rw [List.length_take] at this; have := HN.out; omega
    have hone : ∀ z : CV, cellsC [z] = cellC z := fun z => by simp [cellsC]
    have hji : (0 : Int) ≤ (j : Int) := by omega
    have l0 := later_cell (HC0.out wr HB.out)
    by_cases hlt : j < n
    · have hj1 : j < t.L.length := by rw [← HN.out]; exact hlt
      have hji2 : (j : Int) < (n : Int) := by omega
      obtain ⟨b, o, hA, hb, hc⟩ := cells_open (HM.out.cev.below HB.out).row (by omega)
      have hcc := hc j hj1
      have l4 : ∀ p : Later wr, p.world.cell? ⟨w.heap.size, 4, none⟩ = some (.slice (some ⟨b, o, none⟩) n t.c) := by rw [← hA]; exact later_cell (HK4.out wr HB.out)
      have HAA := Lib.hid hA
      have hstep : bytesBefore t.L[j].1.e.k x.e.k = true → ∀ i, ∀ hi : i < t.L.length, i < j + 1 → bytesBefore t.L[i].1.e.k x.e.k = true := fun hne i hi h1 => by
        by_cases hij : i = j
        · subst hij; exact hne
        · exact HBF.out i hi (by omega)
      have hnx : t.L.take (j + 1) = t.L.take j ++ [t.L[j]] := List.take_succ_eq_append_getElem hj1
      have hfst : ∀ hj9 : j < (trS t).T.length, (trS t).T[j].e.k = t.L[j].1.e.k := fun h9 => by rw [trT_at t j h9 hj1]
      have hkk : t.L[j].1.e.k = x.e.k → ∃ hj : j < (trS t).T.length, (trS t).T[j].e.k = x.e.k := fun h => ⟨by rw [trT_len]; exact hj1, by rw [hfst]; exact h⟩
      obtain ⟨⟨y, yA, yc⟩, hy⟩ : ∃ p, t.L[j]'hj1 = p := ⟨_, rfl⟩
      have HYJ : Hid (t.L[j] = (y, yA, yc)) := Lib.hid hy
      rw [hy] at hcc hstep hnx hkk hfst
      simp only at hstep hkk hfst
      have HCC := Lib.hid hcc
      have hc0 := hcc 0 _ rfl
      rw [Nat.add_zero] at hc0
      have m0 := later_cell hc0
      clear hc hcc hc0 hy hA
      cases hbf : bytesBefore y.e.k x.e.k
      · have hless : Op.bytesLess y.e.k x.e.k = false := (less_before _ _).trans hbf
        have hno9 : ∀ hj9 : j < (trS t).T.length, bytesBefore (trS t).T[j].e.k x.e.k = false := fun h9 => by rw [hfst h9]; exact hbf
        have hbf9 : ∀ i, ∀ hi : i < (trS t).T.length, i < j → bytesBefore (trS t).T[i].e.k x.e.k = true := fun i hi h1 => by
          have hi' : i < t.L.length := by rw [trT_len] at hi; exact hi
          rw [trT_at t i hi hi']; exact HBF.out i hi' h1
        have hjl : j ≤ (trS t).T.length := by rw [trT_len]; omega
        by_cases hkey : y.e.k = x.e.k
        · have HTT := Lib.hid (HWP.out j hjl hbf9 hno9 (j + 1) (Or.inl ⟨rfl, hkk hkey⟩))
          rw [hkey] at hless
          have m9 : j + 1 ≤ n := by omega
          clear hstep hnx hkk hfst hbf hno9 hbf9 hjl
          go_wp2_with fail
          refine wp_region_later (by kernel_rfl) (by kernel_rfl) ?_
          repeat (go_big_quiet_step (fail))
          refine wpQuiet_nil ?_
          intro w' hw'
          obtain ⟨p, rfl⟩ := hw'
          have HOp := Lib.hid (ownLater HO.out p.bel)
          have HBp := Lib.hid (HB.out.trans (p.bel.mono HB.out.size))
          obtain ⟨w4, hw4⟩ : ∃ w4, p.world = w4 := ⟨_, rfl⟩
          rw [hw4] at HOp HBp ⊢
          have HBK4 := Lib.hid (HC.out.below HBp.out HC.out.lt)
          have t0 : w4.cell? ⟨w.heap.size + 1, 0, none⟩ = some (.string ⟨x.e.k.toArray⟩) := HBK4.out.cell 0
          have t1 : w4.cell? ⟨w.heap.size + 1, 1, none⟩ = some (.int .i64 x.e.s) := HBK4.out.cell 1
          have t2 : w4.cell? ⟨w.heap.size + 1, 2, none⟩ = some (.int .i64 x.e.u) := HBK4.out.cell 2
          have t3 : w4.cell? ⟨w.heap.size + 1, 3, none⟩ = some (.int .i64 x.e.o) := HBK4.out.cell 3
          have t4 : w4.cell? ⟨w.heap.size + 1, 4, none⟩ = some (.bool x.e.has) := HBK4.out.cell 4
          have t5 : w4.cell? ⟨w.heap.size + 1, 5, none⟩ = some (.slice xA x.e.v.length xc) := HBK4.out.cell 5
          have t6 : w4.cell? ⟨w.heap.size + 1, 6, none⟩ = some (.bool x.wh) := HBK4.out.cell 6
          have t7 : w4.cell? ⟨w.heap.size + 1, 7, none⟩ = some (.bool x.cl) := HBK4.out.cell 7
          have t8 : w4.cell? ⟨w.heap.size + 1, 8, none⟩ = some (.int .i64 x.us) := HBK4.out.cell 8
          have hal := (Below.refl w4.heap.size w4).alloc (Nat.le_refl _) (.cells ⟨cellC (x, xA, xc)⟩ 88)
          have HO4 := Lib.hid (ownLater HOp.out hal)
          have HBL : Hid (Blk (w4.alloc (.cells ⟨cellC (x, xA, xc)⟩ 88)) w4.heap.size 88 ⟨cellC (x, xA, xc)⟩) := Lib.hid (Blk.new _ _ _)
          have HB4 := Lib.hid (HBp.out.trans (hal.mono HBp.out.size))
          clear hal hw4 l0 l4 m0 hless
          go_wp2_with (at_builtin; refine wpList_appS (P := Tryz.prog) (by rfl) _ _ _ (by rfl) W1.heap.size 88 i0 (cV (cvN [])) 9 88 Tryz.underlying31 hi0 hz0 hz1 hz2 rfl (by decide) _ (j) (cellsC (t.L.take j)) (by rfl) (by exact HO4.out) (w4.heap.size + 1) (some ⟨w4.heap.size, 0, none⟩) (1) (1) (cellsC [(x, xA, xc)]) (by rfl) (by rfl) (by exact cell_lit HBL.out (by omega)) (cellsC_one _) (by unfold maxLen; omega) (by omega) (by exact HB4.out.size) ?_)
          intro v' w5 hown hgr hat
          obtain ⟨A5, c5, rfl, _, _⟩ := ownShape hown
          rw [← hone, ← cellsC_app] at hown
          have HO5 := Lib.hid hown
          have HB5 : Hid (Below W1.heap.size W1 w5) := Lib.hid (HB4.out.grown hgr HB4.out.size fun g h => (HO4.out.lt g h).1)
          have l0 := later_cell (HC0.out w5 HB5.out)
          have l4 : ∀ p : Later w5, p.world.cell? ⟨w.heap.size, 4, none⟩ = some (.slice (some ⟨b, o, none⟩) n t.c) := by rw [← HAA.out]; exact later_cell (HK4.out w5 HB5.out)
          obtain ⟨b9, o9, e9, _, hc⟩ := cells_open (HM.out.cev.below HB5.out).row (by omega)
          rw [HAA.out] at e9
          injection e9 with e9
          injection e9 with e91 e92
          subst e91; subst e92
          have y0 := hc j hj1 0 (.string ⟨y.e.k.toArray⟩) (by rw [HYJ.out]; rfl)
          rw [Nat.add_zero] at y0
          have m0 := later_cell y0
          clear hc y0
          clear hown hgr hat HO4 HB4 t0 t1 t2 t3 t4 t5 t6 t7 t8 HBK4
          go_wp2_with fail
          refine wp_region_later (by kernel_rfl) (by kernel_rfl) ?_
          repeat (go_big_quiet_step (fail))
          refine wpQuiet_nil ?_
          intro w' hw'
          obtain ⟨p, rfl⟩ := hw'
          have HO6 := Lib.hid (ownLater HO5.out p.bel)
          have HB6 := Lib.hid (HB5.out.trans (p.bel.mono HB5.out.size))
          obtain ⟨w6, hw6⟩ : ∃ w6, p.world = w6 := ⟨_, rfl⟩
          rw [hw6] at HO6 HB6 ⊢
          have h4 : w6.cell? ⟨w.heap.size, 4, none⟩ = some (.slice t.A n t.c) := HK4.out w6 HB6.out
          obtain ⟨A9, hct9, hrt9⟩ := tailC t.A t.L n t.c (j + 1) ((j : Int) + 1) (by omega) (by omega) HN.out HCP.out
          have hct1 := hct9 w6
          have HRT := Lib.hid (hrt9 _ _ (HM.out.below HB6.out).cev.row)
          clear hct9 hrt9
          have HDL : Hid (n - (j + 1) = (t.L.drop (j + 1)).length) := Lib.hid (by rw [List.length_drop]; have := HN.out; omega)
          clear hw6 l0 l4 m0
          go_wp2_with (at_builtin; refine wpList_appS (P := Tryz.prog) (by rfl) _ _ _ (by rfl) W1.heap.size 88 i0 (cV (cvN [])) 9 88 Tryz.underlying31 hi0 hz0 hz1 hz2 rfl (by decide) _ (j + 1) (cellsC (t.L.take j ++ [(x, xA, xc)])) (by rfl) (by exact HO6.out) (w6.heap.size) (A9) (n - (j + 1)) (t.c - (j + 1)) (cellsC (t.L.drop (j + 1))) (by rfl) (by rw [cellsC_len, HDL.out]) (by exact HRT.out) (cellsC_one _) (by unfold maxLen; omega) (by omega) (by exact HB6.out.size) ?_)
          intro v' w7 hown hgr hat
          obtain ⟨A7, c7, rfl, _, _⟩ := ownShape hown
          have hown2 : w7.ownsRow W1.heap.size 88 9 (.slice A7 (n) c7) (n) (cellsC ((t.L.take j ++ [(x, xA, xc)]) ++ t.L.drop (j + 1))) := by simpa [cellsC] using hown
          have HO7 := Lib.hid hown2
          have HB7 : Hid (Below W1.heap.size W1 w7) := Lib.hid (HB6.out.grown hgr HB6.out.size fun g h => (HO6.out.lt g h).1)
          have HBW := Lib.hid (HB0.out.trans (HB7.out.mono HB0.out.size))
          have HKr := Lib.hid (HK.out.below HB7.out HK.out.lt)
          have HRr := Lib.hid (HR.out.below HB7.out HR.out.lt)
          have HLT := Lib.hid HR.out.lt
          have h47 : w7.cell? ⟨w.heap.size, 4, none⟩ = some (.slice t.A n t.c) := HK4.out w7 HB7.out
          have z4 := HKr.out.frozen 4
          have HK2 : Hid (Blk (w7.setCell ⟨w.heap.size, 4, none⟩ (.slice A7 (n) c7)) w.heap.size 34 #[.int .i64 t.rc, .int .i64 t.rb, .int .i64 (t.nb : Int), .bool t.fr, .slice A7 (n) c7, .slice t.tA t.tok.length t.tc, .int .i64 t.us]) := Lib.hid (HKr.out.set_ 4 (.slice A7 (n) c7))
          have HR2 := Lib.hid (HRr.out.far (p := ⟨w.heap.size, 4, none⟩) (by simp) (.slice A7 (n) c7))
          have HG2 : Hid (w7.grownBy (w7.setCell ⟨w.heap.size, 4, none⟩ (.slice A7 (n) c7)) (some w.heap.size)) := Lib.hid (grown_set _ _ _ _)
          have HLEN : Hid (n = ((t.L.take j ++ [(x, xA, xc)]) ++ t.L.drop (j + 1)).length) := Lib.hid (by rw [List.length_append, List.length_append, ← HN1.out, ← HDL.out, List.length_singleton]; omega)
          have HTM : Hid (T = ((t.L.take j ++ [(x, xA, xc)]) ++ t.L.drop (j + 1)).map Prod.fst) := Lib.hid (by
            rw [← HTT.out]
            show (t.L.map Prod.fst).take _ ++ x :: (t.L.map Prod.fst).drop _ = _
            simp)
          obtain ⟨w8, hw8⟩ : ∃ W, w7.setCell ⟨w.heap.size, 4, none⟩ (.slice A7 (n) c7) = W := ⟨_, rfl⟩
          rw [hw8] at HK2 HR2 HG2
          clear hown hown2 hgr hat h4
          go_upto_region 11 with fail
          try simp only [hw8]
          clear h47 z4 hw8 HKr HRr
          go_wp2_with (first | (refine wpList_load_row rfl 34 _ rfl _ rfl _ _ _ _ (show _ = _ from HK2.out) Tryz.underlying34 rfl (by kernel_rfl) ?_) | (refine store_box rfl 34 _ _ rfl (w.heap.size + 2) 34 #[.int .i64 0, .int .i64 0, .int .i64 0, .bool false, .slice none 0 0, .slice none 0 0, .int .i64 0] #[.int .i64 t.rc, .int .i64 t.rb, .int .i64 (t.nb : Int), .bool t.fr, .slice A7 (n) c7, .slice t.tA t.tok.length t.tc, .int .i64 t.us] HR2.out rfl rfl rfl (by kernel_rfl) (by kernel_rfl) ?_))
          intro wz hkz hgz
          have HKz := Lib.hid hkz
          have HGz := Lib.hid hgz
          have HBz : Hid (Below w.heap.size w wz) := Lib.hid ((HBW.out.grown HG2.out HBW.out.size fun g hg => by cases hg; exact Nat.le_refl _).grown hgz (Nat.le_trans HBW.out.size HG2.out.size) fun g hg => by cases hg; omega)
          clear hkz hgz
          go_wp2
          exact bodyPost_ret (v := .agg #[.int .i64 t.rc, .int .i64 t.rb, .int .i64 (t.nb : Int), .bool t.fr, .slice A7 (n) c7, .slice t.tA t.tok.length t.tc, .int .i64 t.us]) (results_cell_row (p := 4) (ty := 34) Tryz.results53 _ _ (w.heap.size + 2) 34 #[.int .i64 t.rc, .int .i64 t.rb, .int .i64 (t.nb : Int), .bool t.fr, .slice A7 (n) c7, .slice t.tA t.tok.length t.tc, .int .i64 t.us] (0, 0) _ rfl HKz.out Tryz.underlying34 rfl (by kernel_rfl)) rfl
            (tr_end (t := t) (L' := (t.L.take j ++ [(x, xA, xc)]) ++ t.L.drop (j + 1)) HMW.out HF.out HBz.out HB0.out.size (own_upT (own_upT HO7.out HG2.out (by have := HLT.out; omega)) HGz.out HLT.out) HLEN.out (fun y hy => by
              rcases List.mem_append.1 hy with hy | hy
              · rcases List.mem_append.1 hy with hy | hy
                · exact Or.inl (List.mem_of_mem_take hy)
                · obtain rfl : y = (x, xA, xc) := by simpa using hy
                  exact Or.inr (HV.out.below HBz.out)
              · exact Or.inl (List.mem_of_mem_drop hy)) (by rw [← HLEN.out]; have := HL9.out; omega) (by rw [HTM.out]))
        · have HTT := Lib.hid (HWP.out j hjl hbf9 hno9 j (Or.inr ⟨rfl, fun h9 => by rw [hfst h9]; exact hkey⟩))
          have hb2 := keys_ne hkey
          have hb3 : (y.e.k == x.e.k) = false := by simpa using hkey
          clear hstep hnx hkk hfst hbf hno9 hbf9 hjl
          go_wp2_with fail
          refine wp_region_later (by kernel_rfl) (by kernel_rfl) ?_
          repeat (go_big_quiet_step (fail))
          refine wpQuiet_nil ?_
          intro w' hw'
          obtain ⟨p, rfl⟩ := hw'
          have HOp := Lib.hid (ownLater HO.out p.bel)
          have HBp := Lib.hid (HB.out.trans (p.bel.mono HB.out.size))
          obtain ⟨w4, hw4⟩ : ∃ w4, p.world = w4 := ⟨_, rfl⟩
          rw [hw4] at HOp HBp ⊢
          have HBK4 := Lib.hid (HC.out.below HBp.out HC.out.lt)
          have t0 : w4.cell? ⟨w.heap.size + 1, 0, none⟩ = some (.string ⟨x.e.k.toArray⟩) := HBK4.out.cell 0
          have t1 : w4.cell? ⟨w.heap.size + 1, 1, none⟩ = some (.int .i64 x.e.s) := HBK4.out.cell 1
          have t2 : w4.cell? ⟨w.heap.size + 1, 2, none⟩ = some (.int .i64 x.e.u) := HBK4.out.cell 2
          have t3 : w4.cell? ⟨w.heap.size + 1, 3, none⟩ = some (.int .i64 x.e.o) := HBK4.out.cell 3
          have t4 : w4.cell? ⟨w.heap.size + 1, 4, none⟩ = some (.bool x.e.has) := HBK4.out.cell 4
          have t5 : w4.cell? ⟨w.heap.size + 1, 5, none⟩ = some (.slice xA x.e.v.length xc) := HBK4.out.cell 5
          have t6 : w4.cell? ⟨w.heap.size + 1, 6, none⟩ = some (.bool x.wh) := HBK4.out.cell 6
          have t7 : w4.cell? ⟨w.heap.size + 1, 7, none⟩ = some (.bool x.cl) := HBK4.out.cell 7
          have t8 : w4.cell? ⟨w.heap.size + 1, 8, none⟩ = some (.int .i64 x.us) := HBK4.out.cell 8
          have hal := (Below.refl w4.heap.size w4).alloc (Nat.le_refl _) (.cells ⟨cellC (x, xA, xc)⟩ 88)
          have HO4 := Lib.hid (ownLater HOp.out hal)
          have HBL : Hid (Blk (w4.alloc (.cells ⟨cellC (x, xA, xc)⟩ 88)) w4.heap.size 88 ⟨cellC (x, xA, xc)⟩) := Lib.hid (Blk.new _ _ _)
          have HB4 := Lib.hid (HBp.out.trans (hal.mono HBp.out.size))
          clear hal hw4 l0 l4 m0 hless
          go_wp2_with (at_builtin; refine wpList_appS (P := Tryz.prog) (by rfl) _ _ _ (by rfl) W1.heap.size 88 i0 (cV (cvN [])) 9 88 Tryz.underlying31 hi0 hz0 hz1 hz2 rfl (by decide) _ (j) (cellsC (t.L.take j)) (by rfl) (by exact HO4.out) (w4.heap.size + 1) (some ⟨w4.heap.size, 0, none⟩) (1) (1) (cellsC [(x, xA, xc)]) (by rfl) (by rfl) (by exact cell_lit HBL.out (by omega)) (cellsC_one _) (by unfold maxLen; omega) (by omega) (by exact HB4.out.size) ?_)
          intro v' w5 hown hgr hat
          obtain ⟨A5, c5, rfl, _, _⟩ := ownShape hown
          rw [← hone, ← cellsC_app] at hown
          have HO5 := Lib.hid hown
          have HB5 : Hid (Below W1.heap.size W1 w5) := Lib.hid (HB4.out.grown hgr HB4.out.size fun g h => (HO4.out.lt g h).1)
          have l0 := later_cell (HC0.out w5 HB5.out)
          have l4 : ∀ p : Later w5, p.world.cell? ⟨w.heap.size, 4, none⟩ = some (.slice (some ⟨b, o, none⟩) n t.c) := by rw [← HAA.out]; exact later_cell (HK4.out w5 HB5.out)
          obtain ⟨b9, o9, e9, _, hc⟩ := cells_open (HM.out.cev.below HB5.out).row (by omega)
          rw [HAA.out] at e9
          injection e9 with e9
          injection e9 with e91 e92
          subst e91; subst e92
          have y0 := hc j hj1 0 (.string ⟨y.e.k.toArray⟩) (by rw [HYJ.out]; rfl)
          rw [Nat.add_zero] at y0
          have m0 := later_cell y0
          clear hc y0
          clear hown hgr hat HO4 HB4 t0 t1 t2 t3 t4 t5 t6 t7 t8 HBK4
          go_wp2_with fail
          refine wp_region_later (by kernel_rfl) (by kernel_rfl) ?_
          repeat (go_big_quiet_step (fail))
          refine wpQuiet_nil ?_
          intro w' hw'
          obtain ⟨p, rfl⟩ := hw'
          have HO6 := Lib.hid (ownLater HO5.out p.bel)
          have HB6 := Lib.hid (HB5.out.trans (p.bel.mono HB5.out.size))
          obtain ⟨w6, hw6⟩ : ∃ w6, p.world = w6 := ⟨_, rfl⟩
          rw [hw6] at HO6 HB6 ⊢
          have h4 : w6.cell? ⟨w.heap.size, 4, none⟩ = some (.slice t.A n t.c) := HK4.out w6 HB6.out
          obtain ⟨A9, hct9, hrt9⟩ := tailC t.A t.L n t.c (j) (j : Int) (by omega) (by omega) HN.out HCP.out
          have hct1 := hct9 w6
          have HRT := Lib.hid (hrt9 _ _ (HM.out.below HB6.out).cev.row)
          clear hct9 hrt9
          have HDL : Hid (n - j = (t.L.drop (j)).length) := Lib.hid (by rw [List.length_drop]; have := HN.out; omega)
          clear hw6 l0 l4 m0
          go_wp2_with (at_builtin; refine wpList_appS (P := Tryz.prog) (by rfl) _ _ _ (by rfl) W1.heap.size 88 i0 (cV (cvN [])) 9 88 Tryz.underlying31 hi0 hz0 hz1 hz2 rfl (by decide) _ (j + 1) (cellsC (t.L.take j ++ [(x, xA, xc)])) (by rfl) (by exact HO6.out) (w6.heap.size) (A9) (n - j) (t.c - (j)) (cellsC (t.L.drop (j))) (by rfl) (by rw [cellsC_len, HDL.out]) (by exact HRT.out) (cellsC_one _) (by unfold maxLen; omega) (by omega) (by exact HB6.out.size) ?_)
          intro v' w7 hown hgr hat
          obtain ⟨A7, c7, rfl, _, _⟩ := ownShape hown
          have hown2 : w7.ownsRow W1.heap.size 88 9 (.slice A7 (j + 1 + (n - j)) c7) (j + 1 + (n - j)) (cellsC ((t.L.take j ++ [(x, xA, xc)]) ++ t.L.drop (j))) := by simpa [cellsC] using hown
          have HO7 := Lib.hid hown2
          have HB7 : Hid (Below W1.heap.size W1 w7) := Lib.hid (HB6.out.grown hgr HB6.out.size fun g h => (HO6.out.lt g h).1)
          have HBW := Lib.hid (HB0.out.trans (HB7.out.mono HB0.out.size))
          have HKr := Lib.hid (HK.out.below HB7.out HK.out.lt)
          have HRr := Lib.hid (HR.out.below HB7.out HR.out.lt)
          have HLT := Lib.hid HR.out.lt
          have h47 : w7.cell? ⟨w.heap.size, 4, none⟩ = some (.slice t.A n t.c) := HK4.out w7 HB7.out
          have z4 := HKr.out.frozen 4
          have HK2 : Hid (Blk (w7.setCell ⟨w.heap.size, 4, none⟩ (.slice A7 (j + 1 + (n - j)) c7)) w.heap.size 34 #[.int .i64 t.rc, .int .i64 t.rb, .int .i64 (t.nb : Int), .bool t.fr, .slice A7 (j + 1 + (n - j)) c7, .slice t.tA t.tok.length t.tc, .int .i64 t.us]) := Lib.hid (HKr.out.set_ 4 (.slice A7 (j + 1 + (n - j)) c7))
          have HR2 := Lib.hid (HRr.out.far (p := ⟨w.heap.size, 4, none⟩) (by simp) (.slice A7 (j + 1 + (n - j)) c7))
          have HG2 : Hid (w7.grownBy (w7.setCell ⟨w.heap.size, 4, none⟩ (.slice A7 (j + 1 + (n - j)) c7)) (some w.heap.size)) := Lib.hid (grown_set _ _ _ _)
          have HLEN : Hid (j + 1 + (n - j) = ((t.L.take j ++ [(x, xA, xc)]) ++ t.L.drop (j)).length) := Lib.hid (by rw [List.length_append, List.length_append, ← HN1.out, ← HDL.out, List.length_singleton])
          have HTM : Hid (T = ((t.L.take j ++ [(x, xA, xc)]) ++ t.L.drop (j)).map Prod.fst) := Lib.hid (by
            rw [← HTT.out]
            show (t.L.map Prod.fst).take _ ++ x :: (t.L.map Prod.fst).drop _ = _
            simp)
          obtain ⟨w8, hw8⟩ : ∃ W, w7.setCell ⟨w.heap.size, 4, none⟩ (.slice A7 (j + 1 + (n - j)) c7) = W := ⟨_, rfl⟩
          rw [hw8] at HK2 HR2 HG2
          clear hown hown2 hgr hat h4
          go_upto_region 11 with fail
          try simp only [hw8]
          clear h47 z4 hw8 HKr HRr
          go_wp2_with (first | (refine wpList_load_row rfl 34 _ rfl _ rfl _ _ _ _ (show _ = _ from HK2.out) Tryz.underlying34 rfl (by kernel_rfl) ?_) | (refine store_box rfl 34 _ _ rfl (w.heap.size + 2) 34 #[.int .i64 0, .int .i64 0, .int .i64 0, .bool false, .slice none 0 0, .slice none 0 0, .int .i64 0] #[.int .i64 t.rc, .int .i64 t.rb, .int .i64 (t.nb : Int), .bool t.fr, .slice A7 (j + 1 + (n - j)) c7, .slice t.tA t.tok.length t.tc, .int .i64 t.us] HR2.out rfl rfl rfl (by kernel_rfl) (by kernel_rfl) ?_))
          intro wz hkz hgz
          have HKz := Lib.hid hkz
          have HGz := Lib.hid hgz
          have HBz : Hid (Below w.heap.size w wz) := Lib.hid ((HBW.out.grown HG2.out HBW.out.size fun g hg => by cases hg; exact Nat.le_refl _).grown hgz (Nat.le_trans HBW.out.size HG2.out.size) fun g hg => by cases hg; omega)
          clear hkz hgz
          go_wp2
          exact bodyPost_ret (v := .agg #[.int .i64 t.rc, .int .i64 t.rb, .int .i64 (t.nb : Int), .bool t.fr, .slice A7 (j + 1 + (n - j)) c7, .slice t.tA t.tok.length t.tc, .int .i64 t.us]) (results_cell_row (p := 4) (ty := 34) Tryz.results53 _ _ (w.heap.size + 2) 34 #[.int .i64 t.rc, .int .i64 t.rb, .int .i64 (t.nb : Int), .bool t.fr, .slice A7 (j + 1 + (n - j)) c7, .slice t.tA t.tok.length t.tc, .int .i64 t.us] (0, 0) _ rfl HKz.out Tryz.underlying34 rfl (by kernel_rfl)) rfl
            (tr_end (t := t) (L' := (t.L.take j ++ [(x, xA, xc)]) ++ t.L.drop (j)) HMW.out HF.out HBz.out HB0.out.size (own_upT (own_upT HO7.out HG2.out (by have := HLT.out; omega)) HGz.out HLT.out) HLEN.out (fun y hy => by
              rcases List.mem_append.1 hy with hy | hy
              · rcases List.mem_append.1 hy with hy | hy
                · exact Or.inl (List.mem_of_mem_take hy)
                · obtain rfl : y = (x, xA, xc) := by simpa using hy
                  exact Or.inr (HV.out.below HBz.out)
              · exact Or.inl (List.mem_of_mem_drop hy)) (by rw [← HLEN.out]; have := HL9.out; omega) (by rw [HTM.out]))
      · have hless : Op.bytesLess y.e.k x.e.k = true := (less_before _ _).trans hbf
        have HST := Lib.hid (hstep hbf)
        have HNX := Lib.hid hnx
        clear hstep hnx hkk hfst hbf
        go_wp2_with fail
        refine wp_region_later (by kernel_rfl) (by kernel_rfl) ?_
        repeat (go_big_quiet_step (fail))
        refine wpQuiet_nil ?_
        intro w' hw'
        obtain ⟨p, rfl⟩ := hw'
        have h4 := l4 p
        have hca := fun (i : Nat) (v : Value) (hv : (cellC (y, yA, yc))[i]? = some v) => later_cell (HCC.out i v hv) p
        have a0 := hca 0 _ rfl
        rw [Nat.add_zero] at a0
        have a1 := hca 1 _ rfl
        have a2 := hca 2 _ rfl
        have a3 := hca 3 _ rfl
        have a4 := hca 4 _ rfl
        have a5 := hca 5 _ rfl
        have a6 := hca 6 _ rfl
        have a7 := hca 7 _ rfl
        have a8 := hca 8 _ rfl
        have HOp := Lib.hid (ownLater HO.out p.bel)
        have HBp := Lib.hid (HB.out.trans (p.bel.mono HB.out.size))
        obtain ⟨w4, hw4⟩ : ∃ w4, p.world = w4 := ⟨_, rfl⟩
        rw [hw4] at h4 a0 a1 a2 a3 a4 a5 a6 a7 a8 HOp HBp ⊢
        have hal := (Below.refl w4.heap.size w4).alloc (Nat.le_refl _) (.cells ⟨cellC (y, yA, yc)⟩ 88)
        have HO4 := Lib.hid (ownLater HOp.out hal)
        have HBL : Hid (Blk (w4.alloc (.cells ⟨cellC (y, yA, yc)⟩ 88)) w4.heap.size 88 ⟨cellC (y, yA, yc)⟩) := Lib.hid (Blk.new _ _ _)
        have HB4 := Lib.hid (HBp.out.trans (hal.mono HBp.out.size))
        clear hca hal hw4 l0 l4 m0 hless
        go_wp2_with (at_builtin; refine wpList_appS (P := Tryz.prog) (by rfl) _ _ _ (by rfl) W1.heap.size 88 i0 (cV (cvN [])) 9 88 Tryz.underlying31 hi0 hz0 hz1 hz2 rfl (by decide) _ (j) (cellsC (t.L.take j)) (by rfl) (by exact HO4.out) (w4.heap.size + 1) (some ⟨w4.heap.size, 0, none⟩) (1) (1) (cellsC [(y, yA, yc)]) (by rfl) (by rfl) (by exact cell_lit HBL.out (by omega)) (cellsC_one _) (by unfold maxLen; omega) (by omega) (by exact HB4.out.size) ?_)
        intro v' w5 hown hgr hat
        obtain ⟨A5, c5, rfl, _, _⟩ := ownShape hown
        have HO5 : Hid (w5.ownsRow W1.heap.size 88 9 (.slice A5 (j + 1) c5) (j + 1) (cellsC (t.L.take (j + 1)))) := Lib.hid (by rw [HNX.out, cellsC_app]; exact hown)
        have HN5 : Hid (j + 1 = (t.L.take (j + 1)).length) := Lib.hid (by rw [HNX.out, List.length_append, ← HN1.out]; rfl)
        have HB5 : Hid (Below W1.heap.size W1 w5) := Lib.hid (HB4.out.grown hgr HB4.out.size fun g h => (HO4.out.lt g h).1)
        clear hown hgr hat HO4 HB4 h4 a0 a1 a2 a3 a4 a5 a6 a7 a8
        go_wp2
        go_roundw
        case rel => exact ⟨j + 1, A5, c5, j + 1, by omega, by go_num, rfl, HN5, HO5, HST, HB5⟩
        case measure => simp [intOf]; omega
    · obtain rfl : j = n := by omega
      have hbf9 : ∀ i, ∀ hi : i < (trS t).T.length, i < j → bytesBefore (trS t).T[i].e.k x.e.k = true := fun i hi h1 => by
        have hi' : i < t.L.length := by rw [trT_len] at hi; exact hi
        rw [trT_at t i hi hi']; exact HBF.out i hi' h1
      have hno9 : ¬ j < (trS t).T.length := by rw [trT_len, ← HN.out]; omega
      have HTT := Lib.hid (HWP.out j (by rw [trT_len]; have := HN.out; omega) hbf9 (fun h9 => absurd h9 hno9) j (Or.inr ⟨rfl, fun h9 => absurd h9 hno9⟩))
      have l4 := later_cell (HK4.out wr HB.out)
      clear hbf9 hno9
      go_wp2_with fail
      refine wp_region_later (by kernel_rfl) (by kernel_rfl) ?_
      repeat (go_big_quiet_step (fail))
      refine wpQuiet_nil ?_
      intro w' hw'
      obtain ⟨p, rfl⟩ := hw'
      have HOp := Lib.hid (ownLater HO.out p.bel)
      have HBp := Lib.hid (HB.out.trans (p.bel.mono HB.out.size))
      obtain ⟨w4, hw4⟩ : ∃ w4, p.world = w4 := ⟨_, rfl⟩
      rw [hw4] at HOp HBp ⊢
      have HBK4 := Lib.hid (HC.out.below HBp.out HC.out.lt)
      have t0 : w4.cell? ⟨w.heap.size + 1, 0, none⟩ = some (.string ⟨x.e.k.toArray⟩) := HBK4.out.cell 0
      have t1 : w4.cell? ⟨w.heap.size + 1, 1, none⟩ = some (.int .i64 x.e.s) := HBK4.out.cell 1
      have t2 : w4.cell? ⟨w.heap.size + 1, 2, none⟩ = some (.int .i64 x.e.u) := HBK4.out.cell 2
      have t3 : w4.cell? ⟨w.heap.size + 1, 3, none⟩ = some (.int .i64 x.e.o) := HBK4.out.cell 3
      have t4 : w4.cell? ⟨w.heap.size + 1, 4, none⟩ = some (.bool x.e.has) := HBK4.out.cell 4
      have t5 : w4.cell? ⟨w.heap.size + 1, 5, none⟩ = some (.slice xA x.e.v.length xc) := HBK4.out.cell 5
      have t6 : w4.cell? ⟨w.heap.size + 1, 6, none⟩ = some (.bool x.wh) := HBK4.out.cell 6
      have t7 : w4.cell? ⟨w.heap.size + 1, 7, none⟩ = some (.bool x.cl) := HBK4.out.cell 7
      have t8 : w4.cell? ⟨w.heap.size + 1, 8, none⟩ = some (.int .i64 x.us) := HBK4.out.cell 8
      have hal := (Below.refl w4.heap.size w4).alloc (Nat.le_refl _) (.cells ⟨cellC (x, xA, xc)⟩ 88)
      have HO4 := Lib.hid (ownLater HOp.out hal)
      have HBL : Hid (Blk (w4.alloc (.cells ⟨cellC (x, xA, xc)⟩ 88)) w4.heap.size 88 ⟨cellC (x, xA, xc)⟩) := Lib.hid (Blk.new _ _ _)
      have HB4 := Lib.hid (HBp.out.trans (hal.mono HBp.out.size))
      clear hal hw4 l0 l4
      go_wp2_with (at_builtin; refine wpList_appS (P := Tryz.prog) (by rfl) _ _ _ (by rfl) W1.heap.size 88 i0 (cV (cvN [])) 9 88 Tryz.underlying31 hi0 hz0 hz1 hz2 rfl (by decide) _ (j) (cellsC (t.L.take j)) (by rfl) (by exact HO4.out) (w4.heap.size + 1) (some ⟨w4.heap.size, 0, none⟩) (1) (1) (cellsC [(x, xA, xc)]) (by rfl) (by rfl) (by exact cell_lit HBL.out (by omega)) (cellsC_one _) (by unfold maxLen; omega) (by omega) (by exact HB4.out.size) ?_)
      intro v' w5 hown hgr hat
      obtain ⟨A5, c5, rfl, _, _⟩ := ownShape hown
      rw [← hone, ← cellsC_app] at hown
      have HO5 := Lib.hid hown
      have HB5 : Hid (Below W1.heap.size W1 w5) := Lib.hid (HB4.out.grown hgr HB4.out.size fun g h => (HO4.out.lt g h).1)
      have l0 := later_cell (HC0.out w5 HB5.out)
      have l4 := later_cell (HK4.out w5 HB5.out)
      clear hown hgr hat HO4 HB4 t0 t1 t2 t3 t4 t5 t6 t7 t8 HBK4
      go_wp2_with fail
      refine wp_region_later (by kernel_rfl) (by kernel_rfl) ?_
      repeat (go_big_quiet_step (fail))
      refine wpQuiet_nil ?_
      intro w' hw'
      obtain ⟨p, rfl⟩ := hw'
      have HO6 := Lib.hid (ownLater HO5.out p.bel)
      have HB6 := Lib.hid (HB5.out.trans (p.bel.mono HB5.out.size))
      obtain ⟨w6, hw6⟩ : ∃ w6, p.world = w6 := ⟨_, rfl⟩
      rw [hw6] at HO6 HB6 ⊢
      have h4 : w6.cell? ⟨w.heap.size, 4, none⟩ = some (.slice t.A j t.c) := HK4.out w6 HB6.out
      obtain ⟨A9, hct9, hrt9⟩ := tailC t.A t.L j t.c (j) (j : Int) (by omega) (by omega) HN.out HCP.out
      have hct1 := hct9 w6
      have HRT := Lib.hid (hrt9 _ _ (HM.out.below HB6.out).cev.row)
      clear hct9 hrt9
      have HDL : Hid (0 = (t.L.drop (j)).length) := Lib.hid (by rw [List.length_drop]; have := HN.out; omega)
      clear hw6 l0 l4
      go_wp2_with (at_builtin; refine wpList_appS (P := Tryz.prog) (by rfl) _ _ _ (by rfl) W1.heap.size 88 i0 (cV (cvN [])) 9 88 Tryz.underlying31 hi0 hz0 hz1 hz2 rfl (by decide) _ (j + 1) (cellsC (t.L.take j ++ [(x, xA, xc)])) (by rfl) (by exact HO6.out) (w6.heap.size) (A9) (0) (t.c - (j)) (cellsC (t.L.drop (j))) (by rfl) (by rw [cellsC_len, HDL.out]) (by exact HRT.out) (cellsC_one _) (by unfold maxLen; omega) (by omega) (by exact HB6.out.size) ?_)
      intro v' w7 hown hgr hat
      obtain ⟨A7, c7, rfl, _, _⟩ := ownShape hown
      have hown2 : w7.ownsRow W1.heap.size 88 9 (.slice A7 (j + 1) c7) (j + 1) (cellsC ((t.L.take j ++ [(x, xA, xc)]) ++ t.L.drop (j))) := by simpa [cellsC] using hown
      have HO7 := Lib.hid hown2
      have HB7 : Hid (Below W1.heap.size W1 w7) := Lib.hid (HB6.out.grown hgr HB6.out.size fun g h => (HO6.out.lt g h).1)
      have HBW := Lib.hid (HB0.out.trans (HB7.out.mono HB0.out.size))
      have HKr := Lib.hid (HK.out.below HB7.out HK.out.lt)
      have HRr := Lib.hid (HR.out.below HB7.out HR.out.lt)
      have HLT := Lib.hid HR.out.lt
      have h47 : w7.cell? ⟨w.heap.size, 4, none⟩ = some (.slice t.A j t.c) := HK4.out w7 HB7.out
      have z4 := HKr.out.frozen 4
      have HK2 : Hid (Blk (w7.setCell ⟨w.heap.size, 4, none⟩ (.slice A7 (j + 1) c7)) w.heap.size 34 #[.int .i64 t.rc, .int .i64 t.rb, .int .i64 (t.nb : Int), .bool t.fr, .slice A7 (j + 1) c7, .slice t.tA t.tok.length t.tc, .int .i64 t.us]) := Lib.hid (HKr.out.set_ 4 (.slice A7 (j + 1) c7))
      have HR2 := Lib.hid (HRr.out.far (p := ⟨w.heap.size, 4, none⟩) (by simp) (.slice A7 (j + 1) c7))
      have HG2 : Hid (w7.grownBy (w7.setCell ⟨w.heap.size, 4, none⟩ (.slice A7 (j + 1) c7)) (some w.heap.size)) := Lib.hid (grown_set _ _ _ _)
      have HLEN : Hid (j + 1 = ((t.L.take j ++ [(x, xA, xc)]) ++ t.L.drop (j)).length) := Lib.hid (by rw [List.length_append, List.length_append, ← HN1.out, ← HDL.out, List.length_singleton])
      have HTM : Hid (T = ((t.L.take j ++ [(x, xA, xc)]) ++ t.L.drop (j)).map Prod.fst) := Lib.hid (by
        rw [← HTT.out]
        show (t.L.map Prod.fst).take _ ++ x :: (t.L.map Prod.fst).drop _ = _
        simp)
      obtain ⟨w8, hw8⟩ : ∃ W, w7.setCell ⟨w.heap.size, 4, none⟩ (.slice A7 (j + 1) c7) = W := ⟨_, rfl⟩
      rw [hw8] at HK2 HR2 HG2
      clear hown hown2 hgr hat h4
      go_upto_region 11 with fail
      try simp only [hw8]
      clear h47 z4 hw8 HKr HRr
      go_wp2_with (first | (refine wpList_load_row rfl 34 _ rfl _ rfl _ _ _ _ (show _ = _ from HK2.out) Tryz.underlying34 rfl (by kernel_rfl) ?_) | (refine store_box rfl 34 _ _ rfl (w.heap.size + 2) 34 #[.int .i64 0, .int .i64 0, .int .i64 0, .bool false, .slice none 0 0, .slice none 0 0, .int .i64 0] #[.int .i64 t.rc, .int .i64 t.rb, .int .i64 (t.nb : Int), .bool t.fr, .slice A7 (j + 1) c7, .slice t.tA t.tok.length t.tc, .int .i64 t.us] HR2.out rfl rfl rfl (by kernel_rfl) (by kernel_rfl) ?_))
      intro wz hkz hgz
      have HKz := Lib.hid hkz
      have HGz := Lib.hid hgz
      have HBz : Hid (Below w.heap.size w wz) := Lib.hid ((HBW.out.grown HG2.out HBW.out.size fun g hg => by cases hg; exact Nat.le_refl _).grown hgz (Nat.le_trans HBW.out.size HG2.out.size) fun g hg => by cases hg; omega)
      clear hkz hgz
      go_wp2
      exact bodyPost_ret (v := .agg #[.int .i64 t.rc, .int .i64 t.rb, .int .i64 (t.nb : Int), .bool t.fr, .slice A7 (j + 1) c7, .slice t.tA t.tok.length t.tc, .int .i64 t.us]) (results_cell_row (p := 4) (ty := 34) Tryz.results53 _ _ (w.heap.size + 2) 34 #[.int .i64 t.rc, .int .i64 t.rb, .int .i64 (t.nb : Int), .bool t.fr, .slice A7 (j + 1) c7, .slice t.tA t.tok.length t.tc, .int .i64 t.us] (0, 0) _ rfl HKz.out Tryz.underlying34 rfl (by kernel_rfl)) rfl
        (tr_end (t := t) (L' := (t.L.take j ++ [(x, xA, xc)]) ++ t.L.drop (j)) HMW.out HF.out HBz.out HB0.out.size (own_upT (own_upT HO7.out HG2.out (by have := HLT.out; omega)) HGz.out HLT.out) HLEN.out (fun y hy => by
          rcases List.mem_append.1 hy with hy | hy
          · rcases List.mem_append.1 hy with hy | hy
            · exact Or.inl (List.mem_of_mem_take hy)
            · obtain rfl : y = (x, xA, xc) := by simpa using hy
              exact Or.inr (HV.out.below HBz.out)
          · exact Or.inl (List.mem_of_mem_drop hy)) (by rw [← HLEN.out]; have := HL9.out; omega) (by rw [HTM.out]))
end Go.Proofs.YtpebhfjcakllmaaGreat
