/- CrO: The reference takes a cell off. -/
import Derived.Test.YtpebhfjcakllmaaGreatCrT
import Derived.BigFrame
namespace Go.Proofs.YtpebhfjcakllmaaGreat
open Go.RowKit Go.ChangeShapes Mem Be Word Rg Go.Maps
set_option maxRecDepth 100000
set_option maxHeartbeats 8000000
set_option linter.unusedVariables false
set_option linter.unusedSimpArgs false
theorem rwithout (t : Tr) (F : Nat → Prop) (i : Nat) (hi : i < t.L.length) (w : World) (hF : ∀ k, F k → k < w.heap.size) (h : TrN F w t) :
    Calls Tryz.prog 71 #[.agg #[.int .i64 t.rc, .int .i64 t.rb, .int .i64 (t.nb : Int), .bool t.fr, .slice t.A t.L.length t.c, .slice t.tA t.tok.length t.tc, .int .i64 t.us], .int .i64 (i : Int)] w (TrP F { trS t with T := (trS t).T.eraseIdx i } w) := by
  obtain ⟨i0, hi0, hz0, hz1, hz2⟩ := info_parts info_cell
  have hb : Below w.heap.size w ((w.alloc (.cells #[.int .i64 t.rc, .int .i64 t.rb, .int .i64 (t.nb : Int), .bool t.fr, .slice t.A t.L.length t.c, .slice t.tA t.tok.length t.tc, .int .i64 t.us] 34)).alloc (.cells #[.int .i64 0, .int .i64 0, .int .i64 0, .bool false, .slice none 0 0, .slice none 0 0, .int .i64 0] 34)) := ((Below.refl _ _).alloc (Nat.le_refl _) _).alloc (by simp) _
  have HK := Lib.hid ((Blk.new w 34 #[.int .i64 t.rc, .int .i64 t.rb, .int .i64 (t.nb : Int), .bool t.fr, .slice t.A t.L.length t.c, .slice t.tA t.tok.length t.tc, .int .i64 t.us]).alloc (.cells #[.int .i64 0, .int .i64 0, .int .i64 0, .bool false, .slice none 0 0, .slice none 0 0, .int .i64 0] 34))
  have HR : Hid (Blk ((w.alloc (.cells #[.int .i64 t.rc, .int .i64 t.rb, .int .i64 (t.nb : Int), .bool t.fr, .slice t.A t.L.length t.c, .slice t.tA t.tok.length t.tc, .int .i64 t.us] 34)).alloc (.cells #[.int .i64 0, .int .i64 0, .int .i64 0, .bool false, .slice none 0 0, .slice none 0 0, .int .i64 0] 34)) (w.heap.size + 1) 34 #[.int .i64 0, .int .i64 0, .int .i64 0, .bool false, .slice none 0 0, .slice none 0 0, .int .i64 0]) := Lib.hid (blk_at (by simp) (Blk.new _ _ _))
  have HM := Lib.hid (h.m.below hb)
  have HF := Lib.hid hF
  have HMW := Lib.hid h
  have HB0 := Lib.hid hb
  have hln := h.ln
  obtain ⟨W1, hW1⟩ : ∃ W, (w.alloc (.cells #[.int .i64 t.rc, .int .i64 t.rb, .int .i64 (t.nb : Int), .bool t.fr, .slice t.A t.L.length t.c, .slice t.tA t.tok.length t.tc, .int .i64 t.us] 34)).alloc (.cells #[.int .i64 0, .int .i64 0, .int .i64 0, .bool false, .slice none 0 0, .slice none 0 0, .int .i64 0] 34) = W := ⟨_, rfl⟩
  rw [hW1] at HK HR HM HB0
  have hni : (t.L.length : Int) ≤ 100000 := by omega
  have hni0 : (0 : Int) ≤ (t.L.length : Int) := by omega
  obtain ⟨n, hn⟩ : ∃ n, t.L.length = n := ⟨_, rfl⟩
  have HN := Lib.hid hn
  have HK4 : Hid (∀ W, Below W1.heap.size W1 W → W.cell? ⟨w.heap.size, 4, none⟩ = some (.slice t.A n t.c)) := Lib.hid fun W hb => by
    rw [← hn]; exact (HK.out.below hb HK.out.lt).cell 4
  rw [hn] at hni hni0 hi
  have hii : (i : Int) < (n : Int) := by omega
  have hii0 : (0 : Int) ≤ (i : Int) := by omega
  have HI := Lib.hid hi
  clear hb h hn hln hi hF
  go_enter Tryz.func71, Tryz.ntmps71
  go_wp2
  clear hW1
  go_loopw [5, 6] (fun v z wr => ∃ (j : Nat) (A1 : Option Addr) (c1 N1 : Nat), j ≤ n ∧ z = .int .i64 j ∧ v = .slice A1 N1 c1 ∧ Hid (N1 = ((t.L.take j).eraseIdx i).length) ∧ Hid (wr.ownsRow W1.heap.size 88 9 (.slice A1 N1 c1) N1 (cellsC ((t.L.take j).eraseIdx i))) ∧ Hid (Below W1.heap.size W1 wr)) (fun _ z _ => n - (intOf z).toNat)
  case atStart => exact ⟨0, none, 0, 0, Nat.zero_le _, rfl, rfl, Lib.hid rfl, Lib.hid (World.ownsRow_nil _ _ _ _), Lib.hid (Below.refl _ _)⟩
  case round =>
    obtain ⟨j, A1, c1, N1, hj, rfl, rfl, HN1, HO, HB⟩ := hrel
    have HBW := Lib.hid (HB0.out.trans (HB.out.mono HB0.out.size))
    by_cases hlt : j < n
    · have hj1 : j < t.L.length := by rw [HN.out]; exact hlt
      have het := erase_take t.L i j hj1
      have hji : (0 : Int) ≤ (j : Int) := by omega
      have hji2 : (j : Int) < (n : Int) := by omega
      by_cases hij : j = i
      · subst hij
        rw [if_pos rfl] at het
        have HET := Lib.hid het
        have h4 : wr.cell? ⟨w.heap.size, 4, none⟩ = some (.slice t.A n t.c) := HK4.out wr HB.out
        have e1 : ((j : Int) != (j : Int)) = false := by simp
        clear het
        go_wp2
        go_roundw
        case rel => exact ⟨j + 1, A1, c1, N1, by omega, by go_num, rfl, Lib.hid (by rw [HET.out]; exact HN1.out), Lib.hid (by rw [HET.out]; exact HO.out), HB⟩
        case measure => simp [intOf]; omega
      · rw [if_neg hij] at het
        obtain ⟨b, o, hA, hb, hc⟩ := cells_open (HM.out.cev.below HB.out).row (by omega)
        have h4 : wr.cell? ⟨w.heap.size, 4, none⟩ = some (.slice (some ⟨b, o, none⟩) n t.c) := by rw [← hA]; exact HK4.out wr HB.out
        have hcc := hc j hj1
        obtain ⟨⟨x, xA, xc⟩, hx⟩ : ∃ p, t.L[j]'hj1 = p := ⟨_, rfl⟩
        rw [hx] at hcc het
        have HET := Lib.hid het
        have hc0 := hcc 0 _ rfl
        rw [Nat.add_zero] at hc0
        have hc1 := hcc 1 _ rfl
        have hc2 := hcc 2 _ rfl
        have hc3 := hcc 3 _ rfl
        have hc4 := hcc 4 _ rfl
        have hc5 := hcc 5 _ rfl
        have hc6 := hcc 6 _ rfl
        have hc7 := hcc 7 _ rfl
        have hc8 := hcc 8 _ rfl
        have e1 : ((j : Int) != (i : Int)) = true := by simp; omega
        have HNL : Hid (N1 ≤ 100000) := Lib.hid (by have := HN1.out; have h2 := List.length_eraseIdx_le (t.L.take j) i; rw [List.length_take] at h2; omega)
        have hal := (Below.refl wr.heap.size wr).alloc (Nat.le_refl _) (.cells ⟨cellC (x, xA, xc)⟩ 88)
        have HO4 := Lib.hid (ownLater HO.out hal)
        have HBL : Hid (Blk (wr.alloc (.cells ⟨cellC (x, xA, xc)⟩ 88)) wr.heap.size 88 ⟨cellC (x, xA, xc)⟩) := Lib.hid (Blk.new _ _ _)
        have HB4 := Lib.hid (HB.out.trans (hal.mono HB.out.size))
        have hone : ∀ z : CV, cellsC [z] = cellC z := fun z => by simp [cellsC]
        have HONE := Lib.hid hone
        clear hc hcc hA hx het hal hij hone
        go_wp2_with (at_builtin; refine wpList_appS (P := Tryz.prog) (by rfl) _ _ _ (by rfl) W1.heap.size 88 i0 (cV (cvN [])) 9 88 Tryz.underlying31 hi0 hz0 hz1 hz2 rfl (by decide) _ N1 (cellsC ((t.L.take j).eraseIdx i)) (by rfl) (by exact HO4.out) (wr.heap.size + 1) (some ⟨wr.heap.size, 0, none⟩) (1) (1) (cellsC [(x, xA, xc)]) (by rfl) (by rfl) (by exact cell_lit HBL.out (by omega)) (cellsC_one _) (by have := HNL.out; unfold maxLen; omega) (by have := HNL.out; omega) (by exact HB4.out.size) ?_)
        intro v' w5 hown hgr hat
        obtain ⟨A5, c5, rfl, _, _⟩ := ownShape hown
        have HO5 : Hid (w5.ownsRow W1.heap.size 88 9 (.slice A5 (N1 + 1) c5) (N1 + 1) (cellsC ((t.L.take (j + 1)).eraseIdx i))) := Lib.hid (by rw [HET.out, cellsC_app]; exact hown)
        have HN5 : Hid (N1 + 1 = ((t.L.take (j + 1)).eraseIdx i).length) := Lib.hid (by rw [HET.out, List.length_append, ← HN1.out]; rfl)
        have HB5 : Hid (Below W1.heap.size W1 w5) := Lib.hid (HB4.out.grown hgr HB4.out.size fun g h => (HO4.out.lt g h).1)
        clear hown hgr hat HO4 HB4 h4 hc0 hc1 hc2 hc3 hc4 hc5 hc6 hc7 hc8
        go_wp2
        go_roundw
        case rel => exact ⟨j + 1, A5, c5, N1 + 1, by omega, by go_num, rfl, HN5, HO5, HB5⟩
        case measure => simp [intOf]; omega
    · obtain rfl : j = n := by omega
      have HTK : Hid ((t.L.take j).eraseIdx i = t.L.eraseIdx i) := Lib.hid (by rw [List.take_of_length_le (by rw [HN.out]; exact Nat.le_refl _)])
      have HKr := Lib.hid (HK.out.below HB.out HK.out.lt)
      have HRr := Lib.hid (HR.out.below HB.out HR.out.lt)
      have HMr := Lib.hid (HM.out.below HB.out)
      have HLT := Lib.hid HR.out.lt
      have h4 : wr.cell? ⟨w.heap.size, 4, none⟩ = some (.slice t.A j t.c) := HK4.out wr HB.out
      have z4 := HKr.out.frozen 4
      have HK2 : Hid (Blk (wr.setCell ⟨w.heap.size, 4, none⟩ (.slice A1 N1 c1)) w.heap.size 34 #[.int .i64 t.rc, .int .i64 t.rb, .int .i64 (t.nb : Int), .bool t.fr, .slice A1 N1 c1, .slice t.tA t.tok.length t.tc, .int .i64 t.us]) := Lib.hid (HKr.out.set_ 4 (.slice A1 N1 c1))
      have HR2 := Lib.hid (HRr.out.far (p := ⟨w.heap.size, 4, none⟩) (by simp) (.slice A1 N1 c1))
      have HG2 : Hid (wr.grownBy (wr.setCell ⟨w.heap.size, 4, none⟩ (.slice A1 N1 c1)) (some w.heap.size)) := Lib.hid (grown_set _ _ _ _)
      obtain ⟨w2, hw2⟩ : ∃ W, wr.setCell ⟨w.heap.size, 4, none⟩ (.slice A1 N1 c1) = W := ⟨_, rfl⟩
      rw [hw2] at HK2 HR2 HG2
      go_upto_region 8 with fail
      try simp only [hw2]
      clear h4 z4 hw2 HKr HRr
      go_wp2_with (first | (refine wpList_load_row rfl 34 _ rfl _ rfl _ _ _ _ (show _ = _ from HK2.out) Tryz.underlying34 rfl (by kernel_rfl) ?_) | (refine store_box rfl 34 _ _ rfl (w.heap.size + 1) 34 #[.int .i64 0, .int .i64 0, .int .i64 0, .bool false, .slice none 0 0, .slice none 0 0, .int .i64 0] #[.int .i64 t.rc, .int .i64 t.rb, .int .i64 (t.nb : Int), .bool t.fr, .slice A1 N1 c1, .slice t.tA t.tok.length t.tc, .int .i64 t.us] HR2.out rfl rfl rfl (by kernel_rfl) (by kernel_rfl) ?_))
      intro wz hkz hgz
      have HKz := Lib.hid hkz
      have HGz := Lib.hid hgz
      have HBz : Hid (Below w.heap.size w wz) := Lib.hid ((HBW.out.grown HG2.out HBW.out.size fun g hg => by cases hg; exact Nat.le_refl _).grown hgz (Nat.le_trans HBW.out.size HG2.out.size) fun g hg => by cases hg; omega)
      clear hkz hgz
      go_wp2
      exact bodyPost_ret (v := .agg #[.int .i64 t.rc, .int .i64 t.rb, .int .i64 (t.nb : Int), .bool t.fr, .slice A1 N1 c1, .slice t.tA t.tok.length t.tc, .int .i64 t.us]) (results_cell_row (p := 4) (ty := 34) Tryz.results71 _ _ (w.heap.size + 1) 34 #[.int .i64 t.rc, .int .i64 t.rb, .int .i64 (t.nb : Int), .bool t.fr, .slice A1 N1 c1, .slice t.tA t.tok.length t.tc, .int .i64 t.us] (0, 0) _ rfl HKz.out Tryz.underlying34 rfl (by kernel_rfl)) rfl
        (tr_end (t := t) (L' := t.L.eraseIdx i) HMW.out HF.out HBz.out HB0.out.size (own_upT (own_upT (by rw [← HTK.out]; exact HO.out) HG2.out (by have := HLT.out; omega)) HGz.out HLT.out) (by rw [HN1.out, HTK.out]) (fun y hy => Or.inl (List.mem_of_mem_eraseIdx hy)) (Nat.le_trans (List.length_eraseIdx_le _ _) HMW.out.ln) (by rw [map_eraseT]; rfl))
end Go.Proofs.YtpebhfjcakllmaaGreat
