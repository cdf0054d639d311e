/- An entry read by a reader: the fields, in whatever order memory is made. -/
import Derived.Test.YtmbcdakfnckcmaaGetE
namespace Go.Proofs.Ytmbcdakfnckcmaa
open Go.RowKit Mem Be
set_option maxRecDepth 10000
set_option maxHeartbeats 8000000
theorem blk_up {w w' : World} {L g : Nat} {t : TypeId} {cs : Array Value} (h : Blk w L t cs) (hb : w.grownBy w' (some g)) (hg : g < L) : Blk w' L t cs := h.grown hb (fun e => by injection e with e; omega)
def errE (x : EntP) (e : Int) : Int := if rightE x.k.length x.v.length x.s x.u x.o x.has = 0 then e else if e = 0 then 11 else e
def endE (r : EntP × List UInt8 × Int) : EntP × List UInt8 × Int := if errE r.1 r.2.2 = 0 then (r.1, r.2.1, 0) else (entP0, r.2.1, errE r.1 r.2.2)
def stepE (bs : List UInt8) (e : Int) : EntP × List UInt8 × Int := endE (stepE1 bs e)
/-- An entry, its bytes in new memory, and the reader behind it. -/
def GotE (g : Nat) (r : EntP × List UInt8 × Int) (w : World) (E : Ending) (w' : World) : Prop :=
  ∃ A c, E = .returned (entV ⟨r.1.k.toArray⟩ r.1.s r.1.u r.1.o r.1.has A r.1.v.length c) ∧ w'.ownsRow w.heap.size 5 1 (.slice A r.1.v.length c) r.1.v.length (r.1.v.map byteV) ∧ Rd w' g r.2.1 r.2.2 ∧ w.grownBy w' (some g)
theorem get_any (g : Nat) (bs : List UInt8) (e0 : Int) (w : World) (h : Rd w g bs e0) : Calls Try.prog 19 #[.pointer (some ⟨g, 0, none⟩)] w (GotE g (stepE bs e0) w) := by
  have hlt := rd_lt h
  obtain ⟨⟨ks, b1, e1⟩, h1⟩ : ∃ y, stepR bs e0 = y := ⟨_, rfl⟩
  obtain ⟨⟨⟨s, u, o⟩, b2, e2⟩, h2⟩ : ∃ y, stepTag b1 e1 = y := ⟨_, rfl⟩
  obtain ⟨⟨⟨has, xs⟩, b3, e3⟩, h3⟩ : ∃ y, stepV b2 e2 = y := ⟨_, rfl⟩
  have HT : Hid (stepE1 bs e0 = (⟨ks, s, u, o, has, xs⟩, b3, e3)) := Lib.hid (by unfold stepE1; rw [h1]; simp only; rw [h2]; simp only; rw [h3])
  have H1 := Lib.hid h1
  have H2 := Lib.hid h2
  have H3 := Lib.hid h3
  have H0 := Lib.hid h
  have HD := Lib.hid (rd_drew (rd_alloc h (.cells zeroC 38)))
  have HG : Hid (w.grownBy (w.alloc (.cells zeroC 38)).drew (some g)) := Lib.hid (grown_alloc1 (drew_grown _ 1 _))
  have HR := Lib.hid (Blk.new w 38 zeroC).drew
  have HE : Hid (stepE bs e0 = endE (⟨ks, s, u, o, has, xs⟩, b3, e3)) := Lib.hid (by unfold stepE; rw [HT.out])
  rw [HE.out]
  obtain ⟨R, hRR⟩ : ∃ R, endE (⟨ks, s, u, o, has, xs⟩, b3, e3) = R := ⟨_, rfl⟩
  rw [hRR]
  have HRR := Lib.hid hRR
  clear h h1 h2 h3 hRR
  go_enter Try.func19, Try.ntmps19
  go_upto_region 1 with fail
  go_cut [3] (fun p wx => ReadE g w ⟨ks, s, u, o, has, xs⟩ b3 e3 p wx)
  case first =>
    go_region_with (first
      | (go_at_call 23; refine (row_call g bs e0 _ (by first | exact HD.out | exact rd_drew (rd_alloc (rd_alloc H0.out _) _))).mono ?_; rw [H1.out]; rintro e w2 ⟨A2, c2, rfl, ho, hrd, hgr⟩; (have HD := Lib.hid hrd); (first | have HL := Lib.hid (alloc_first hgr hlt) | skip); (have HR := Lib.hid (by first | exact blk_up HR.out hgr hlt | exact blk_up (((Blk.new w 38 zeroC).alloc _).drew) hgr hlt : Blk w2 w.heap.size 38 zeroC)); (have hm2 : w.heap.size < w2.heap.size := HR.out.lt); (have HG := Lib.hid (grown_trans (by first | exact HG.out | exact grown_alloc1 (grown_alloc1 (drew_grown _ 1 _))) hgr)); (have HY := Lib.hid (own_base (B' := w.heap.size + 1) ho (by simp))); (have cv := conv_own HY.out); (have cva := fun z => conv_own (HY.out.alloc z)); (have hl2 : g < w2.heap.size := rd_lt HD.out); clear ho hrd hgr)
      | (go_at_call 24; refine (gettag_any g b1 e1 _ (by first | exact HD.out | exact rd_alloc HD.out _)).mono ?_; rw [H2.out]; rintro e w3 ⟨rfl, hrd, hgr⟩; clear cv cva; (have HD := Lib.hid hrd); (first | have HL := Lib.hid (blk_up HL.out hgr (by omega)) | have HL := Lib.hid (blk_up (Blk.new _ _ _) hgr hl2) | skip); (have HR := Lib.hid (by first | exact blk_up HR.out hgr hlt | exact blk_up (HR.out.alloc _) hgr hlt : Blk w3 w.heap.size 38 zeroC)); (have hm3 : w.heap.size < w3.heap.size := HR.out.lt); (have HG := Lib.hid (grown_trans (by first | exact HG.out | exact grown_trans HG.out (World.grownBy_alloc _ _ _)) hgr)); (have HY := Lib.hid (own_keep (by first | exact HY.out | exact HY.out.alloc _) hgr (by omega))); (have cv := conv_own HY.out); (have cva := fun z => conv_own (HY.out.alloc z)); (have hl3 : g < w3.heap.size := rd_lt HD.out); clear hrd hgr)
      | (go_at_call 25; refine (getval_any g b2 e2 _ (by first | exact HD.out | exact rd_alloc HD.out _)).mono ?_; rw [H3.out]; rintro e w4 ⟨A4, c4, rfl, ho, hrd, hgr⟩; clear cv cva; (have HD := Lib.hid hrd); (have HV := Lib.hid (own_base (B' := w.heap.size + 1) ho (by first | exact HR.out.lt | (have := HR.out.lt; simp; omega)))); (first | have HL := Lib.hid (blk_up HL.out hgr (by omega)) | have HL := Lib.hid (blk_up (Blk.new _ _ _) hgr hl3) | skip); (have HR := Lib.hid (by first | exact blk_up HR.out hgr hlt | exact blk_up (HR.out.alloc _) hgr hlt : Blk w4 w.heap.size 38 zeroC)); (first | (have l0 : w4.cell? ⟨_, 0, none⟩ = some (.string ⟨#[]⟩) := HL.out.cell 0; have y0 := HL.out.frozen 0; have l1 : w4.cell? ⟨_, 1, none⟩ = some (.int .i64 0) := HL.out.cell 1; have y1 := HL.out.frozen 1; have l2 : w4.cell? ⟨_, 2, none⟩ = some (.int .i64 0) := HL.out.cell 2; have y2 := HL.out.frozen 2; have l3 : w4.cell? ⟨_, 3, none⟩ = some (.int .i64 0) := HL.out.cell 3; have y3 := HL.out.frozen 3; have l4 : w4.cell? ⟨_, 4, none⟩ = some (.bool false) := HL.out.cell 4; have y4 := HL.out.frozen 4; have l5 : w4.cell? ⟨_, 5, none⟩ = some (.slice none 0 0) := HL.out.cell 5; have y5 := HL.out.frozen 5) | skip); (have HG := Lib.hid (grown_trans (by first | exact HG.out | exact grown_trans HG.out (World.grownBy_alloc _ _ _)) hgr)); (have HY := Lib.hid (own_keep (by first | exact HY.out | exact HY.out.alloc _) hgr (by omega))); (have cv := conv_own HY.out); (have cva := fun z => conv_own (HY.out.alloc z)); clear ho hrd hgr))
    all_goals
      go_wp2_with fail
      go_meet
      first
        | with_reducible exact leafA HV.out HD.out HG.out HR.out
        | with_reducible exact leafB HL.out HV.out HD.out HG.out HR.out (by omega) (by omega)
  case rest =>
    obtain ⟨L, A, c, rfl, hL, hV, hD, hG, hwL, hR⟩ := hcut
    have HL := Lib.hid hL
    have HV := Lib.hid hV
    have HD1 := Lib.hid hD
    have HG1 := Lib.hid hG
    have HR1 := Lib.hid hR
    have c0 : wc.cell? ⟨L, 0, none⟩ = some (.string ⟨ks.toArray⟩) := hL.cell 0
    have c1 : wc.cell? ⟨L, 1, none⟩ = some (.int .i64 s) := hL.cell 1
    have c2 : wc.cell? ⟨L, 2, none⟩ = some (.int .i64 u) := hL.cell 2
    have c3 : wc.cell? ⟨L, 3, none⟩ = some (.int .i64 o) := hL.cell 3
    have c4 : wc.cell? ⟨L, 4, none⟩ = some (.bool has) := hL.cell 4
    have c5 : wc.cell? ⟨L, 5, none⟩ = some (.slice A xs.length c) := hL.cell 5
    have hkl := stepR_len bs e0
    rw [H1.out] at hkl
    have hxl := stepV_len b2 e2
    rw [H3.out] at hxl
    simp only at hkl hxl
    have hcall : ∀ W, Calls Try.prog 26 #[entV ⟨ks.toArray⟩ s u o has A xs.length c] W (IsI (rightE ks.length xs.length s u o has) W) := fun W => right_any ⟨ks.toArray⟩ s u o has A xs.length c (by omega) (by show (ks.length : Int) ≤ _; omega) W
    clear hL hV hD hG hR hkl hxl
    rcases rightE_02 ks.length xs.length s u o has with hq | hq
    · rw [hq] at hcall
      have HC := Lib.hid hcall
      have he : errE ⟨ks, s, u, o, has, xs⟩ e3 = e3 := if_pos hq
      clear hcall
      by_cases h0 : e3 = 0
      · subst h0
        have HF : Hid (endE (⟨ks, s, u, o, has, xs⟩, b3, 0) = (⟨ks, s, u, o, has, xs⟩, b3, 0)) := Lib.hid (if_pos he)
        (have hRv := HRR.out.symm.trans HF.out); (subst hRv)
        clear he hq
        go_wp2_with fail
        refine (HC.out _).mono ?_
        rintro e w5 ⟨rfl, hb⟩
        have HL5 := Lib.hid (HL.out.below hb HL.out.lt)
        have HV5 := Lib.hid (own_below HV.out hb)
        have HD5 := Lib.hid (rd_below HD1.out hb)
        have HG5 := Lib.hid (grown_trans HG1.out (grown_below hb (Nat.le_refl _) (some g)))
        have HR5 := Lib.hid (HR1.out.below hb HR1.out.lt)
        clear hb c0 c1 c2 c3 c4 c5
        go_wp2_with fail
        refine (failed_no g b3 _ HD5.out).mono ?_
        rintro e w' ⟨rfl, rfl⟩
        have c0 : w5.cell? ⟨L, 0, none⟩ = some (.string ⟨ks.toArray⟩) := HL5.out.cell 0
        have c1 : w5.cell? ⟨L, 1, none⟩ = some (.int .i64 s) := HL5.out.cell 1
        have c2 : w5.cell? ⟨L, 2, none⟩ = some (.int .i64 u) := HL5.out.cell 2
        have c3 : w5.cell? ⟨L, 3, none⟩ = some (.int .i64 o) := HL5.out.cell 3
        have c4 : w5.cell? ⟨L, 4, none⟩ = some (.bool has) := HL5.out.cell 4
        have c5 : w5.cell? ⟨L, 5, none⟩ = some (.slice A xs.length c) := HL5.out.cell 5
        have r0 : w5.cell? ⟨w.heap.size, 0, none⟩ = some (.string ⟨#[]⟩) := HR5.out.cell 0
        have r1 : w5.cell? ⟨w.heap.size, 1, none⟩ = some (.int .i64 0) := HR5.out.cell 1
        have r2 : w5.cell? ⟨w.heap.size, 2, none⟩ = some (.int .i64 0) := HR5.out.cell 2
        have r3 : w5.cell? ⟨w.heap.size, 3, none⟩ = some (.int .i64 0) := HR5.out.cell 3
        have r4 : w5.cell? ⟨w.heap.size, 4, none⟩ = some (.bool false) := HR5.out.cell 4
        have r5 : w5.cell? ⟨w.heap.size, 5, none⟩ = some (.slice none 0 0) := HR5.out.cell 5
        have z0 := HR5.out.frozen 0
        have z1 := HR5.out.frozen 1
        have z2 := HR5.out.frozen 2
        have z3 := HR5.out.frozen 3
        have z4 := HR5.out.frozen 4
        have z5 := HR5.out.frozen 5
        go_wp2
        refine bodyPost_ret (v := entV ⟨ks.toArray⟩ s u o has A xs.length c) (by simp [results, Try.results19, go_sem, r0, r1, r2, r3, r4, r5]) rfl ⟨A, c, rfl, ?_, ?_, ?_⟩
        · exact own_base (own_put (own_put (own_put (own_put (own_put (own_put HV5.out (by omega) _ _) (by omega) _ _) (by omega) _ _) (by omega) _ _) (by omega) _ _) (by omega) _ _) (by omega)
        · exact rd_put (rd_put (rd_put (rd_put (rd_put (rd_put HD5.out hlt _ _) hlt _ _) hlt _ _) hlt _ _) hlt _ _) hlt _ _
        · exact grown_put (grown_put (grown_put (grown_put (grown_put (grown_put HG5.out (Nat.le_refl _) _ _) (Nat.le_refl _) _ _) (Nat.le_refl _) _ _) (Nat.le_refl _) _ _) (Nat.le_refl _) _ _) (Nat.le_refl _) _ _
      · have HF : Hid (endE (⟨ks, s, u, o, has, xs⟩, b3, e3) = (entP0, b3, e3)) := Lib.hid (by unfold endE; rw [he]; exact if_neg h0)
        (have hRv := HRR.out.symm.trans HF.out); (subst hRv)
        have HN := Lib.hid h0
        clear he hq h0
        go_wp2_with fail
        refine (HC.out _).mono ?_
        rintro e w5 ⟨rfl, hb⟩
        have HD5 := Lib.hid (rd_below HD1.out hb)
        have HG5 := Lib.hid (grown_trans HG1.out (grown_below hb (Nat.le_refl _) (some g)))
        have HR5 := Lib.hid (HR1.out.below hb HR1.out.lt)
        clear hb c0 c1 c2 c3 c4 c5
        go_wp2_with fail
        refine (failed_yes g b3 e3 HN.out _ HD5.out).mono ?_
        rintro e w' ⟨rfl, rfl⟩
        have r0 : w5.cell? ⟨w.heap.size, 0, none⟩ = some (.string ⟨#[]⟩) := HR5.out.cell 0
        have r1 : w5.cell? ⟨w.heap.size, 1, none⟩ = some (.int .i64 0) := HR5.out.cell 1
        have r2 : w5.cell? ⟨w.heap.size, 2, none⟩ = some (.int .i64 0) := HR5.out.cell 2
        have r3 : w5.cell? ⟨w.heap.size, 3, none⟩ = some (.int .i64 0) := HR5.out.cell 3
        have r4 : w5.cell? ⟨w.heap.size, 4, none⟩ = some (.bool false) := HR5.out.cell 4
        have r5 : w5.cell? ⟨w.heap.size, 5, none⟩ = some (.slice none 0 0) := HR5.out.cell 5
        have z0 := HR5.out.frozen 0
        have z1 := HR5.out.frozen 1
        have z2 := HR5.out.frozen 2
        have z3 := HR5.out.frozen 3
        have z4 := HR5.out.frozen 4
        have z5 := HR5.out.frozen 5
        go_wp2
        refine bodyPost_ret (v := entV ⟨#[]⟩ 0 0 0 false none 0 0) (by simp [results, Try.results19, go_sem, r0, r1, r2, r3, r4, r5]) rfl ⟨none, 0, rfl, World.ownsRow_nil _ _ _ _, ?_, ?_⟩
        · exact rd_put (rd_put (rd_put (rd_put (rd_put (rd_put HD5.out hlt _ _) hlt _ _) hlt _ _) hlt _ _) hlt _ _) hlt _ _
        · exact grown_put (grown_put (grown_put (grown_put (grown_put (grown_put HG5.out (Nat.le_refl _) _ _) (Nat.le_refl _) _ _) (Nat.le_refl _) _ _) (Nat.le_refl _) _ _) (Nat.le_refl _) _ _) (Nat.le_refl _) _ _
    · rw [hq] at hcall
      have HC := Lib.hid hcall
      have he : errE ⟨ks, s, u, o, has, xs⟩ e3 = if e3 = 0 then 11 else e3 := if_neg (by show ¬ rightE ks.length xs.length s u o has = 0; rw [hq]; simp)
      clear hcall
      obtain ⟨e4, he4⟩ : ∃ e4, (if e3 = 0 then 11 else e3) = e4 := ⟨_, rfl⟩
      have h4 : e4 ≠ 0 := by rw [← he4]; split <;> omega
      have HF : Hid (endE (⟨ks, s, u, o, has, xs⟩, b3, e3) = (entP0, b3, e4)) := Lib.hid (by unfold endE; rw [he, he4]; exact if_neg h4)
      (have hRv := HRR.out.symm.trans HF.out); (subst hRv)
      have HN := Lib.hid h4
      have HE4 := Lib.hid he4
      clear he hq h4 he4
      go_wp2_with fail
      refine (HC.out _).mono ?_
      rintro e w4 ⟨rfl, hb⟩
      have HD4 := Lib.hid (rd_below HD1.out hb)
      have HG4 := Lib.hid (grown_trans HG1.out (grown_below hb (Nat.le_refl _) (some g)))
      have HR4 := Lib.hid (HR1.out.below hb HR1.out.lt)
      clear hb c0 c1 c2 c3 c4 c5
      go_wp2_with fail
      refine (fail_call g b3 e3 _ HD4.out).mono ?_
      rw [HE4.out]
      rintro e w5 ⟨rfl, hrd, hgr⟩
      have HD5 := Lib.hid hrd
      have HG5 := Lib.hid (grown_trans HG4.out hgr)
      have HR5 := Lib.hid (blk_up HR4.out hgr hlt)
      clear hrd hgr
      go_wp2_with fail
      refine (failed_yes g b3 e4 HN.out _ HD5.out).mono ?_
      rintro e w' ⟨rfl, rfl⟩
      have r0 : w5.cell? ⟨w.heap.size, 0, none⟩ = some (.string ⟨#[]⟩) := HR5.out.cell 0
      have r1 : w5.cell? ⟨w.heap.size, 1, none⟩ = some (.int .i64 0) := HR5.out.cell 1
      have r2 : w5.cell? ⟨w.heap.size, 2, none⟩ = some (.int .i64 0) := HR5.out.cell 2
      have r3 : w5.cell? ⟨w.heap.size, 3, none⟩ = some (.int .i64 0) := HR5.out.cell 3
      have r4 : w5.cell? ⟨w.heap.size, 4, none⟩ = some (.bool false) := HR5.out.cell 4
      have r5 : w5.cell? ⟨w.heap.size, 5, none⟩ = some (.slice none 0 0) := HR5.out.cell 5
      have z0 := HR5.out.frozen 0
      have z1 := HR5.out.frozen 1
      have z2 := HR5.out.frozen 2
      have z3 := HR5.out.frozen 3
      have z4 := HR5.out.frozen 4
      have z5 := HR5.out.frozen 5
      go_wp2
      refine bodyPost_ret (v := entV ⟨#[]⟩ 0 0 0 false none 0 0) (by simp [results, Try.results19, go_sem, r0, r1, r2, r3, r4, r5]) rfl ⟨none, 0, rfl, World.ownsRow_nil _ _ _ _, ?_, ?_⟩
      · exact rd_put (rd_put (rd_put (rd_put (rd_put (rd_put HD5.out hlt _ _) hlt _ _) hlt _ _) hlt _ _) hlt _ _) hlt _ _
      · exact grown_put (grown_put (grown_put (grown_put (grown_put (grown_put HG5.out (Nat.le_refl _) _ _) (Nat.le_refl _) _ _) (Nat.le_refl _) _ _) (Nat.le_refl _) _ _) (Nat.le_refl _) _ _) (Nat.le_refl _) _ _
end Go.Proofs.Ytmbcdakfnckcmaa
