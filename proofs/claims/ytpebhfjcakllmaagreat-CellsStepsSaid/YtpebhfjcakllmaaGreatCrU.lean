/- CrU: The reference lays a cell, used now; evicts one. -/
import Derived.Test.YtpebhfjcakllmaaGreatCrW
import Derived.Test.YtpebhfjcakllmaaGreatCrO
import Derived.BigFrame
namespace Go.Proofs.YtpebhfjcakllmaaGreat
open Go.RowKit Go.ChangeShapes Mem Be Word Rg Go.Maps
set_option maxRecDepth 100000
set_option maxHeartbeats 8000000
set_option linter.unusedVariables false
set_option linter.unusedSimpArgs false
theorem ruse (t : Tr) (F : Nat → Prop) (x : CP) (xA : Option Addr) (xc : Nat) (w : World) (hF : ∀ k, F k → k < w.heap.size) (h : TrN F w t) (hs : SortT kP (trS t).T) (hv : VlN F w x.e.v xA xc) (hl9 : t.L.length ≤ 90000) (hu0 : 0 ≤ t.us) (hu : t.us ≤ 4611686018427387904) :
    Calls Tryz.prog 49 #[.agg #[.int .i64 t.rc, .int .i64 t.rb, .int .i64 (t.nb : Int), .bool t.fr, .slice t.A t.L.length t.c, .slice t.tA t.tok.length t.tc, .int .i64 t.us], .agg #[.string ⟨x.e.k.toArray⟩, .int .i64 x.e.s, .int .i64 x.e.u, .int .i64 x.e.o, .bool x.e.has, .slice xA x.e.v.length xc, .bool x.wh, .bool x.cl, .int .i64 x.us]] w (TrP F (useS (trS t) x) w) := by
  have hb : Below w.heap.size w (((w.alloc (.cells #[.int .i64 t.rc, .int .i64 t.rb, .int .i64 (t.nb : Int), .bool t.fr, .slice t.A t.L.length t.c, .slice t.tA t.tok.length t.tc, .int .i64 t.us] 34)).alloc (.cells #[.string ⟨x.e.k.toArray⟩, .int .i64 x.e.s, .int .i64 x.e.u, .int .i64 x.e.o, .bool x.e.has, .slice xA x.e.v.length xc, .bool x.wh, .bool x.cl, .int .i64 x.us] 88)).alloc (.cells #[.int .i64 0, .int .i64 0, .int .i64 0, .bool false, .slice none 0 0, .slice none 0 0, .int .i64 0] 34)) := (((Below.refl _ _).alloc (Nat.le_refl _) _).alloc (by simp) _).alloc (by simp; omega) _
  have hk := ((Blk.new w 34 #[.int .i64 t.rc, .int .i64 t.rb, .int .i64 (t.nb : Int), .bool t.fr, .slice t.A t.L.length t.c, .slice t.tA t.tok.length t.tc, .int .i64 t.us]).alloc (.cells #[.string ⟨x.e.k.toArray⟩, .int .i64 x.e.s, .int .i64 x.e.u, .int .i64 x.e.o, .bool x.e.has, .slice xA x.e.v.length xc, .bool x.wh, .bool x.cl, .int .i64 x.us] 88)).alloc (.cells #[.int .i64 0, .int .i64 0, .int .i64 0, .bool false, .slice none 0 0, .slice none 0 0, .int .i64 0] 34)
  have hc : Blk (((w.alloc (.cells #[.int .i64 t.rc, .int .i64 t.rb, .int .i64 (t.nb : Int), .bool t.fr, .slice t.A t.L.length t.c, .slice t.tA t.tok.length t.tc, .int .i64 t.us] 34)).alloc (.cells #[.string ⟨x.e.k.toArray⟩, .int .i64 x.e.s, .int .i64 x.e.u, .int .i64 x.e.o, .bool x.e.has, .slice xA x.e.v.length xc, .bool x.wh, .bool x.cl, .int .i64 x.us] 88)).alloc (.cells #[.int .i64 0, .int .i64 0, .int .i64 0, .bool false, .slice none 0 0, .slice none 0 0, .int .i64 0] 34)) (w.heap.size + 1) 88 #[.string ⟨x.e.k.toArray⟩, .int .i64 x.e.s, .int .i64 x.e.u, .int .i64 x.e.o, .bool x.e.has, .slice xA x.e.v.length xc, .bool x.wh, .bool x.cl, .int .i64 x.us] := blk_at (by simp) ((Blk.new (w.alloc (.cells #[.int .i64 t.rc, .int .i64 t.rb, .int .i64 (t.nb : Int), .bool t.fr, .slice t.A t.L.length t.c, .slice t.tA t.tok.length t.tc, .int .i64 t.us] 34)) 88 #[.string ⟨x.e.k.toArray⟩, .int .i64 x.e.s, .int .i64 x.e.u, .int .i64 x.e.o, .bool x.e.has, .slice xA x.e.v.length xc, .bool x.wh, .bool x.cl, .int .i64 x.us]).alloc (.cells #[.int .i64 0, .int .i64 0, .int .i64 0, .bool false, .slice none 0 0, .slice none 0 0, .int .i64 0] 34))
  have hr : Blk (((w.alloc (.cells #[.int .i64 t.rc, .int .i64 t.rb, .int .i64 (t.nb : Int), .bool t.fr, .slice t.A t.L.length t.c, .slice t.tA t.tok.length t.tc, .int .i64 t.us] 34)).alloc (.cells #[.string ⟨x.e.k.toArray⟩, .int .i64 x.e.s, .int .i64 x.e.u, .int .i64 x.e.o, .bool x.e.has, .slice xA x.e.v.length xc, .bool x.wh, .bool x.cl, .int .i64 x.us] 88)).alloc (.cells #[.int .i64 0, .int .i64 0, .int .i64 0, .bool false, .slice none 0 0, .slice none 0 0, .int .i64 0] 34)) (w.heap.size + 2) 34 #[.int .i64 0, .int .i64 0, .int .i64 0, .bool false, .slice none 0 0, .slice none 0 0, .int .i64 0] := blk_at (by simp) (Blk.new _ _ _)
  obtain ⟨W1, hW1⟩ : ∃ W, ((w.alloc (.cells #[.int .i64 t.rc, .int .i64 t.rb, .int .i64 (t.nb : Int), .bool t.fr, .slice t.A t.L.length t.c, .slice t.tA t.tok.length t.tc, .int .i64 t.us] 34)).alloc (.cells #[.string ⟨x.e.k.toArray⟩, .int .i64 x.e.s, .int .i64 x.e.u, .int .i64 x.e.o, .bool x.e.has, .slice xA x.e.v.length xc, .bool x.wh, .bool x.cl, .int .i64 x.us] 88)).alloc (.cells #[.int .i64 0, .int .i64 0, .int .i64 0, .bool false, .slice none 0 0, .slice none 0 0, .int .i64 0] 34) = W := ⟨_, rfl⟩
  have hsz : W1.heap.size = w.heap.size + 3 := by rw [← hW1]; simp
  rw [hW1] at hk hc hr hb
  have d6 : W1.cell? ⟨w.heap.size, 6, none⟩ = some (.int .i64 t.us) := hk.cell 6
  have z6 := hk.frozen 6
  have d8 : W1.cell? ⟨w.heap.size + 1, 8, none⟩ = some (.int .i64 x.us) := hc.cell 8
  have z8 := hc.frozen 8
  have HK2 : Hid (Blk ((W1.setCell ⟨w.heap.size, 6, none⟩ (.int .i64 (t.us + 1))).setCell ⟨w.heap.size + 1, 8, none⟩ (.int .i64 (t.us + 1))) w.heap.size 34 #[.int .i64 t.rc, .int .i64 t.rb, .int .i64 (t.nb : Int), .bool t.fr, .slice t.A t.L.length t.c, .slice t.tA t.tok.length t.tc, .int .i64 (t.us + 1)]) := Lib.hid ((hk.set_ 6 (.int .i64 (t.us + 1))).far (p := ⟨w.heap.size + 1, 8, none⟩) (by simp) _)
  have HC2 : Hid (Blk ((W1.setCell ⟨w.heap.size, 6, none⟩ (.int .i64 (t.us + 1))).setCell ⟨w.heap.size + 1, 8, none⟩ (.int .i64 (t.us + 1))) (w.heap.size + 1) 88 #[.string ⟨x.e.k.toArray⟩, .int .i64 x.e.s, .int .i64 x.e.u, .int .i64 x.e.o, .bool x.e.has, .slice xA x.e.v.length xc, .bool x.wh, .bool x.cl, .int .i64 (t.us + 1)]) := Lib.hid ((hc.far (p := ⟨w.heap.size, 6, none⟩) (by simp) (.int .i64 (t.us + 1))).set_ 8 (.int .i64 (t.us + 1)))
  have HR2 : Hid (Blk ((W1.setCell ⟨w.heap.size, 6, none⟩ (.int .i64 (t.us + 1))).setCell ⟨w.heap.size + 1, 8, none⟩ (.int .i64 (t.us + 1))) (w.heap.size + 2) 34 #[.int .i64 0, .int .i64 0, .int .i64 0, .bool false, .slice none 0 0, .slice none 0 0, .int .i64 0]) := Lib.hid ((hr.far (p := ⟨w.heap.size, 6, none⟩) (by simp) _).far (p := ⟨w.heap.size + 1, 8, none⟩) (by simp) _)
  have HB2 : Hid (Below w.heap.size w ((W1.setCell ⟨w.heap.size, 6, none⟩ (.int .i64 (t.us + 1))).setCell ⟨w.heap.size + 1, 8, none⟩ (.int .i64 (t.us + 1)))) := Lib.hid ((hb.setCell (p := ⟨w.heap.size, 6, none⟩) (Nat.le_refl _) _).setCell (p := ⟨w.heap.size + 1, 8, none⟩) (Nat.le_succ _) _)
  have HSZ : Hid (((W1.setCell ⟨w.heap.size, 6, none⟩ (.int .i64 (t.us + 1))).setCell ⟨w.heap.size + 1, 8, none⟩ (.int .i64 (t.us + 1))).heap.size = w.heap.size + 3) := Lib.hid (by simp [World.setCell]; exact hsz)
  have HT := Lib.hid h
  have HF := Lib.hid hF
  have HV := Lib.hid hv
  have HS := Lib.hid hs
  have HL9 := Lib.hid hl9
  clear hb hk hc hr h hF hv hs hl9 hsz
  go_enter Tryz.func49, Tryz.ntmps49
  go_upto_region 3 with fail
  obtain ⟨w2, hw2⟩ : ∃ W, ((W1.setCell ⟨w.heap.size, 6, none⟩ (.int .i64 (t.us + 1))).setCell ⟨w.heap.size + 1, 8, none⟩ (.int .i64 (t.us + 1))) = W := ⟨_, rfl⟩
  rw [hw2] at HK2 HC2 HR2 HB2 HSZ
  simp only [hw2]
  clear hw2 hW1 d6 z6 d8 z8
  have HW : Hid (Calls Tryz.prog 53 #[.agg #[.int .i64 t.rc, .int .i64 t.rb, .int .i64 (t.nb : Int), .bool t.fr, .slice t.A t.L.length t.c, .slice t.tA t.tok.length t.tc, .int .i64 (t.us + 1)], .agg #[.string ⟨x.e.k.toArray⟩, .int .i64 x.e.s, .int .i64 x.e.u, .int .i64 x.e.o, .bool x.e.has, .slice xA x.e.v.length xc, .bool x.wh, .bool x.cl, .int .i64 (t.us + 1)]] w2 (TrP (More2 F w.heap.size w2.heap.size) (useS (trS t) x) w2)) := Lib.hid (rwith { t with us := t.us + 1 } (More2 F w.heap.size w2.heap.size) { x with us := t.us + 1 } xA xc w2 (more2_lt HF.out HB2.out.size) (show TrN _ _ _ from ⟨(HT.out.wide HB2.out).cen, HT.out.cap, (HT.out.wide HB2.out).tok, HT.out.ln, HT.out.tl⟩) HS.out (HV.out.wide HB2.out) HL9.out)
  go_wp2_with (first | (refine wpList_load_row rfl 34 _ rfl _ rfl _ _ _ _ (show _ = _ from HK2.out) Tryz.underlying34 rfl (by kernel_rfl) ?_) | (refine wpList_load_row rfl 88 _ rfl _ rfl _ _ _ _ (show _ = _ from HC2.out) Tryz.underlying88 rfl (by kernel_rfl) ?_))
  refine HW.out.mono ?_
  rintro e w3 ⟨t', rfl, hS, hm, hb3⟩
  have HS3 := Lib.hid hS
  have HM3 := Lib.hid hm
  have HR3 := Lib.hid (HR2.out.below hb3 HR2.out.lt)
  have HB3 := Lib.hid (HB2.out.trans (hb3.mono HB2.out.size))
  have HZ3 := Lib.hid hb3.size
  clear hS hm hb3 HW HK2 HC2 HR2
  go_wp2_with (refine store_box rfl 34 _ _ rfl (w.heap.size + 2) 34 #[.int .i64 0, .int .i64 0, .int .i64 0, .bool false, .slice none 0 0, .slice none 0 0, .int .i64 0] #[.int .i64 t'.rc, .int .i64 t'.rb, .int .i64 (t'.nb : Int), .bool t'.fr, .slice t'.A t'.L.length t'.c, .slice t'.tA t'.tok.length t'.tc, .int .i64 t'.us] HR3.out rfl rfl rfl (by kernel_rfl) (by kernel_rfl) ?_)
  intro wz hkz hgz
  have HKz := Lib.hid hkz
  have HBz : Hid (Below w.heap.size w wz) := Lib.hid (HB3.out.grown hgz HB3.out.size fun g hg => by cases hg; omega)
  have HMz : Hid (TrN F wz t') := Lib.hid (HM3.out.touch (touch_box hgz (Or.inr ⟨by omega, by have := HSZ.out; omega⟩))).narrow
  clear hkz hgz
  go_wp2
  exact bodyPost_ret (v := .agg #[.int .i64 t'.rc, .int .i64 t'.rb, .int .i64 (t'.nb : Int), .bool t'.fr, .slice t'.A t'.L.length t'.c, .slice t'.tA t'.tok.length t'.tc, .int .i64 t'.us]) (results_cell_row (p := 4) (ty := 34) Tryz.results49 _ _ (w.heap.size + 2) 34 #[.int .i64 t'.rc, .int .i64 t'.rb, .int .i64 (t'.nb : Int), .bool t'.fr, .slice t'.A t'.L.length t'.c, .slice t'.tA t'.tok.length t'.tc, .int .i64 t'.us] (0, 0) _ rfl HKz.out Tryz.underlying34 rfl (by kernel_rfl)) rfl ⟨t', rfl, HS3.out, HMz.out, HBz.out⟩
theorem rowN_setI {F : Nat → Prop} {w : World} {b o i : Nat} {xs : List Int} (h : RowN F w (some ⟨b, o, none⟩) (xs.map iV)) (hi : i < xs.length) (v : Int) : RowN F (w.setCell ⟨b, o + i, none⟩ (.int .i64 v)) (some ⟨b, o, none⟩) ((xs.set i v).map iV) := by
  rcases h with h | ⟨b', o', e, hf, hl, hc⟩
  · rw [List.map_eq_nil_iff] at h; subst h; exact absurd hi (Nat.not_lt_zero _)
  · injection e with e
    injection e with e1 e2
    subst e1; subst e2
    refine Or.inr ⟨b, o, rfl, hf, by simpa [World.setCell] using hl, fun j hj => ?_⟩
    simp only [List.length_map, List.length_set] at hj
    have h1 := hc j (by simpa using hj)
    rw [List.getElem_map] at h1
    by_cases e : i = j
    · subst e
      rw [World.cell?_setCell_same _ _ _ h1]
      simp [iV]
    · rw [World.cell?_setCell_other _ _ _ _ (fun e2 => by injection e2 with _ e2; omega), h1]
      simp [List.getElem_set, e]
theorem own_frzT {w : World} {B s n m c : Nat} {e : TypeId} {b o : Nat} {xs : List Value} (h : w.ownsRow B e s (.slice (some ⟨b, o, none⟩) m c) n xs) (j : Nat) : w.frozen? ⟨b, j, none⟩ = false := by
  obtain ⟨_, _, cur, hc⟩ := ownIn h rfl
  simp only at hc
  simp [World.frozen?, hc]
theorem rgone (t : Tr) (F : Nat → Prop) (i : Nat) (hi : i < t.L.length) (w : World) (hF : ∀ k, F k → k < w.heap.size) (h : TrN F w t) (ok : OkC (trS t)) (hq : ∀ v ∈ t.tok, v ≤ 4611686018427390000) :
    Calls Tryz.prog 54 #[.agg #[.int .i64 t.rc, .int .i64 t.rb, .int .i64 (t.nb : Int), .bool t.fr, .slice t.A t.L.length t.c, .slice t.tA t.tok.length t.tc, .int .i64 t.us], .int .i64 (i : Int)] w (TrP F (goneS (trS t) (t.L[i]'hi).1.e.k) w) := by
  obtain ⟨i0, hi0, hz0, hz1, hz2⟩ := info_parts info_i
  have hb : Below w.heap.size w ((w.alloc (.cells #[.int .i64 t.rc, .int .i64 t.rb, .int .i64 (t.nb : Int), .bool t.fr, .slice t.A t.L.length t.c, .slice t.tA t.tok.length t.tc, .int .i64 t.us] 34)).alloc (.cells #[.int .i64 0, .int .i64 0, .int .i64 0, .bool false, .slice none 0 0, .slice none 0 0, .int .i64 0] 34)) := ((Below.refl _ _).alloc (Nat.le_refl _) _).alloc (by simp) _
  have HK := Lib.hid ((Blk.new w 34 #[.int .i64 t.rc, .int .i64 t.rb, .int .i64 (t.nb : Int), .bool t.fr, .slice t.A t.L.length t.c, .slice t.tA t.tok.length t.tc, .int .i64 t.us]).alloc (.cells #[.int .i64 0, .int .i64 0, .int .i64 0, .bool false, .slice none 0 0, .slice none 0 0, .int .i64 0] 34))
  have HR : Hid (Blk ((w.alloc (.cells #[.int .i64 t.rc, .int .i64 t.rb, .int .i64 (t.nb : Int), .bool t.fr, .slice t.A t.L.length t.c, .slice t.tA t.tok.length t.tc, .int .i64 t.us] 34)).alloc (.cells #[.int .i64 0, .int .i64 0, .int .i64 0, .bool false, .slice none 0 0, .slice none 0 0, .int .i64 0] 34)) (w.heap.size + 1) 34 #[.int .i64 0, .int .i64 0, .int .i64 0, .bool false, .slice none 0 0, .slice none 0 0, .int .i64 0]) := Lib.hid (blk_at (by simp) (Blk.new _ _ _))
  have hm1 := h.wide hb
  obtain ⟨W1, hW1⟩ : ∃ W, (w.alloc (.cells #[.int .i64 t.rc, .int .i64 t.rb, .int .i64 (t.nb : Int), .bool t.fr, .slice t.A t.L.length t.c, .slice t.tA t.tok.length t.tc, .int .i64 t.us] 34)).alloc (.cells #[.int .i64 0, .int .i64 0, .int .i64 0, .bool false, .slice none 0 0, .slice none 0 0, .int .i64 0] 34) = W := ⟨_, rfl⟩
  have hsz : W1.heap.size = w.heap.size + 2 := by rw [← hW1]; simp
  rw [hW1] at hb HK HR hm1
  have hln := h.ln
  have htl := h.tl
  have hi2 : i < (trS t).T.length := by rw [trT_len]; exact hi
  have hfst : (trS t).T[i] = (t.L[i]'hi).1 := trT_at t i hi2 hi
  have hkey : (t.L[i]'hi).1.e.k.length ≤ 250 := by rw [← hfst]; exact (sizE_le (ok.ok _ (List.getElem_mem hi2))).2.1
  have hdel := del_at i hi2 ok.srt
  rw [hfst] at hdel
  have hbk := bk_lt ok (t.L[i]'hi).1.e.k
  obtain ⟨b, ao, hA, hbb, hc⟩ := cells_open (h.m.below hb).cev.row (by omega)
  have hc0 := hc i hi 0 _ rfl
  rw [Nat.add_zero] at hc0
  obtain ⟨kk, hkk⟩ : ∃ k, (t.L[i]'hi).1.e.k = k := ⟨_, rfl⟩
  rw [hkk] at hc0 hkey hdel hbk ⊢
  obtain ⟨B, hB⟩ : ∃ B, bk t.nb kk = B := ⟨_, rfl⟩
  have hB2 : bk (trS t).nb kk = B := hB
  rw [hB2] at hbk
  have hBl : B < t.tok.length := hbk
  have HBK : Hid (∀ W, Calls Tryz.prog 47 #[.agg #[.int .i64 t.rc, .int .i64 t.rb, .int .i64 (t.nb : Int), .bool t.fr, .slice t.A t.L.length t.c, .slice t.tA t.tok.length t.tc, .int .i64 t.us], .string ⟨kk.toArray⟩] W (fun e w' => e = .returned (.int .i64 ((B : Nat) : Int)) ∧ Below W.heap.size W w')) := Lib.hid fun W => by
    have := rbucket t kk (by omega) ok.nb W
    rw [hB] at this; exact this
  have hv0 := ok.t0 t.tok[B] (List.getElem_mem hBl)
  have hv1 := hq t.tok[B] (List.getElem_mem hBl)
  have HGO : Hid (goneS (trS t) kk = { trS t with T := (trS t).T.eraseIdx i, tok := t.tok.set B (t.tok[B] + 1) }) := Lib.hid (by
    unfold goneS incT
    rw [hdel, hB2]
    show (⟨_, _, _, _, _, t.tok.set B (t.tok.getD B 0 + 1), _⟩ : Cl) = _
    rw [List.getD_eq_getElem?_getD, List.getElem?_eq_getElem hBl]; rfl)
  obtain ⟨vB, hvB⟩ : ∃ v, t.tok[B] = v := ⟨_, rfl⟩
  rw [hvB] at hv0 hv1 HGO
  have HVB : Hid (∀ (W : World) (b o : Nat), RowN F W (some ⟨b, o, none⟩) (t.tok.map iV) → W.cell? ⟨b, o + B, none⟩ = some (.int .i64 vB)) := Lib.hid fun W b o hr => by
    rcases hr with hr | ⟨b', o', e, _, _, hc⟩
    · rw [List.map_eq_nil_iff] at hr; rw [hr] at hBl; exact absurd hBl (Nat.not_lt_zero _)
    · injection e with e
      injection e with e1 e2
      subst e1; subst e2
      rw [hc B (by simpa using hBl), List.getElem_map, hvB]; rfl
  have hk4 : ∀ p : Later W1, p.world.cell? ⟨w.heap.size, 4, none⟩ = some (.slice (some ⟨b, ao, none⟩) t.L.length t.c) := by rw [← hA]; exact later_blk_cell HK.out 4 _ rfl
  have hl0 := later_cell hc0
  have HLK : Hid (∀ p : Later W1, Blk p.world w.heap.size 34 #[.int .i64 t.rc, .int .i64 t.rb, .int .i64 (t.nb : Int), .bool t.fr, .slice t.A t.L.length t.c, .slice t.tA t.tok.length t.tc, .int .i64 t.us]) := Lib.hid fun p => later_blk HK.out p
  have hii : (0 : Int) ≤ (i : Int) := by omega
  have hii2 : (i : Int) < (t.L.length : Int) := by omega
  have hlni : (t.L.length : Int) ≤ 100000 := by omega
  have htli : (t.tok.length : Int) ≤ 100000 := by omega
  have hBi0 : (0 : Int) ≤ (B : Int) := by omega
  have hBi : (B : Int) < (t.tok.length : Int) := by omega
  have HB1 := Lib.hid hb
  have HM1 := Lib.hid hm1
  have HM0 := Lib.hid h
  have HF := Lib.hid hF
  have HSZ := Lib.hid hsz
  have HII := Lib.hid hi
  have HBL := Lib.hid hBl
  have hlb : W1.heap.size ≤ W1.heap.size := Nat.le_refl _
  clear hb hm1 h hF hsz ok hq hc hc0 hA hdel hbk hB hB2 hkk hfst hi2 hvB hBl hi hlb
  go_enter Tryz.func54, Tryz.ntmps54
  go_wp2_with fail
  clear hW1
  refine wp_region_later (by kernel_rfl) (by kernel_rfl) ?_
  go_big_quiet_want
  refine quiet_loadrow 34 (.tmp 2) rfl (w.heap.size) rfl HLK.out Tryz.underlying34 rfl (by kernel_rfl) ?_
  simp only [Act.put, List.setIfInBounds_toArray, List.set_cons_succ, List.set_cons_zero]
  go_big_quiet_on
  repeat (go_big_quiet_step (first
    | (go_at_call 47; exact later_of (HBK.out _))))
  refine wpQuiet_nil ?_
  intro w' hw'
  obtain ⟨p, hp2⟩ := hw'
  have hb2 : Below W1.heap.size W1 w' := by rw [hp2]; exact p.bel
  have HK2 := Lib.hid (HK.out.below hb2 HK.out.lt)
  have HR2 := Lib.hid (HR.out.below hb2 HR.out.lt)
  have HB2 := Lib.hid (HB1.out.trans (hb2.mono HB1.out.size))
  have HM2 := Lib.hid (HM1.out.below hb2)
  have HZ2 : Hid (w.heap.size + 2 ≤ w'.heap.size) := Lib.hid (by have := HSZ.out; have := hb2.size; omega)
  clear hb2 hp2 p hk4 hl0 HLK HBK HK HR HB1 HM1
  have d5 : w'.cell? ⟨w.heap.size, 5, none⟩ = some (.slice t.tA t.tok.length t.tc) := HK2.out.cell 5
  have HTR := Lib.hid HM2.out.tok.row
  have HON : Hid (w'.ownsRow w'.heap.size 3 1 (.slice none 0 0) 0 []) := Lib.hid (World.ownsRow_nil _ _ _ _)
  go_wp2_with (at_builtin; refine wpList_app _ rfl _ _ 32 rfl w'.heap.size 3 i0 (.int .i64 0) 8 Tryz.underlying32 hi0 hz0 hz1 hz2 rfl _ 0 [] rfl HON.out w'.heap.size _ t.tok.length t.tc (t.tok.map iV) rfl (by simp) HTR.out (iV_one t.tok) (by unfold maxLen; omega) (by omega) (Nat.le_refl _) ?_)
  intro v' w3 hown hg3 _
  obtain ⟨A3, c3, rfl, _, _⟩ := ownShape hown
  have hb3 : Below w'.heap.size w' w3 := (Below.refl _ _).grown hg3 (Nat.le_refl _) (fun g hg => by cases hg)
  have hrn : RowN (More2 F w.heap.size W1.heap.size) w3 A3 (t.tok.map iV) := rowN_own (w := w') (fun k hk => by
    rcases hk with hk | hk
    · have := HF.out k hk; have := HZ2.out; omega
    · have := HSZ.out; have := HZ2.out; omega) (by simpa using hown)
  obtain ⟨bt, ot, rfl⟩ : ∃ bt ot, A3 = some ⟨bt, ot, none⟩ := by
    rcases hrn with hr | ⟨b', o', e, _⟩
    · rw [List.map_eq_nil_iff] at hr; have h9 := HBL.out; rw [hr] at h9; exact absurd h9 (Nat.not_lt_zero _)
    · exact ⟨b', o', e⟩
  have hge : w'.heap.size ≤ bt := (ownIn hown rfl).1
  have hzt := own_frzT hown (ot + B)
  have hct := HVB.out w3 bt ot hrn.narrow
  have HRN : Hid (RowN (More2 F w.heap.size W1.heap.size) (w3.setCell ⟨bt, ot + B, none⟩ (.int .i64 (vB + 1))) (some ⟨bt, ot, none⟩) ((t.tok.set B (vB + 1)).map iV)) := Lib.hid (rowN_setI hrn HBL.out (vB + 1))
  have HK3 : Hid (Blk (w3.setCell ⟨bt, ot + B, none⟩ (.int .i64 (vB + 1))) w.heap.size 34 #[.int .i64 t.rc, .int .i64 t.rb, .int .i64 (t.nb : Int), .bool t.fr, .slice t.A t.L.length t.c, .slice t.tA t.tok.length t.tc, .int .i64 t.us]) := Lib.hid ((HK2.out.below hb3 HK2.out.lt).far (p := ⟨bt, ot + B, none⟩) (by have := HZ2.out; simp; omega) _)
  have HR3 : Hid (Blk (w3.setCell ⟨bt, ot + B, none⟩ (.int .i64 (vB + 1))) (w.heap.size + 1) 34 #[.int .i64 0, .int .i64 0, .int .i64 0, .bool false, .slice none 0 0, .slice none 0 0, .int .i64 0]) := Lib.hid ((HR2.out.below hb3 HR2.out.lt).far (p := ⟨bt, ot + B, none⟩) (by have := HZ2.out; simp; omega) _)
  have HB3 : Hid (Below w.heap.size w (w3.setCell ⟨bt, ot + B, none⟩ (.int .i64 (vB + 1)))) := Lib.hid ((HB2.out.trans (hb3.mono HB2.out.size)).setCell (p := ⟨bt, ot + B, none⟩) (by have := HZ2.out; simp; omega) _)
  have HBT : Hid (Below w'.heap.size w' (w3.setCell ⟨bt, ot + B, none⟩ (.int .i64 (vB + 1)))) := Lib.hid (hb3.setCell (p := ⟨bt, ot + B, none⟩) hge _)
  have HM3 := Lib.hid (HM2.out.below HBT.out)
  have hwr : IntKind.i64.wrap (vB + 1) = vB + 1 := by rw [IntKind.wrap_i64]; omega
  have hz9 : 0 + t.tok.length = t.tok.length := by omega
  clear hown hg3 hb3 hrn hge d5 HON HTR HK2 HR2 HM2
  go_upto_region 5 with fail
  obtain ⟨w4, hw4⟩ : ∃ W, w3.setCell ⟨bt, ot + B, none⟩ (.int .i64 (vB + 1)) = W := ⟨_, rfl⟩
  rw [hw4] at HRN HK3 HR3 HB3 HBT HM3
  try simp only [hw4]
  clear hw4 hct hzt
  have HWO : Hid (Calls Tryz.prog 71 #[.agg #[.int .i64 t.rc, .int .i64 t.rb, .int .i64 (t.nb : Int), .bool t.fr, .slice t.A t.L.length t.c, .slice t.tA t.tok.length t.tc, .int .i64 t.us], .int .i64 (i : Int)] w4 (TrP (More2 F w.heap.size W1.heap.size) { trS t with T := (trS t).T.eraseIdx i } w4)) := Lib.hid (rwithout t (More2 F w.heap.size W1.heap.size) i HII.out w4 (fun k hk => by
    have h1 := HB3.out.size
    have h2 := HBT.out.size
    have h3 := HZ2.out
    rcases hk with hk | hk
    · have := HF.out k hk; omega
    · have := HSZ.out; omega) HM3.out)
  go_wp2_with (refine wpList_load_row rfl 34 _ rfl _ rfl _ _ _ _ (show _ = _ from HK3.out) Tryz.underlying34 rfl (by kernel_rfl) ?_)
  refine HWO.out.mono ?_
  rintro e w5 ⟨t', rfl, hS, hm5, hb5⟩
  have HS5 := Lib.hid hS
  have HR5 := Lib.hid (HR3.out.below hb5 HR3.out.lt)
  have HB5 := Lib.hid (HB3.out.trans (hb5.mono HB3.out.size))
  have hRN5 : RowN (More2 F w.heap.size W1.heap.size) w5 (some ⟨bt, ot, none⟩) ((t.tok.set B (vB + 1)).map iV) := RowN.belowC HRN.out hb5
  have hmW := hm5
  clear hS HWO HK3 HR3 HM3 HRN
  go_upto_region 6 with (refine wpList_boxM rfl rfl _ rfl 34 #[.int .i64 0, .int .i64 0, .int .i64 0, .bool false, .slice none 0 0, .slice none 0 0, .int .i64 0] (by kernel_rfl) _ _ rfl #[.int .i64 t'.rc, .int .i64 t'.rb, .int .i64 (t'.nb : Int), .bool t'.fr, .slice t'.A t'.L.length t'.c, .slice t'.tA t'.tok.length t'.tc, .int .i64 t'.us] rfl rfl rfl (by kernel_rfl) (by kernel_rfl) ?_)
  obtain ⟨W6, hW6⟩ : ∃ W, w5.alloc (.cells #[.int .i64 t'.rc, .int .i64 t'.rb, .int .i64 (t'.nb : Int), .bool t'.fr, .slice t'.A t'.L.length t'.c, .slice t'.tA t'.tok.length t'.tc, .int .i64 t'.us] 34) = W := ⟨_, rfl⟩
  obtain ⟨gu, hgu⟩ : ∃ g, w5.heap.size = g := ⟨_, rfl⟩
  have hb6 : Below w5.heap.size w5 W6 := by rw [← hW6]; exact (Below.refl _ _).alloc (Nat.le_refl _) _
  have hku : Blk W6 gu 34 #[.int .i64 t'.rc, .int .i64 t'.rb, .int .i64 (t'.nb : Int), .bool t'.fr, .slice t'.A t'.L.length t'.c, .slice t'.tA t'.tok.length t'.tc, .int .i64 t'.us] := by rw [← hW6, ← hgu]; exact Blk.new _ _ _
  have hr6 := HR5.out.below hb6 HR5.out.lt
  have hb06 := HB5.out.trans (hb6.mono HB5.out.size)
  have hm6 := hmW.wide hb6
  have hrn6 := hRN5.wide hb6
  have hgw : w.heap.size + 1 < gu := by rw [← hgu]; exact HR5.out.lt
  have hgz : gu < W6.heap.size := hku.lt
  try simp only [hW6, hgu]
  have z5 := hku.frozen 5
  have d5 : W6.cell? ⟨gu, 5, none⟩ = some (.slice t'.tA t'.tok.length t'.tc) := hku.cell 5
  have HKU : Hid (Blk (W6.setCell ⟨gu, 5, none⟩ (.slice (some ⟨bt, ot, none⟩) t.tok.length c3)) gu 34 #[.int .i64 t'.rc, .int .i64 t'.rb, .int .i64 (t'.nb : Int), .bool t'.fr, .slice t'.A t'.L.length t'.c, .slice (some ⟨bt, ot, none⟩) t.tok.length c3, .int .i64 t'.us]) := Lib.hid (hku.set_ 5 (.slice (some ⟨bt, ot, none⟩) t.tok.length c3))
  have HR6 := Lib.hid (hr6.far (p := ⟨gu, 5, none⟩) (by simp; omega) (.slice (some ⟨bt, ot, none⟩) t.tok.length c3))
  have HB6 : Hid (Below w.heap.size w (W6.setCell ⟨gu, 5, none⟩ (.slice (some ⟨bt, ot, none⟩) t.tok.length c3))) := Lib.hid (hb06.setCell (p := ⟨gu, 5, none⟩) (by simp; omega) _)
  have hsg : W6.grownBy (W6.setCell ⟨gu, 5, none⟩ (.slice (some ⟨bt, ot, none⟩) t.tok.length c3)) (some gu) := grown_set _ _ _ _
  have hFu : More2 (More2 F w.heap.size W1.heap.size) w5.heap.size W6.heap.size gu := Or.inr ⟨by rw [hgu]; exact Nat.le_refl _, hgz⟩
  have HM6 := Lib.hid (hm6.touch (touch_box hsg hFu)).narrow
  have HRN6 := Lib.hid (hrn6.touch (touch_box hsg hFu)).narrow
  obtain ⟨w7, hw7⟩ : ∃ W, W6.setCell ⟨gu, 5, none⟩ (.slice (some ⟨bt, ot, none⟩) t.tok.length c3) = W := ⟨_, rfl⟩
  rw [hw7] at HKU HR6 HB6 HM6 HRN6
  clear hb6 hku hr6 hb06 hm6 hrn6 hRN5 hm5 hmW hb5 HR5 hsg hFu hW6 hgu
  go_upto_region 7 with fail
  try simp only [hw7]
  clear hw7 z5 d5
  go_wp2_with (first | (refine wpList_load_row rfl 34 _ rfl _ rfl _ _ _ _ (show _ = _ from HKU.out) Tryz.underlying34 rfl (by kernel_rfl) ?_) | (refine store_box rfl 34 _ _ rfl (w.heap.size + 1) 34 #[.int .i64 0, .int .i64 0, .int .i64 0, .bool false, .slice none 0 0, .slice none 0 0, .int .i64 0] #[.int .i64 t'.rc, .int .i64 t'.rb, .int .i64 (t'.nb : Int), .bool t'.fr, .slice t'.A t'.L.length t'.c, .slice (some ⟨bt, ot, none⟩) t.tok.length c3, .int .i64 t'.us] HR6.out rfl rfl rfl (by kernel_rfl) (by kernel_rfl) ?_))
  intro wz hkz hgz2
  have HKz := Lib.hid hkz
  have HBz : Hid (Below w.heap.size w wz) := Lib.hid (HB6.out.grown hgz2 HB6.out.size fun g hg => by cases hg; omega)
  have hF1 : More2 F w.heap.size W1.heap.size (w.heap.size + 1) := Or.inr ⟨by omega, by have := HSZ.out; omega⟩
  have HMz := Lib.hid (HM6.out.touch (touch_box hgz2 hF1)).narrow
  have HNz := Lib.hid (HRN6.out.touch (touch_box hgz2 hF1)).narrow
  clear hkz hgz2
  go_wp2
  exact bodyPost_ret (v := .agg #[.int .i64 t'.rc, .int .i64 t'.rb, .int .i64 (t'.nb : Int), .bool t'.fr, .slice t'.A t'.L.length t'.c, .slice (some ⟨bt, ot, none⟩) t.tok.length c3, .int .i64 t'.us]) (results_cell_row (p := 4) (ty := 34) Tryz.results54 _ _ (w.heap.size + 1) 34 #[.int .i64 t'.rc, .int .i64 t'.rb, .int .i64 (t'.nb : Int), .bool t'.fr, .slice t'.A t'.L.length t'.c, .slice (some ⟨bt, ot, none⟩) t.tok.length c3, .int .i64 t'.us] (0, 0) _ rfl HKz.out Tryz.underlying34 rfl (by kernel_rfl)) rfl
    ⟨⟨t'.rc, t'.rb, t'.nb, t'.fr, t'.L, t'.A, t'.c, t.tok.set B (vB + 1), some ⟨bt, ot, none⟩, c3, t'.us⟩, by simp only [List.length_set], by
      rw [HGO.out]
      exact congrArg (fun S : Cl => ({ S with tok := t.tok.set B (vB + 1) } : Cl)) HS5.out, ⟨HMz.out.cen, HMz.out.cap, HNz.out, HMz.out.ln, by show (t.tok.set B (vB + 1)).length ≤ _; rw [List.length_set]; exact HM0.out.tl⟩, HBz.out⟩
end Go.Proofs.YtpebhfjcakllmaaGreat
