/- The newer one of an entry and what is there, told by the reference. -/
import Derived.Test.YtdmoogbmaodfnaaGreatRefX8
namespace Go.Proofs.YtdmoogbmaodfnaaGreat
open Go.RowKit Go.ChangeShapes Mem Be Word Frm Go.Maps
set_option maxRecDepth 100000
set_option maxHeartbeats 8000000
set_option linter.unusedVariables false
theorem reflay_any (n c : Nat) (A : Option Addr) (us : List EV) (x : EV) (hn : n = us.length) (hcp : n ≤ c) (hl : n ≤ 100000000) (w : World) (h : EnV w A us) (hs : SortT kE (us.map Prod.fst)) (hv : ValOk w x.1.has x.2.1 x.1.v x.2.2) :
    Calls Tryz.prog 50 #[.slice A n c, entV ⟨x.1.k.toArray⟩ x.1.s x.1.u x.1.o x.1.has x.2.1 x.1.v.length x.2.2] w (WithP (layT (us.map Prod.fst) x.1) w) := by
  obtain ⟨⟨xk, xs, xu, xo, xh, xv⟩, xA, xc⟩ := x
  simp only at hv ⊢
  obtain ⟨W1, hW1⟩ : ∃ W1, w.alloc (.cells #[.string ⟨xk.toArray⟩, .int .i64 xs, .int .i64 xu, .int .i64 xo, .bool xh, .slice xA xv.length xc] 45) = W1 := ⟨_, rfl⟩
  have hbw : Below w.heap.size w W1 := by rw [← hW1]; exact (Below.refl _ _).alloc (Nat.le_refl _) _
  have hblk : Blk W1 w.heap.size 45 #[.string ⟨xk.toArray⟩, .int .i64 xs, .int .i64 xu, .int .i64 xo, .bool xh, .slice xA xv.length xc] := by rw [← hW1]; exact Blk.new w _ _
  have HBW := Lib.hid hbw
  have HBLK := Lib.hid hblk
  have HE := Lib.hid (h.below hbw)
  have HV := Lib.hid (hv.below hbw)
  have HDR : Hid (Below W1.heap.size W1 W1.drew) := Lib.hid (Below.refl _ _).drew
  have hof : ∀ W, Below W1.heap.size W1 W → Calls Tryz.prog 14 #[.slice A n c, .string ⟨xk.toArray⟩] W (RefE (ofT (us.map Prod.fst) xk) W) := fun W hb => refof_any n c A us xk hn (by omega) W ((h.below hbw).below hb)
  have hwi : ∀ W, Below W1.heap.size W1 W → Calls Tryz.prog 67 #[.slice A n c, .agg #[.string ⟨xk.toArray⟩, .int .i64 xs, .int .i64 xu, .int .i64 xo, .bool xh, .slice xA xv.length xc]] W (WithP (putK kE (us.map Prod.fst) ⟨xk, xs, xu, xo, xh, xv⟩) W) := fun W hb => refwith_any n c A us (⟨xk, xs, xu, xo, xh, xv⟩, xA, xc) hn hcp hl W ((h.below hbw).below hb) hs ((hv.below hbw).below hb)
  have hst : ∀ W, Below W1.heap.size W1 W → WithP (us.map Prod.fst) w (.returned (.slice A n c)) W := fun W hb => ⟨us, A, c, rfl, by rw [hn], by omega, (h.below hbw).below hb, hbw.trans (hb.mono hbw.size)⟩
  have HST := Lib.hid hst
  have HWI := Lib.hid hwi
  obtain ⟨T, hT⟩ : ∃ T, layT (us.map Prod.fst) ⟨xk, xs, xu, xo, xh, xv⟩ = T := ⟨_, rfl⟩
  rw [hT]
  unfold layT at hT
  simp only at hT
  obtain ⟨R, hR⟩ : ∃ R, ofT (us.map Prod.fst) xk = R := ⟨_, rfl⟩
  rw [hR] at hT hof
  have HOF := Lib.hid hof
  have hkR : R.k = xk := by rw [← hR]; exact ofT_key _ _
  unfold cmpE at hT
  simp only at hT
  obtain ⟨cc, hcc⟩ : ∃ q, cmpT xs xu xo R.s R.u R.o = q := ⟨_, rfl⟩
  rw [hcc] at hT
  have HCC := Lib.hid hcc
  have HTT := Lib.hid hT
  have HSK : Hid (∀ W' : World, Below W1.heap.size W1 W' → W'.cell? ⟨w.heap.size, 0, none⟩ = some (.string ⟨xk.toArray⟩) ∧ W'.cell? ⟨w.heap.size, 1, none⟩ = some (.int .i64 xs) ∧ W'.cell? ⟨w.heap.size, 2, none⟩ = some (.int .i64 xu) ∧ W'.cell? ⟨w.heap.size, 3, none⟩ = some (.int .i64 xo)) := Lib.hid fun W' hw => by
    have hb := hblk.below hw hblk.lt
    exact ⟨hb.cell 0, hb.cell 1, hb.cell 2, hb.cell 3⟩
  have s0 : W1.cell? ⟨w.heap.size, 0, none⟩ = some (.string ⟨xk.toArray⟩) := hblk.cell 0
  have s1 : W1.cell? ⟨w.heap.size, 1, none⟩ = some (.int .i64 xs) := hblk.cell 1
  have s2 : W1.cell? ⟨w.heap.size, 2, none⟩ = some (.int .i64 xu) := hblk.cell 2
  have s3 : W1.cell? ⟨w.heap.size, 3, none⟩ = some (.int .i64 xo) := hblk.cell 3
  clear h hn hcp hl hs hv hbw hblk hof hwi hst hT hR hcc hkR
  unfold entV
  go_enter Tryz.func50, Tryz.ntmps50
  go_wp2_with fail
  go_region_held3 (fun w' => w'.cell? ⟨w.heap.size, 0, none⟩ = some (.string ⟨xk.toArray⟩) ∧ w'.cell? ⟨w.heap.size, 1, none⟩ = some (.int .i64 xs) ∧ w'.cell? ⟨w.heap.size, 2, none⟩ = some (.int .i64 xu) ∧ w'.cell? ⟨w.heap.size, 3, none⟩ = some (.int .i64 xo))
    (first | go_keep | exact HSK.out _ HWD.out | exact HSK.out _ HWC.out)
    (first
      | (go_at_call 14; refine (HOF.out _ HDR.out).mono ?_; rintro e w3 ⟨A3, c3, rfl, _, hb⟩; (have HWC : Hid (Below W1.heap.size W1 w3) := Lib.hid (HDR.out.trans (hb.mono HDR.out.size))); (have hfld := field_tag ⟨R.k.toArray⟩ R.s R.u R.o R.has A3 R.v.length c3); clear hb)
      | (go_at_call 64; refine (refcompare_val _ _ _ _ _ _ _ HCC _).mono ?_; rintro e w4 ⟨rfl, hb⟩; (have HWD : Hid (Below W1.heap.size W1 w4) := Lib.hid (HWC.out.trans (hb.mono HWC.out.size))); clear hb))
  by_cases hlt : cc < 0
  · go_wp2
    go_ret
    have e := HTT.out
    rw [if_pos hlt] at e
    rw [← e]
    exact HST.out _ HWD.out
  · have hge : 0 ≤ cc := by omega
    have HTE : Hid (putK kE (us.map Prod.fst) ⟨xk, xs, xu, xo, xh, xv⟩ = T) := Lib.hid (by have e := HTT.out; rw [if_neg hlt] at e; exact e)
    have HB4 := Lib.hid (HBLK.out.below HWD.out HBLK.out.lt)
    have t0 : w4.cell? ⟨w.heap.size, 0, none⟩ = some (.string ⟨xk.toArray⟩) := HB4.out.cell 0
    have t1 : w4.cell? ⟨w.heap.size, 1, none⟩ = some (.int .i64 xs) := HB4.out.cell 1
    have t2 : w4.cell? ⟨w.heap.size, 2, none⟩ = some (.int .i64 xu) := HB4.out.cell 2
    have t3 : w4.cell? ⟨w.heap.size, 3, none⟩ = some (.int .i64 xo) := HB4.out.cell 3
    have t4 : w4.cell? ⟨w.heap.size, 4, none⟩ = some (.bool xh) := HB4.out.cell 4
    have t5 : w4.cell? ⟨w.heap.size, 5, none⟩ = some (.slice xA xv.length xc) := HB4.out.cell 5
    clear hlt
    go_wp2_with fail
    refine (HWI.out _ HWD.out).mono ?_
    rintro e w5 ⟨vs, A5, c5, hvs, rfl, hc5, he5, hb5⟩
    have HR5 : Hid (WithP T w (.returned (.slice A5 vs.length c5)) w5) := Lib.hid ⟨vs, A5, c5, hvs.trans HTE.out, rfl, hc5, he5, (HBW.out.trans (HWD.out.mono HBW.out.size)).trans (hb5.mono (Nat.le_trans HBW.out.size HWD.out.size))⟩
    clear hvs hc5 he5 hb5
    go_wp2
    go_ret
    exact HR5.out
end Go.Proofs.YtdmoogbmaodfnaaGreat
