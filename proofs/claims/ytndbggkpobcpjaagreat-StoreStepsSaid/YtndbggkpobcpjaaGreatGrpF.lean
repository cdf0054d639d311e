/- Put of what is newer, told by the reference (written by tools/gen_refpn8.py). -/
/- Put, told by the reference: where the log is full; the whole (written by tools/gen_refpn8.py). -/
import Derived.Test.YtndbggkpobcpjaaGreatGrpE
import Derived.Test.YtndbggkpobcpjaaGreatRefCm8
import Derived.Test.YtndbggkpobcpjaaGreatGrpD
namespace Go.Proofs.YtndbggkpobcpjaaGreat
open Go.RowKit Go.ChangeShapes Mem Be Word Frm Go.Maps
set_option maxRecDepth 100000
set_option maxHeartbeats 8000000
set_option linter.unusedVariables false
theorem refput8_new (F : Nat → Prop) (S : St8) (q : Nat) (x : EV) (who : Int) (hm : mayP x.1 who) (hnew : 0 < cmpE x.1 (ofT S.N x.1.k)) (hq : q ≤ 4611686018427387904) (hle : S.m ≤ S.rs.length) (hmx : (allB S.rs).length ≤ 4194304) (hok : OkT S.N) (hnl : S.N.length ≤ 100000000) (hac : S.acks.length ≤ 1466015503701) (hfit : (allB (S.rs ++ [(1, putE x.1)])).length ≤ 4194304) (w : World) (hF : ∀ k, F k → k < w.heap.size) (hv : ValN F w x) (v : Value) (h : RefTV F S q w v) :
    Calls Tryz.prog 20 #[v, .agg #[.string ⟨x.1.k.toArray⟩, .int .i64 x.1.s, .int .i64 x.1.u, .int .i64 x.1.o, .bool x.1.has, .slice x.2.1 x.1.v.length x.2.2], .int .i64 who] w (RefTP F (fun v => .tuple #[v, .int .i64 0]) (pushS (writeS S x.1).1 (ackOf x.1 who)) q w) := by
  obtain ⟨i1, hi1, hk1, hk2, hk3⟩ := info_parts info_ack
  obtain ⟨AL, cL, AT, cT, R, c, vs, AU, cU, us, AV, cV, ls, AC, cC, rfl, h⟩ := h
  obtain ⟨W0, hW0, hb0, hkt, hke, hkr⟩ := p8_w0 w (.slice AL (allB (S.rs.take S.m)).length cL) (.slice AT (allB (S.rs.drop S.m)).length cT) (.int .i64 (q : Int)) (.slice R vs.length c) (.int .i64 (S.m : Int)) (.slice AU us.length cU) (.slice AV ls.length cV) (.slice AC S.acks.length cC) (.string ⟨x.1.k.toArray⟩) (.int .i64 x.1.s) (.int .i64 x.1.u) (.int .i64 x.1.o) (.bool x.1.has) (.slice x.2.1 x.1.v.length x.2.2)
  have h0 : RefTR W0 (AndB (AndB F w.heap.size) (w.heap.size + 1 + 1)) S AL cL AT cT R c vs AU cU us AV cV ls AC cC := h.step (Touch.ofBelow hb0) fun k hk => by
    rcases hk with (hk | hk) | hk
    · exact Or.inl hk
    · exact Or.inr (by omega)
    · exact Or.inr (by omega)
  have hF0 : ∀ k, AndB (AndB F w.heap.size) (w.heap.size + 1 + 1) k → k < W0.heap.size := fun k hk => by
    have h1 := hkr.lt
    rcases hk with (hk | hk) | hk
    · have := hF k hk; omega
    · omega
    · omega
  have hyes := rightE_yes hm.1
  have hk : (⟨x.1.k.toArray⟩ : ByteArray).size = x.1.k.length := by show x.1.k.toArray.size = _; simp
  have hrg := refright_big ⟨x.1.k.toArray⟩ x.1.s x.1.u x.1.o x.1.has x.2.1 x.1.v.length x.2.2 (by omega) (by rw [hk]; omega) W0
  rw [hk, show rightE x.1.k.length x.1.v.length x.1.s x.1.u x.1.o x.1.has = 0 from hm.1] at hrg
  unfold entV at hrg
  have hs0 : (x.1.s == 0) = false := by simpa using hm.2.1
  have b1 : decide (who < 0) = false := by have := hm.2.2.1; simp; omega
  have b2 : decide ((1048575 : Int) < who) = false := by have := hm.2.2.2; simp; omega
  have hun : us.length ≤ 100000000 := by rw [← h.un, List.length_map] at hnl; exact hnl
  obtain ⟨E, hE⟩ : ∃ E, ofT S.N x.1.k = E := ⟨_, rfl⟩
  rw [hE] at hnew
  unfold cmpE at hnew
  obtain ⟨cc, hcc⟩ : ∃ cc, cmpT x.1.s x.1.u x.1.o E.s E.u E.o = cc := ⟨_, rfl⟩
  rw [hcc] at hnew
  have HCC := Lib.hid hcc
  have hcb : decide ((0 : Int) < cc) = true := by simpa using hnew
  have HOF : Hid (∀ W, Below W0.heap.size W0 W → Calls Tryz.prog 13 #[.slice AU us.length cU, .string ⟨x.1.k.toArray⟩] W (RefE E W)) := Lib.hid fun W hb => by
    have := refof_any us.length cU AU us x.1.k rfl (by omega) W (h0.ue.below hb).env
    rw [h0.un, hE] at this
    exact this
  have HRG := Lib.hid hrg
  have HB0 := Lib.hid hb0
  have HKT := Lib.hid hkt
  have HKE := Lib.hid hke
  have HKR0 := Lib.hid hkr
  have HT0 := Lib.hid h0
  have HW0 := Lib.hid hW0
  have HFF := Lib.hid hF0
  have HAC := Lib.hid hac
  have HM := Lib.hid hm
  have HFIT := Lib.hid hfit
  have HLE := Lib.hid hle
  have HMX := Lib.hid hmx
  have HOKT := Lib.hid hok
  have HNL := Lib.hid hnl
  have HQ := Lib.hid hq
  have HV0 : Hid (ValN (AndB (AndB F w.heap.size) (w.heap.size + 1 + 1)) W0 x) := Lib.hid ⟨hv.1.grow (fun k hk => by
    rcases hk with (hk | hk) | hk
    · exact Or.inl hk
    · exact Or.inr (by omega)
    · exact Or.inr (by omega)) (Touch.ofBelow hb0), hv.2⟩
  have HUL := Lib.hid hun
  clear hF h hb0 hkt hke hkr h0 hW0 hrg hk hm hyes hun hE hcc hnew hnl hac hF0 hv hfit hle hmx hok hq
  go_enter Tryz.func20, Tryz.ntmps20
  go_wp2_with fail
  rw [HW0.out]
  refine HRG.out.mono ?_
  rintro e w2 ⟨rfl, hb2⟩
  have HB2 := Lib.hid hb2
  have HDR : Hid (Below W0.heap.size W0 w2.drew) := Lib.hid hb2.drew
  have HSK : Hid (∀ w' : World, Below W0.heap.size W0 w' → w'.cell? ⟨w.heap.size, 5, none⟩ = some (.slice AU us.length cU) ∧ w'.cell? ⟨w.heap.size + 1, 0, none⟩ = some (.string ⟨x.1.k.toArray⟩) ∧ w'.cell? ⟨w.heap.size + 1, 1, none⟩ = some (.int .i64 x.1.s) ∧ w'.cell? ⟨w.heap.size + 1, 2, none⟩ = some (.int .i64 x.1.u) ∧ w'.cell? ⟨w.heap.size + 1, 3, none⟩ = some (.int .i64 x.1.o)) := Lib.hid fun W' hw => by
    have ht := HKT.out.below hw HKT.out.lt
    have he := HKE.out.below hw HKE.out.lt
    exact ⟨ht.cell 5, he.cell 0, he.cell 1, he.cell 2, he.cell 3⟩
  obtain ⟨s0, s1, s2, s3, s4⟩ := HSK.out w2 hb2
  have e0 : (((0 : Int) != 0)) = false := rfl
  clear hb2
  go_wp2_with fail
  go_region_held3 (fun w' => w'.cell? ⟨w.heap.size, 5, none⟩ = some (.slice AU us.length cU) ∧ w'.cell? ⟨w.heap.size + 1, 0, none⟩ = some (.string ⟨x.1.k.toArray⟩) ∧ w'.cell? ⟨w.heap.size + 1, 1, none⟩ = some (.int .i64 x.1.s) ∧ w'.cell? ⟨w.heap.size + 1, 2, none⟩ = some (.int .i64 x.1.u) ∧ w'.cell? ⟨w.heap.size + 1, 3, none⟩ = some (.int .i64 x.1.o))
    (first | go_keep | exact HSK.out _ HWD.out | exact HSK.out _ HWC.out)
    (first
      | (go_at_call 13; refine (HOF.out _ HDR.out).mono ?_; rintro e w3 ⟨A3, c3, rfl, _, hb⟩; (have HWC : Hid (Below W0.heap.size W0 w3) := Lib.hid (HDR.out.trans (hb.mono HDR.out.size))); (have hfld := field_tag ⟨E.k.toArray⟩ E.s E.u E.o E.has A3 E.v.length c3); clear hb)
      | (go_at_call 50; refine (refcompare_val _ _ _ _ _ _ _ HCC _).mono ?_; rintro e w4 ⟨rfl, hb⟩; (have HWD : Hid (Below W0.heap.size W0 w4) := Lib.hid (HWC.out.trans (hb.mono HWC.out.size))); clear hb))
  have HT4 := Lib.hid (HT0.out.below HWD.out)
  have HKE4 := Lib.hid (HKE.out.below HWD.out HKE.out.lt)
  have HKT4 := Lib.hid (HKT.out.below HWD.out HKT.out.lt)
  have HKR4 := Lib.hid (HKR0.out.below HWD.out HKR0.out.lt)
  have y0 : w4.cell? ⟨w.heap.size + 1, 0, none⟩ = some (.string ⟨x.1.k.toArray⟩) := HKE4.out.cell 0
  have y1 : w4.cell? ⟨w.heap.size + 1, 1, none⟩ = some (.int .i64 x.1.s) := HKE4.out.cell 1
  have y2 : w4.cell? ⟨w.heap.size + 1, 2, none⟩ = some (.int .i64 x.1.u) := HKE4.out.cell 2
  have y3 : w4.cell? ⟨w.heap.size + 1, 3, none⟩ = some (.int .i64 x.1.o) := HKE4.out.cell 3
  have y4 : w4.cell? ⟨w.heap.size + 1, 4, none⟩ = some (.bool x.1.has) := HKE4.out.cell 4
  have y5 : w4.cell? ⟨w.heap.size + 1, 5, none⟩ = some (.slice x.2.1 x.1.v.length x.2.2) := HKE4.out.cell 5
  have HBY := Lib.hid (refbytesE_any x HM.out.1 w4 (HV0.out.below HWD.out).ok)
  clear s0 s1 s2 s3 s4
  go_wp2_with fail
  refine HBY.out.mono ?_
  rintro e w5 ⟨A5, c5, rfl, ho5, hb5⟩
  have hb05 : Below W0.heap.size W0 w5 := HWD.out.trans (hb5.mono HWD.out.size)
  have HB5 := Lib.hid hb05
  have HT5 := Lib.hid (HT0.out.below hb05)
  have HKE5 := Lib.hid (HKE.out.below hb05 HKE.out.lt)
  have HKT5 := Lib.hid (HKT.out.below hb05 HKT.out.lt)
  have HKR5 := Lib.hid (HKR0.out.below hb05 HKR0.out.lt)
  have HO5 : Hid (RowN (AndB (AndB F w.heap.size) (w.heap.size + 1 + 1)) w5 A5 ((putE x.1).map byteV)) := Lib.hid (rowN_made (fun k hk => Nat.lt_of_lt_of_le (HFF.out k hk) HWD.out.size) ho5)
  have t0 : w5.cell? ⟨w.heap.size, 0, none⟩ = some (.slice AL (allB (S.rs.take S.m)).length cL) := HKT5.out.cell 0
  have t1 : w5.cell? ⟨w.heap.size, 1, none⟩ = some (.slice AT (allB (S.rs.drop S.m)).length cT) := HKT5.out.cell 1
  have t2 : w5.cell? ⟨w.heap.size, 2, none⟩ = some (.int .i64 (q : Int)) := HKT5.out.cell 2
  have t3 : w5.cell? ⟨w.heap.size, 3, none⟩ = some (.slice R vs.length c) := HKT5.out.cell 3
  have t4 : w5.cell? ⟨w.heap.size, 4, none⟩ = some (.int .i64 (S.m : Int)) := HKT5.out.cell 4
  have HFB : Hid (∀ k, AndB (AndB F w.heap.size) (w.heap.size + 1 + 1) k → k < w5.heap.size) := Lib.hid fun k hk => Nat.lt_of_lt_of_le (HFF.out k hk) hb05.size
  have hal5 : Below w5.heap.size w5 (w5.alloc (.cells #[.slice A5 (putE x.1).length c5] 27)) := (Below.refl _ _).alloc (Nat.le_refl _) _
  have hvm : vs.length ≤ 1000000 := by
    have h1 := many_of (rs := vs.map rcOf) (M := 4194304) (by rw [HT0.out.rs]; exact HMX.out)
    rw [List.length_map] at h1; omega
  have hsum := all_drop S.rs S.m
  have hmx2 : (allB (S.rs.take S.m)).length + (allB (S.rs.drop S.m)).length ≤ 4194304 := by have := HMX.out; rw [hsum, List.length_append] at this; exact this
  have hpl := putE_len HM.out.1
  have hfit := HFIT.out
  rw [all_app, hsum, List.length_append, List.length_append] at hfit
  have HAP := Lib.hid (refapp_any (AndB (AndB F w.heap.size) (w.heap.size + 1 + 1)) AL AT R cL cT c S.m q (allB (S.rs.take S.m)) (allB (S.rs.drop S.m)) vs hmx2 hvm HQ.out 1 (by decide) (some ⟨w5.heap.size, 0, none⟩) 1 [(A5, putE x.1, c5)] (by simp) (fun b hb => by
    have : b = putE x.1 := by simpa [bytesR] using hb
    rw [this]; exact hpl) (by exact hfit) (w5.alloc (.cells #[.slice A5 (putE x.1).length c5] 27)) (fun k hk => Nat.lt_of_lt_of_le (HFB.out k hk) hal5.size) (HT5.out.log.below hal5)
    (rowN_new _ rfl (fun hf => Nat.lt_irrefl _ (HFB.out _ hf)) rfl) (fun r hr => by
      have : r = (A5, putE x.1, c5) := by simpa using hr
      subst this
      exact HO5.out.below hal5))
  clear hb5 hb05 ho5 hsum hmx2 hvm hfit y0 y1 y2 y3 y4 y5
  obtain ⟨T2, hT2⟩ : ∃ T2, allB (S.rs.drop S.m) ++ allB (newR 1 (bytesR [((A5, putE x.1, c5) : RowV)])) = T2 := ⟨_, rfl⟩
  rw [hT2] at HAP
  have HTE := Lib.hid hT2
  have HAL5 := Lib.hid hal5
  clear hT2 hal5
  go_wp2_with fail
  refine HAP.out.mono ?_
  rintro e w6 ⟨AL2, cL2, AT2, cT2, R2, c2, vs2, hvs2, rfl, hl2, hb6⟩
  have hb56 : Below w5.heap.size w5 w6 := HAL5.out.trans (hb6.mono HAL5.out.size)
  have HB56 := Lib.hid hb56
  have hb06 := HB5.out.trans (hb56.mono HB5.out.size)
  have HB6 := Lib.hid hb06
  have HKE6 := Lib.hid (HKE.out.below hb06 HKE.out.lt)
  have HKT6 := Lib.hid (HKT.out.below hb06 HKT.out.lt)
  have HKR6 := Lib.hid (HKR0.out.below hb06 HKR0.out.lt)
  have HZ1 : w.heap.size < w6.heap.size := HKT6.out.lt
  have HZ2 : w.heap.size + 1 < w6.heap.size := HKE6.out.lt
  have HZ3 : w.heap.size + 1 + 1 < w6.heap.size := HKR6.out.lt
  have HVS2 := Lib.hid hvs2
  have HL2 := Lib.hid hl2
  have f0 : w6.cell? ⟨w.heap.size, 0, none⟩ = some (.slice AL (allB (S.rs.take S.m)).length cL) := HKT6.out.cell 0
  have zt0 := HKT6.out.frozen 0
  have f1 : w6.cell? ⟨w.heap.size, 1, none⟩ = some (.slice AT (allB (S.rs.drop S.m)).length cT) := HKT6.out.cell 1
  have zt1 := HKT6.out.frozen 1
  have f2 : w6.cell? ⟨w.heap.size, 2, none⟩ = some (.int .i64 (q : Int)) := HKT6.out.cell 2
  have zt2 := HKT6.out.frozen 2
  have f3 : w6.cell? ⟨w.heap.size, 3, none⟩ = some (.slice R vs.length c) := HKT6.out.cell 3
  have zt3 := HKT6.out.frozen 3
  have f4 : w6.cell? ⟨w.heap.size, 4, none⟩ = some (.int .i64 (S.m : Int)) := HKT6.out.cell 4
  have zt4 := HKT6.out.frozen 4
  have f5 : w6.cell? ⟨w.heap.size, 5, none⟩ = some (.slice AU us.length cU) := HKT6.out.cell 5
  have zt5 := HKT6.out.frozen 5
  have f6 : w6.cell? ⟨w.heap.size, 6, none⟩ = some (.slice AV ls.length cV) := HKT6.out.cell 6
  have zt6 := HKT6.out.frozen 6
  have f7 : w6.cell? ⟨w.heap.size, 7, none⟩ = some (.slice AC S.acks.length cC) := HKT6.out.cell 7
  have zt7 := HKT6.out.frozen 7
  have y0 : w6.cell? ⟨w.heap.size + 1, 0, none⟩ = some (.string ⟨x.1.k.toArray⟩) := HKE6.out.cell 0
  have y1 : w6.cell? ⟨w.heap.size + 1, 1, none⟩ = some (.int .i64 x.1.s) := HKE6.out.cell 1
  have y2 : w6.cell? ⟨w.heap.size + 1, 2, none⟩ = some (.int .i64 x.1.u) := HKE6.out.cell 2
  have y3 : w6.cell? ⟨w.heap.size + 1, 3, none⟩ = some (.int .i64 x.1.o) := HKE6.out.cell 3
  have y4 : w6.cell? ⟨w.heap.size + 1, 4, none⟩ = some (.bool x.1.has) := HKE6.out.cell 4
  have y5 : w6.cell? ⟨w.heap.size + 1, 5, none⟩ = some (.slice x.2.1 x.1.v.length x.2.2) := HKE6.out.cell 5
  clear t0 t1 t2 t3 t4 hb56 hb06 hb6 hvs2 hl2
  obtain ⟨W7, hW7⟩ : ∃ W, (((((w6.setCell ⟨w.heap.size, 0, none⟩ (.slice AL2 (allB (S.rs.take S.m)).length cL2)).setCell ⟨w.heap.size, 1, none⟩ (.slice AT2 T2.length cT2)).setCell ⟨w.heap.size, 2, none⟩ (.int .i64 (q : Int))).setCell ⟨w.heap.size, 3, none⟩ (.slice R2 vs2.length c2)).setCell ⟨w.heap.size, 4, none⟩ (.int .i64 (S.m : Int))).alloc (.cells #[.slice AL2 (allB (S.rs.take S.m)).length cL2, .slice AT2 T2.length cT2, .int .i64 (q : Int), .slice R2 vs2.length c2, .int .i64 (S.m : Int)] 32) = W := ⟨_, rfl⟩
  have HW7 := Lib.hid hW7
  have htc7 : Touch (AndB (AndB F w.heap.size) (w.heap.size + 1 + 1)) w6 W7 := by
    rw [← hW7]
    exact ((((((Touch.refl _ w6).set_ (p := ⟨w.heap.size, 0, none⟩) (Or.inl (Or.inl (Or.inr rfl))) _).set_ (p := ⟨w.heap.size, 1, none⟩) (Or.inl (Or.inl (Or.inr rfl))) _).set_ (p := ⟨w.heap.size, 2, none⟩) (Or.inl (Or.inl (Or.inr rfl))) _).set_ (p := ⟨w.heap.size, 3, none⟩) (Or.inl (Or.inl (Or.inr rfl))) _).set_ (p := ⟨w.heap.size, 4, none⟩) (Or.inl (Or.inl (Or.inr rfl))) _).alloc _
  have hbl7 : Below w.heap.size w W7 := by
    rw [← hW7]
    have h0 := HB0.out.trans (HB6.out.mono HB0.out.size)
    have h5 := ((((h0.setCell (p := ⟨w.heap.size, 0, none⟩) (Nat.le_refl _) (.slice AL2 (allB (S.rs.take S.m)).length cL2)).setCell (p := ⟨w.heap.size, 1, none⟩) (Nat.le_refl _) (.slice AT2 T2.length cT2)).setCell (p := ⟨w.heap.size, 2, none⟩) (Nat.le_refl _) (.int .i64 (q : Int))).setCell (p := ⟨w.heap.size, 3, none⟩) (Nat.le_refl _) (.slice R2 vs2.length c2)).setCell (p := ⟨w.heap.size, 4, none⟩) (Nat.le_refl _) (.int .i64 (S.m : Int))
    exact h5.alloc h5.size _
  have hkt7 : Blk W7 w.heap.size 36 #[.slice AL2 (allB (S.rs.take S.m)).length cL2, .slice AT2 T2.length cT2, .int .i64 (q : Int), .slice R2 vs2.length c2, .int .i64 (S.m : Int), .slice AU us.length cU, .slice AV ls.length cV, .slice AC S.acks.length cC] := by
    rw [← hW7]
    have := ((((HKT6.out.set_ 0 (.slice AL2 (allB (S.rs.take S.m)).length cL2)).set_ 1 (.slice AT2 T2.length cT2)).set_ 2 (.int .i64 (q : Int))).set_ 3 (.slice R2 vs2.length c2)).set_ 4 (.int .i64 (S.m : Int))
    exact Blk.alloc (by simpa using this) _
  have hke7 : Blk W7 (w.heap.size + 1) 45 #[.string ⟨x.1.k.toArray⟩, .int .i64 x.1.s, .int .i64 x.1.u, .int .i64 x.1.o, .bool x.1.has, .slice x.2.1 x.1.v.length x.2.2] := by
    rw [← hW7]
    exact (((((HKE6.out.far (p := ⟨w.heap.size, 0, none⟩) (by simp) (.slice AL2 (allB (S.rs.take S.m)).length cL2)).far (p := ⟨w.heap.size, 1, none⟩) (by simp) (.slice AT2 T2.length cT2)).far (p := ⟨w.heap.size, 2, none⟩) (by simp) (.int .i64 (q : Int))).far (p := ⟨w.heap.size, 3, none⟩) (by simp) (.slice R2 vs2.length c2)).far (p := ⟨w.heap.size, 4, none⟩) (by simp) (.int .i64 (S.m : Int))).alloc _
  have hkr7 : Blk W7 (w.heap.size + 1 + 1) 36 #[.slice none 0 0, .slice none 0 0, .int .i64 0, .slice none 0 0, .int .i64 0, .slice none 0 0, .slice none 0 0, .slice none 0 0] := by
    rw [← hW7]
    exact (((((HKR6.out.far (p := ⟨w.heap.size, 0, none⟩) (by simp; omega) (.slice AL2 (allB (S.rs.take S.m)).length cL2)).far (p := ⟨w.heap.size, 1, none⟩) (by simp; omega) (.slice AT2 T2.length cT2)).far (p := ⟨w.heap.size, 2, none⟩) (by simp; omega) (.int .i64 (q : Int))).far (p := ⟨w.heap.size, 3, none⟩) (by simp; omega) (.slice R2 vs2.length c2)).far (p := ⟨w.heap.size, 4, none⟩) (by simp; omega) (.int .i64 (S.m : Int))).alloc _
  have hT7 := (HT0.out.below HB6.out).step htc7 (F' := AndB (AndB F w.heap.size) (w.heap.size + 1 + 1)) (fun k hk => Or.inl hk)
  have hF7 : ∀ k, AndB (AndB F w.heap.size) (w.heap.size + 1 + 1) k → k < W7.heap.size := fun k hk => Nat.lt_of_lt_of_le (Nat.lt_of_lt_of_le (HFF.out k hk) HB6.out.size) htc7.size
  have hv7 : ValN (AndB (AndB F w.heap.size) (w.heap.size + 1 + 1)) W7 x := ⟨(HV0.out.below HB6.out).1.touch htc7, HV0.out.2⟩
  have hun7 := hT7.un
  have hwt := refwithN_any W7 (AndB (AndB F w.heap.size) (w.heap.size + 1 + 1)) hF7 us.length cU AU us x rfl hT7.uc HUL.out hT7.ue (by rw [hun7]; exact HOKT.out.srt) hv7
  rw [hun7] at hwt
  unfold entV at hwt
  have HWT := Lib.hid hwt
  have HBL7 := Lib.hid hbl7
  have HKT7 := Lib.hid hkt7
  have HKE7 := Lib.hid hke7
  have HKR7 := Lib.hid hkr7
  have HT7 := Lib.hid hT7
  have HF7 := Lib.hid hF7
  have HL7 := Lib.hid (HL2.out.step htc7 (F' := AndB (AndB F w.heap.size) (w.heap.size + 1 + 1)) (fun k hk => Or.inl hk))
  clear hW7 htc7 hbl7 hkt7 hke7 hkr7 hT7 hF7 hv7 hun7 hwt
  go_wp2_with fail
  rw [HW7.out]
  refine HWT.out.mono ?_
  rintro e w8 ⟨vs8, A8, c8, hvs8, rfl, hc8, he8, hb8⟩
  have HKT8 := Lib.hid (HKT7.out.below hb8 HKT7.out.lt)
  have HKE8 := Lib.hid (HKE7.out.below hb8 HKE7.out.lt)
  have HKR8 := Lib.hid (HKR7.out.below hb8 HKR7.out.lt)
  have HZ8 : w.heap.size < w8.heap.size := HKT8.out.lt
  have HZ9 : w.heap.size + 1 < w8.heap.size := HKE8.out.lt
  have HZ10 : w.heap.size + 1 + 1 < w8.heap.size := HKR8.out.lt
  have HE8 := Lib.hid he8
  have HC8 := Lib.hid hc8
  have HV8 := Lib.hid hvs8
  have hbl8 := HBL7.out.trans (hb8.mono HBL7.out.size)
  obtain ⟨W9, hW9⟩ : ∃ W, w8.setCell ⟨w.heap.size, 5, none⟩ (.slice A8 vs8.length c8) = W := ⟨_, rfl⟩
  have HW9 := Lib.hid hW9
  have htc9 : Touch (AndB (AndB F w.heap.size) (w.heap.size + 1 + 1)) w8 W9 := by
    rw [← hW9]
    exact (Touch.refl _ w8).set_ (p := ⟨w.heap.size, 5, none⟩) (Or.inl (Or.inl (Or.inr rfl))) _
  have hkt9 : Blk W9 w.heap.size 36 #[.slice AL2 (allB (S.rs.take S.m)).length cL2, .slice AT2 T2.length cT2, .int .i64 (q : Int), .slice R2 vs2.length c2, .int .i64 (S.m : Int), .slice A8 vs8.length c8, .slice AV ls.length cV, .slice AC S.acks.length cC] := by
    rw [← hW9]
    have := HKT8.out.set_ 5 (.slice A8 vs8.length c8)
    simpa using this
  have HKT9 := Lib.hid hkt9
  have HKE9 : Hid (Blk W9 (w.heap.size + 1) 45 #[.string ⟨x.1.k.toArray⟩, .int .i64 x.1.s, .int .i64 x.1.u, .int .i64 x.1.o, .bool x.1.has, .slice x.2.1 x.1.v.length x.2.2]) := Lib.hid (by rw [← hW9]; exact HKE8.out.far (p := ⟨w.heap.size, 5, none⟩) (by simp) _)
  have HKR9 : Hid (Blk W9 (w.heap.size + 1 + 1) 36 #[.slice none 0 0, .slice none 0 0, .int .i64 0, .slice none 0 0, .int .i64 0, .slice none 0 0, .slice none 0 0, .slice none 0 0]) := Lib.hid (by rw [← hW9]; exact HKR8.out.far (p := ⟨w.heap.size, 5, none⟩) (by simp; omega) _)
  have HBL9 : Hid (Below w.heap.size w W9) := Lib.hid (by rw [← hW9]; exact hbl8.setCell (p := ⟨w.heap.size, 5, none⟩) (Nat.le_refl _) _)
  have hT8 := HT7.out.below hb8
  have hT9 := hT8.step htc9 (F' := AndB (AndB F w.heap.size) (w.heap.size + 1 + 1)) (fun k hk => Or.inl hk)
  have HL9 := Lib.hid ((HL7.out.below hb8).step htc9 (F' := AndB (AndB F w.heap.size) (w.heap.size + 1 + 1)) (fun k hk => Or.inl hk))
  have HE9 := Lib.hid (he8.to (F' := AndB (AndB F w.heap.size) (w.heap.size + 1 + 1)) (fun k hk => Or.inl hk) htc9)
  have HT9 := Lib.hid hT9
  have HFA : Hid (∀ k, AndB (AndB F w.heap.size) (w.heap.size + 1 + 1) k → k < W9.heap.size) := Lib.hid fun k hk => Nat.lt_of_lt_of_le (Nat.lt_of_lt_of_le (HF7.out k hk) hb8.size) htc9.size
  have zt5 := HKT8.out.frozen 5
  have t5 : w8.cell? ⟨w.heap.size, 5, none⟩ = some (.slice AU us.length cU) := HKT8.out.cell 5
  have t7 : w8.cell? ⟨w.heap.size, 7, none⟩ = some (.slice AC S.acks.length cC) := HKT8.out.cell 7
  have t79 : W9.cell? ⟨w.heap.size, 7, none⟩ = some (.slice AC S.acks.length cC) := HKT9.out.cell 7
  have HRA : Hid (Row W9 W9.heap.size AC (acksC S.acks)) := Lib.hid (hT9.ar).row
  clear f0 zt0 f1 zt1 f2 zt2 f3 zt3 f4 zt4 f6 zt6 f7 zt7 f5 y0 y1 y2 y3 y4 y5 hb8 hc8 he8 hvs8 hbl8 htc9 hkt9 hT8 hT9
  go_wp2_with (at_builtin; refine wpList_appS (P := Tryz.prog) (by rfl) _ _ _ (by rfl) W9.heap.size 60 i1 (.agg #[.int .i64 0, .string .empty, .int .i64 0, .int .i64 0, .int .i64 0]) 5 48 Tryz.underlying34 hi1 hk1 hk2 hk3 rfl (by decide) (.slice none 0 0) 0 [] (by rfl) (World.ownsRow_nil _ _ _ _) W9.heap.size AC S.acks.length cC (acksC S.acks) (by rfl) (acksC_len _) (by exact HRA.out) (acksC_one _) (by have := HAC.out; unfold maxLen; omega) (by have := HAC.out; omega) (Nat.le_refl _) ?_)
  intro v' p5 hown hgr _
  have HP5 : Hid (Below W9.heap.size W9 p5) := Lib.hid ((Below.refl _ _).grown hgr (Nat.le_refl _) (fun g hg => by simp [Value.ownBlock] at hg))
  obtain ⟨P5, d5, rfl, _, _⟩ := ownShape hown
  have HKEp := Lib.hid (HKE9.out.below HP5.out HKE9.out.lt)
  have d0 : p5.cell? ⟨w.heap.size + 1, 0, none⟩ = some (.string ⟨x.1.k.toArray⟩) := HKEp.out.cell 0
  have d1 : p5.cell? ⟨w.heap.size + 1, 1, none⟩ = some (.int .i64 x.1.s) := HKEp.out.cell 1
  have d2 : p5.cell? ⟨w.heap.size + 1, 2, none⟩ = some (.int .i64 x.1.u) := HKEp.out.cell 2
  have d3 : p5.cell? ⟨w.heap.size + 1, 3, none⟩ = some (.int .i64 x.1.o) := HKEp.out.cell 3
  have hal := (Below.refl p5.heap.size p5).alloc (Nat.le_refl _) (.cells ⟨ackC (ackOf x.1 who)⟩ 60)
  have HOA : Hid ((p5.alloc (.cells ⟨ackC (ackOf x.1 who)⟩ 60)).ownsRow W9.heap.size 60 5 (.slice P5 S.acks.length d5) S.acks.length (acksC S.acks)) := Lib.hid (ownLater hown hal)
  have HRL : Hid (Row (p5.alloc (.cells ⟨ackC (ackOf x.1 who)⟩ 60)) (p5.heap.size + 1) (some ⟨p5.heap.size, 0, none⟩) (acksC [ackOf x.1 who])) := Lib.hid (ack_lit (by exact Blk.new p5 60 ⟨ackC (ackOf x.1 who)⟩) (Nat.lt_succ_self _))
  have HPA : Hid (Below W9.heap.size W9 (p5.alloc (.cells ⟨ackC (ackOf x.1 who)⟩ 60))) := Lib.hid (HP5.out.trans (hal.mono HP5.out.size))
  clear hown hgr hal t5 t7 t79 zt5 hW9
  go_wp2_with (at_builtin; refine wpList_appS (P := Tryz.prog) (by rfl) _ _ _ (by rfl) W9.heap.size 60 i1 (.agg #[.int .i64 0, .string .empty, .int .i64 0, .int .i64 0, .int .i64 0]) 5 48 Tryz.underlying34 hi1 hk1 hk2 hk3 rfl (by decide) _ S.acks.length (acksC S.acks) (by rfl) (by exact HOA.out) (p5.heap.size + 1) (some ⟨p5.heap.size, 0, none⟩) 1 1 (acksC [ackOf x.1 who]) (by rfl) (by rfl) (by exact HRL.out) (acksC_one _) (by have := HAC.out; unfold maxLen; omega) (by have := HAC.out; omega) (by exact HPA.out.size) ?_)
  intro v' p6 hown hgr _
  have HP6 : Hid (Below W9.heap.size W9 p6) := Lib.hid (HPA.out.grown hgr HPA.out.size fun g hg => (HOA.out.lt g hg).1)
  rw [show acksC S.acks ++ ackC (ackOf x.1 who) = acksC (S.acks ++ [ackOf x.1 who]) by rw [acksC_app]; simp [acksC]] at hown
  obtain ⟨P6, d6, rfl, hcp, _⟩ := ownShape hown
  have HO6 := Lib.hid hown
  have HCp : Hid (S.acks.length + 1 ≤ d6) := Lib.hid hcp
  have hbp : Below W9.heap.size W9 p6 := HP6.out
  have HBp := Lib.hid hbp
  have HKTp := Lib.hid (HKT9.out.below hbp HKT9.out.lt)
  have HKRp := Lib.hid (HKR9.out.below hbp HKR9.out.lt)
  have HZ21 : w.heap.size < p6.heap.size := HKTp.out.lt
  have HZ23 : w.heap.size + 1 + 1 < p6.heap.size := HKRp.out.lt
  have zt7 := HKTp.out.frozen 7
  have f0 : p6.cell? ⟨w.heap.size, 0, none⟩ = some (.slice AL2 (allB (S.rs.take S.m)).length cL2) := HKTp.out.cell 0
  have f1 : p6.cell? ⟨w.heap.size, 1, none⟩ = some (.slice AT2 T2.length cT2) := HKTp.out.cell 1
  have f2 : p6.cell? ⟨w.heap.size, 2, none⟩ = some (.int .i64 (q : Int)) := HKTp.out.cell 2
  have f3 : p6.cell? ⟨w.heap.size, 3, none⟩ = some (.slice R2 vs2.length c2) := HKTp.out.cell 3
  have f4 : p6.cell? ⟨w.heap.size, 4, none⟩ = some (.int .i64 (S.m : Int)) := HKTp.out.cell 4
  have f5 : p6.cell? ⟨w.heap.size, 5, none⟩ = some (.slice A8 vs8.length c8) := HKTp.out.cell 5
  have f6 : p6.cell? ⟨w.heap.size, 6, none⟩ = some (.slice AV ls.length cV) := HKTp.out.cell 6
  have f7 : p6.cell? ⟨w.heap.size, 7, none⟩ = some (.slice AC S.acks.length cC) := HKTp.out.cell 7
  have r0 := HKRp.out.cell 0
  have z0 := HKRp.out.frozen 0
  have r1 := HKRp.out.cell 1
  have z1 := HKRp.out.frozen 1
  have r2 := HKRp.out.cell 2
  have z2 := HKRp.out.frozen 2
  have r3 := HKRp.out.cell 3
  have z3 := HKRp.out.frozen 3
  have r4 := HKRp.out.cell 4
  have z4 := HKRp.out.frozen 4
  have r5 := HKRp.out.cell 5
  have z5 := HKRp.out.frozen 5
  have r6 := HKRp.out.cell 6
  have z6 := HKRp.out.frozen 6
  have r7 := HKRp.out.cell 7
  have z7 := HKRp.out.frozen 7
  have HF := Lib.hid (set8_fin (HKRp.out.far (p := ⟨w.heap.size, 7, none⟩) (by simp; omega) (.slice P6 (S.acks.length + 1) d6)) (.slice AL2 (allB (S.rs.take S.m)).length cL2) (.slice AT2 T2.length cT2) (.int .i64 (q : Int)) (.slice R2 vs2.length c2) (.int .i64 (S.m : Int)) (.slice A8 vs8.length c8) (.slice AV ls.length cV) (.slice P6 (S.acks.length + 1) d6))
  have HTC : Hid (Touch (AndB (AndB F w.heap.size) (w.heap.size + 1 + 1)) p6 (set8 (p6.setCell ⟨w.heap.size, 7, none⟩ (.slice P6 (S.acks.length + 1) d6)) (w.heap.size + 1 + 1) (.slice AL2 (allB (S.rs.take S.m)).length cL2) (.slice AT2 T2.length cT2) (.int .i64 (q : Int)) (.slice R2 vs2.length c2) (.int .i64 (S.m : Int)) (.slice A8 vs8.length c8) (.slice AV ls.length cV) (.slice P6 (S.acks.length + 1) d6))) := Lib.hid (((Touch.refl _ p6).set_ (p := ⟨w.heap.size, 7, none⟩) (Or.inl (Or.inl (Or.inr rfl))) _).trans (set8_touch (F := AndB F w.heap.size) _ _ _ _ _ _ _ _) fun k hk => Or.inl hk)
  clear hown hgr hbp d0 d1 d2 d3 hcp
  go_wp2
  obtain ⟨W8, hW8⟩ : ∃ W, set8 (p6.setCell ⟨w.heap.size, 7, none⟩ (.slice P6 (S.acks.length + 1) d6)) (w.heap.size + 1 + 1) (.slice AL2 (allB (S.rs.take S.m)).length cL2) (.slice AT2 T2.length cT2) (.int .i64 (q : Int)) (.slice R2 vs2.length c2) (.int .i64 (S.m : Int)) (.slice A8 vs8.length c8) (.slice AV ls.length cV) (.slice P6 (S.acks.length + 1) d6) = W := ⟨_, rfl⟩
  rw [hW8] at HF HTC
  unfold set8 at hW8
  rw [hW8]
  have g0 := HF.out.1.cell 0
  have g1 := HF.out.1.cell 1
  have g2 := HF.out.1.cell 2
  have g3 := HF.out.1.cell 3
  have g4 := HF.out.1.cell 4
  have g5 := HF.out.1.cell 5
  have g6 := HF.out.1.cell 6
  have g7 := HF.out.1.cell 7
  refine bodyPost_ret (v := .tuple #[.agg #[.slice AL2 (allB (S.rs.take S.m)).length cL2, .slice AT2 T2.length cT2, .int .i64 (q : Int), .slice R2 vs2.length c2, .int .i64 (S.m : Int), .slice A8 vs8.length c8, .slice AV ls.length cV, .slice P6 (S.acks.length + 1) d6], .int .i64 0]) (by simp [results, Tryz.results20, go_sem, g0, g1, g2, g3, g4, g5, g6, g7]) rfl ?_
  have h9 := (HT9.out.below HBp.out).step HTC.out (F' := F) (fun k hk => Or.inl (Or.inl (Or.inl hk)))
  have hl9 := (HL9.out.below HBp.out).step HTC.out (F' := F) (fun k hk => Or.inl (Or.inl (Or.inl hk)))
  have he9 := (HE9.out.below HBp.out).to (F' := F) (fun k hk => Or.inl (Or.inl (Or.inl hk))) HTC.out
  have ha9 := (rowN_own (F := AndB (AndB F w.heap.size) (w.heap.size + 1 + 1)) (fun k hk => HFA.out k hk) HO6.out).grow (F' := F) (fun k hk => Or.inl (Or.inl (Or.inl hk))) HTC.out
  have hws : (writeS S x.1).1 = ⟨S.rs ++ [(1, putE x.1)], S.m, S.L, putK kE S.N x.1, S.acks⟩ := by unfold writeS; rw [if_pos HFIT.out]
  have e1 : allB ((S.rs ++ [(1, putE x.1)]).take S.m) = allB (S.rs.take S.m) := by rw [List.take_append_of_le_length HLE.out]
  have e2 : allB ((S.rs ++ [(1, putE x.1)]).drop S.m) = T2 := by rw [List.drop_append_of_le_length HLE.out, all_app, ← HTE.out]; rfl
  have e3 : vs2.map rcOf = S.rs ++ [(1, putE x.1)] := by rw [HVS2.out, h9.rs]; rfl
  refine ⟨_, rfl, ⟨AL2, cL2, AT2, cT2, R2, c2, vs2, A8, c8, vs8, AV, cV, ls, P6, d6, ?_, ?_⟩, HF.out.2.2.1 _ ((HBL9.out.trans (HBp.out.mono HBL9.out.size)).setCell (p := ⟨w.heap.size, 7, none⟩) (Nat.le_refl _) _) (by omega)⟩
  · rw [hws]
    simp [pushS, e1, e2]
  · rw [hws]
    refine ⟨e3, ?_, HV8.out, HC8.out, he9, h9.ln, h9.lc, h9.le, ha9, ?_⟩
    · show RefL _ F AL2 cL2 AT2 cT2 R2 c2 (allB ((S.rs ++ [(1, putE x.1)]).take S.m)) (allB ((S.rs ++ [(1, putE x.1)]).drop S.m)) vs2
      rw [e1, e2]
      exact hl9
    · simp [pushS]; exact HCp.out
end Go.Proofs.YtndbggkpobcpjaaGreat
namespace Go.Proofs.YtndbggkpobcpjaaGreat
open Go.RowKit Go.ChangeShapes Mem Be Word Frm Go.Maps
set_option maxRecDepth 100000
set_option maxHeartbeats 8000000
set_option linter.unusedVariables false
theorem refput8_full (F : Nat → Prop) (S : St8) (q : Nat) (x : EV) (who : Int) (hm : mayP x.1 who) (hnew : 0 < cmpE x.1 (ofT S.N x.1.k)) (hq : q ≤ 4611686018427387904) (hle : S.m ≤ S.rs.length) (hmx : (allB S.rs).length ≤ 4194304) (hok : OkT S.N) (hnl : S.N.length ≤ 100000000) (hac : S.acks.length ≤ 1466015503701) (hfit : ¬ (allB (S.rs ++ [(1, putE x.1)])).length ≤ 4194304) (w : World) (hF : ∀ k, F k → k < w.heap.size) (hv : ValN F w x) (v : Value) (h : RefTV F S q w v) :
    Calls Tryz.prog 20 #[v, .agg #[.string ⟨x.1.k.toArray⟩, .int .i64 x.1.s, .int .i64 x.1.u, .int .i64 x.1.o, .bool x.1.has, .slice x.2.1 x.1.v.length x.2.2], .int .i64 who] w (RefTP F (fun v => .tuple #[v, .int .i64 3]) S q w) := by
  obtain ⟨i1, hi1, hk1, hk2, hk3⟩ := info_parts info_ack
  obtain ⟨AL, cL, AT, cT, R, c, vs, AU, cU, us, AV, cV, ls, AC, cC, rfl, h⟩ := h
  obtain ⟨W0, hW0, hb0, hkt, hke, hkr⟩ := p8_w0 w (.slice AL (allB (S.rs.take S.m)).length cL) (.slice AT (allB (S.rs.drop S.m)).length cT) (.int .i64 (q : Int)) (.slice R vs.length c) (.int .i64 (S.m : Int)) (.slice AU us.length cU) (.slice AV ls.length cV) (.slice AC S.acks.length cC) (.string ⟨x.1.k.toArray⟩) (.int .i64 x.1.s) (.int .i64 x.1.u) (.int .i64 x.1.o) (.bool x.1.has) (.slice x.2.1 x.1.v.length x.2.2)
  have h0 : RefTR W0 (AndB (AndB F w.heap.size) (w.heap.size + 1 + 1)) S AL cL AT cT R c vs AU cU us AV cV ls AC cC := h.step (Touch.ofBelow hb0) fun k hk => by
    rcases hk with (hk | hk) | hk
    · exact Or.inl hk
    · exact Or.inr (by omega)
    · exact Or.inr (by omega)
  have hF0 : ∀ k, AndB (AndB F w.heap.size) (w.heap.size + 1 + 1) k → k < W0.heap.size := fun k hk => by
    have h1 := hkr.lt
    rcases hk with (hk | hk) | hk
    · have := hF k hk; omega
    · omega
    · omega
  have hyes := rightE_yes hm.1
  have hk : (⟨x.1.k.toArray⟩ : ByteArray).size = x.1.k.length := by show x.1.k.toArray.size = _; simp
  have hrg := refright_big ⟨x.1.k.toArray⟩ x.1.s x.1.u x.1.o x.1.has x.2.1 x.1.v.length x.2.2 (by omega) (by rw [hk]; omega) W0
  rw [hk, show rightE x.1.k.length x.1.v.length x.1.s x.1.u x.1.o x.1.has = 0 from hm.1] at hrg
  unfold entV at hrg
  have hs0 : (x.1.s == 0) = false := by simpa using hm.2.1
  have b1 : decide (who < 0) = false := by have := hm.2.2.1; simp; omega
  have b2 : decide ((1048575 : Int) < who) = false := by have := hm.2.2.2; simp; omega
  have hun : us.length ≤ 100000000 := by rw [← h.un, List.length_map] at hnl; exact hnl
  obtain ⟨E, hE⟩ : ∃ E, ofT S.N x.1.k = E := ⟨_, rfl⟩
  rw [hE] at hnew
  unfold cmpE at hnew
  obtain ⟨cc, hcc⟩ : ∃ cc, cmpT x.1.s x.1.u x.1.o E.s E.u E.o = cc := ⟨_, rfl⟩
  rw [hcc] at hnew
  have HCC := Lib.hid hcc
  have hcb : decide ((0 : Int) < cc) = true := by simpa using hnew
  have HOF : Hid (∀ W, Below W0.heap.size W0 W → Calls Tryz.prog 13 #[.slice AU us.length cU, .string ⟨x.1.k.toArray⟩] W (RefE E W)) := Lib.hid fun W hb => by
    have := refof_any us.length cU AU us x.1.k rfl (by omega) W (h0.ue.below hb).env
    rw [h0.un, hE] at this
    exact this
  have HRG := Lib.hid hrg
  have HB0 := Lib.hid hb0
  have HKT := Lib.hid hkt
  have HKE := Lib.hid hke
  have HKR0 := Lib.hid hkr
  have HT0 := Lib.hid h0
  have HW0 := Lib.hid hW0
  have HFF := Lib.hid hF0
  have HAC := Lib.hid hac
  have HM := Lib.hid hm
  have HFIT := Lib.hid hfit
  have HLE := Lib.hid hle
  have HMX := Lib.hid hmx
  have HOKT := Lib.hid hok
  have HNL := Lib.hid hnl
  have HQ := Lib.hid hq
  have HV0 : Hid (ValN (AndB (AndB F w.heap.size) (w.heap.size + 1 + 1)) W0 x) := Lib.hid ⟨hv.1.grow (fun k hk => by
    rcases hk with (hk | hk) | hk
    · exact Or.inl hk
    · exact Or.inr (by omega)
    · exact Or.inr (by omega)) (Touch.ofBelow hb0), hv.2⟩
  have HUL := Lib.hid hun
  clear hF h hb0 hkt hke hkr h0 hW0 hrg hk hm hyes hun hE hcc hnew hnl hac hF0 hv hfit hle hmx hok hq
  go_enter Tryz.func20, Tryz.ntmps20
  go_wp2_with fail
  rw [HW0.out]
  refine HRG.out.mono ?_
  rintro e w2 ⟨rfl, hb2⟩
  have HB2 := Lib.hid hb2
  have HDR : Hid (Below W0.heap.size W0 w2.drew) := Lib.hid hb2.drew
  have HSK : Hid (∀ w' : World, Below W0.heap.size W0 w' → w'.cell? ⟨w.heap.size, 5, none⟩ = some (.slice AU us.length cU) ∧ w'.cell? ⟨w.heap.size + 1, 0, none⟩ = some (.string ⟨x.1.k.toArray⟩) ∧ w'.cell? ⟨w.heap.size + 1, 1, none⟩ = some (.int .i64 x.1.s) ∧ w'.cell? ⟨w.heap.size + 1, 2, none⟩ = some (.int .i64 x.1.u) ∧ w'.cell? ⟨w.heap.size + 1, 3, none⟩ = some (.int .i64 x.1.o)) := Lib.hid fun W' hw => by
    have ht := HKT.out.below hw HKT.out.lt
    have he := HKE.out.below hw HKE.out.lt
    exact ⟨ht.cell 5, he.cell 0, he.cell 1, he.cell 2, he.cell 3⟩
  obtain ⟨s0, s1, s2, s3, s4⟩ := HSK.out w2 hb2
  have e0 : (((0 : Int) != 0)) = false := rfl
  clear hb2
  go_wp2_with fail
  go_region_held3 (fun w' => w'.cell? ⟨w.heap.size, 5, none⟩ = some (.slice AU us.length cU) ∧ w'.cell? ⟨w.heap.size + 1, 0, none⟩ = some (.string ⟨x.1.k.toArray⟩) ∧ w'.cell? ⟨w.heap.size + 1, 1, none⟩ = some (.int .i64 x.1.s) ∧ w'.cell? ⟨w.heap.size + 1, 2, none⟩ = some (.int .i64 x.1.u) ∧ w'.cell? ⟨w.heap.size + 1, 3, none⟩ = some (.int .i64 x.1.o))
    (first | go_keep | exact HSK.out _ HWD.out | exact HSK.out _ HWC.out)
    (first
      | (go_at_call 13; refine (HOF.out _ HDR.out).mono ?_; rintro e w3 ⟨A3, c3, rfl, _, hb⟩; (have HWC : Hid (Below W0.heap.size W0 w3) := Lib.hid (HDR.out.trans (hb.mono HDR.out.size))); (have hfld := field_tag ⟨E.k.toArray⟩ E.s E.u E.o E.has A3 E.v.length c3); clear hb)
      | (go_at_call 50; refine (refcompare_val _ _ _ _ _ _ _ HCC _).mono ?_; rintro e w4 ⟨rfl, hb⟩; (have HWD : Hid (Below W0.heap.size W0 w4) := Lib.hid (HWC.out.trans (hb.mono HWC.out.size))); clear hb))
  have HT4 := Lib.hid (HT0.out.below HWD.out)
  have HKE4 := Lib.hid (HKE.out.below HWD.out HKE.out.lt)
  have HKT4 := Lib.hid (HKT.out.below HWD.out HKT.out.lt)
  have HKR4 := Lib.hid (HKR0.out.below HWD.out HKR0.out.lt)
  have y0 : w4.cell? ⟨w.heap.size + 1, 0, none⟩ = some (.string ⟨x.1.k.toArray⟩) := HKE4.out.cell 0
  have y1 : w4.cell? ⟨w.heap.size + 1, 1, none⟩ = some (.int .i64 x.1.s) := HKE4.out.cell 1
  have y2 : w4.cell? ⟨w.heap.size + 1, 2, none⟩ = some (.int .i64 x.1.u) := HKE4.out.cell 2
  have y3 : w4.cell? ⟨w.heap.size + 1, 3, none⟩ = some (.int .i64 x.1.o) := HKE4.out.cell 3
  have y4 : w4.cell? ⟨w.heap.size + 1, 4, none⟩ = some (.bool x.1.has) := HKE4.out.cell 4
  have y5 : w4.cell? ⟨w.heap.size + 1, 5, none⟩ = some (.slice x.2.1 x.1.v.length x.2.2) := HKE4.out.cell 5
  have HBY := Lib.hid (refbytesE_any x HM.out.1 w4 (HV0.out.below HWD.out).ok)
  clear s0 s1 s2 s3 s4
  go_wp2_with fail
  refine HBY.out.mono ?_
  rintro e w5 ⟨A5, c5, rfl, ho5, hb5⟩
  have hb05 : Below W0.heap.size W0 w5 := HWD.out.trans (hb5.mono HWD.out.size)
  have HB5 := Lib.hid hb05
  have HT5 := Lib.hid (HT0.out.below hb05)
  have HKE5 := Lib.hid (HKE.out.below hb05 HKE.out.lt)
  have HKT5 := Lib.hid (HKT.out.below hb05 HKT.out.lt)
  have HKR5 := Lib.hid (HKR0.out.below hb05 HKR0.out.lt)
  have HO5 : Hid (RowN (AndB (AndB F w.heap.size) (w.heap.size + 1 + 1)) w5 A5 ((putE x.1).map byteV)) := Lib.hid (rowN_made (fun k hk => Nat.lt_of_lt_of_le (HFF.out k hk) HWD.out.size) ho5)
  have t0 : w5.cell? ⟨w.heap.size, 0, none⟩ = some (.slice AL (allB (S.rs.take S.m)).length cL) := HKT5.out.cell 0
  have t1 : w5.cell? ⟨w.heap.size, 1, none⟩ = some (.slice AT (allB (S.rs.drop S.m)).length cT) := HKT5.out.cell 1
  have t2 : w5.cell? ⟨w.heap.size, 2, none⟩ = some (.int .i64 (q : Int)) := HKT5.out.cell 2
  have t3 : w5.cell? ⟨w.heap.size, 3, none⟩ = some (.slice R vs.length c) := HKT5.out.cell 3
  have t4 : w5.cell? ⟨w.heap.size, 4, none⟩ = some (.int .i64 (S.m : Int)) := HKT5.out.cell 4
  have HFB : Hid (∀ k, AndB (AndB F w.heap.size) (w.heap.size + 1 + 1) k → k < w5.heap.size) := Lib.hid fun k hk => Nat.lt_of_lt_of_le (HFF.out k hk) hb05.size
  have hal5 : Below w5.heap.size w5 (w5.alloc (.cells #[.slice A5 (putE x.1).length c5] 27)) := (Below.refl _ _).alloc (Nat.le_refl _) _
  have hvm : vs.length ≤ 1000000 := by
    have h1 := many_of (rs := vs.map rcOf) (M := 4194304) (by rw [HT0.out.rs]; exact HMX.out)
    rw [List.length_map] at h1; omega
  have hsum := all_drop S.rs S.m
  have hmx2 : (allB (S.rs.take S.m)).length + (allB (S.rs.drop S.m)).length ≤ 4194304 := by have := HMX.out; rw [hsum, List.length_append] at this; exact this
  have hpl := putE_len HM.out.1
  have hfit := HFIT.out
  rw [all_app, hsum, List.length_append, List.length_append] at hfit
  have HAP := Lib.hid (refapp_full (AndB (AndB F w.heap.size) (w.heap.size + 1 + 1)) AL AT R cL cT c S.m q (allB (S.rs.take S.m)) (allB (S.rs.drop S.m)) vs hmx2 hvm HQ.out 1 (by decide) (some ⟨w5.heap.size, 0, none⟩) 1 [(A5, putE x.1, c5)] (by simp) (fun b hb => by
    have : b = putE x.1 := by simpa [bytesR] using hb
    rw [this]; exact hpl) (by show (allB [(1, putE x.1)]).length ≤ 1000000; rw [all_one, fr_len]; simp only; omega) (by show 4194304 < _ + _ + (allB [(1, putE x.1)]).length; omega) (w5.alloc (.cells #[.slice A5 (putE x.1).length c5] 27)) (fun k hk => Nat.lt_of_lt_of_le (HFB.out k hk) hal5.size) (HT5.out.log.below hal5)
    (rowN_new _ rfl (fun hf => Nat.lt_irrefl _ (HFB.out _ hf)) rfl) (fun r hr => by
      have : r = (A5, putE x.1, c5) := by simpa using hr
      subst this
      exact HO5.out.below hal5))
  clear hb5 hb05 ho5 hsum hmx2 hvm hfit y0 y1 y2 y3 y4 y5
  have HAL5 := Lib.hid hal5
  clear hal5
  go_wp2_with fail
  refine HAP.out.mono ?_
  rintro e w6 ⟨rfl, hl2, hb6⟩
  have hb56 : Below w5.heap.size w5 w6 := HAL5.out.trans (hb6.mono HAL5.out.size)
  have hb06 := HB5.out.trans (hb56.mono HB5.out.size)
  have HB6 := Lib.hid hb06
  have HKT6 := Lib.hid (HKT.out.below hb06 HKT.out.lt)
  have HKR6 := Lib.hid (HKR0.out.below hb06 HKR0.out.lt)
  have HZ1 : w.heap.size < w6.heap.size := HKT6.out.lt
  have HZ3 : w.heap.size + 1 + 1 < w6.heap.size := HKR6.out.lt
  have HT6 := Lib.hid (HT0.out.below hb06)
  have f0 : w6.cell? ⟨w.heap.size, 0, none⟩ = some (.slice AL (allB (S.rs.take S.m)).length cL) := HKT6.out.cell 0
  have f1 : w6.cell? ⟨w.heap.size, 1, none⟩ = some (.slice AT (allB (S.rs.drop S.m)).length cT) := HKT6.out.cell 1
  have f2 : w6.cell? ⟨w.heap.size, 2, none⟩ = some (.int .i64 (q : Int)) := HKT6.out.cell 2
  have f3 : w6.cell? ⟨w.heap.size, 3, none⟩ = some (.slice R vs.length c) := HKT6.out.cell 3
  have f4 : w6.cell? ⟨w.heap.size, 4, none⟩ = some (.int .i64 (S.m : Int)) := HKT6.out.cell 4
  have f5 : w6.cell? ⟨w.heap.size, 5, none⟩ = some (.slice AU us.length cU) := HKT6.out.cell 5
  have f6 : w6.cell? ⟨w.heap.size, 6, none⟩ = some (.slice AV ls.length cV) := HKT6.out.cell 6
  have f7 : w6.cell? ⟨w.heap.size, 7, none⟩ = some (.slice AC S.acks.length cC) := HKT6.out.cell 7
  have r0 := HKR6.out.cell 0
  have z0 := HKR6.out.frozen 0
  have r1 := HKR6.out.cell 1
  have z1 := HKR6.out.frozen 1
  have r2 := HKR6.out.cell 2
  have z2 := HKR6.out.frozen 2
  have r3 := HKR6.out.cell 3
  have z3 := HKR6.out.frozen 3
  have r4 := HKR6.out.cell 4
  have z4 := HKR6.out.frozen 4
  have r5 := HKR6.out.cell 5
  have z5 := HKR6.out.frozen 5
  have r6 := HKR6.out.cell 6
  have z6 := HKR6.out.frozen 6
  have r7 := HKR6.out.cell 7
  have z7 := HKR6.out.frozen 7
  have e3 : (((3 : Int) != 0)) = true := rfl
  have HF := Lib.hid (set8_fin HKR6.out (.slice AL (allB (S.rs.take S.m)).length cL) (.slice AT (allB (S.rs.drop S.m)).length cT) (.int .i64 (q : Int)) (.slice R vs.length c) (.int .i64 (S.m : Int)) (.slice AU us.length cU) (.slice AV ls.length cV) (.slice AC S.acks.length cC))
  have HTC : Hid (Touch (AndB (AndB F w.heap.size) (w.heap.size + 1 + 1)) w6 (set8 w6 (w.heap.size + 1 + 1) (.slice AL (allB (S.rs.take S.m)).length cL) (.slice AT (allB (S.rs.drop S.m)).length cT) (.int .i64 (q : Int)) (.slice R vs.length c) (.int .i64 (S.m : Int)) (.slice AU us.length cU) (.slice AV ls.length cV) (.slice AC S.acks.length cC))) := Lib.hid (set8_touch (F := AndB F w.heap.size) _ _ _ _ _ _ _ _)
  have HBB : Hid (Below w.heap.size w w6) := Lib.hid (HB0.out.trans (hb06.mono HB0.out.size))
  clear t0 t1 t2 t3 t4 hb56 hb06 hb6 hl2
  go_wp2
  obtain ⟨W8, hW8⟩ : ∃ W, set8 w6 (w.heap.size + 1 + 1) (.slice AL (allB (S.rs.take S.m)).length cL) (.slice AT (allB (S.rs.drop S.m)).length cT) (.int .i64 (q : Int)) (.slice R vs.length c) (.int .i64 (S.m : Int)) (.slice AU us.length cU) (.slice AV ls.length cV) (.slice AC S.acks.length cC) = W := ⟨_, rfl⟩
  rw [hW8] at HF HTC
  unfold set8 at hW8
  rw [hW8]
  obtain ⟨W9, hW9⟩ : ∃ W, W8.alloc (.cells #[.slice AL (allB (S.rs.take S.m)).length cL, .slice AT (allB (S.rs.drop S.m)).length cT, .int .i64 (q : Int), .slice R vs.length c, .int .i64 (S.m : Int)] 32) = W := ⟨_, rfl⟩
  have hb9 : Below W8.heap.size W8 W9 := by rw [← hW9]; exact (Below.refl _ _).alloc (Nat.le_refl _) _
  have HF9 := Lib.hid (HF.out.1.below hb9 HF.out.1.lt)
  have hb9w : Below w.heap.size w W9 := (HF.out.2.2.1 _ HBB.out (by omega)).trans (hb9.mono (HF.out.2.2.1 _ HBB.out (by omega)).size)
  rw [hW9]
  have g0 := HF9.out.cell 0
  have g1 := HF9.out.cell 1
  have g2 := HF9.out.cell 2
  have g3 := HF9.out.cell 3
  have g4 := HF9.out.cell 4
  have g5 := HF9.out.cell 5
  have g6 := HF9.out.cell 6
  have g7 := HF9.out.cell 7
  refine bodyPost_ret (v := .tuple #[.agg #[.slice AL (allB (S.rs.take S.m)).length cL, .slice AT (allB (S.rs.drop S.m)).length cT, .int .i64 (q : Int), .slice R vs.length c, .int .i64 (S.m : Int), .slice AU us.length cU, .slice AV ls.length cV, .slice AC S.acks.length cC], .int .i64 3]) (by simp [results, Tryz.results20, go_sem, g0, g1, g2, g3, g4, g5, g6, g7]) rfl ?_
  exact ⟨_, rfl, ⟨AL, cL, AT, cT, R, c, vs, AU, cU, us, AV, cV, ls, AC, cC, rfl, (HT6.out.step HTC.out (F' := F) (fun k hk => Or.inl (Or.inl (Or.inl hk)))).below hb9⟩, hb9w⟩
/-- Put, told by the reference. -/
theorem refput8_any (F : Nat → Prop) (S : St8) (q : Nat) (x : EV) (who : Int) (hq : q ≤ 4611686018427387904) (hS : Ok8 S) (hmx : (allB S.rs).length ≤ 4194304) (hok : OkT S.N) (hnl : S.N.length ≤ 100000000) (hac : S.acks.length ≤ 1466015503701)
    (hkl : (x.1.k.length : Int) ≤ 9223372036854775807) (hvl : (x.1.v.length : Int) ≤ 9223372036854775807) (w : World) (hF : ∀ k, F k → k < w.heap.size) (hv : RowN F w x.2.1 (x.1.v.map byteV)) (hvc : x.1.v.length ≤ x.2.2) (v : Value) (h : RefTV F S q w v) :
    Calls Tryz.prog 20 #[v, .agg #[.string ⟨x.1.k.toArray⟩, .int .i64 x.1.s, .int .i64 x.1.u, .int .i64 x.1.o, .bool x.1.has, .slice x.2.1 x.1.v.length x.2.2], .int .i64 who] w (RefTP F (fun v => .tuple #[v, .int .i64 (putS S x.1 who).2]) (putS S x.1 who).1 q w) := by
  by_cases hm : mayP x.1 who
  · have hvl2 : x.1.v.length ≤ 60000 := (rightE_yes hm.1).2.2.1
    by_cases hn : 0 < cmpE x.1 (ofT S.N x.1.k)
    · by_cases hf : (allB (S.rs ++ [(1, putE x.1)])).length ≤ 4194304
      · have e : putS S x.1 who = (pushS (writeS S x.1).1 (ackOf x.1 who), 0) := by
          have hw : (writeS S x.1).2 = 0 := by unfold writeS; rw [if_pos hf]
          unfold putS
          rw [if_pos hm, if_pos hn, if_pos hw]
        rw [e]
        exact refput8_new F S q x who hm hn hq hS.le hmx hok hnl hac hf w hF ⟨hv, hvl2, hvc⟩ v h
      · have e : putS S x.1 who = (S, 3) := by
          have hw : (writeS S x.1).2 = 3 := by unfold writeS; rw [if_neg hf]
          unfold putS
          rw [if_pos hm, if_pos hn, if_neg (by rw [hw]; decide), hw]
        rw [e]
        exact refput8_full F S q x who hm hn hq hS.le hmx hok hnl hac hf w hF ⟨hv, hvl2, hvc⟩ v h
    · have e : putS S x.1 who = (pushS S (ackOf x.1 who), 0) := by
        unfold putS
        rw [if_pos hm, if_neg hn]
      rw [e]
      exact refput8_old F S q x who hm hn (by omega) hac w hF v h
  · have e : putS S x.1 who = (S, 2) := by
      unfold putS
      rw [if_neg hm]
    rw [e]
    exact refput8_no F S q x who hm hkl hvl w hF v h
end Go.Proofs.YtndbggkpobcpjaaGreat
