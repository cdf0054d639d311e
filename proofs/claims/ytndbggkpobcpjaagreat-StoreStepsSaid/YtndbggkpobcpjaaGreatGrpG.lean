/- Crash, told by the reference. -/
/- What the reference hands back as it was: Crash of what may not be kept. -/
/- Tick, told by the reference. -/
import Derived.Test.YtndbggkpobcpjaaGreatGrpE
import Derived.Deep.RegionHeld3
namespace Go.Proofs.YtndbggkpobcpjaaGreat
open Go.RowKit Go.ChangeShapes Mem Be Word Frm Go.Maps
set_option maxRecDepth 100000
set_option maxHeartbeats 8000000
set_option linter.unusedVariables false
theorem refcrash8_any (F : Nat → Prop) (S : St8) (q kp : Nat) (hq : q ≤ 4611686018427387904) (hkp : kp ≤ 9223372036854775807) (hmx : (allB S.rs).length ≤ 4194304) (T : List EntP) (hok : recS (crashR S kp) = some T) (w : World) (hF : ∀ k, F k → k < w.heap.size) (v : Value) (h : RefTV F S q w v) :
    Calls Tryz.prog 23 #[v, .int .i64 (kp : Int)] w (RefTP F (fun v => .tuple #[v, .int .i64 0]) (crash8S S kp) 0 w) := by
  obtain ⟨AL, cL, AT, cT, R, c, vs, AU, cU, us, AV, cV, ls, AC, cC, rfl, h⟩ := h
  obtain ⟨W0, hW0, hb0, hkt, hkr⟩ := t8_w0 w (.slice AL (allB (S.rs.take S.m)).length cL) (.slice AT (allB (S.rs.drop S.m)).length cT) (.int .i64 (q : Int)) (.slice R vs.length c) (.int .i64 (S.m : Int)) (.slice AU us.length cU) (.slice AV ls.length cV) (.slice AC S.acks.length cC)
  have hF0 : ∀ k, AndB F (w.heap.size + 1) k → k < W0.heap.size := fun k hk => by
    have h1 := hkr.lt
    rcases hk with hk | hk
    · have := hF k hk; omega
    · omega
  have hF1 : ∀ k, AndB F (w.heap.size + 1) k → F k ∨ w.heap.size ≤ k := fun k hk => by
    rcases hk with hk | hk
    · exact Or.inl hk
    · exact Or.inr (by omega)
  have h0 := h.wide hb0 (b := w.heap.size + 1) (by omega)
  have hsum := all_drop S.rs S.m
  obtain ⟨L0, hL0⟩ : ∃ L0, allB (S.rs.take S.m) = L0 := ⟨_, rfl⟩
  obtain ⟨T0, hT0⟩ : ∃ T0, allB (S.rs.drop S.m) = T0 := ⟨_, rfl⟩
  have hvm : vs.length ≤ 1000000 := by
    have h1 := many_of (rs := vs.map rcOf) (M := 4194304) (by rw [h.rs]; exact hmx)
    rw [List.length_map] at h1; omega
  obtain ⟨X, hX⟩ : ∃ X, L0 ++ T0.take kp = X := ⟨_, rfl⟩
  have hXl : X.length ≤ 4194304 := by
    rw [← hX, List.length_append, List.length_take]
    rw [hsum, List.length_append, hL0, hT0] at hmx
    omega
  have hlog := h0.log
  have hcr : crashR S kp = (scanS X).1 := by unfold crashR; rw [hL0, hT0, hX]
  rw [hL0, hT0] at hlog hW0 hkt ⊢
  rw [hsum, List.length_append, hL0, hT0] at hmx
  have HCR := Lib.hid (refcrash_any (AndB F (w.heap.size + 1)) AL AT R cL cT c S.m q L0 T0 vs hmx hvm hq kp hkp W0 hF0 hlog X hX)
  have hsc := scan_cutS (X := X)
  have hat := scan_at X
  have hag := scan_again X
  obtain ⟨s, hs⟩ : ∃ s, (scanS X).2.1 = s := ⟨_, rfl⟩
  obtain ⟨rs, hrs⟩ : ∃ rs, (scanS X).1 = rs := ⟨_, rfl⟩
  rw [hs, hrs] at hsc HCR
  rw [hs] at hat
  rw [hs, hrs] at hag
  rw [hrs] at hcr
  have hsl : (X.take s).length = s := by rw [List.length_take]; omega
  have hS9 : crash8S S kp = ⟨rs, rs.length, T, T, []⟩ := by unfold crash8S; rw [hok, hcr]; rfl
  rw [hS9]
  rw [hcr] at hok
  have HOK := Lib.hid hok
  have HSC := Lib.hid hsc
  have HAG := Lib.hid hag
  have HSL := Lib.hid hsl
  have HW0 := Lib.hid hW0
  have HB0 := Lib.hid hb0
  have HKR0 := Lib.hid hkr
  have HF0 := Lib.hid hF0
  have HF1 := Lib.hid hF1
  have hkpi : (0 : Int) ≤ (kp : Int) := by omega
  have hkpl : ¬ (kp : Int) < 0 := by omega
  clear hF h hsum hL0 hT0 hvm hX hlog hcr hmx hsc hat hag hs hrs hS9 hok hW0 hb0 hkr hF0 hF1 h0 hkt hq hkp
  go_enter Tryz.func23, Tryz.ntmps23
  go_wp2_with fail
  rw [HW0.out]
  refine HCR.out.mono ?_
  rintro e w2 ⟨AL2, cL2, AT2, cT2, R2, c2, vs2, hvs2, rfl, hl2, hb2⟩
  simp only [List.length_nil]
  rw [HSL.out]
  obtain ⟨w3, hw3⟩ : ∃ w3, w2.alloc (.cells #[.slice AL2 s cL2, .slice AT2 0 cT2, .int .i64 (q : Int), .slice R2 vs2.length c2, .int .i64 (rs.length : Int)] 32) = w3 := ⟨_, rfl⟩
  have hb3 : Below w2.heap.size w2 w3 := by rw [← hw3]; exact (Below.refl _ _).alloc (Nat.le_refl _) _
  have hb03 : Below W0.heap.size W0 w3 := hb2.trans (hb3.mono hb2.size)
  have HRC := Lib.hid (refrecN_any (AndB F (w.heap.size + 1)) s cL2 AL2 (X.take s) HSL.out.symm (by have := hl2.hl; rw [HSL.out] at this; exact this) (by have := HSL.out; rw [List.length_take] at this; omega) w3 (fun k hk => Nat.lt_of_lt_of_le (HF0.out k hk) hb03.size) ((hl2.below hb3).rl.row))
  have HB03 := Lib.hid hb03
  have HW3 := Lib.hid hw3
  clear hvs2 hl2 hb2 hb3 hb03 hw3 HCR
  go_wp2_with fail
  rw [HW3.out]
  refine HRC.out.mono ?_
  unfold RefRecN
  rw [HSC.out]
  simp only
  rintro e w4 (⟨us3, A3, c3, AL3, cL3, R3, cR3, vs3, hu3, hv3, rfl, hcu3, heu3, hlg3, hb4⟩ | ⟨hu3, _⟩)
  rotate_left
  · rw [HOK.out] at hu3; cases hu3
  obtain rfl : T = us3.map Prod.fst := by have := HOK.out.symm.trans hu3; injection this
  have hb04 : Below W0.heap.size W0 w4 := HB03.out.trans (hb4.mono HB03.out.size)
  have HKR4 := Lib.hid (HKR0.out.below hb04 HKR0.out.lt)
  have HF := Lib.hid (set8_fin HKR4.out (.slice AL3 s cL3) (.slice none 0 0) (.int .i64 0) (.slice R3 vs3.length cR3) (.int .i64 (vs3.length : Int)) (.slice A3 us3.length c3) (.slice A3 us3.length c3) (.slice none 0 0))
  have HTC : Hid (Touch (AndB F (w.heap.size + 1)) w4 (set8 w4 (w.heap.size + 1) (.slice AL3 s cL3) (.slice none 0 0) (.int .i64 0) (.slice R3 vs3.length cR3) (.int .i64 (vs3.length : Int)) (.slice A3 us3.length c3) (.slice A3 us3.length c3) (.slice none 0 0))) := Lib.hid (set8_touch _ _ _ _ _ _ _ _)
  have HZ4 : w.heap.size + 1 < w4.heap.size := HKR4.out.lt
  have HE4 := Lib.hid heu3
  have HL4 := Lib.hid hlg3
  have HBB : Hid (Below w.heap.size w w4) := Lib.hid (HB0.out.trans (hb04.mono HB0.out.size))
  have HV3 := Lib.hid hv3
  have HCU := Lib.hid hcu3
  have r0 := HKR4.out.cell 0
  have z0 := HKR4.out.frozen 0
  have r1 := HKR4.out.cell 1
  have z1 := HKR4.out.frozen 1
  have r2 := HKR4.out.cell 2
  have z2 := HKR4.out.frozen 2
  have r3 := HKR4.out.cell 3
  have z3 := HKR4.out.frozen 3
  have r4 := HKR4.out.cell 4
  have z4 := HKR4.out.frozen 4
  have r5 := HKR4.out.cell 5
  have z5 := HKR4.out.frozen 5
  have r6 := HKR4.out.cell 6
  have z6 := HKR4.out.frozen 6
  have r7 := HKR4.out.cell 7
  have z7 := HKR4.out.frozen 7
  clear hb4 hb04 heu3 hlg3 hu3 hv3 hcu3 HRC
  go_wp2
  obtain ⟨W8, hW8⟩ : ∃ W, set8 w4 (w.heap.size + 1) (.slice AL3 s cL3) (.slice none 0 0) (.int .i64 0) (.slice R3 vs3.length cR3) (.int .i64 (vs3.length : Int)) (.slice A3 us3.length c3) (.slice A3 us3.length c3) (.slice none 0 0) = W := ⟨_, rfl⟩
  rw [hW8] at HF HTC
  unfold set8 at hW8
  rw [hW8]
  obtain ⟨W9, hW9⟩ : ∃ W, W8.alloc (.cells #[.slice AL3 s cL3, .slice none 0 0, .int .i64 0, .slice R3 vs3.length cR3, .int .i64 (vs3.length : Int), .slice A3 us3.length c3, .slice A3 us3.length c3, .slice none 0 0] 36) = W := ⟨_, rfl⟩
  have hb9 : Below W8.heap.size W8 W9 := by rw [← hW9]; exact (Below.refl _ _).alloc (Nat.le_refl _) _
  have HF9 := Lib.hid (HF.out.1.below hb9 HF.out.1.lt)
  have hb9w : Below w.heap.size w W9 := (HF.out.2.2.1 _ HBB.out (by omega)).trans (hb9.mono (HF.out.2.2.1 _ HBB.out (by omega)).size)
  rw [hW9]
  have g0 := HF9.out.cell 0
  have g1 := HF9.out.cell 1
  have g2 := HF9.out.cell 2
  have g3 := HF9.out.cell 3
  have g4 := HF9.out.cell 4
  have g5 := HF9.out.cell 5
  have g6 := HF9.out.cell 6
  have g7 := HF9.out.cell 7
  refine bodyPost_ret (v := .tuple #[.agg #[.slice AL3 s cL3, .slice none 0 0, .int .i64 0, .slice R3 vs3.length cR3, .int .i64 (vs3.length : Int), .slice A3 us3.length c3, .slice A3 us3.length c3, .slice none 0 0], .int .i64 0]) (by simp [results, Tryz.results23, go_sem, g0, g1, g2, g3, g4, g5, g6, g7]) rfl ?_
  have e1 : allB (rs.take rs.length) = X.take s := by rw [List.take_length]; exact HAG.out
  have e2 : allB (rs.drop rs.length) = [] := by rw [List.drop_length]; rfl
  have e3 : vs3.length = rs.length := by have := congrArg List.length HV3.out; rw [List.length_map] at this; exact this
  refine ⟨_, rfl, ⟨AL3, cL3, none, 0, R3, cR3, vs3, A3, c3, us3, A3, c3, us3, none, 0, ?_, ⟨HV3.out, ?_, rfl, HCU.out, (HE4.out.to (fun k hk => Or.inl (Or.inl hk)) HTC.out).below hb9, rfl, HCU.out, (HE4.out.to (fun k hk => Or.inl (Or.inl hk)) HTC.out).below hb9, Or.inl rfl, Nat.le_refl _⟩⟩, hb9w⟩
  · simp only [e1, e2, HSL.out, e3]
    rfl
  · simp only [e1, e2]
    have hl9 := (HL4.out.step HTC.out (F' := F) (fun k hk => Or.inl (Or.inl hk))).below hb9
    have e4 : (X.take s).take s = X.take s := by rw [List.take_take, Nat.min_self]
    rw [e4] at hl9
    exact hl9
end Go.Proofs.YtndbggkpobcpjaaGreat
namespace Go.Proofs.YtndbggkpobcpjaaGreat
open Go.RowKit Go.ChangeShapes Mem Be Word Frm Go.Maps
set_option maxRecDepth 100000
set_option maxHeartbeats 8000000
set_option linter.unusedVariables false
theorem refcrash8_neg (F : Nat → Prop) (S : St8) (q : Nat) (kp : Int) (hkp : kp < 0) (w : World) (v : Value) (h : RefTV F S q w v) :
    Calls Tryz.prog 23 #[v, .int .i64 kp] w (RefTP F (fun v => .tuple #[v, .int .i64 2]) S q w) := by
  obtain ⟨AL, cL, AT, cT, R, c, vs, AU, cU, us, AV, cV, ls, AC, cC, rfl, h⟩ := h
  have HB : Hid (∀ o1 o2, Below w.heap.size w ((w.alloc o1).alloc o2)) := Lib.hid fun o1 o2 => ((Below.refl _ _).alloc (Nat.le_refl _) _).alloc (by simp) _
  have HT := Lib.hid h
  clear h
  go_enter Tryz.func23, Tryz.ntmps23
  go_wp2
  refine bodyPost_ret (v := .tuple #[.agg #[.slice AL (allB (S.rs.take S.m)).length cL, .slice AT (allB (S.rs.drop S.m)).length cT, .int .i64 (q : Int), .slice R vs.length c, .int .i64 (S.m : Int), .slice AU us.length cU, .slice AV ls.length cV, .slice AC S.acks.length cC], .int .i64 2]) (by simp [results, Tryz.results23, go_sem]) rfl ?_
  exact ⟨_, rfl, ⟨AL, cL, AT, cT, R, c, vs, AU, cU, us, AV, cV, ls, AC, cC, rfl, HT.out.below (HB.out _ _)⟩, HB.out _ _⟩
end Go.Proofs.YtndbggkpobcpjaaGreat
namespace Go.Proofs.YtndbggkpobcpjaaGreat
open Go.RowKit Go.ChangeShapes Mem Be Word Frm Go.Maps
set_option maxRecDepth 100000
set_option maxHeartbeats 8000000
set_option linter.unusedVariables false
theorem reftick8_any (F : Nat → Prop) (S : St8) (q : Nat) (hq : q ≤ 4611686018427387904) (hmx : (allB S.rs).length ≤ 4194304) (w : World) (hF : ∀ k, F k → k < w.heap.size) (v : Value) (h : RefTV F S q w v) :
    Calls Tryz.prog 21 #[v] w (fun e w' => ∃ (v' : Value) (AC : Option Addr) (cC : Nat), e = .returned (.tuple #[v', .slice AC S.acks.length cC]) ∧ RefTV F (tickS S) (upN (allB (S.rs.drop S.m)) q) w' v' ∧ RowN F w' AC (acksC S.acks) ∧ S.acks.length ≤ cC ∧ Below w.heap.size w w') := by
  obtain ⟨AL, cL, AT, cT, R, c, vs, AU, cU, us, AV, cV, ls, AC, cC, rfl, h⟩ := h
  obtain ⟨W0, hW0, hb0, hkt, hkr⟩ := t8_w0 w (.slice AL (allB (S.rs.take S.m)).length cL) (.slice AT (allB (S.rs.drop S.m)).length cT) (.int .i64 (q : Int)) (.slice R vs.length c) (.int .i64 (S.m : Int)) (.slice AU us.length cU) (.slice AV ls.length cV) (.slice AC S.acks.length cC)
  have hF0 : ∀ k, AndB F (w.heap.size + 1) k → k < W0.heap.size := fun k hk => by
    have h1 := hkr.lt
    rcases hk with hk | hk
    · have := hF k hk; omega
    · omega
  have h0 := h.wide hb0 (b := w.heap.size + 1) (by omega)
  have hsum := all_drop S.rs S.m
  obtain ⟨L0, hL0⟩ : ∃ L0, allB (S.rs.take S.m) = L0 := ⟨_, rfl⟩
  obtain ⟨T0, hT0⟩ : ∃ T0, allB (S.rs.drop S.m) = T0 := ⟨_, rfl⟩
  have hvm : vs.length ≤ 1000000 := by
    have h1 := many_of (rs := vs.map rcOf) (M := 4194304) (by rw [h.rs]; exact hmx)
    rw [List.length_map] at h1; omega
  have hlog := h0.log
  rw [hL0, hT0] at hlog hW0 hkt ⊢
  rw [hL0, hT0] at hsum
  have hmx2 : L0.length + T0.length ≤ 4194304 := by rw [hsum, List.length_append] at hmx; exact hmx
  have HSY := Lib.hid fun (W : World) (hb : Below W0.heap.size W0 W) => refsync_any (AndB F (w.heap.size + 1)) AL AT R cL cT c S.m q L0 T0 vs hmx2 hvm hq W (fun k hk => Nat.lt_of_lt_of_le (hF0 k hk) hb.size) (hlog.below hb)
  obtain ⟨n2, hn2⟩ : ∃ n2, (L0 ++ T0).length = n2 := ⟨_, rfl⟩
  have HN2 := Lib.hid hn2
  have HSU := Lib.hid hsum
  have HW0 := Lib.hid hW0
  have HB0 := Lib.hid hb0
  have HKR0 := Lib.hid hkr
  have HT0 := Lib.hid h0
  have HDR : Hid (Below W0.heap.size W0 W0.drew) := Lib.hid (Below.refl _ _).drew
  have HSK : Hid (∀ w' : World, Below W0.heap.size W0 w' → w'.cell? ⟨w.heap.size, 0, none⟩ = some (.slice AL L0.length cL) ∧ w'.cell? ⟨w.heap.size, 1, none⟩ = some (.slice AT T0.length cT) ∧ w'.cell? ⟨w.heap.size, 2, none⟩ = some (.int .i64 (q : Int)) ∧ w'.cell? ⟨w.heap.size, 3, none⟩ = some (.slice R vs.length c) ∧ w'.cell? ⟨w.heap.size, 4, none⟩ = some (.int .i64 (S.m : Int)) ∧ w'.cell? ⟨w.heap.size, 5, none⟩ = some (.slice AU us.length cU) ∧ w'.cell? ⟨w.heap.size, 6, none⟩ = some (.slice AV ls.length cV) ∧ w'.cell? ⟨w.heap.size, 7, none⟩ = some (.slice AC S.acks.length cC)) := Lib.hid fun W' hw => by
    have hb := hkt.below hw hkt.lt
    exact ⟨hb.cell 0, hb.cell 1, hb.cell 2, hb.cell 3, hb.cell 4, hb.cell 5, hb.cell 6, hb.cell 7⟩
  obtain ⟨s0, s1, s2, s3, s4, s5, s6, s7⟩ := HSK.out W0 (Below.refl _ _)
  clear hF h hsum hL0 hT0 hvm hlog hmx hmx2 hb0 hkr hF0 h0 hkt hq hn2
  go_enter Tryz.func21, Tryz.ntmps21
  go_wp2_with fail
  go_region_held3 (fun w' => w'.cell? ⟨w.heap.size, 0, none⟩ = some (.slice AL L0.length cL) ∧ w'.cell? ⟨w.heap.size, 1, none⟩ = some (.slice AT T0.length cT) ∧ w'.cell? ⟨w.heap.size, 2, none⟩ = some (.int .i64 (q : Int)) ∧ w'.cell? ⟨w.heap.size, 3, none⟩ = some (.slice R vs.length c) ∧ w'.cell? ⟨w.heap.size, 4, none⟩ = some (.int .i64 (S.m : Int)) ∧ w'.cell? ⟨w.heap.size, 5, none⟩ = some (.slice AU us.length cU) ∧ w'.cell? ⟨w.heap.size, 6, none⟩ = some (.slice AV ls.length cV) ∧ w'.cell? ⟨w.heap.size, 7, none⟩ = some (.slice AC S.acks.length cC))
    (first | go_keep | exact HSK.out _ HWC.out)
    ((go_at_call 54; refine (HSY.out _ HDR.out).mono ?_; rintro e w1 ⟨AL2, cL2, AT2, cT2, R2, c2, vs2, hvs2, rfl, hl2, hb2⟩; simp only [id, List.length_nil]; rw [HN2.out]; (have HWC : Hid (Below W0.heap.size W0 w1) := Lib.hid (HDR.out.trans (hb2.mono HDR.out.size))); (have HK1 := Lib.hid (HKR0.out.below HWC.out HKR0.out.lt)); (have HL2 := Lib.hid hl2); (have HV2 := Lib.hid hvs2); (have hz1 : w.heap.size + 1 < w1.heap.size := HK1.out.lt); (have r0 := HK1.out.cell 0); (have z0 := HK1.out.frozen 0); (have r1 := HK1.out.cell 1); (have z1 := HK1.out.frozen 1); (have r2 := HK1.out.cell 2); (have z2 := HK1.out.frozen 2); (have r3 := HK1.out.cell 3); (have z3 := HK1.out.frozen 3); (have r4 := HK1.out.cell 4); (have z4 := HK1.out.frozen 4); (have r5 := HK1.out.cell 5); (have z5 := HK1.out.frozen 5); (have r6 := HK1.out.cell 6); (have z6 := HK1.out.frozen 6); (have r7 := HK1.out.cell 7); (have z7 := HK1.out.frozen 7); clear hl2 hvs2 hb2))
  have HF := Lib.hid (set8_fin HK1.out (.slice AL2 n2 cL2) (.slice AT2 0 cT2) (.int .i64 ((upN T0 q : Nat) : Int)) (.slice R2 vs2.length c2) (.int .i64 (vs.length : Int)) (.slice AU us.length cU) (.slice AU us.length cU) (.slice none 0 0))
  have HTC : Hid (Touch (AndB F (w.heap.size + 1)) w1 (set8 w1 (w.heap.size + 1) (.slice AL2 n2 cL2) (.slice AT2 0 cT2) (.int .i64 ((upN T0 q : Nat) : Int)) (.slice R2 vs2.length c2) (.int .i64 (vs.length : Int)) (.slice AU us.length cU) (.slice AU us.length cU) (.slice none 0 0))) := Lib.hid (set8_touch _ _ _ _ _ _ _ _)
  go_wp2
  obtain ⟨W8, hW8⟩ : ∃ W, set8 w1 (w.heap.size + 1) (.slice AL2 n2 cL2) (.slice AT2 0 cT2) (.int .i64 ((upN T0 q : Nat) : Int)) (.slice R2 vs2.length c2) (.int .i64 (vs.length : Int)) (.slice AU us.length cU) (.slice AU us.length cU) (.slice none 0 0) = W := ⟨_, rfl⟩
  rw [hW8] at HF HTC
  unfold set8 at hW8
  rw [hW8]
  have g0 := HF.out.1.cell 0
  have g1 := HF.out.1.cell 1
  have g2 := HF.out.1.cell 2
  have g3 := HF.out.1.cell 3
  have g4 := HF.out.1.cell 4
  have g5 := HF.out.1.cell 5
  have g6 := HF.out.1.cell 6
  have g7 := HF.out.1.cell 7
  refine bodyPost_ret (v := .tuple #[.agg #[.slice AL2 n2 cL2, .slice AT2 0 cT2, .int .i64 ((upN T0 q : Nat) : Int), .slice R2 vs2.length c2, .int .i64 (vs.length : Int), .slice AU us.length cU, .slice AU us.length cU, .slice none 0 0], .slice AC S.acks.length cC]) (by simp [results, Tryz.results21, go_sem, g0, g1, g2, g3, g4, g5, g6, g7]) rfl ?_
  have h9 := (HT0.out.below HWC.out).step HTC.out (F' := F) (fun k hk => Or.inl (Or.inl hk))
  have e1 : allB ((tickS S).rs.take (tickS S).m) = L0 ++ T0 := by show allB (S.rs.take S.rs.length) = _; rw [List.take_length]; exact HSU.out
  have e2 : allB ((tickS S).rs.drop (tickS S).m) = [] := by show allB (S.rs.drop S.rs.length) = _; rw [List.drop_length]; rfl
  have e3 : vs.length = S.rs.length := by rw [← h9.rs, List.length_map]
  refine ⟨_, AC, cC, rfl, ⟨AL2, cL2, AT2, cT2, R2, c2, vs2, AU, cU, us, AU, cU, us, none, 0, ?_, ⟨HV2.out.trans h9.rs, ?_, h9.un, h9.uc, h9.ue, h9.un, h9.uc, h9.ue, Or.inl rfl, Nat.le_refl _⟩⟩, h9.ar, h9.ac, HF.out.2.2.1 _ (HB0.out.trans (HWC.out.mono HB0.out.size)) (by omega)⟩
  · simp only [e1, e2, HN2.out, e3]
    rfl
  · rw [e1, e2]
    exact HL2.out.step HTC.out (F' := F) (fun k hk => Or.inl (Or.inl hk))
end Go.Proofs.YtndbggkpobcpjaaGreat
