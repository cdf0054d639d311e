/- Step, told by the reference (written by tools/gen_refst8.py). -/
import Derived.Test.YtndbggkpobcpjaaGreatGrpF
import Derived.Test.YtndbggkpobcpjaaGreatRefCm8
import Derived.Test.YtndbggkpobcpjaaGreatGrpG
import Derived.Test.YtndbggkpobcpjaaGreatLaw8
namespace Go.Proofs.YtndbggkpobcpjaaGreat
open Go.RowKit Go.ChangeShapes Mem Be Word Frm Go.Maps
set_option maxRecDepth 100000
set_option maxHeartbeats 8000000
set_option linter.unusedVariables false
theorem s8_w0 (w : World) (x0 x1 x2 x3 x4 x5 x6 x7 y0 y1 y2 y3 y4 y5 y6 y7 y8 : Value) :
    ∃ W1, ((w.alloc (.cells #[x0, x1, x2, x3, x4, x5, x6, x7] 36)).alloc (.cells #[y0, y1, y2, y3, y4, y5, y6, y7, y8] 47)).alloc (.cells #[.slice none 0 0, .slice none 0 0, .int .i64 0, .slice none 0 0, .int .i64 0, .slice none 0 0, .slice none 0 0, .slice none 0 0] 36) = W1 ∧
    Below w.heap.size w W1 ∧ Blk W1 w.heap.size 36 #[x0, x1, x2, x3, x4, x5, x6, x7] ∧ Blk W1 (w.heap.size + 1) 47 #[y0, y1, y2, y3, y4, y5, y6, y7, y8] ∧
    Blk W1 (w.heap.size + 1 + 1) 36 #[.slice none 0 0, .slice none 0 0, .int .i64 0, .slice none 0 0, .int .i64 0, .slice none 0 0, .slice none 0 0, .slice none 0 0] := by
  refine ⟨_, rfl, (((Below.refl _ _).alloc (Nat.le_refl _) _).alloc (by simp) _).alloc (by simp; omega) _, ((Blk.new w _ _).alloc _).alloc _, ?_, ?_⟩
  · have := (Blk.new (w.alloc (.cells #[x0, x1, x2, x3, x4, x5, x6, x7] 36)) 47 #[y0, y1, y2, y3, y4, y5, y6, y7, y8]).alloc (.cells #[.slice none 0 0, .slice none 0 0, .int .i64 0, .slice none 0 0, .int .i64 0, .slice none 0 0, .slice none 0 0, .slice none 0 0] 36)
    simp at this
    exact this
  · have := Blk.new ((w.alloc (.cells #[x0, x1, x2, x3, x4, x5, x6, x7] 36)).alloc (.cells #[y0, y1, y2, y3, y4, y5, y6, y7, y8] 47)) 36 #[.slice none 0 0, .slice none 0 0, .int .i64 0, .slice none 0 0, .int .i64 0, .slice none 0 0, .slice none 0 0, .slice none 0 0]
    simp at this
    exact this
/-- What a step leaves, and tells, by the reference. -/
def RefSt (F : Nat → Prop) (R : St8 × List AckP × Int) (q : Nat) (w : World) (e : Ending) (w' : World) : Prop :=
  ∃ (v : Value) (q' : Nat) (A : Option Addr) (c : Nat), e = .returned (.tuple #[v, .slice A R.2.1.length c, .int .i64 R.2.2]) ∧ q' ≤ q + 1 ∧ RefTV F R.1 q' w' v ∧ RowN F w' A (acksC R.2.1) ∧ Below w.heap.size w w'
theorem refst8_put (w : World) (F : Nat → Prop) (S : St8) (q : Nat) (d : D8) (hq : q ≤ 4611686018427387904) (hS : Ok8 S) (hmx : (allB S.rs).length ≤ 4194304) (hok : OkT S.N) (hnl : S.N.length ≤ 8388608) (hac : S.acks.length ≤ 1466015503701) (hd : D8Ok w w.heap.size d) (hk : d.kind = 1) (hF : ∀ k, F k → k < w.heap.size) (hv : RowN F w d.e.2.1 (d.e.1.v.map byteV)) (v : Value) (h : RefTV F S q w v) :
    Calls Tryz.prog 8 #[v, dV d] w (RefSt F (d8S S d) q w) := by
  obtain ⟨AL, cL, AT, cT, R, c, vs, AU, cU, us, AV, cV, ls, AC, cC, rfl, h⟩ := h
  obtain ⟨W0, hW0, hb0, hkt, hke, hkr⟩ := s8_w0 w (.slice AL (allB (S.rs.take S.m)).length cL) (.slice AT (allB (S.rs.drop S.m)).length cT) (.int .i64 (q : Int)) (.slice R vs.length c) (.int .i64 (S.m : Int)) (.slice AU us.length cU) (.slice AV ls.length cV) (.slice AC S.acks.length cC) (.int .i64 d.kind) (.string ⟨d.e.1.k.toArray⟩) (.int .i64 d.e.1.s) (.int .i64 d.e.1.u) (.int .i64 d.e.1.o) (.bool d.e.1.has) (.slice d.e.2.1 d.e.1.v.length d.e.2.2) (.int .i64 d.who) (.int .i64 d.kept)
  have h0 := h.wide hb0 (b := w.heap.size + 1 + 1) (by omega)
  have hF0 : ∀ k, AndB F (w.heap.size + 1 + 1) k → k < W0.heap.size := fun k hk => by
    have h1 := hkr.lt
    rcases hk with hk | hk
    · have := hF k hk; omega
    · omega
  have hv0 : RowN (AndB F (w.heap.size + 1 + 1)) W0 d.e.2.1 (d.e.1.v.map byteV) := hv.grow (fun k hk => by
    rcases hk with hk | hk
    · exact Or.inl hk
    · exact Or.inr (by omega)) (Touch.ofBelow hb0)
  have hrt : RefTV (AndB F (w.heap.size + 1 + 1)) S q W0 (.agg #[.slice AL (allB (S.rs.take S.m)).length cL, .slice AT (allB (S.rs.drop S.m)).length cT, .int .i64 (q : Int), .slice R vs.length c, .int .i64 (S.m : Int), .slice AU us.length cU, .slice AV ls.length cV, .slice AC S.acks.length cC]) := ⟨AL, cL, AT, cT, R, c, vs, AU, cU, us, AV, cV, ls, AC, cC, rfl, h0⟩
  have hlens := d8_len hd
  have k1 : (d.kind == 1) = true := by simpa using hk
  have hcon := refput8_any (AndB F (w.heap.size + 1 + 1)) S q d.e d.who hq hS hmx hok (by omega) hac hlens.2 hlens.1 W0 hF0 hv0 hd.cap _ hrt
  obtain ⟨S2, hS2⟩ : ∃ S2, (putS S d.e.1 d.who).1 = S2 := ⟨_, rfl⟩
  obtain ⟨er, her⟩ : ∃ er : Int, (putS S d.e.1 d.who).2 = er := ⟨_, rfl⟩
  have hE2 : d8S S d = (S2, [], er) := by rw [← hS2, ← her]; unfold d8S; rw [if_pos hk]
  rw [hS2, her] at hcon
  skip
  have HCON := Lib.hid (hcon)
  have HB0 := Lib.hid hb0
  have HKR0 := Lib.hid hkr
  have HW0 := Lib.hid hW0
  clear hF h hb0 hkt hke hkr h0 hW0 hrt hv0 hF0 hv hlens hq hS hmx hok hnl hac hd hk hS2 her hcon
  unfold dV
  go_enter Tryz.func8, Tryz.ntmps8
  go_wp2_with fail
  rw [HW0.out]
  refine HCON.out.mono ?_
  rintro e w6 ⟨v2, rfl, ⟨AL2, cL2, AT2, cT2, R2, c2, vs2, AU2, cU2, us2, AV2, cV2, ls2, AC2, cC2, rfl, h6⟩, hb6⟩
  have HKR6 := Lib.hid (HKR0.out.below hb6 HKR0.out.lt)
  have HZ3 : w.heap.size + 1 + 1 < w6.heap.size := HKR6.out.lt
  have HT6 := Lib.hid h6
  have HE2 := Lib.hid hE2
  have r0 := HKR6.out.cell 0
  have z0 := HKR6.out.frozen 0
  have r1 := HKR6.out.cell 1
  have z1 := HKR6.out.frozen 1
  have r2 := HKR6.out.cell 2
  have z2 := HKR6.out.frozen 2
  have r3 := HKR6.out.cell 3
  have z3 := HKR6.out.frozen 3
  have r4 := HKR6.out.cell 4
  have z4 := HKR6.out.frozen 4
  have r5 := HKR6.out.cell 5
  have z5 := HKR6.out.frozen 5
  have r6 := HKR6.out.cell 6
  have z6 := HKR6.out.frozen 6
  have r7 := HKR6.out.cell 7
  have z7 := HKR6.out.frozen 7
  have HF := Lib.hid (set8_fin HKR6.out (.slice AL2 (allB (S2.rs.take S2.m)).length cL2) (.slice AT2 (allB (S2.rs.drop S2.m)).length cT2) (.int .i64 (q : Int)) (.slice R2 vs2.length c2) (.int .i64 (S2.m : Int)) (.slice AU2 us2.length cU2) (.slice AV2 ls2.length cV2) (.slice AC2 S2.acks.length cC2))
  have HTC : Hid (Touch (AndB F (w.heap.size + 1 + 1)) w6 (set8 w6 (w.heap.size + 1 + 1) (.slice AL2 (allB (S2.rs.take S2.m)).length cL2) (.slice AT2 (allB (S2.rs.drop S2.m)).length cT2) (.int .i64 (q : Int)) (.slice R2 vs2.length c2) (.int .i64 (S2.m : Int)) (.slice AU2 us2.length cU2) (.slice AV2 ls2.length cV2) (.slice AC2 S2.acks.length cC2))) := Lib.hid (set8_touch _ _ _ _ _ _ _ _)
  have HBB : Hid (Below w.heap.size w w6) := Lib.hid (HB0.out.trans (hb6.mono HB0.out.size))
  clear hb6 h6 hE2
  go_wp2
  obtain ⟨W8, hW8⟩ : ∃ W, set8 w6 (w.heap.size + 1 + 1) (.slice AL2 (allB (S2.rs.take S2.m)).length cL2) (.slice AT2 (allB (S2.rs.drop S2.m)).length cT2) (.int .i64 (q : Int)) (.slice R2 vs2.length c2) (.int .i64 (S2.m : Int)) (.slice AU2 us2.length cU2) (.slice AV2 ls2.length cV2) (.slice AC2 S2.acks.length cC2) = W := ⟨_, rfl⟩
  rw [hW8] at HF HTC
  unfold set8 at hW8
  rw [hW8]
  obtain ⟨W9, hW9⟩ : ∃ W, W8.alloc (.cells #[.slice AL2 (allB (S2.rs.take S2.m)).length cL2, .slice AT2 (allB (S2.rs.drop S2.m)).length cT2, .int .i64 (q : Int), .slice R2 vs2.length c2, .int .i64 (S2.m : Int), .slice AU2 us2.length cU2, .slice AV2 ls2.length cV2, .slice AC2 S2.acks.length cC2] 36) = W := ⟨_, rfl⟩
  have hb9 : Below W8.heap.size W8 W9 := by rw [← hW9]; exact (Below.refl _ _).alloc (Nat.le_refl _) _
  have HF9 := Lib.hid (HF.out.1.below hb9 HF.out.1.lt)
  have hb9w : Below w.heap.size w W9 := (HF.out.2.2.1 _ HBB.out (by omega)).trans (hb9.mono (HF.out.2.2.1 _ HBB.out (by omega)).size)
  rw [hW9]
  have g0 := HF9.out.cell 0
  have g1 := HF9.out.cell 1
  have g2 := HF9.out.cell 2
  have g3 := HF9.out.cell 3
  have g4 := HF9.out.cell 4
  have g5 := HF9.out.cell 5
  have g6 := HF9.out.cell 6
  have g7 := HF9.out.cell 7
  refine bodyPost_ret (v := .tuple #[.agg #[.slice AL2 (allB (S2.rs.take S2.m)).length cL2, .slice AT2 (allB (S2.rs.drop S2.m)).length cT2, .int .i64 (q : Int), .slice R2 vs2.length c2, .int .i64 (S2.m : Int), .slice AU2 us2.length cU2, .slice AV2 ls2.length cV2, .slice AC2 S2.acks.length cC2], .slice none 0 0, .int .i64 er]) (by simp [results, Tryz.results8, go_sem, g0, g1, g2, g3, g4, g5, g6, g7]) rfl ?_
  rw [HE2.out]
  exact ⟨_, q, none, 0, rfl, Nat.le_succ q, ⟨AL2, cL2, AT2, cT2, R2, c2, vs2, AU2, cU2, us2, AV2, cV2, ls2, AC2, cC2, rfl, (HT6.out.step HTC.out (F' := F) (fun k hk => Or.inl (Or.inl hk))).below hb9⟩, Or.inl rfl, hb9w⟩
theorem refst8_compact (w : World) (F : Nat → Prop) (S : St8) (q : Nat) (d : D8) (hq : q ≤ 4611686018427387904) (hS : Ok8 S) (hmx : (allB S.rs).length ≤ 4194304) (hok : OkT S.N) (hnl : S.N.length ≤ 8388608) (hac : S.acks.length ≤ 1466015503701) (hd : D8Ok w w.heap.size d) (hk : d.kind = 3) (hF : ∀ k, F k → k < w.heap.size) (hv : RowN F w d.e.2.1 (d.e.1.v.map byteV)) (v : Value) (h : RefTV F S q w v) :
    Calls Tryz.prog 8 #[v, dV d] w (RefSt F (d8S S d) q w) := by
  obtain ⟨AL, cL, AT, cT, R, c, vs, AU, cU, us, AV, cV, ls, AC, cC, rfl, h⟩ := h
  obtain ⟨W0, hW0, hb0, hkt, hke, hkr⟩ := s8_w0 w (.slice AL (allB (S.rs.take S.m)).length cL) (.slice AT (allB (S.rs.drop S.m)).length cT) (.int .i64 (q : Int)) (.slice R vs.length c) (.int .i64 (S.m : Int)) (.slice AU us.length cU) (.slice AV ls.length cV) (.slice AC S.acks.length cC) (.int .i64 d.kind) (.string ⟨d.e.1.k.toArray⟩) (.int .i64 d.e.1.s) (.int .i64 d.e.1.u) (.int .i64 d.e.1.o) (.bool d.e.1.has) (.slice d.e.2.1 d.e.1.v.length d.e.2.2) (.int .i64 d.who) (.int .i64 d.kept)
  have h0 := h.wide hb0 (b := w.heap.size + 1 + 1) (by omega)
  have hF0 : ∀ k, AndB F (w.heap.size + 1 + 1) k → k < W0.heap.size := fun k hk => by
    have h1 := hkr.lt
    rcases hk with hk | hk
    · have := hF k hk; omega
    · omega
  have hv0 : RowN (AndB F (w.heap.size + 1 + 1)) W0 d.e.2.1 (d.e.1.v.map byteV) := hv.grow (fun k hk => by
    rcases hk with hk | hk
    · exact Or.inl hk
    · exact Or.inr (by omega)) (Touch.ofBelow hb0)
  have hrt : RefTV (AndB F (w.heap.size + 1 + 1)) S q W0 (.agg #[.slice AL (allB (S.rs.take S.m)).length cL, .slice AT (allB (S.rs.drop S.m)).length cT, .int .i64 (q : Int), .slice R vs.length c, .int .i64 (S.m : Int), .slice AU us.length cU, .slice AV ls.length cV, .slice AC S.acks.length cC]) := ⟨AL, cL, AT, cT, R, c, vs, AU, cU, us, AV, cV, ls, AC, cC, rfl, h0⟩
  have hlens := d8_len hd
  have k1 : (d.kind == 1) = false := by simp [hk]
  have k2 : (d.kind == 2) = false := by simp [hk]
  have k3 : (d.kind == 3) = true := by simpa using hk
  have hcon := refcompact8_any (AndB F (w.heap.size + 1 + 1)) S q hq hmx hok hnl W0 hF0 _ hrt
  obtain ⟨S2, hS2⟩ : ∃ S2, (compS S).1 = S2 := ⟨_, rfl⟩
  obtain ⟨er, her⟩ : ∃ er : Int, (compS S).2 = er := ⟨_, rfl⟩
  have hE2 : d8S S d = (S2, [], er) := by rw [← hS2, ← her]; unfold d8S; rw [if_neg (by omega), if_neg (by omega), if_pos hk]
  rw [hS2, her] at hcon
  have HCON := Lib.hid (hcon)
  have HB0 := Lib.hid hb0
  have HKR0 := Lib.hid hkr
  have HW0 := Lib.hid hW0
  clear hF h hb0 hkt hke hkr h0 hW0 hrt hv0 hF0 hv hlens hq hS hmx hok hnl hac hd hk hS2 her hcon
  unfold dV
  go_enter Tryz.func8, Tryz.ntmps8
  go_wp2_with fail
  rw [HW0.out]
  refine HCON.out.mono ?_
  rintro e w6 ⟨v2, rfl, ⟨AL2, cL2, AT2, cT2, R2, c2, vs2, AU2, cU2, us2, AV2, cV2, ls2, AC2, cC2, rfl, h6⟩, hb6⟩
  have HKR6 := Lib.hid (HKR0.out.below hb6 HKR0.out.lt)
  have HZ3 : w.heap.size + 1 + 1 < w6.heap.size := HKR6.out.lt
  have HT6 := Lib.hid h6
  have HE2 := Lib.hid hE2
  have r0 := HKR6.out.cell 0
  have z0 := HKR6.out.frozen 0
  have r1 := HKR6.out.cell 1
  have z1 := HKR6.out.frozen 1
  have r2 := HKR6.out.cell 2
  have z2 := HKR6.out.frozen 2
  have r3 := HKR6.out.cell 3
  have z3 := HKR6.out.frozen 3
  have r4 := HKR6.out.cell 4
  have z4 := HKR6.out.frozen 4
  have r5 := HKR6.out.cell 5
  have z5 := HKR6.out.frozen 5
  have r6 := HKR6.out.cell 6
  have z6 := HKR6.out.frozen 6
  have r7 := HKR6.out.cell 7
  have z7 := HKR6.out.frozen 7
  have HF := Lib.hid (set8_fin HKR6.out (.slice AL2 (allB (S2.rs.take S2.m)).length cL2) (.slice AT2 (allB (S2.rs.drop S2.m)).length cT2) (.int .i64 (q : Int)) (.slice R2 vs2.length c2) (.int .i64 (S2.m : Int)) (.slice AU2 us2.length cU2) (.slice AV2 ls2.length cV2) (.slice AC2 S2.acks.length cC2))
  have HTC : Hid (Touch (AndB F (w.heap.size + 1 + 1)) w6 (set8 w6 (w.heap.size + 1 + 1) (.slice AL2 (allB (S2.rs.take S2.m)).length cL2) (.slice AT2 (allB (S2.rs.drop S2.m)).length cT2) (.int .i64 (q : Int)) (.slice R2 vs2.length c2) (.int .i64 (S2.m : Int)) (.slice AU2 us2.length cU2) (.slice AV2 ls2.length cV2) (.slice AC2 S2.acks.length cC2))) := Lib.hid (set8_touch _ _ _ _ _ _ _ _)
  have HBB : Hid (Below w.heap.size w w6) := Lib.hid (HB0.out.trans (hb6.mono HB0.out.size))
  clear hb6 h6 hE2
  go_wp2
  obtain ⟨W8, hW8⟩ : ∃ W, set8 w6 (w.heap.size + 1 + 1) (.slice AL2 (allB (S2.rs.take S2.m)).length cL2) (.slice AT2 (allB (S2.rs.drop S2.m)).length cT2) (.int .i64 (q : Int)) (.slice R2 vs2.length c2) (.int .i64 (S2.m : Int)) (.slice AU2 us2.length cU2) (.slice AV2 ls2.length cV2) (.slice AC2 S2.acks.length cC2) = W := ⟨_, rfl⟩
  rw [hW8] at HF HTC
  unfold set8 at hW8
  rw [hW8]
  obtain ⟨W9, hW9⟩ : ∃ W, W8.alloc (.cells #[.slice AL2 (allB (S2.rs.take S2.m)).length cL2, .slice AT2 (allB (S2.rs.drop S2.m)).length cT2, .int .i64 (q : Int), .slice R2 vs2.length c2, .int .i64 (S2.m : Int), .slice AU2 us2.length cU2, .slice AV2 ls2.length cV2, .slice AC2 S2.acks.length cC2] 36) = W := ⟨_, rfl⟩
  have hb9 : Below W8.heap.size W8 W9 := by rw [← hW9]; exact (Below.refl _ _).alloc (Nat.le_refl _) _
  have HF9 := Lib.hid (HF.out.1.below hb9 HF.out.1.lt)
  have hb9w : Below w.heap.size w W9 := (HF.out.2.2.1 _ HBB.out (by omega)).trans (hb9.mono (HF.out.2.2.1 _ HBB.out (by omega)).size)
  rw [hW9]
  have g0 := HF9.out.cell 0
  have g1 := HF9.out.cell 1
  have g2 := HF9.out.cell 2
  have g3 := HF9.out.cell 3
  have g4 := HF9.out.cell 4
  have g5 := HF9.out.cell 5
  have g6 := HF9.out.cell 6
  have g7 := HF9.out.cell 7
  refine bodyPost_ret (v := .tuple #[.agg #[.slice AL2 (allB (S2.rs.take S2.m)).length cL2, .slice AT2 (allB (S2.rs.drop S2.m)).length cT2, .int .i64 (q : Int), .slice R2 vs2.length c2, .int .i64 (S2.m : Int), .slice AU2 us2.length cU2, .slice AV2 ls2.length cV2, .slice AC2 S2.acks.length cC2], .slice none 0 0, .int .i64 er]) (by simp [results, Tryz.results8, go_sem, g0, g1, g2, g3, g4, g5, g6, g7]) rfl ?_
  rw [HE2.out]
  exact ⟨_, q, none, 0, rfl, Nat.le_succ q, ⟨AL2, cL2, AT2, cT2, R2, c2, vs2, AU2, cU2, us2, AV2, cV2, ls2, AC2, cC2, rfl, (HT6.out.step HTC.out (F' := F) (fun k hk => Or.inl (Or.inl hk))).below hb9⟩, Or.inl rfl, hb9w⟩
theorem refst8_neg (w : World) (F : Nat → Prop) (S : St8) (q : Nat) (d : D8) (hq : q ≤ 4611686018427387904) (hS : Ok8 S) (hmx : (allB S.rs).length ≤ 4194304) (hok : OkT S.N) (hnl : S.N.length ≤ 8388608) (hac : S.acks.length ≤ 1466015503701) (hd : D8Ok w w.heap.size d) (hk1 : d.kind ≠ 1) (hk2 : d.kind ≠ 2) (hk3 : d.kind ≠ 3) (hkp : d.kept < 0) (hF : ∀ k, F k → k < w.heap.size) (hv : RowN F w d.e.2.1 (d.e.1.v.map byteV)) (v : Value) (h : RefTV F S q w v) :
    Calls Tryz.prog 8 #[v, dV d] w (RefSt F (d8S S d) q w) := by
  obtain ⟨AL, cL, AT, cT, R, c, vs, AU, cU, us, AV, cV, ls, AC, cC, rfl, h⟩ := h
  obtain ⟨W0, hW0, hb0, hkt, hke, hkr⟩ := s8_w0 w (.slice AL (allB (S.rs.take S.m)).length cL) (.slice AT (allB (S.rs.drop S.m)).length cT) (.int .i64 (q : Int)) (.slice R vs.length c) (.int .i64 (S.m : Int)) (.slice AU us.length cU) (.slice AV ls.length cV) (.slice AC S.acks.length cC) (.int .i64 d.kind) (.string ⟨d.e.1.k.toArray⟩) (.int .i64 d.e.1.s) (.int .i64 d.e.1.u) (.int .i64 d.e.1.o) (.bool d.e.1.has) (.slice d.e.2.1 d.e.1.v.length d.e.2.2) (.int .i64 d.who) (.int .i64 d.kept)
  have h0 := h.wide hb0 (b := w.heap.size + 1 + 1) (by omega)
  have hF0 : ∀ k, AndB F (w.heap.size + 1 + 1) k → k < W0.heap.size := fun k hk => by
    have h1 := hkr.lt
    rcases hk with hk | hk
    · have := hF k hk; omega
    · omega
  have hv0 : RowN (AndB F (w.heap.size + 1 + 1)) W0 d.e.2.1 (d.e.1.v.map byteV) := hv.grow (fun k hk => by
    rcases hk with hk | hk
    · exact Or.inl hk
    · exact Or.inr (by omega)) (Touch.ofBelow hb0)
  have hrt : RefTV (AndB F (w.heap.size + 1 + 1)) S q W0 (.agg #[.slice AL (allB (S.rs.take S.m)).length cL, .slice AT (allB (S.rs.drop S.m)).length cT, .int .i64 (q : Int), .slice R vs.length c, .int .i64 (S.m : Int), .slice AU us.length cU, .slice AV ls.length cV, .slice AC S.acks.length cC]) := ⟨AL, cL, AT, cT, R, c, vs, AU, cU, us, AV, cV, ls, AC, cC, rfl, h0⟩
  have hlens := d8_len hd
  have k1 : (d.kind == 1) = false := by simpa using hk1
  have k2 : (d.kind == 2) = false := by simpa using hk2
  have k3 : (d.kind == 3) = false := by simpa using hk3
  have hcon := refcrash8_neg (AndB F (w.heap.size + 1 + 1)) S q d.kept hkp W0 _ hrt
  obtain ⟨S2, hS2⟩ : ∃ S2, S = S2 := ⟨_, rfl⟩
  obtain ⟨er, her⟩ : ∃ er : Int, (2 : Int) = er := ⟨_, rfl⟩
  have hE2 : d8S S d = (S2, [], er) := by rw [← hS2, ← her]; unfold d8S; rw [if_neg hk1, if_neg hk2, if_neg hk3, if_pos hkp]
  subst hS2
  subst her
  have HCON := Lib.hid (hcon)
  have HB0 := Lib.hid hb0
  have HKR0 := Lib.hid hkr
  have HW0 := Lib.hid hW0
  clear hF h hb0 hkt hke hkr h0 hW0 hrt hv0 hF0 hv hlens hq hS hmx hok hnl hac hd hk1 hk2 hk3 hkp hcon
  unfold dV
  go_enter Tryz.func8, Tryz.ntmps8
  go_wp2_with fail
  rw [HW0.out]
  refine HCON.out.mono ?_
  rintro e w6 ⟨v2, rfl, ⟨AL2, cL2, AT2, cT2, R2, c2, vs2, AU2, cU2, us2, AV2, cV2, ls2, AC2, cC2, rfl, h6⟩, hb6⟩
  have HKR6 := Lib.hid (HKR0.out.below hb6 HKR0.out.lt)
  have HZ3 : w.heap.size + 1 + 1 < w6.heap.size := HKR6.out.lt
  have HT6 := Lib.hid h6
  have HE2 := Lib.hid hE2
  have r0 := HKR6.out.cell 0
  have z0 := HKR6.out.frozen 0
  have r1 := HKR6.out.cell 1
  have z1 := HKR6.out.frozen 1
  have r2 := HKR6.out.cell 2
  have z2 := HKR6.out.frozen 2
  have r3 := HKR6.out.cell 3
  have z3 := HKR6.out.frozen 3
  have r4 := HKR6.out.cell 4
  have z4 := HKR6.out.frozen 4
  have r5 := HKR6.out.cell 5
  have z5 := HKR6.out.frozen 5
  have r6 := HKR6.out.cell 6
  have z6 := HKR6.out.frozen 6
  have r7 := HKR6.out.cell 7
  have z7 := HKR6.out.frozen 7
  have HF := Lib.hid (set8_fin HKR6.out (.slice AL2 (allB (S.rs.take S.m)).length cL2) (.slice AT2 (allB (S.rs.drop S.m)).length cT2) (.int .i64 (q : Int)) (.slice R2 vs2.length c2) (.int .i64 (S.m : Int)) (.slice AU2 us2.length cU2) (.slice AV2 ls2.length cV2) (.slice AC2 S.acks.length cC2))
  have HTC : Hid (Touch (AndB F (w.heap.size + 1 + 1)) w6 (set8 w6 (w.heap.size + 1 + 1) (.slice AL2 (allB (S.rs.take S.m)).length cL2) (.slice AT2 (allB (S.rs.drop S.m)).length cT2) (.int .i64 (q : Int)) (.slice R2 vs2.length c2) (.int .i64 (S.m : Int)) (.slice AU2 us2.length cU2) (.slice AV2 ls2.length cV2) (.slice AC2 S.acks.length cC2))) := Lib.hid (set8_touch _ _ _ _ _ _ _ _)
  have HBB : Hid (Below w.heap.size w w6) := Lib.hid (HB0.out.trans (hb6.mono HB0.out.size))
  clear hb6 h6 hE2
  go_wp2
  obtain ⟨W8, hW8⟩ : ∃ W, set8 w6 (w.heap.size + 1 + 1) (.slice AL2 (allB (S.rs.take S.m)).length cL2) (.slice AT2 (allB (S.rs.drop S.m)).length cT2) (.int .i64 (q : Int)) (.slice R2 vs2.length c2) (.int .i64 (S.m : Int)) (.slice AU2 us2.length cU2) (.slice AV2 ls2.length cV2) (.slice AC2 S.acks.length cC2) = W := ⟨_, rfl⟩
  rw [hW8] at HF HTC
  unfold set8 at hW8
  rw [hW8]
  obtain ⟨W9, hW9⟩ : ∃ W, W8.alloc (.cells #[.slice AL2 (allB (S.rs.take S.m)).length cL2, .slice AT2 (allB (S.rs.drop S.m)).length cT2, .int .i64 (q : Int), .slice R2 vs2.length c2, .int .i64 (S.m : Int), .slice AU2 us2.length cU2, .slice AV2 ls2.length cV2, .slice AC2 S.acks.length cC2] 36) = W := ⟨_, rfl⟩
  have hb9 : Below W8.heap.size W8 W9 := by rw [← hW9]; exact (Below.refl _ _).alloc (Nat.le_refl _) _
  have HF9 := Lib.hid (HF.out.1.below hb9 HF.out.1.lt)
  have hb9w : Below w.heap.size w W9 := (HF.out.2.2.1 _ HBB.out (by omega)).trans (hb9.mono (HF.out.2.2.1 _ HBB.out (by omega)).size)
  rw [hW9]
  have g0 := HF9.out.cell 0
  have g1 := HF9.out.cell 1
  have g2 := HF9.out.cell 2
  have g3 := HF9.out.cell 3
  have g4 := HF9.out.cell 4
  have g5 := HF9.out.cell 5
  have g6 := HF9.out.cell 6
  have g7 := HF9.out.cell 7
  refine bodyPost_ret (v := .tuple #[.agg #[.slice AL2 (allB (S.rs.take S.m)).length cL2, .slice AT2 (allB (S.rs.drop S.m)).length cT2, .int .i64 (q : Int), .slice R2 vs2.length c2, .int .i64 (S.m : Int), .slice AU2 us2.length cU2, .slice AV2 ls2.length cV2, .slice AC2 S.acks.length cC2], .slice none 0 0, .int .i64 2]) (by simp [results, Tryz.results8, go_sem, g0, g1, g2, g3, g4, g5, g6, g7]) rfl ?_
  rw [HE2.out]
  exact ⟨_, q, none, 0, rfl, Nat.le_succ q, ⟨AL2, cL2, AT2, cT2, R2, c2, vs2, AU2, cU2, us2, AV2, cV2, ls2, AC2, cC2, rfl, (HT6.out.step HTC.out (F' := F) (fun k hk => Or.inl (Or.inl hk))).below hb9⟩, Or.inl rfl, hb9w⟩
theorem refst8_crash (w : World) (F : Nat → Prop) (S : St8) (q : Nat) (d : D8) (hq : q ≤ 4611686018427387904) (hS : Ok8 S) (hmx : (allB S.rs).length ≤ 4194304) (hok : OkT S.N) (hnl : S.N.length ≤ 8388608) (hac : S.acks.length ≤ 1466015503701) (hd : D8Ok w w.heap.size d) (hk1 : d.kind ≠ 1) (hk2 : d.kind ≠ 2) (hk3 : d.kind ≠ 3) (hkp : ¬ d.kept < 0) (hsh : Short S.rs) (hF : ∀ k, F k → k < w.heap.size) (hv : RowN F w d.e.2.1 (d.e.1.v.map byteV)) (v : Value) (h : RefTV F S q w v) :
    Calls Tryz.prog 8 #[v, dV d] w (RefSt F (d8S S d) q w) := by
  obtain ⟨AL, cL, AT, cT, R, c, vs, AU, cU, us, AV, cV, ls, AC, cC, rfl, h⟩ := h
  obtain ⟨W0, hW0, hb0, hkt, hke, hkr⟩ := s8_w0 w (.slice AL (allB (S.rs.take S.m)).length cL) (.slice AT (allB (S.rs.drop S.m)).length cT) (.int .i64 (q : Int)) (.slice R vs.length c) (.int .i64 (S.m : Int)) (.slice AU us.length cU) (.slice AV ls.length cV) (.slice AC S.acks.length cC) (.int .i64 d.kind) (.string ⟨d.e.1.k.toArray⟩) (.int .i64 d.e.1.s) (.int .i64 d.e.1.u) (.int .i64 d.e.1.o) (.bool d.e.1.has) (.slice d.e.2.1 d.e.1.v.length d.e.2.2) (.int .i64 d.who) (.int .i64 d.kept)
  have h0 := h.wide hb0 (b := w.heap.size + 1 + 1) (by omega)
  have hF0 : ∀ k, AndB F (w.heap.size + 1 + 1) k → k < W0.heap.size := fun k hk => by
    have h1 := hkr.lt
    rcases hk with hk | hk
    · have := hF k hk; omega
    · omega
  have hv0 : RowN (AndB F (w.heap.size + 1 + 1)) W0 d.e.2.1 (d.e.1.v.map byteV) := hv.grow (fun k hk => by
    rcases hk with hk | hk
    · exact Or.inl hk
    · exact Or.inr (by omega)) (Touch.ofBelow hb0)
  have hrt : RefTV (AndB F (w.heap.size + 1 + 1)) S q W0 (.agg #[.slice AL (allB (S.rs.take S.m)).length cL, .slice AT (allB (S.rs.drop S.m)).length cT, .int .i64 (q : Int), .slice R vs.length c, .int .i64 (S.m : Int), .slice AU us.length cU, .slice AV ls.length cV, .slice AC S.acks.length cC]) := ⟨AL, cL, AT, cT, R, c, vs, AU, cU, us, AV, cV, ls, AC, cC, rfl, h0⟩
  have hlens := d8_len hd
  have k1 : (d.kind == 1) = false := by simpa using hk1
  have k2 : (d.kind == 2) = false := by simpa using hk2
  have k3 : (d.kind == 3) = false := by simpa using hk3
  obtain ⟨kp, hkpn⟩ : ∃ kp : Nat, d.kept = (kp : Int) := ⟨d.kept.toNat, by omega⟩
  obtain ⟨TT, htt⟩ := crash_told hS hsh kp
  have hcon := refcrash8_any (AndB F (w.heap.size + 1 + 1)) S q kp hq (by have := hd.p1; omega) hmx TT htt W0 hF0 _ hrt
  rw [← hkpn] at hcon
  obtain ⟨S2, hS2⟩ : ∃ S2, crash8S S kp = S2 := ⟨_, rfl⟩
  obtain ⟨er, her⟩ : ∃ er : Int, (0 : Int) = er := ⟨_, rfl⟩
  have hE2 : d8S S d = (S2, [], er) := by rw [← hS2, ← her]; unfold d8S; rw [if_neg hk1, if_neg hk2, if_neg hk3, if_neg hkp, hkpn]; rfl
  rw [hS2] at hcon
  subst her
  have HCON := Lib.hid (hcon)
  have HB0 := Lib.hid hb0
  have HKR0 := Lib.hid hkr
  have HW0 := Lib.hid hW0
  clear hF h hb0 hkt hke hkr h0 hW0 hrt hv0 hF0 hv hlens hq hS hmx hok hnl hac hd hk1 hk2 hk3 hkp hcon hS2 htt hkpn hsh
  unfold dV
  go_enter Tryz.func8, Tryz.ntmps8
  go_wp2_with fail
  rw [HW0.out]
  refine HCON.out.mono ?_
  rintro e w6 ⟨v2, rfl, ⟨AL2, cL2, AT2, cT2, R2, c2, vs2, AU2, cU2, us2, AV2, cV2, ls2, AC2, cC2, rfl, h6⟩, hb6⟩
  have HKR6 := Lib.hid (HKR0.out.below hb6 HKR0.out.lt)
  have HZ3 : w.heap.size + 1 + 1 < w6.heap.size := HKR6.out.lt
  have HT6 := Lib.hid h6
  have HE2 := Lib.hid hE2
  have r0 := HKR6.out.cell 0
  have z0 := HKR6.out.frozen 0
  have r1 := HKR6.out.cell 1
  have z1 := HKR6.out.frozen 1
  have r2 := HKR6.out.cell 2
  have z2 := HKR6.out.frozen 2
  have r3 := HKR6.out.cell 3
  have z3 := HKR6.out.frozen 3
  have r4 := HKR6.out.cell 4
  have z4 := HKR6.out.frozen 4
  have r5 := HKR6.out.cell 5
  have z5 := HKR6.out.frozen 5
  have r6 := HKR6.out.cell 6
  have z6 := HKR6.out.frozen 6
  have r7 := HKR6.out.cell 7
  have z7 := HKR6.out.frozen 7
  have HF := Lib.hid (set8_fin HKR6.out (.slice AL2 (allB (S2.rs.take S2.m)).length cL2) (.slice AT2 (allB (S2.rs.drop S2.m)).length cT2) (.int .i64 0) (.slice R2 vs2.length c2) (.int .i64 (S2.m : Int)) (.slice AU2 us2.length cU2) (.slice AV2 ls2.length cV2) (.slice AC2 S2.acks.length cC2))
  have HTC : Hid (Touch (AndB F (w.heap.size + 1 + 1)) w6 (set8 w6 (w.heap.size + 1 + 1) (.slice AL2 (allB (S2.rs.take S2.m)).length cL2) (.slice AT2 (allB (S2.rs.drop S2.m)).length cT2) (.int .i64 0) (.slice R2 vs2.length c2) (.int .i64 (S2.m : Int)) (.slice AU2 us2.length cU2) (.slice AV2 ls2.length cV2) (.slice AC2 S2.acks.length cC2))) := Lib.hid (set8_touch _ _ _ _ _ _ _ _)
  have HBB : Hid (Below w.heap.size w w6) := Lib.hid (HB0.out.trans (hb6.mono HB0.out.size))
  clear hb6 h6 hE2
  go_wp2
  obtain ⟨W8, hW8⟩ : ∃ W, set8 w6 (w.heap.size + 1 + 1) (.slice AL2 (allB (S2.rs.take S2.m)).length cL2) (.slice AT2 (allB (S2.rs.drop S2.m)).length cT2) (.int .i64 0) (.slice R2 vs2.length c2) (.int .i64 (S2.m : Int)) (.slice AU2 us2.length cU2) (.slice AV2 ls2.length cV2) (.slice AC2 S2.acks.length cC2) = W := ⟨_, rfl⟩
  rw [hW8] at HF HTC
  unfold set8 at hW8
  rw [hW8]
  obtain ⟨W9, hW9⟩ : ∃ W, W8.alloc (.cells #[.slice AL2 (allB (S2.rs.take S2.m)).length cL2, .slice AT2 (allB (S2.rs.drop S2.m)).length cT2, .int .i64 0, .slice R2 vs2.length c2, .int .i64 (S2.m : Int), .slice AU2 us2.length cU2, .slice AV2 ls2.length cV2, .slice AC2 S2.acks.length cC2] 36) = W := ⟨_, rfl⟩
  have hb9 : Below W8.heap.size W8 W9 := by rw [← hW9]; exact (Below.refl _ _).alloc (Nat.le_refl _) _
  have HF9 := Lib.hid (HF.out.1.below hb9 HF.out.1.lt)
  have hb9w : Below w.heap.size w W9 := (HF.out.2.2.1 _ HBB.out (by omega)).trans (hb9.mono (HF.out.2.2.1 _ HBB.out (by omega)).size)
  rw [hW9]
  have g0 := HF9.out.cell 0
  have g1 := HF9.out.cell 1
  have g2 := HF9.out.cell 2
  have g3 := HF9.out.cell 3
  have g4 := HF9.out.cell 4
  have g5 := HF9.out.cell 5
  have g6 := HF9.out.cell 6
  have g7 := HF9.out.cell 7
  refine bodyPost_ret (v := .tuple #[.agg #[.slice AL2 (allB (S2.rs.take S2.m)).length cL2, .slice AT2 (allB (S2.rs.drop S2.m)).length cT2, .int .i64 0, .slice R2 vs2.length c2, .int .i64 (S2.m : Int), .slice AU2 us2.length cU2, .slice AV2 ls2.length cV2, .slice AC2 S2.acks.length cC2], .slice none 0 0, .int .i64 0]) (by simp [results, Tryz.results8, go_sem, g0, g1, g2, g3, g4, g5, g6, g7]) rfl ?_
  rw [HE2.out]
  exact ⟨_, 0, none, 0, rfl, Nat.zero_le _, ⟨AL2, cL2, AT2, cT2, R2, c2, vs2, AU2, cU2, us2, AV2, cV2, ls2, AC2, cC2, rfl, (HT6.out.step HTC.out (F' := F) (fun k hk => Or.inl (Or.inl hk))).below hb9⟩, Or.inl rfl, hb9w⟩
theorem refst8_tick (w : World) (F : Nat → Prop) (S : St8) (q : Nat) (d : D8) (hq : q ≤ 4611686018427387904) (hS : Ok8 S) (hmx : (allB S.rs).length ≤ 4194304) (hok : OkT S.N) (hnl : S.N.length ≤ 8388608) (hac : S.acks.length ≤ 1466015503701) (hd : D8Ok w w.heap.size d) (hk : d.kind = 2) (hF : ∀ k, F k → k < w.heap.size) (hv : RowN F w d.e.2.1 (d.e.1.v.map byteV)) (v : Value) (h : RefTV F S q w v) :
    Calls Tryz.prog 8 #[v, dV d] w (RefSt F (d8S S d) q w) := by
  obtain ⟨AL, cL, AT, cT, R, c, vs, AU, cU, us, AV, cV, ls, AC, cC, rfl, h⟩ := h
  obtain ⟨W0, hW0, hb0, hkt, hke, hkr⟩ := s8_w0 w (.slice AL (allB (S.rs.take S.m)).length cL) (.slice AT (allB (S.rs.drop S.m)).length cT) (.int .i64 (q : Int)) (.slice R vs.length c) (.int .i64 (S.m : Int)) (.slice AU us.length cU) (.slice AV ls.length cV) (.slice AC S.acks.length cC) (.int .i64 d.kind) (.string ⟨d.e.1.k.toArray⟩) (.int .i64 d.e.1.s) (.int .i64 d.e.1.u) (.int .i64 d.e.1.o) (.bool d.e.1.has) (.slice d.e.2.1 d.e.1.v.length d.e.2.2) (.int .i64 d.who) (.int .i64 d.kept)
  have h0 := h.wide hb0 (b := w.heap.size + 1 + 1) (by omega)
  have hF0 : ∀ k, AndB F (w.heap.size + 1 + 1) k → k < W0.heap.size := fun k hk => by
    have h1 := hkr.lt
    rcases hk with hk | hk
    · have := hF k hk; omega
    · omega
  have hv0 : RowN (AndB F (w.heap.size + 1 + 1)) W0 d.e.2.1 (d.e.1.v.map byteV) := hv.grow (fun k hk => by
    rcases hk with hk | hk
    · exact Or.inl hk
    · exact Or.inr (by omega)) (Touch.ofBelow hb0)
  have hrt : RefTV (AndB F (w.heap.size + 1 + 1)) S q W0 (.agg #[.slice AL (allB (S.rs.take S.m)).length cL, .slice AT (allB (S.rs.drop S.m)).length cT, .int .i64 (q : Int), .slice R vs.length c, .int .i64 (S.m : Int), .slice AU us.length cU, .slice AV ls.length cV, .slice AC S.acks.length cC]) := ⟨AL, cL, AT, cT, R, c, vs, AU, cU, us, AV, cV, ls, AC, cC, rfl, h0⟩
  have hlens := d8_len hd
  have k1 : (d.kind == 1) = false := by simp [hk]
  have k2 : (d.kind == 2) = true := by simpa using hk
  have hcon := reftick8_any (AndB F (w.heap.size + 1 + 1)) S q hq hmx W0 hF0 _ hrt
  obtain ⟨S2, hS2⟩ : ∃ S2, tickS S = S2 := ⟨_, rfl⟩
  have hE2 : d8S S d = (S2, S.acks, 0) := by rw [← hS2]; unfold d8S; rw [if_neg (by omega), if_pos hk]
  rw [hS2] at hcon
  have hup : upN (allB (S.rs.drop S.m)) q ≤ q + 1 := by unfold upN; split <;> omega
  obtain ⟨q2, hq2⟩ : ∃ q2, upN (allB (S.rs.drop S.m)) q = q2 := ⟨_, rfl⟩
  rw [hq2] at hcon hup
  have HUP := Lib.hid hup
  have HCON := Lib.hid (hcon)
  have HB0 := Lib.hid hb0
  have HKR0 := Lib.hid hkr
  have HW0 := Lib.hid hW0
  clear hF h hb0 hkt hke hkr h0 hW0 hrt hv0 hF0 hv hlens hq hS hmx hok hnl hac hd hk hS2 hcon hup hq2
  unfold dV
  go_enter Tryz.func8, Tryz.ntmps8
  go_wp2_with fail
  rw [HW0.out]
  refine HCON.out.mono ?_
  rintro e w6 ⟨v2, AK, cK, rfl, ⟨AL2, cL2, AT2, cT2, R2, c2, vs2, AU2, cU2, us2, AV2, cV2, ls2, AC2, cC2, rfl, h6⟩, hak, hck, hb6⟩
  have HAK := Lib.hid hak
  have HKR6 := Lib.hid (HKR0.out.below hb6 HKR0.out.lt)
  have HZ3 : w.heap.size + 1 + 1 < w6.heap.size := HKR6.out.lt
  have HT6 := Lib.hid h6
  have HE2 := Lib.hid hE2
  have r0 := HKR6.out.cell 0
  have z0 := HKR6.out.frozen 0
  have r1 := HKR6.out.cell 1
  have z1 := HKR6.out.frozen 1
  have r2 := HKR6.out.cell 2
  have z2 := HKR6.out.frozen 2
  have r3 := HKR6.out.cell 3
  have z3 := HKR6.out.frozen 3
  have r4 := HKR6.out.cell 4
  have z4 := HKR6.out.frozen 4
  have r5 := HKR6.out.cell 5
  have z5 := HKR6.out.frozen 5
  have r6 := HKR6.out.cell 6
  have z6 := HKR6.out.frozen 6
  have r7 := HKR6.out.cell 7
  have z7 := HKR6.out.frozen 7
  have HF := Lib.hid (set8_fin HKR6.out (.slice AL2 (allB (S2.rs.take S2.m)).length cL2) (.slice AT2 (allB (S2.rs.drop S2.m)).length cT2) (.int .i64 (q2 : Int)) (.slice R2 vs2.length c2) (.int .i64 (S2.m : Int)) (.slice AU2 us2.length cU2) (.slice AV2 ls2.length cV2) (.slice AC2 S2.acks.length cC2))
  have HTC : Hid (Touch (AndB F (w.heap.size + 1 + 1)) w6 (set8 w6 (w.heap.size + 1 + 1) (.slice AL2 (allB (S2.rs.take S2.m)).length cL2) (.slice AT2 (allB (S2.rs.drop S2.m)).length cT2) (.int .i64 (q2 : Int)) (.slice R2 vs2.length c2) (.int .i64 (S2.m : Int)) (.slice AU2 us2.length cU2) (.slice AV2 ls2.length cV2) (.slice AC2 S2.acks.length cC2))) := Lib.hid (set8_touch _ _ _ _ _ _ _ _)
  have HBB : Hid (Below w.heap.size w w6) := Lib.hid (HB0.out.trans (hb6.mono HB0.out.size))
  clear hb6 h6 hE2
  go_wp2
  obtain ⟨W8, hW8⟩ : ∃ W, set8 w6 (w.heap.size + 1 + 1) (.slice AL2 (allB (S2.rs.take S2.m)).length cL2) (.slice AT2 (allB (S2.rs.drop S2.m)).length cT2) (.int .i64 (q2 : Int)) (.slice R2 vs2.length c2) (.int .i64 (S2.m : Int)) (.slice AU2 us2.length cU2) (.slice AV2 ls2.length cV2) (.slice AC2 S2.acks.length cC2) = W := ⟨_, rfl⟩
  rw [hW8] at HF HTC
  unfold set8 at hW8
  rw [hW8]
  obtain ⟨W9, hW9⟩ : ∃ W, W8.alloc (.cells #[.slice AL2 (allB (S2.rs.take S2.m)).length cL2, .slice AT2 (allB (S2.rs.drop S2.m)).length cT2, .int .i64 (q2 : Int), .slice R2 vs2.length c2, .int .i64 (S2.m : Int), .slice AU2 us2.length cU2, .slice AV2 ls2.length cV2, .slice AC2 S2.acks.length cC2] 36) = W := ⟨_, rfl⟩
  have hb9 : Below W8.heap.size W8 W9 := by rw [← hW9]; exact (Below.refl _ _).alloc (Nat.le_refl _) _
  have HF9 := Lib.hid (HF.out.1.below hb9 HF.out.1.lt)
  have hb9w : Below w.heap.size w W9 := (HF.out.2.2.1 _ HBB.out (by omega)).trans (hb9.mono (HF.out.2.2.1 _ HBB.out (by omega)).size)
  rw [hW9]
  have g0 := HF9.out.cell 0
  have g1 := HF9.out.cell 1
  have g2 := HF9.out.cell 2
  have g3 := HF9.out.cell 3
  have g4 := HF9.out.cell 4
  have g5 := HF9.out.cell 5
  have g6 := HF9.out.cell 6
  have g7 := HF9.out.cell 7
  refine bodyPost_ret (v := .tuple #[.agg #[.slice AL2 (allB (S2.rs.take S2.m)).length cL2, .slice AT2 (allB (S2.rs.drop S2.m)).length cT2, .int .i64 (q2 : Int), .slice R2 vs2.length c2, .int .i64 (S2.m : Int), .slice AU2 us2.length cU2, .slice AV2 ls2.length cV2, .slice AC2 S2.acks.length cC2], .slice AK S.acks.length cK, .int .i64 0]) (by simp [results, Tryz.results8, go_sem, g0, g1, g2, g3, g4, g5, g6, g7]) rfl ?_
  rw [HE2.out]
  exact ⟨_, q2, AK, cK, rfl, HUP.out, ⟨AL2, cL2, AT2, cT2, R2, c2, vs2, AU2, cU2, us2, AV2, cV2, ls2, AC2, cC2, rfl, (HT6.out.step HTC.out (F' := F) (fun k hk => Or.inl (Or.inl hk))).below hb9⟩, (HAK.out.step HTC.out (F' := F) (fun k hk => Or.inl (Or.inl hk))).below hb9, hb9w⟩
/-- A step, told by the reference. -/
theorem refst8_any (w : World) (F : Nat → Prop) (S : St8) (q : Nat) (d : D8) (hq : q ≤ 4611686018427387904) (hS : Ok8 S) (hmx : (allB S.rs).length ≤ 4194304) (hok : OkT S.N) (hnl : S.N.length ≤ 8388608) (hac : S.acks.length ≤ 1466015503701) (hd : D8Ok w w.heap.size d) (hsh : Short S.rs) (hF : ∀ k, F k → k < w.heap.size) (hv : RowN F w d.e.2.1 (d.e.1.v.map byteV)) (v : Value) (h : RefTV F S q w v) :
    Calls Tryz.prog 8 #[v, dV d] w (RefSt F (d8S S d) q w) := by
  by_cases k1 : d.kind = 1
  · exact refst8_put w F S q d hq hS hmx hok hnl hac hd k1 hF hv v h
  · by_cases k2 : d.kind = 2
    · exact refst8_tick w F S q d hq hS hmx hok hnl hac hd k2 hF hv v h
    · by_cases k3 : d.kind = 3
      · exact refst8_compact w F S q d hq hS hmx hok hnl hac hd k3 hF hv v h
      · by_cases kp : d.kept < 0
        · exact refst8_neg w F S q d hq hS hmx hok hnl hac hd k1 k2 k3 kp hF hv v h
        · exact refst8_crash w F S q d hq hS hmx hok hnl hac hd k1 k2 k3 kp hsh hF hv v h
end Go.Proofs.YtndbggkpobcpjaaGreat
