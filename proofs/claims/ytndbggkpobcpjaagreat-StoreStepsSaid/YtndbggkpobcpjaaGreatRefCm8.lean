/- Compact, told by the reference. -/
import Derived.Test.YtndbggkpobcpjaaGreatGrpE
import Derived.Test.YtndbggkpobcpjaaGreatGrpD
namespace Go.Proofs.YtndbggkpobcpjaaGreat
open Go.RowKit Go.ChangeShapes Mem Be Word Frm Go.Maps
set_option maxRecDepth 100000
set_option maxHeartbeats 8000000
set_option linter.unusedVariables false
theorem refbytesE_any (x : EV) (ok : okE x.1) (w : World) (h : ValOk w x.1.has x.2.1 x.1.v x.2.2) : Calls Tryz.prog 51 #[evV x] w (Made2 w.heap.size (putE x.1) 0 w) := by
  obtain ⟨⟨k, s, u, o, has, v⟩, A, c⟩ := x
  have hk : (⟨k.toArray⟩ : ByteArray).size = k.length := by show k.toArray.size = _; simp
  unfold okE at ok
  simp only at ok h ⊢
  cases has
  · have := refbytes_no ⟨k.toArray⟩ s u o A v v.length c rfl (by rw [hk]; exact ok) w h
    rw [kb_mk] at this
    exact this
  · have := refbytes_yes ⟨k.toArray⟩ s u o A v v.length c rfl (by rw [hk]; exact ok) w h
    rw [kb_mk] at this
    exact this
theorem refcompact8_any (F : Nat → Prop) (S : St8) (q : Nat) (hq : q ≤ 4611686018427387904) (hmx : (allB S.rs).length ≤ 4194304) (hok : OkT S.N) (hnl : S.N.length ≤ 8388608) (w : World) (hF : ∀ k, F k → k < w.heap.size) (v : Value) (h : RefTV F S q w v) :
    Calls Tryz.prog 22 #[v] w (RefTP F (fun v => .tuple #[v, .int .i64 (compS S).2]) (compS S).1 q w) := by
  obtain ⟨i0, hi0, hz0, hz1, hz2⟩ := info_parts info_b
  obtain ⟨AL, cL, AT, cT, R, c, vs, AU, cU, us, AV, cV, ls, AC, cC, rfl, h⟩ := h
  obtain ⟨W0, hW0, hb0, hkt, hkr⟩ := t8_w0 w (.slice AL (allB (S.rs.take S.m)).length cL) (.slice AT (allB (S.rs.drop S.m)).length cT) (.int .i64 (q : Int)) (.slice R vs.length c) (.int .i64 (S.m : Int)) (.slice AU us.length cU) (.slice AV ls.length cV) (.slice AC S.acks.length cC)
  have hF0 : ∀ k, AndB F (w.heap.size + 1) k → k < W0.heap.size := fun k hk => by
    have h1 := hkr.lt
    rcases hk with hk | hk
    · have := hF k hk; omega
    · omega
  have h0 := h.wide hb0 (b := w.heap.size + 1) (by omega)
  have hsum := all_drop S.rs S.m
  obtain ⟨L0, hL0⟩ : ∃ L0, allB (S.rs.take S.m) = L0 := ⟨_, rfl⟩
  obtain ⟨T0, hT0⟩ : ∃ T0, allB (S.rs.drop S.m) = T0 := ⟨_, rfl⟩
  have hvm : vs.length ≤ 1000000 := by
    have h1 := many_of (rs := vs.map rcOf) (M := 4194304) (by rw [h.rs]; exact hmx)
    rw [List.length_map] at h1; omega
  have hlog := h0.log
  rw [hL0, hT0] at hlog hW0 hkt ⊢
  rw [hL0, hT0] at hsum
  have HMX : Hid (L0.length + T0.length ≤ 4194304) := Lib.hid (by rw [hsum, List.length_append] at hmx; exact hmx)
  have HLOG := Lib.hid hlog
  have HL00 := Lib.hid (And.intro hL0 hT0)
  have HW0 := Lib.hid hW0
  have HB0 := Lib.hid hb0
  have HKT := Lib.hid hkt
  have HKR0 := Lib.hid hkr
  have HT0 := Lib.hid h0
  have HFF := Lib.hid hF0
  have HOKN := Lib.hid hok
  have HVM := Lib.hid hvm
  have HQ := Lib.hid hq
  have HUN := Lib.hid h.un
  have hul : us.length ≤ 8388608 := by rw [← h.un, List.length_map] at hnl; exact hnl
  have HUL := Lib.hid hul
  have hni : (us.length : Int) ≤ 8388608 := by omega
  clear hF h hsum hL0 hT0 hvm hlog hmx hb0 hkr hF0 h0 hkt hq hul hok hnl hW0
  go_enter Tryz.func22, Tryz.ntmps22
  go_wp2_with fail
  rw [HW0.out]
  go_loopw [4, 5] (fun v i wr => ∃ (j : Nat) (A1 : Option Addr) (c1 : Nat) (X : List UInt8), j ≤ us.length ∧ i = .int .i64 j ∧ v = .slice A1 X.length c1 ∧ Hid (X = rowsT (entT (us.take j))) ∧ Hid (X.length ≤ j * 70000) ∧ Hid (wr.ownsRow W0.heap.size 5 1 (.slice A1 X.length c1) X.length (X.map byteV)) ∧ Hid (Below W0.heap.size W0 wr)) (fun _ i _ => us.length - (intOf i).toNat)
  case atStart => exact ⟨0, none, 0, [], Nat.zero_le _, rfl, rfl, Lib.hid rfl, Lib.hid (Nat.zero_le _), Lib.hid (World.ownsRow_nil _ _ _ _), Lib.hid (Below.refl _ _)⟩
  case round =>
    obtain ⟨j, A1, c1, X, hj, rfl, rfl, HX, HXL, HO, HB⟩ := hrel
    have b5 : wr.cell? ⟨w.heap.size, 5, none⟩ = some (.slice AU us.length cU) := (HKT.out.below HB.out HKT.out.lt).cell 5
    by_cases hlt : j < us.length
    · have hev := HT0.out.ue.below HB.out
      obtain ⟨rb, ro, hA, -, hc⟩ := ents_open hev.env.row (by omega)
      obtain ⟨d0, d1, d2, d3, d4, d5⟩ := hc j hlt
      obtain ⟨x, hx⟩ : ∃ x, us[j] = x := ⟨_, rfl⟩
      have hxm : x ∈ us := by rw [← hx]; exact List.getElem_mem hlt
      have HSN : Hid (us.take (j + 1) = us.take j ++ [x]) := Lib.hid (by rw [List.take_succ_eq_append_getElem hlt, hx])
      rw [hx] at d0 d1 d2 d3 d4 d5
      have hokx : okE x.1 := HOKN.out.ok x.1 (by rw [← HUN.out]; exact List.mem_map_of_mem (f := Prod.fst) hxm)
      have hby := refbytesE_any x hokx wr (hev.env.val x hxm)
      have hpl := putE_len hokx
      have hji : (0 : Int) ≤ (j : Int) := by omega
      have hji2 : (j : Int) < (us.length : Int) := by omega
      obtain ⟨B, hB⟩ : ∃ B, putE x.1 = B := ⟨_, rfl⟩
      have HPB := Lib.hid hB
      rw [hB] at hby hpl
      have HPL := Lib.hid hpl
      have HBY := Lib.hid hby
      rw [hA] at b5
      clear hc hx hxm hB hby hpl hokx hev hA
      unfold evV at HBY
      go_wp2_with fail
      refine HBY.out.mono ?_
      rintro e w2 ⟨A2, c2, rfl, ho2, hb2⟩
      have HB2 : Hid (Below wr.heap.size wr w2) := Lib.hid hb2
      have HRW := Lib.hid (refrow_any w2.heap.size c2 B.length A2 B rfl w2 (Row.of_own ho2) (Nat.le_refl _) HPL.out)
      clear ho2 hb2
      go_wp2_with fail
      refine HRW.out.mono ?_
      rintro e w3 ⟨A3, c3, rfl, ho3, hb3⟩
      obtain ⟨Y, hY⟩ : ∃ Y, rowB B = Y := ⟨_, rfl⟩
      have HY := Lib.hid hY
      have hYl : Y.length ≤ 70000 := by
        have h1 := numB_le (B.length : Int)
        have h2 := HPL.out
        rw [← hY]; unfold rowB; rw [List.length_append]; omega
      have HYL := Lib.hid hYl
      rw [hY] at ho3
      have HB3 : Hid (Below wr.heap.size wr w3) := Lib.hid (HB2.out.trans (hb3.mono HB2.out.size))
      have HO3 := Lib.hid (ownLater HO.out HB3.out)
      have HR3 := Lib.hid (Row.of_own ho3)
      have HBW : Hid (Below W0.heap.size W0 w3) := Lib.hid (HB.out.trans (HB3.out.mono HB.out.size))
      clear ho3 hb3 HRW hY hYl
      rw [HY.out]
      go_wp2_with (at_builtin; refine wpList_app _ (by rfl) _ _ 27 (by rfl) W0.heap.size 5 i0 (.int .u8 0) 1 Tryz.underlying27 hi0 hz0 hz1 hz2 rfl _ X.length _ (by rfl) HO3.out w3.heap.size A3 Y.length c3 (Y.map byteV) (by rfl) (by simp) HR3.out (byte_one _) (by have h1 := HXL.out; have h2 := HYL.out; have h3 := HUL.out; unfold maxLen; omega) (by have h1 := HXL.out; have h2 := HYL.out; have h3 := HUL.out; omega) HBW.out.size ?_)
      intro v' w4 hown hgr _
      obtain ⟨A4, c4, rfl, _, _⟩ := ownShape hown
      have HB4 : Hid (Below W0.heap.size W0 w4) := Lib.hid (HBW.out.grown hgr HBW.out.size fun g h => (HO3.out.lt g h).1)
      have HO4 := Lib.hid hown
      clear hown hgr
      go_wp2
      go_roundw
      case rel => exact ⟨j + 1, A4, c4, X ++ Y, by omega, by go_num, by rw [List.length_append], Lib.hid (by rw [HSN.out, HX.out]; unfold rowsT entT; rw [List.map_append, List.flatMap_append]; simp [HPB.out, HY.out]), Lib.hid (by rw [List.length_append]; have h1 := HXL.out; have h2 := HYL.out; omega), Lib.hid (by rw [List.length_append, List.map_append]; exact HO4.out), HB4⟩
      case measure => simp [intOf]; omega
    · obtain rfl : j = us.length := by omega
      have ht : us.take us.length = us := List.take_of_length_le (Nat.le_refl _)
      rw [ht] at HX
      have HXN : Hid (X = rowsT S.N) := Lib.hid (by rw [HX.out, ← HUN.out])
      have hji2 : ¬ (us.length : Int) < (us.length : Int) := by omega
      have hkt2 := HKT.out.below HB.out HKT.out.lt
      have k0 : wr.cell? ⟨w.heap.size, 0, none⟩ = some (.slice AL L0.length cL) := hkt2.cell 0
      have k1 : wr.cell? ⟨w.heap.size, 1, none⟩ = some (.slice AT T0.length cT) := hkt2.cell 1
      have k2 : wr.cell? ⟨w.heap.size, 2, none⟩ = some (.int .i64 (q : Int)) := hkt2.cell 2
      have k3 : wr.cell? ⟨w.heap.size, 3, none⟩ = some (.slice R vs.length c) := hkt2.cell 3
      have k4 : wr.cell? ⟨w.heap.size, 4, none⟩ = some (.int .i64 (S.m : Int)) := hkt2.cell 4
      by_cases hbig : 65536 < X.length
      · have hcomp : compS S = (S, 3) := by unfold compS; rw [← HXN.out, if_pos hbig]
        have HCM := Lib.hid hcomp
        have HSN := Lib.hid (refsnap_long (AndB F (w.heap.size + 1)) AL AT R cL cT c S.m q L0 T0 vs A1 X c1 hbig wr (fun k hk => Nat.lt_of_lt_of_le (HFF.out k hk) HB.out.size) (HLOG.out.below HB.out) (Row.of_own HO.out))
        clear ht hcomp hkt2 hbig
        go_wp2_with fail
        refine HSN.out.mono ?_
        rintro e w2 ⟨rfl, hl2, hb2⟩
        clear k0 k1 k2 k3 k4 b5
        have hb02 : Below W0.heap.size W0 w2 := HB.out.trans (hb2.mono HB.out.size)
        have HB02 := Lib.hid hb02
        have HKT2 := Lib.hid (HKT.out.below hb02 HKT.out.lt)
        have HKR2 := Lib.hid (HKR0.out.below hb02 HKR0.out.lt)
        have HF := Lib.hid (set8_fin HKR2.out (.slice AL L0.length cL) (.slice AT T0.length cT) (.int .i64 (q : Int)) (.slice R vs.length c) (.int .i64 (S.m : Int)) (.slice AU us.length cU) (.slice AV ls.length cV) (.slice AC S.acks.length cC))
        have HTC : Hid (Touch (AndB F (w.heap.size + 1)) w2 (set8 w2 (w.heap.size + 1) (.slice AL L0.length cL) (.slice AT T0.length cT) (.int .i64 (q : Int)) (.slice R vs.length c) (.int .i64 (S.m : Int)) (.slice AU us.length cU) (.slice AV ls.length cV) (.slice AC S.acks.length cC))) := Lib.hid (set8_touch _ _ _ _ _ _ _ _)
        have HZ2 : w.heap.size + 1 < w2.heap.size := HKR2.out.lt
        have HZ1 : w.heap.size < w2.heap.size := HKT2.out.lt
        have HBB : Hid (Below w.heap.size w w2) := Lib.hid (HB0.out.trans (hb02.mono HB0.out.size))
        have HL2 := Lib.hid hl2
        have f0 : w2.cell? ⟨w.heap.size, 0, none⟩ = some (.slice AL L0.length cL) := HKT2.out.cell 0
        have f1 : w2.cell? ⟨w.heap.size, 1, none⟩ = some (.slice AT T0.length cT) := HKT2.out.cell 1
        have f2 : w2.cell? ⟨w.heap.size, 2, none⟩ = some (.int .i64 (q : Int)) := HKT2.out.cell 2
        have f3 : w2.cell? ⟨w.heap.size, 3, none⟩ = some (.slice R vs.length c) := HKT2.out.cell 3
        have f4 : w2.cell? ⟨w.heap.size, 4, none⟩ = some (.int .i64 (S.m : Int)) := HKT2.out.cell 4
        have f5 : w2.cell? ⟨w.heap.size, 5, none⟩ = some (.slice AU us.length cU) := HKT2.out.cell 5
        have f6 : w2.cell? ⟨w.heap.size, 6, none⟩ = some (.slice AV ls.length cV) := HKT2.out.cell 6
        have f7 : w2.cell? ⟨w.heap.size, 7, none⟩ = some (.slice AC S.acks.length cC) := HKT2.out.cell 7
        have r0 := HKR2.out.cell 0
        have z0 := HKR2.out.frozen 0
        have r1 := HKR2.out.cell 1
        have z1 := HKR2.out.frozen 1
        have r2 := HKR2.out.cell 2
        have z2 := HKR2.out.frozen 2
        have r3 := HKR2.out.cell 3
        have z3 := HKR2.out.frozen 3
        have r4 := HKR2.out.cell 4
        have z4 := HKR2.out.frozen 4
        have r5 := HKR2.out.cell 5
        have z5 := HKR2.out.frozen 5
        have r6 := HKR2.out.cell 6
        have z6 := HKR2.out.frozen 6
        have r7 := HKR2.out.cell 7
        have z7 := HKR2.out.frozen 7
        clear hb2 hb02 hl2
        go_wp2
        obtain ⟨W8, hW8⟩ : ∃ W, set8 w2 (w.heap.size + 1) (.slice AL L0.length cL) (.slice AT T0.length cT) (.int .i64 (q : Int)) (.slice R vs.length c) (.int .i64 (S.m : Int)) (.slice AU us.length cU) (.slice AV ls.length cV) (.slice AC S.acks.length cC) = W := ⟨_, rfl⟩
        rw [hW8] at HF HTC
        unfold set8 at hW8
        rw [hW8]
        obtain ⟨W9, hW9⟩ : ∃ W, W8.alloc (.cells #[.slice AL L0.length cL, .slice AT T0.length cT, .int .i64 (q : Int), .slice R vs.length c, .int .i64 (S.m : Int)] 32) = W := ⟨_, rfl⟩
        have hb9 : Below W8.heap.size W8 W9 := by rw [← hW9]; exact (Below.refl _ _).alloc (Nat.le_refl _) _
        have HF9 := Lib.hid (HF.out.1.below hb9 HF.out.1.lt)
        have hb9w : Below w.heap.size w W9 := (HF.out.2.2.1 _ HBB.out (by omega)).trans (hb9.mono (HF.out.2.2.1 _ HBB.out (by omega)).size)
        rw [hW9]
        have g0 := HF9.out.cell 0
        have g1 := HF9.out.cell 1
        have g2 := HF9.out.cell 2
        have g3 := HF9.out.cell 3
        have g4 := HF9.out.cell 4
        have g5 := HF9.out.cell 5
        have g6 := HF9.out.cell 6
        have g7 := HF9.out.cell 7
        (try simp only [Exit.inBlock, Exit.then])
        refine bodyPost_ret (v := .tuple #[.agg #[.slice AL L0.length cL, .slice AT T0.length cT, .int .i64 (q : Int), .slice R vs.length c, .int .i64 (S.m : Int), .slice AU us.length cU, .slice AV ls.length cV, .slice AC S.acks.length cC], .int .i64 3]) (by simp [results, Tryz.results22, go_sem, g0, g1, g2, g3, g4, g5, g6, g7]) rfl ?_
        rw [HCM.out]
        have h9 := ((HT0.out.below HB02.out).step HTC.out (F' := F) (fun k hk => Or.inl (Or.inl hk))).below hb9
        exact ⟨_, rfl, ⟨AL, cL, AT, cT, R, c, vs, AU, cU, us, AV, cV, ls, AC, cC, by rw [HL00.out.1, HL00.out.2], h9⟩, hb9w⟩
      · have hcomp : compS S = (⟨[(0, rowsT S.N)], 1, S.N, S.N, S.acks⟩, 0) := by unfold compS; rw [← HXN.out, if_neg hbig]
        have HCM := Lib.hid hcomp
        have HSN := Lib.hid (refsnap_any (AndB F (w.heap.size + 1)) AL AT R cL cT c S.m q L0 T0 vs HMX.out HVM.out HQ.out A1 X c1 (by omega) wr (fun k hk => Nat.lt_of_lt_of_le (HFF.out k hk) HB.out.size) (HLOG.out.below HB.out) (rowN_own HFF.out HO.out))
        obtain ⟨n2, hn2⟩ : ∃ n2, (frB (0, X)).length = n2 := ⟨_, rfl⟩
        have HN2 := Lib.hid hn2
        clear ht hcomp hkt2 hbig hn2
        go_wp2_with fail
        refine HSN.out.mono ?_
        rintro e w2 ⟨AL2, cL2, AT2, cT2, R2, c2, vs2, hvs2, rfl, hl2, hb2⟩
        simp only [List.length_nil]
        rw [HN2.out]
        have HV2 := Lib.hid hvs2
        clear k0 k1 k2 k3 k4 b5 hvs2
        have hb02 : Below W0.heap.size W0 w2 := HB.out.trans (hb2.mono HB.out.size)
        have HB02 := Lib.hid hb02
        have HKT2 := Lib.hid (HKT.out.below hb02 HKT.out.lt)
        have HKR2 := Lib.hid (HKR0.out.below hb02 HKR0.out.lt)
        have HF := Lib.hid (set8_fin HKR2.out (.slice AL2 n2 cL2) (.slice AT2 0 cT2) (.int .i64 (q : Int)) (.slice R2 vs2.length c2) (.int .i64 1) (.slice AU us.length cU) (.slice AU us.length cU) (.slice AC S.acks.length cC))
        have HTC : Hid (Touch (AndB F (w.heap.size + 1)) w2 (set8 w2 (w.heap.size + 1) (.slice AL2 n2 cL2) (.slice AT2 0 cT2) (.int .i64 (q : Int)) (.slice R2 vs2.length c2) (.int .i64 1) (.slice AU us.length cU) (.slice AU us.length cU) (.slice AC S.acks.length cC))) := Lib.hid (set8_touch _ _ _ _ _ _ _ _)
        have HZ2 : w.heap.size + 1 < w2.heap.size := HKR2.out.lt
        have HZ1 : w.heap.size < w2.heap.size := HKT2.out.lt
        have HBB : Hid (Below w.heap.size w w2) := Lib.hid (HB0.out.trans (hb02.mono HB0.out.size))
        have HL2 := Lib.hid hl2
        have f0 : w2.cell? ⟨w.heap.size, 0, none⟩ = some (.slice AL L0.length cL) := HKT2.out.cell 0
        have f1 : w2.cell? ⟨w.heap.size, 1, none⟩ = some (.slice AT T0.length cT) := HKT2.out.cell 1
        have f2 : w2.cell? ⟨w.heap.size, 2, none⟩ = some (.int .i64 (q : Int)) := HKT2.out.cell 2
        have f3 : w2.cell? ⟨w.heap.size, 3, none⟩ = some (.slice R vs.length c) := HKT2.out.cell 3
        have f4 : w2.cell? ⟨w.heap.size, 4, none⟩ = some (.int .i64 (S.m : Int)) := HKT2.out.cell 4
        have f5 : w2.cell? ⟨w.heap.size, 5, none⟩ = some (.slice AU us.length cU) := HKT2.out.cell 5
        have f6 : w2.cell? ⟨w.heap.size, 6, none⟩ = some (.slice AV ls.length cV) := HKT2.out.cell 6
        have f7 : w2.cell? ⟨w.heap.size, 7, none⟩ = some (.slice AC S.acks.length cC) := HKT2.out.cell 7
        have r0 := HKR2.out.cell 0
        have z0 := HKR2.out.frozen 0
        have r1 := HKR2.out.cell 1
        have z1 := HKR2.out.frozen 1
        have r2 := HKR2.out.cell 2
        have z2 := HKR2.out.frozen 2
        have r3 := HKR2.out.cell 3
        have z3 := HKR2.out.frozen 3
        have r4 := HKR2.out.cell 4
        have z4 := HKR2.out.frozen 4
        have r5 := HKR2.out.cell 5
        have z5 := HKR2.out.frozen 5
        have r6 := HKR2.out.cell 6
        have z6 := HKR2.out.frozen 6
        have r7 := HKR2.out.cell 7
        have z7 := HKR2.out.frozen 7
        clear hb2 hb02 hl2
        go_wp2
        obtain ⟨W8, hW8⟩ : ∃ W, set8 w2 (w.heap.size + 1) (.slice AL2 n2 cL2) (.slice AT2 0 cT2) (.int .i64 (q : Int)) (.slice R2 vs2.length c2) (.int .i64 1) (.slice AU us.length cU) (.slice AU us.length cU) (.slice AC S.acks.length cC) = W := ⟨_, rfl⟩
        rw [hW8] at HF HTC
        unfold set8 at hW8
        rw [hW8]
        obtain ⟨W9, hW9⟩ : ∃ W, W8.alloc (.cells #[.slice AL2 n2 cL2, .slice AT2 0 cT2, .int .i64 (q : Int), .slice R2 vs2.length c2, .int .i64 1] 32) = W := ⟨_, rfl⟩
        have hb9 : Below W8.heap.size W8 W9 := by rw [← hW9]; exact (Below.refl _ _).alloc (Nat.le_refl _) _
        have HF9 := Lib.hid (HF.out.1.below hb9 HF.out.1.lt)
        have hb9w : Below w.heap.size w W9 := (HF.out.2.2.1 _ HBB.out (by omega)).trans (hb9.mono (HF.out.2.2.1 _ HBB.out (by omega)).size)
        rw [hW9]
        have g0 := HF9.out.cell 0
        have g1 := HF9.out.cell 1
        have g2 := HF9.out.cell 2
        have g3 := HF9.out.cell 3
        have g4 := HF9.out.cell 4
        have g5 := HF9.out.cell 5
        have g6 := HF9.out.cell 6
        have g7 := HF9.out.cell 7
        (try simp only [Exit.inBlock, Exit.then])
        refine bodyPost_ret (v := .tuple #[.agg #[.slice AL2 n2 cL2, .slice AT2 0 cT2, .int .i64 (q : Int), .slice R2 vs2.length c2, .int .i64 1, .slice AU us.length cU, .slice AU us.length cU, .slice AC S.acks.length cC], .int .i64 0]) (by simp [results, Tryz.results22, go_sem, g0, g1, g2, g3, g4, g5, g6, g7]) rfl ?_
        rw [HCM.out, ← HXN.out]
        have h9 := ((HT0.out.below HB02.out).step HTC.out (F' := F) (fun k hk => Or.inl (Or.inl hk))).below hb9
        have e1 : allB (([(0, X)] : List Rc).take 1) = frB (0, X) := by simp [allB]
        have e2 : allB (([(0, X)] : List Rc).drop 1) = [] := rfl
        refine ⟨_, rfl, ⟨AL2, cL2, AT2, cT2, R2, c2, vs2, AU, cU, us, AU, cU, us, AC, cC, ?_, ⟨HV2.out, ?_, h9.un, h9.uc, h9.ue, h9.un, h9.uc, h9.ue, h9.ar, h9.ac⟩⟩, hb9w⟩
        · simp only [e1, e2, HN2.out]
          rfl
        · simp only [e1, e2]
          exact (HL2.out.step HTC.out (F' := F) (fun k hk => Or.inl (Or.inl hk))).below hb9
end Go.Proofs.YtndbggkpobcpjaaGreat
