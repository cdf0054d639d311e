/- The reference's log: Append. Written by tools/gen_reflog7a.py. -/
import Derived.Test.YtkagfjjocmjeoaaRefLog7C
namespace Go.Proofs.Ytkagfjjocmjeoaa
open Go.RowKit Mem Be Word Frm
set_option maxRecDepth 100000
set_option maxHeartbeats 8000000
set_option linter.unusedVariables false
theorem refapp_zero (F : Nat → Prop) (AL AT R : Option Addr) (cL cT c m q : Nat) (L T : List UInt8) (vs : List RecV) (hmx : L.length + T.length ≤ 4194304) (hvm : vs.length ≤ 1000000) (hq : q ≤ 4611686018427387904) (A0 : Option Addr) (n c0 : Nat) (w : World) (hF : ∀ k, F k → k < w.heap.size) (h : RefL w F AL cL AT cT R c L T vs) :
    Calls Try.prog 35 #[.agg #[.slice AL L.length cL, .slice AT T.length cT, .int .i64 (q : Int), .slice R vs.length c, .int .i64 (m : Int)], .int .u8 0, .slice A0 n c0] w (RefP F (fun v => .tuple #[v, .int .i64 2]) L T q m (vs.map rcOf) w) := by
  have HX := Lib.hid h
  have HFF := Lib.hid hF
  clear h hF hmx hvm hq
  go_enter Try.func35, Try.ntmps35
  go_wp2
  refine bodyPost_ret (v := .tuple #[.agg #[.slice AL L.length cL, .slice AT T.length cT, .int .i64 (q : Int), .slice R vs.length c, .int .i64 (m : Int)], .int .i64 2]) (by simp [results, Try.results35, go_sem]) rfl ?_
  have hb : Below w.heap.size w ((w.alloc (.cells #[.slice AL L.length cL, .slice AT T.length cT, .int .i64 (q : Int), .slice R vs.length c, .int .i64 (m : Int)] 32)).alloc (.cells #[.slice AL L.length cL, .slice AT T.length cT, .int .i64 (q : Int), .slice R vs.length c, .int .i64 (m : Int)] 32)) := ((Below.refl _ _).alloc (Nat.le_refl _) _).alloc (by simp) _
  exact ⟨AL, cL, AT, cT, R, c, vs, rfl, rfl, HX.out.below hb, hb⟩
theorem refapp_any (F : Nat → Prop) (AL AT R : Option Addr) (cL cT c m q : Nat) (L T : List UInt8) (vs : List RecV) (hmx : L.length + T.length ≤ 4194304) (hvm : vs.length ≤ 1000000) (hq : q ≤ 4611686018427387904) (k : UInt8) (hk : k ≠ 0) (A0 : Option Addr) (c0 : Nat) (ls : List RowV) (hll : ls.length ≤ 100000) (hls : ∀ b ∈ bytesR ls, b.length ≤ 65536) (hlb : L.length + T.length + (allB (newR k (bytesR ls))).length ≤ 4194304) (w : World) (hF : ∀ k, F k → k < w.heap.size) (h : RefL w F AL cL AT cT R c L T vs) (h0 : RowN F w A0 (ls.map rowV)) (hrs : ∀ r ∈ ls, RowN F w r.1 (r.2.1.map byteV)) :
    Calls Try.prog 35 #[.agg #[.slice AL L.length cL, .slice AT T.length cT, .int .i64 (q : Int), .slice R vs.length c, .int .i64 (m : Int)], .int .u8 (k.toNat : Int), .slice A0 ls.length c0] w (RefP F (fun v => .tuple #[v, .int .i64 0]) L (T ++ allB (newR k (bytesR ls))) q m (vs.map rcOf ++ newR k (bytesR ls)) w) := by
  have hkz := u8_zero hk
  obtain ⟨Y, hY⟩ : ∃ Y, allB (newR k (bytesR ls)) = Y := ⟨_, rfl⟩
  obtain ⟨Z, hZ⟩ : ∃ Z, T ++ Y = Z := ⟨_, rfl⟩
  rw [hY] at hlb ⊢
  rw [hZ]
  obtain ⟨hb1, hk0, hk1⟩ := ref_w1 w (.slice AL L.length cL) (.slice AT T.length cT) (.int .i64 (q : Int)) (.slice R vs.length c) (.int .i64 (m : Int))
  obtain ⟨W1, hW1⟩ : ∃ W, (w.alloc (.cells #[.slice AL L.length cL, .slice AT T.length cT, .int .i64 (q : Int), .slice R vs.length c, .int .i64 (m : Int)] 32)).alloc (.cells #[.slice none 0 0, .slice none 0 0, .int .i64 0, .slice none 0 0, .int .i64 0] 32) = W := ⟨_, rfl⟩
  rw [hW1] at hb1 hk0 hk1
  have hl1 := h.wide hb1 (b := w.heap.size + 1) (by omega)
  have hF1 : ∀ k, AndB F (w.heap.size + 1) k → k < W1.heap.size := fun k hk => by
    rcases hk with h1 | h1
    · exact Nat.lt_of_lt_of_le (hF k h1) hb1.size
    · rw [h1]; exact hk1.lt
  have hw1 : ∀ {A : Option Addr} {xs : List Value}, RowN F w A xs → RowN (AndB F (w.heap.size + 1)) W1 A xs := fun hx => hx.step (Touch.ofBelow hb1) fun j hj => by
    rcases hj with h1 | h1
    · exact Or.inl h1
    · exact Or.inr (by omega)
  have HRS : Hid (∀ r ∈ ls, RowN (AndB F (w.heap.size + 1)) W1 r.1 (r.2.1.map byteV)) := Lib.hid fun r hr => hw1 (hrs r hr)
  have HREC := Lib.hid (refrecords_any k ls.length c0 A0 ls rfl hll W1 (hw1 h0).row)
  have hlong : longN ((recR k ls).map rcOf) ≤ 10000000 := by
    have h1 : longN ((recR k ls).map rcOf) = (allB ((recR k ls).map rcOf)).length := rfl
    rw [h1, recR_rc, hY]; omega
  have hshort : Short ((recR k ls).map rcOf) := by
    rw [recR_rc]
    intro r hr
    obtain ⟨b, hb, rfl⟩ := List.mem_map.1 hr
    exact hls b hb
  have HALL : Hid (∀ W A c', Below W1.heap.size W1 W → Row W W.heap.size A (recsC (recR k ls)) → Calls Try.prog 57 #[.slice A ls.length c'] W (MadeF W.heap.size (Y, 0) W)) := Lib.hid fun W A c' hb hr => by
    have := refall5_any ls.length c' A (recR k ls) (recR_len k ls).symm W hr (fun r hr => by
      obtain ⟨x, hx, rfl⟩ := List.mem_map.1 hr
      exact ((HRS.out x hx).below hb).row) hshort hlong (by omega)
    rw [recR_rc, hY] at this
    exact this
  have HST : Hid (∀ W A c', Below W1.heap.size W1 W → RowN (AndB F (w.heap.size + 1)) W A (Y.map byteV) → Calls Try.prog 58 #[.agg #[.slice AL L.length cL, .slice AT T.length cT, .int .i64 (q : Int)], .agg #[.int .i64 1, .slice A Y.length c', .int .i64 0]] W (StepP (AndB F (w.heap.size + 1)) (L, Z, q, 0) W)) := Lib.hid fun W A c' hb hr => by
    have hst := step6_any (AndB F (w.heap.size + 1)) L T Y q 1 0 AL AT A L.length T.length Y.length cL cT c' rfl rfl rfl hl1.hl hl1.ht (by omega) hmx hq W (fun j hj => Nat.lt_of_lt_of_le (hF1 j hj) hb.size) (hl1.below hb).rl (hl1.below hb).rt hr
    rw [show doS L T q 1 Y 0 = (L, Z, q, 0) by unfold doS; rw [if_pos rfl, if_neg (by omega), hZ]] at hst
    exact hst
  have hyi : (Y.length : Int) ≤ 4194304 := by omega
  have hli : (ls.length : Int) ≤ 100000 := by omega
  have HNN : Hid (vs.length ≤ 1000000 ∧ ls.length ≤ 100000) := Lib.hid ⟨hvm, hll⟩
  have HYY := Lib.hid hY
  have HB1 := Lib.hid hb1
  have HK0 := Lib.hid hk0
  have HK1 := Lib.hid hk1
  have HL1 := Lib.hid hl1
  have HF1 := Lib.hid hF1
  have HW1 := Lib.hid hW1
  have f0 := hk0.cell 0
  have f1 := hk0.cell 1
  have f2 := hk0.cell 2
  have f3 := hk0.cell 3
  have f4 := hk0.cell 4
  have hvi : (vs.length : Int) ≤ 1000000 := by omega
  clear hmx hvm hq hF h hb1 hk0 hk1 hW1 hl1 hF1 hY hZ hlong hshort hw1 h0 hrs hlb hls hll hk
  go_enter Try.func35, Try.ntmps35
  go_wp2_with fail
  rw [HW1.out]
  refine HREC.out.mono ?_
  rintro e w2 ⟨A2, c2, rfl, ho2, hb2⟩
  have HB2 := Lib.hid hb2
  have HO2 := Lib.hid ho2
  clear f0 f1 f2 f3 f4 ho2 hb2 HREC
  go_wp2_with fail
  refine (HALL.out w2 A2 c2 HB2.out (ownRow HO2.out)).mono ?_
  rintro e w3 ⟨Ay, cy, rfl, hoy, hb3⟩
  simp only at hoy ⊢
  have HB3 := Lib.hid (HB2.out.trans (hb3.mono HB2.out.size))
  have HO3 := Lib.hid (ownLater HO2.out hb3)
  have HY3 := Lib.hid (rowN_own (fun j hj => Nat.lt_of_lt_of_le (HF1.out j hj) HB2.out.size) hoy)
  have HKA := Lib.hid (HK0.out.below HB3.out HK0.out.lt)
  have f0 := HKA.out.cell 0
  have f1 := HKA.out.cell 1
  have f2 := HKA.out.cell 2
  clear hoy hb3 HB2 HO2 HALL
  go_wp2_with fail
  refine (HST.out w3 Ay cy HB3.out HY3.out).mono ?_
  rintro e w4 ⟨A1, c1, A3, c3, rfl, h1, h2, hr1, hr2, hb4⟩
  simp only at h1 h2 hr1 hr2 ⊢
  have hb14 : Below W1.heap.size W1 w4 := HB3.out.trans (hb4.mono HB3.out.size)
  have hal : Below w4.heap.size w4 (w4.alloc (.cells #[.slice A1 L.length c1, .slice A3 Z.length c3, .int .i64 (q : Int)] 29)) := (Below.refl _ _).alloc (Nat.le_refl _) _
  have HB4 : Hid (Below W1.heap.size W1 (w4.alloc (.cells #[.slice A1 L.length c1, .slice A3 Z.length c3, .int .i64 (q : Int)] 29))) := Lib.hid (hb14.trans (hal.mono hb14.size))
  have HO4 : Hid ((w4.alloc (.cells #[.slice A1 L.length c1, .slice A3 Z.length c3, .int .i64 (q : Int)] 29)).ownsRow W1.heap.size 64 2 (.slice A2 ls.length c2) ls.length (recsC (recR k ls))) := Lib.hid (ownLater (ownLater HO3.out hb4) hal)
  have HN4 := Lib.hid (Blk.new w4 29 #[.slice A1 L.length c1, .slice A3 Z.length c3, .int .i64 (q : Int)])
  have HRL := Lib.hid (And.intro h1 (And.intro h2 (And.intro (hr1.below hal) (hr2.below hal))))
  obtain ⟨W4, hW4⟩ : ∃ W, w4.alloc (.cells #[.slice A1 L.length c1, .slice A3 Z.length c3, .int .i64 (q : Int)] 29) = W := ⟨_, rfl⟩
  obtain ⟨b6, hb6⟩ : ∃ b, w4.heap.size = b := ⟨_, rfl⟩
  rw [hW4] at HB4 HO4 HN4 HRL
  rw [hb6] at HN4
  have HKB := Lib.hid (HK0.out.below HB4.out HK0.out.lt)
  have HLB := Lib.hid (HL1.out.below HB4.out)
  have HW4 := Lib.hid hW4
  have HB6 := Lib.hid hb6
  have HSB : Hid (w.heap.size + 1 < b6) := Lib.hid (by have := HK1.out.lt; have := hb14.size; omega)
  clear f0 f1 f2 h1 h2 hr1 hr2 hb4 hb14 hal hW4 hb6 HB3 HO3 HY3 HKA HST
  have g3 : (w4.alloc (.cells #[.slice A1 L.length c1, .slice A3 Z.length c3, .int .i64 (q : Int)] 29)).cell? ⟨w.heap.size, 3, none⟩ = some (.slice R vs.length c) := by rw [HW4.out]; exact HKB.out.cell 3
  go_wp2_with (at_builtin; rw [HW4.out]; rw [HB6.out]; refine wpList_appR rfl _ _ rfl W4.heap.size (.slice none 0 0) 0 [] rfl (World.ownsRow_nil _ _ _ _) W4.heap.size R vs.length c vs rfl rfl HLB.out.rr.row (by have := HNN.out; omega) (Nat.le_refl _) ?_)
  intro A5 c5 w5 hown hgr
  have HB5 : Hid (Below W4.heap.size W4 w5) := Lib.hid ((Below.refl _ _).grown hgr (Nat.le_refl _) (fun g hg => by simp [Value.ownBlock] at hg))
  have HO5 : Hid (w5.ownsRow W4.heap.size 64 2 (.slice A5 vs.length c5) vs.length (recsC vs)) := Lib.hid (by simpa using hown)
  have HM5 := Lib.hid (ownRow (ownLater HO4.out HB5.out))
  clear hown hgr g3
  go_wp2_with (at_builtin; refine wpList_appR rfl _ _ rfl W4.heap.size _ vs.length vs rfl HO5.out w5.heap.size A2 ls.length c2 (recR k ls) rfl (recR_len k ls) HM5.out (by have := HNN.out; omega) HB5.out.size ?_)
  intro A6 c6 w6 hown hgr
  obtain ⟨kk, hkk⟩ : ∃ x, vs.length + ls.length = x := ⟨_, rfl⟩
  rw [hkk] at hown ⊢
  have hkl : (vs ++ recR k ls).length = kk := by rw [List.length_append, recR_len]; exact hkk
  have hb6w : Below W4.heap.size W4 w6 := HB5.out.grown hgr HB5.out.size fun g hg => (HO5.out.lt g hg).1
  have ho6 : w6.ownsRow W4.heap.size 64 2 (.slice A6 kk c6) kk (recsC (vs ++ recR k ls)) := by rw [recsC_app]; simpa [recsC] using hown
  have hcr : kk ≤ c6 := by
    obtain ⟨A', c', he, h2, _⟩ := ownShape ho6
    injection he with _ _ he
    omega
  have hF4 : ∀ j, AndB F (w.heap.size + 1) j → j < W4.heap.size := fun j hj => Nat.lt_of_lt_of_le (HF1.out j hj) HB4.out.size
  have hb16 : Below W1.heap.size W1 w6 := HB4.out.trans (hb6w.mono HB4.out.size)
  have HBT : Hid (Below w.heap.size w w6) := Lib.hid (HB1.out.trans (hb16.mono HB1.out.size))
  have HK3 := Lib.hid (HK1.out.below hb16 HK1.out.lt)
  have HL3 : Hid (RefL w6 (AndB F (w.heap.size + 1)) A1 c1 A3 c3 A6 c6 L Z (vs ++ recR k ls)) := Lib.hid ⟨HRL.out.1, HRL.out.2.1, by rw [hkl]; exact hcr, HRL.out.2.2.1.below hb6w, HRL.out.2.2.2.below hb6w, rowN_own hF4 ho6, fun v hv => by
    rcases List.mem_append.1 hv with hv | hv
    · exact (HL1.out.rb v hv).below hb16
    · obtain ⟨x, hx, rfl⟩ := List.mem_map.1 hv
      exact (HRS.out x hx).below hb16⟩
  have HKL := Lib.hid hkl
  have hn6 := HN4.out.below hb6w HN4.out.lt
  have d0 := hn6.cell 0
  have d1 := hn6.cell 1
  have d2 := hn6.cell 2
  have f4 := (HK0.out.below hb16 HK0.out.lt).cell 4
  have hki : (kk : Int) ≤ 1100000 := by have := HNN.out; omega
  clear hown hgr hkk hkl hb6w ho6 hcr hF4 hb16 hn6 HB5 HO5 HM5 HO4 HN4 HRL HKB HLB HB4 HRS
  have HF := Lib.hid (refopen_fin (b := w.heap.size + 1) (u0 := .slice A1 L.length c1) (u1 := .slice A3 Z.length c3) (u2 := .int .i64 (q : Int)) (u3 := .slice A6 kk c6) (u4 := .int .i64 (m : Int)) HK3.out)
  have HLF := Lib.hid (HL3.out.step (ref_touch (F := F) (b := w.heap.size + 1) (u0 := .slice A1 L.length c1) (u1 := .slice A3 Z.length c3) (u2 := .int .i64 (q : Int)) (u3 := .slice A6 kk c6) (u4 := .int .i64 (m : Int))) (F' := F) (fun k hk => Or.inl (Or.inl hk)))
  obtain ⟨Z0, hZ0⟩ : ∃ z, w.heap.size + 1 = z := ⟨_, rfl⟩
  have r0 := HK3.out.cell 0
  have r1 := HK3.out.cell 1
  have r2 := HK3.out.cell 2
  have r3 := HK3.out.cell 3
  have r4 := HK3.out.cell 4
  have z0 := HK3.out.frozen 0
  have z1 := HK3.out.frozen 1
  have z2 := HK3.out.frozen 2
  have z3 := HK3.out.frozen 3
  have z4 := HK3.out.frozen 4
  clear hZ0
  go_wp2
  obtain ⟨W5, hW5⟩ : ∃ W, ((((((w6).setCell ⟨w.heap.size + 1, 0, none⟩ (.slice A1 L.length c1)).setCell ⟨w.heap.size + 1, 1, none⟩ (.slice A3 Z.length c3)).setCell ⟨w.heap.size + 1, 2, none⟩ (.int .i64 (q : Int))).setCell ⟨w.heap.size + 1, 3, none⟩ (.slice A6 kk c6)).setCell ⟨w.heap.size + 1, 4, none⟩ (.int .i64 (m : Int))) = W := ⟨_, rfl⟩
  rw [hW5] at HF HLF
  rw [hW5]
  have g0 := HF.out.1.cell 0
  have g1 := HF.out.1.cell 1
  have g2 := HF.out.1.cell 2
  have g3 := HF.out.1.cell 3
  have g4 := HF.out.1.cell 4
  refine bodyPost_ret (v := .tuple #[.agg #[.slice A1 L.length c1, .slice A3 Z.length c3, .int .i64 (q : Int), .slice A6 kk c6, .int .i64 (m : Int)], .int .i64 0]) (by simp [results, Try.results35, go_sem, g0, g1, g2, g3, g4]) rfl ?_
  exact ⟨A1, c1, A3, c3, A6, c6, vs ++ recR k ls, by rw [List.map_append, recR_rc], by rw [HKL.out], HLF.out, HF.out.2.2 _ HBT.out (by omega)⟩
end Go.Proofs.Ytkagfjjocmjeoaa
