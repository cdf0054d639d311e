/- LnZ: A search is made of deeds (searchOf). -/
import Derived.Test.YtlecbhnopokmnaaLnZa
import Derived.Deep.DeepCutAuto
import Derived.Deep.RegionHeld3
import Derived.StillTailTactics
namespace Go.Proofs.Ytlecbhnopokmnaa
open Go.RowKit Mem
set_option maxRecDepth 100000
set_option maxHeartbeats 16000000
set_option linter.unusedVariables false
set_option linter.unusedSimpArgs false
open Ln
theorem searchof_any (l : List DdL) (hl0 : 0 < l.length) (hl : l.length ≤ 20) (B c : Nat) (A : Option Addr) (w : World) (hr : Row w B A (ddsC l)) (hB : B ≤ w.heap.size) (hby : Dds_ w B l) :
    Calls Try.prog 42 #[.slice A l.length c] w (SoP l w) := by
  obtain ⟨n, hn⟩ : ∃ n, l.length = n := ⟨_, rfl⟩
  rw [hn] at hl0 hl ⊢
  have hn2 : (n : Int) ≤ 20 := by omega
  have hn0 : (0 : Int) < (n : Int) := by omega
  have m1 : ∀ W : World, (Instr.makeSlice 86 (.int .i64 (n : Int)) (.int .i64 (n : Int))).run Try.prog W = .ok (.slice (some ⟨W.heap.size, 0, none⟩) n n) (W.alloc (.cells (spC (stC (fun _ => false) (fun _ => 0) (fun _ => 0) (fun _ => 0)) n).toArray 116)) := by
    obtain ⟨i0, hi0, hz0, hz1, hz2⟩ := info_parts (show (Try.prog.info? 116).map (fun i => (i.zero, i.size, i.bytes)) = some (some (.agg #[.bool false, .int .i64 0, .int .u32 0, .int .u32 0]), 4, 24) by kernel_rfl)
    intro W
    have h := run_make (P := Try.prog) W 86 116 i0 _ Try.underlying86 hi0 hz0 .i64 .i64 (n : Int) (n : Int) (by omega) (by omega) (by rw [hz2]; omega) (by omega)
    simp only [Int.toNat_natCast, hz1] at h
    rw [← made_steps]; exact h
  have m2 : ∀ W : World, (Instr.makeSlice 41 (.int .i64 (n : Int)) (.int .i64 (n : Int))).run Try.prog W = .ok (.slice (some ⟨W.heap.size, 0, none⟩) n n) (W.alloc (.cells (rowN15 (endL n 0)) 3)) := by
    obtain ⟨i0, hi0, hz0, hz1, hz2⟩ := info_parts (show (Try.prog.info? 3).map (fun i => (i.zero, i.size, i.bytes)) = some (some (.int .i64 0), 1, 8) by kernel_rfl)
    intro W
    have h := run_make (P := Try.prog) W 41 3 i0 _ Try.underlying41 hi0 hz0 .i64 .i64 (n : Int) (n : Int) (by omega) (by omega) (by rw [hz2]; omega) (by omega)
    simp only [Int.toNat_natCast, hz1] at h
    rw [← made_ends]; exact h
  have m3 := @run_makeMap Try.prog
  obtain ⟨w1, hw1⟩ : ∃ W, w.alloc (.cells #[.slice A n c] 28) = W := ⟨_, rfl⟩
  have B1 : Below w.heap.size w w1 := by rw [← hw1]; exact (Below.refl _ _).alloc (Nat.le_refl _) _
  have k1 : Blk w1 w.heap.size 28 #[.slice A n c] := by rw [← hw1]; exact Blk.new _ _ _
  have c0 : w1.cell? ⟨w.heap.size, 0, none⟩ = some (.slice A n c) := k1.cell 0
  have z1 : w.heap.size < w1.heap.size := k1.lt
  have HR := Lib.hid hr
  have HBB := Lib.hid hB
  have HBY := Lib.hid hby
  have HN := Lib.hid hn
  have HB1 := Lib.hid B1
  have K1 := Lib.hid k1
  clear hr hB hby hn B1 k1
  go_enter Try.func42, Try.ntmps42
  go_upto_region 1 with fail
  go_cut [3] (fun v wx => Hid (IniP w1 w.heap.size n A c v wx))
  case first =>
    go_region
    all_goals
      go_wp2_with fail
      go_meet
      obtain ⟨h0, h1, h2, h3, hb4, hz⟩ := heap4 w1 _ _ _ _
      exact Lib.hid ⟨_, _, _, _, rfl, ⟨h3, (by first | exact h0 | exact h1 | exact h2), (by first | exact h0 | exact h1 | exact h2), (by first | exact h0 | exact h1 | exact h2)⟩, hb4, by omega, by omega, by omega, by omega, by omega, by omega, by omega, by omega, K1.out.below hb4 z1⟩
  case rest =>
    obtain ⟨gs, hb, sb, eb, rfl, S1, hb1, g1, g2, g3, g4, q1, q2, q3, q4, kl⟩ := hcut.out
    clear m1 m2 m3
    have d0 : wc.cell? ⟨w.heap.size, 0, none⟩ = some (.slice A n c) := kl.cell 0
    have zl : w.heap.size < wc.heap.size := kl.lt
    have hms := met_start wc B (by have := hb1.size; have := HBB.out; omega)
    have HB2 : Hid (Below w1.heap.size w1 ((wc.alloc (.cells #[.bool false, .slice none 0 0] 45)).alloc (.cells #[.slice (some ⟨wc.heap.size, 0, none⟩) 1 1] 111))) := Lib.hid ((hb1.alloc hb1.size _).alloc (by have := hb1.size; simp; omega) _)
    have HS2 : Hid (StA ((wc.alloc (.cells #[.bool false, .slice none 0 0] 45)).alloc (.cells #[.slice (some ⟨wc.heap.size, 0, none⟩) 1 1] 111)) gs hb sb eb n 0 (fun _ => false) (fun _ => 0) (fun _ => 0) (fun _ => 0) (endL n 0)) := Lib.hid (S1.below (((Below.refl _ _).alloc (Nat.le_refl _) _).alloc (by simp) _) q1 q2 q3 q4)
    have HMS := Lib.hid hms
    have KL2 : Hid (Blk ((wc.alloc (.cells #[.bool false, .slice none 0 0] 45)).alloc (.cells #[.slice (some ⟨wc.heap.size, 0, none⟩) 1 1] 111)) w.heap.size 28 #[.slice A n c]) := Lib.hid ((kl.alloc _).alloc _)
    have HHB : Hid (w1.heap.size ≤ hb) := Lib.hid g2
    have HSB : Hid (w1.heap.size ≤ sb ∧ w1.heap.size ≤ eb ∧ w1.heap.size ≤ gs) := Lib.hid ⟨g3, g4, g1⟩
    have HQ := Lib.hid (And.intro q1 (And.intro q2 (And.intro q3 q4)))
    clear hms hb1 S1 g1 g2 g3 g4 kl hcut
    obtain ⟨B0, hB0⟩ : ∃ x, wc.heap.size = x := ⟨_, rfl⟩
    rw [hB0] at HMS HS2 HB2 KL2 HQ q1 q2 q3 q4 zl
    have HLP := Lib.hid (lpI_start l)
    have HB00 := Lib.hid hB0
    go_wp2
    go_loopw [25] (fun iv wr => ∃ (q must : Nat) (g : Nat → Bool) (v : Nat → Nat) (met : List VaL), q ≤ n ∧ iv = .int .i64 (q : Int) ∧ Hid (StA wr gs hb sb eb n must g v (fun _ => 0) (fun _ => 0) (endL n q)) ∧ Hid (MetAt wr B B0 (B0 + 1) met) ∧ Hid (Below w1.heap.size w1 wr) ∧ Hid (Blk wr w.heap.size 28 #[.slice A n c]) ∧ Hid (LpI l q must g v met)) (fun iv _ => n - (intOf iv).toNat)
    case atStart => exact ⟨0, 0, _, _, _, by omega, rfl, HS2, HMS, HB2, KL2, HLP⟩
    case round =>
      obtain ⟨q, must, g, v, met, hq, rfl, HS, HM, HB, HK, HL⟩ := hrel
      have hq0 : (0 : Int) ≤ (q : Int) := by omega
      by_cases hlt : q < n
      · have hlt2 : (q : Int) < (n : Int) := by omega
        have hql : q < l.length := by rw [HN.out]; exact hlt
        obtain ⟨b, o, hA, hbB, hcl⟩ := dds_open HR.out (by omega)
        have hbw : b < w.heap.size := Nat.lt_of_lt_of_le hbB HBB.out
        have hbr : wr.heap[b]? = w.heap[b]? := (HB.out.block b (by omega)).trans (HB1.out.block b hbw)
        obtain ⟨e0, e1, e2, e3, e4, e5, e6⟩ := (hcl q hql).keep hbr
        have hblr : b < wr.heap.size := by have := HB.out.size; omega
        have HY0 : Hid (l[q]? = some l[q]) := Lib.hid (List.getElem?_eq_getElem hql)
        have HDB := Lib.hid (HBY.out _ (List.getElem_mem hql))
        obtain ⟨y, hy⟩ : ∃ y, l[q] = y := ⟨_, rfl⟩
        rw [hy] at e0 e1 e2 e3 e4 e5 e6 HY0 HDB
        obtain ⟨kind, yA, yb, yc, fro, till, done, has, A2, vb, y2⟩ := y
        simp only at e0 e1 e2 e3 e4 e5 e6
        subst hA
        have HKB := Lib.hid (Blk.new wr 47 #[.int .i64 kind, .slice yA yb.length yc, .int .i64 fro, .int .i64 till, .bool done, .bool has, .slice A2 vb.length y2])
        have HBA := Lib.hid ((Below.refl wr.heap.size wr).alloc (Nat.le_refl _) (.cells #[.int .i64 kind, .slice yA yb.length yc, .int .i64 fro, .int .i64 till, .bool done, .bool has, .slice A2 vb.length y2] 47))
        obtain ⟨w3, hw3⟩ : ∃ W, wr.alloc (.cells #[.int .i64 kind, .slice yA yb.length yc, .int .i64 fro, .int .i64 till, .bool done, .bool has, .slice A2 vb.length y2] 47) = W := ⟨_, rfl⟩
        rw [hw3] at HKB HBA
        have hszr : B0 + 1 < wr.heap.size := by obtain ⟨A', c', h1, _⟩ := HM.out.row; exact h1.lt
        have HSZ := Lib.hid hszr
        have HS3 := Lib.hid (HS.out.below HBA.out (by omega) (by omega) (by omega) (by omega))
        have HM3 := Lib.hid (HM.out.below HBA.out)
        have HK3 := Lib.hid (HK.out.below HBA.out HK.out.lt)
        have HB3 := Lib.hid (HB.out.trans (HBA.out.mono HB.out.size))
        clear hy hcl hbB hbw hql hbr hszr hq
        go_upto_region 7 with fail
        have HQ3 : Hid (gs < w3.heap.size ∧ hb < w3.heap.size ∧ sb < w3.heap.size ∧ eb < w3.heap.size) := Lib.hid (by have := HSZ.out; have := HBA.out.size; omega)
        have HB03 : Hid (B0 ≤ w3.heap.size) := Lib.hid (by have := HSZ.out; have := HBA.out.size; omega)
        obtain ⟨x, hx⟩ : ∃ x, valL ⟨kind, yA, yb, yc, fro, till, done, has, A2, vb, y2⟩ = x := ⟨_, rfl⟩
        have HX := Lib.hid hx
        have HXR : Hid (Row w B x.A (x.b.map byteV)) := Lib.hid (by rw [← hx]; exact valL_row HDB.out)
        have HVAL : Hid (∀ W : World, Calls Try.prog 47 #[.agg #[.int .i64 kind, .slice yA yb.length yc, .int .i64 fro, .int .i64 till, .bool done, .bool has, .slice A2 vb.length y2]] W fun e w' => e = .returned x.v ∧ Below W.heap.size W w') := Lib.hid fun W => by
          have := value_any ⟨kind, yA, yb, yc, fro, till, done, has, A2, vb, y2⟩ W
          rw [hx] at this; exact this
        clear hx
        obtain ⟨xh, xA, xb, xc⟩ := x
        have HNUM : Hid (∀ W : World, Below w3.heap.size w3 W → Calls Try.prog 59 #[.agg #[.bool xh, .slice xA xb.length xc], .pointer (some ⟨B0 + 1, 0, none⟩)] W (NumP B B0 (B0 + 1) met ⟨xh, xA, xb, xc⟩ W)) := Lib.hid fun W hb => number_any met (by have := HL.out.ln; omega) ⟨xh, xA, xb, xc⟩ B B0 (B0 + 1) W (HM3.out.below hb) (by
          have h1 := HXR.out.below (HB1.out.mono HBB.out)
          exact h1.below ((HB3.out.trans (hb.mono HB3.out.size)).mono (by have := HBB.out; omega)))
        have a0 : w3.cell? ⟨gs, 0, none⟩ = some (.slice (some ⟨sb, 0, none⟩) n n) := HS3.out.blk.cell 0
        have a1 : w3.cell? ⟨gs, 1, none⟩ = some (.slice (some ⟨eb, 0, none⟩) n n) := HS3.out.blk.cell 1
        have a2 : w3.cell? ⟨wr.heap.size, 0, none⟩ = some (.int .i64 kind) := HKB.out.cell 0
        have a3 : w3.cell? ⟨wr.heap.size, 1, none⟩ = some (.slice yA yb.length yc) := HKB.out.cell 1
        have a4 : w3.cell? ⟨wr.heap.size, 2, none⟩ = some (.int .i64 fro) := HKB.out.cell 2
        have a5 : w3.cell? ⟨wr.heap.size, 3, none⟩ = some (.int .i64 till) := HKB.out.cell 3
        have a6 : w3.cell? ⟨wr.heap.size, 4, none⟩ = some (.bool done) := HKB.out.cell 4
        have a7 : w3.cell? ⟨wr.heap.size, 5, none⟩ = some (.bool has) := HKB.out.cell 5
        have a8 : w3.cell? ⟨wr.heap.size, 6, none⟩ = some (.slice A2 vb.length y2) := HKB.out.cell 6
        go_region_held3 (fun W => W.cell? ⟨gs, 0, none⟩ = some (.slice (some ⟨sb, 0, none⟩) n n) ∧ W.cell? ⟨gs, 1, none⟩ = some (.slice (some ⟨eb, 0, none⟩) n n) ∧ W.cell? ⟨wr.heap.size, 0, none⟩ = some (.int .i64 kind) ∧ W.cell? ⟨wr.heap.size, 1, none⟩ = some (.slice yA yb.length yc) ∧ W.cell? ⟨wr.heap.size, 2, none⟩ = some (.int .i64 fro) ∧ W.cell? ⟨wr.heap.size, 3, none⟩ = some (.int .i64 till) ∧ W.cell? ⟨wr.heap.size, 4, none⟩ = some (.bool done) ∧ W.cell? ⟨wr.heap.size, 5, none⟩ = some (.bool has) ∧ W.cell? ⟨wr.heap.size, 6, none⟩ = some (.slice A2 vb.length y2))
          (first | with_reducible exact ⟨a0, a1, a2, a3, a4, a5, a6, a7, a8⟩ | with_reducible exact ⟨b0, b1, b2, b3, b4, b5, b6, b7, b8⟩ | with_reducible exact ⟨d0, d1, d2, d3, d4, d5, d6, d7, d8⟩ | with_reducible exact ⟨farC4 d0 HNE.out.1, farC4 d1 HNE.out.1, farC4 d2 HNE.out.2.1, farC4 d3 HNE.out.2.1, farC4 d4 HNE.out.2.1, farC4 d5 HNE.out.2.1, farC4 d6 HNE.out.2.1, farC4 d7 HNE.out.2.1, farC4 d8 HNE.out.2.1⟩ | with_reducible exact ⟨farC5 d0 HNE.out.1 HNE.out.2.2.1, farC5 d1 HNE.out.1 HNE.out.2.2.1, farC5 d2 HNE.out.2.1 HNE.out.2.2.2, farC5 d3 HNE.out.2.1 HNE.out.2.2.2, farC5 d4 HNE.out.2.1 HNE.out.2.2.2, farC5 d5 HNE.out.2.1 HNE.out.2.2.2, farC5 d6 HNE.out.2.1 HNE.out.2.2.2, farC5 d7 HNE.out.2.1 HNE.out.2.2.2, farC5 d8 HNE.out.2.1 HNE.out.2.2.2⟩ | go_keep)
          (first
            | (go_at_call 47; refine (HVAL.out _).mono ?_; rintro e w5 ⟨rfl, hb5⟩; have HB5 : Hid (Below w3.heap.size w3 w5) := Lib.hid (by first | exact hb5 | exact Below.trans (by exact ⟨rfl, rfl, rfl, Nat.le_refl _, fun _ _ => rfl⟩) hb5); (have HS5 := Lib.hid (HS3.out.below HB5.out HQ3.out.1 HQ3.out.2.1 HQ3.out.2.2.1 HQ3.out.2.2.2)); (have HKB5 := Lib.hid (HKB.out.below HB5.out HKB.out.lt)); (have b0 : w5.cell? ⟨gs, 0, none⟩ = some (.slice (some ⟨sb, 0, none⟩) n n) := HS5.out.blk.cell 0); (have b1 : w5.cell? ⟨gs, 1, none⟩ = some (.slice (some ⟨eb, 0, none⟩) n n) := HS5.out.blk.cell 1); (have b2 : w5.cell? ⟨wr.heap.size, 0, none⟩ = some (.int .i64 kind) := HKB5.out.cell 0); (have b3 : w5.cell? ⟨wr.heap.size, 1, none⟩ = some (.slice yA yb.length yc) := HKB5.out.cell 1); (have b4 : w5.cell? ⟨wr.heap.size, 2, none⟩ = some (.int .i64 fro) := HKB5.out.cell 2); (have b5 : w5.cell? ⟨wr.heap.size, 3, none⟩ = some (.int .i64 till) := HKB5.out.cell 3); (have b6 : w5.cell? ⟨wr.heap.size, 4, none⟩ = some (.bool done) := HKB5.out.cell 4); (have b7 : w5.cell? ⟨wr.heap.size, 5, none⟩ = some (.bool has) := HKB5.out.cell 5); (have b8 : w5.cell? ⟨wr.heap.size, 6, none⟩ = some (.slice A2 vb.length y2) := HKB5.out.cell 6); clear hb5)
            | (go_at_call 59; refine (HNUM.out _ HB5.out).mono ?_; rintro e w6 ⟨n', met', rfl, hrel, hm6, hb6, hk6⟩; have HREL := Lib.hid hrel; have HM6 := Lib.hid hm6; have HB6 := Lib.hid hb6; (have HS6 := Lib.hid (HS5.out.below HB6.out HQ.out.1 HQ.out.2.1 HQ.out.2.2.1 HQ.out.2.2.2)); (have HKB6 := Lib.hid (hk6 _ _ _ HKB5.out (by decide) (by decide))); (have HK6 := Lib.hid (hk6 _ _ _ (HK3.out.below HB5.out HK3.out.lt) (by decide) (by decide))); (have d0 : w6.cell? ⟨gs, 0, none⟩ = some (.slice (some ⟨sb, 0, none⟩) n n) := HS6.out.blk.cell 0); (have d1 : w6.cell? ⟨gs, 1, none⟩ = some (.slice (some ⟨eb, 0, none⟩) n n) := HS6.out.blk.cell 1); (have d2 : w6.cell? ⟨wr.heap.size, 0, none⟩ = some (.int .i64 kind) := HKB6.out.cell 0); (have d3 : w6.cell? ⟨wr.heap.size, 1, none⟩ = some (.slice yA yb.length yc) := HKB6.out.cell 1); (have d4 : w6.cell? ⟨wr.heap.size, 2, none⟩ = some (.int .i64 fro) := HKB6.out.cell 2); (have d5 : w6.cell? ⟨wr.heap.size, 3, none⟩ = some (.int .i64 till) := HKB6.out.cell 3); (have d6 : w6.cell? ⟨wr.heap.size, 4, none⟩ = some (.bool done) := HKB6.out.cell 4); (have d7 : w6.cell? ⟨wr.heap.size, 5, none⟩ = some (.bool has) := HKB6.out.cell 5); (have d8 : w6.cell? ⟨wr.heap.size, 6, none⟩ = some (.slice A2 vb.length y2) := HKB6.out.cell 6); (have HNE : Hid (gs ≠ sb ∧ wr.heap.size ≠ sb ∧ gs ≠ eb ∧ wr.heap.size ≠ eb) := Lib.hid ⟨HS6.out.blk.ne_ HS6.out.sp (by decide), HKB6.out.ne_ HS6.out.sp (by decide), HS6.out.blk.ne_ HS6.out.ep (by decide), HKB6.out.ne_ HS6.out.ep (by decide)⟩); (obtain ⟨s0, s1, s2, s3⟩ := HS6.out.cell q hlt); (have z0 := HS6.out.sp.frozen (q * 4)); (have z1 := HS6.out.sp.frozen (q * 4 + 1)); (have z2 := HS6.out.sp.frozen (q * 4 + 2)); (have z3 := HS6.out.sp.frozen (q * 4 + 3)); (have t0 : w6.cell? ⟨eb, q, none⟩ = some (.int .i64 ((0 : Nat) : Int)) := (HS6.out.ep.cell q).trans (rowN_get (endL_at hlt))); (have t1 := HS6.out.ep.frozen q); (have hnn : sb ≠ eb := HS6.out.sp.ne_ HS6.out.ep (by decide)); clear hrel hm6 hb6 hk6))
        clear a0 a1 a2 a3 a4 a5 a6 a7 a8 b0 b1 b2 b3 b4 b5 b6 b7 b8 s0 s1 s2 s3 z0 z1 z2 z3 t0 t1 e0 e1 e2 e3 e4 e5 e6
        have hkk : (kind == 1) = decide (kind = 1) := by by_cases h : kind = 1 <;> simp [h]
        have HS7 : Hid (StA (((((w6.setCell ⟨sb, q * 4, none⟩ (.bool (kind == 1))).setCell ⟨sb, q * 4 + 1, none⟩ (.int .i64 (n' : Int))).setCell ⟨sb, q * 4 + 2, none⟩ (.int .u32 0)).setCell ⟨sb, q * 4 + 3, none⟩ (.int .u32 0)).setCell ⟨eb, q, none⟩ (.int .i64 (q : Int))) gs hb sb eb n must (upd g q (decide (kind = 1))) (upd v q n') (fun _ => 0) (fun _ => 0) (endL n (q + 1))) := Lib.hid (sta_first HS6.out hlt (kind == 1) _ hkk n')
        have HKB7 : Hid (Blk (((((w6.setCell ⟨sb, q * 4, none⟩ (.bool (kind == 1))).setCell ⟨sb, q * 4 + 1, none⟩ (.int .i64 (n' : Int))).setCell ⟨sb, q * 4 + 2, none⟩ (.int .u32 0)).setCell ⟨sb, q * 4 + 3, none⟩ (.int .u32 0)).setCell ⟨eb, q, none⟩ (.int .i64 (q : Int))) wr.heap.size 47 #[.int .i64 kind, .slice yA yb.length yc, .int .i64 fro, .int .i64 till, .bool done, .bool has, .slice A2 vb.length y2]) := Lib.hid (blk_first HKB6.out HNE.out.2.1 HNE.out.2.2.2)
        have HK7 : Hid (Blk (((((w6.setCell ⟨sb, q * 4, none⟩ (.bool (kind == 1))).setCell ⟨sb, q * 4 + 1, none⟩ (.int .i64 (n' : Int))).setCell ⟨sb, q * 4 + 2, none⟩ (.int .u32 0)).setCell ⟨sb, q * 4 + 3, none⟩ (.int .u32 0)).setCell ⟨eb, q, none⟩ (.int .i64 (q : Int))) w.heap.size 28 #[.slice (some ⟨b, o, none⟩) n c]) := Lib.hid (blk_first HK6.out (HK6.out.ne_ HS6.out.sp (by decide)) (HK6.out.ne_ HS6.out.ep (by decide)))
        have HM7 : Hid (MetAt (((((w6.setCell ⟨sb, q * 4, none⟩ (.bool (kind == 1))).setCell ⟨sb, q * 4 + 1, none⟩ (.int .i64 (n' : Int))).setCell ⟨sb, q * 4 + 2, none⟩ (.int .u32 0)).setCell ⟨sb, q * 4 + 3, none⟩ (.int .u32 0)).setCell ⟨eb, q, none⟩ (.int .i64 (q : Int))) B B0 (B0 + 1) met') := Lib.hid (met_first HM6.out (by have := HSB.out; have := HBB.out; omega) (by have := HSB.out; have := HBB.out; omega) HQ.out.2.2.1 HQ.out.2.2.2)
        have HB7 : Hid (Below w1.heap.size w1 (((((w6.setCell ⟨sb, q * 4, none⟩ (.bool (kind == 1))).setCell ⟨sb, q * 4 + 1, none⟩ (.int .i64 (n' : Int))).setCell ⟨sb, q * 4 + 2, none⟩ (.int .u32 0)).setCell ⟨sb, q * 4 + 3, none⟩ (.int .u32 0)).setCell ⟨eb, q, none⟩ (.int .i64 (q : Int)))) := Lib.hid (below_set (below_set (below_set (below_set (below_set ((HB3.out.trans (HB5.out.mono HB3.out.size)).trans (HB6.out.mono (by have := HSB.out; omega))) HSB.out.1 _ _) HSB.out.1 _ _) HSB.out.1 _ _) HSB.out.1 _ _) HSB.out.2.1 _ _)
        obtain ⟨w7, hw7⟩ : ∃ W, ((((w6.setCell ⟨sb, q * 4, none⟩ (.bool (kind == 1))).setCell ⟨sb, q * 4 + 1, none⟩ (.int .i64 (n' : Int))).setCell ⟨sb, q * 4 + 2, none⟩ (.int .u32 0)).setCell ⟨sb, q * 4 + 3, none⟩ (.int .u32 0)).setCell ⟨eb, q, none⟩ (.int .i64 (q : Int)) = W := ⟨_, rfl⟩
        rw [hw7] at HS7 HKB7 HK7 HM7 HB7
        try rw [hw7]
        have HLN := Lib.hid (lpI_step HL.out HY0.out (n' := n') (met' := met') (by rw [HX.out]; exact HREL.out))
        clear hw7 d0 d1 d2 d3 d4 d5 d6 d7 d8 HS6 HKB6 HK6 HM6 HB6 HREL HVAL HNUM
        have p0 := HKB7.out.cell 4
        have p1 : w7.cell? ⟨wr.heap.size, 4, none⟩ = some (.bool done) := p0
        have p2 : w7.cell? ⟨gs, 2, none⟩ = some (.int .u32 (must : Int)) := HS7.out.blk.cell 2
        have p3 := HS7.out.blk.frozen 2
        clear p0
        cases done
        · go_wp2
          go_roundw
          case rel => exact ⟨q + 1, must, _, _, met', by omega, by go_num, HS7, HM7, HB7, HK7, HLN⟩
          case measure => simp [intOf]; omega
        · have hmb : must < 1048576 := by rw [HL.out.hm]; exact mOf_lt _ _ 20 (by omega)
          have HWI := Lib.hid (with_any must q hmb (by omega))
          clear hmb
          go_wp2_with (go_at_call 62; refine (HWI.out _).mono ?_; rintro e w9 ⟨rfl, rfl⟩)
          have HS8 : Hid (StA (w7.setCell ⟨gs, 2, none⟩ (.int .u32 ((ins must q : Nat) : Int))) gs hb sb eb n (ins must q) (upd g q (decide (kind = 1))) (upd v q n') (fun _ => 0) (fun _ => 0) (endL n (q + 1))) := Lib.hid (sta_must HS7.out _)
          have HM8 := Lib.hid (met_must (i := 2) HM7.out (by have := HSB.out; have := HBB.out; omega) HQ.out.1 (.int .u32 ((ins must q : Nat) : Int)))
          have HK8 := Lib.hid (HK7.out.far (p := ⟨gs, 2, none⟩) (HK7.out.ne_ HS7.out.blk (by decide)) (.int .u32 ((ins must q : Nat) : Int)))
          go_roundw
          case rel => exact ⟨q + 1, ins must q, _, _, met', by omega, by go_num, HS8, HM8, Lib.hid (below_set HB7.out HSB.out.2.2 _ _), HK8, HLN⟩
          case measure => simp [intOf]; omega
      · obtain rfl : q = n := by omega
        have hbN : ∀ i, i < q → (atD (l.map DdL.p) i).kind = (l.getD i ⟨0, none, [], 0, 0, 0, false, false, none, [], 0⟩).kind := fun i hi => by
          have h1 : i < l.length := by rw [HN.out]; exact hi
          rw [atD_map (List.getElem?_eq_getElem h1), List.getD_eq_getElem?_getD, List.getElem?_eq_getElem h1]; rfl
        clear hbN
        have HS9 : Hid (StA wr gs hb sb eb q must g v (bI (l.map DdL.p) q 0) (tI g v q 0) (endL q q)) := Lib.hid (by rw [bI_zero, tI_zero]; exact HS.out)
        have HST0 := Lib.hid (Nat.le_refl 0)
        clear HS hq hq0
        have d9 := HK.out.cell 0
        have e9 : wr.cell? ⟨w.heap.size, 0, none⟩ = some (.slice A q c) := d9
        clear d9
        go_wp2
        go_loopw [65] (fun iv wx => ∃ (i : Nat), i ≤ q ∧ iv = .int .i64 (i : Int) ∧ Hid (StA wx gs hb sb eb q must g v (bI (l.map DdL.p) q i) (tI g v q i) (endL q q)) ∧ Hid (Below w1.heap.size w1 wx) ∧ Hid (Blk wx w.heap.size 28 #[.slice A q c])) (fun iv _ => q - (intOf iv).toNat)
        case atStart => exact ⟨0, by omega, rfl, HS9, HB, HK⟩
        case round =>
          obtain ⟨i, hi, rfl, HSi, HBi, HKi⟩ := hrel
          obtain ⟨wf, hwf⟩ : ∃ W, W = wr := ⟨_, rfl⟩
          subst hwf
          have hi0 : (0 : Int) ≤ (i : Int) := by omega
          by_cases hlt2 : i < q
          · have hlt3 : (i : Int) < (q : Int) := by omega
            have f9 : wf.cell? ⟨w.heap.size, 0, none⟩ = some (.slice A q c) := HKi.out.cell 0
            have HSj : Hid (StA wf gs hb sb eb q must g v (upd (bI (l.map DdL.p) q i) i (mOf (pB (l.map DdL.p) i) 0)) (upd (tI g v q i) i (mOf (pT g v i) 0)) (endL q q)) := Lib.hid (by rw [bI_start, tI_start]; exact HSi.out)
            have HIQ := Lib.hid hlt2
            clear hi
            go_wp2
            go_loopw [70] (fun jv wx => ∃ (j : Nat), j ≤ q ∧ jv = .int .i64 (j : Int) ∧ Hid (StA wx gs hb sb eb q must g v (upd (bI (l.map DdL.p) q i) i (mOf (pB (l.map DdL.p) i) j)) (upd (tI g v q i) i (mOf (pT g v i) j)) (endL q q)) ∧ Hid (Below w1.heap.size w1 wx) ∧ Hid (Blk wx w.heap.size 28 #[.slice A q c])) (fun jv _ => q - (intOf jv).toNat)
            case atStart => exact ⟨0, by omega, rfl, HSj, HBi, HKi⟩
            case round =>
              obtain ⟨j, hj, rfl, HSr, HBr, HKr⟩ := hrel
              have hj0 : (0 : Int) ≤ (j : Int) := by omega
              by_cases hlt4 : j < q
              · have hlt5 : (j : Int) < (q : Int) := by omega
                have hjl : j < l.length := by rw [HN.out]; exact hlt4
                have hil : i < l.length := by rw [HN.out]; exact hlt2
                obtain ⟨b, o, hA, hbB, hcl⟩ := dds_open HR.out (by omega)
                have hbw : b < w.heap.size := Nat.lt_of_lt_of_le hbB HBB.out
                have hbr : wr.heap[b]? = w.heap[b]? := (HBr.out.block b (by omega)).trans (HB1.out.block b hbw)
                obtain ⟨e0, e1, e2, e3, e4, e5, e6⟩ := (hcl j hjl).keep hbr
                obtain ⟨_, _, x2, _, _, _, _⟩ := (hcl i hil).keep hbr
                have hblr : b < wr.heap.size := by have := HBr.out.size; omega
                have haj := atD_map (List.getElem?_eq_getElem hjl)
                have hai := atD_map (List.getElem?_eq_getElem hil)
                obtain ⟨y, hy⟩ : ∃ y, l[j] = y := ⟨_, rfl⟩
                obtain ⟨fi, hfi⟩ : ∃ y, l[i].fro = y := ⟨_, rfl⟩
                rw [hy] at e0 e1 e2 e3 e4 e5 e6 haj
                rw [hfi] at x2
                have hfi2 : (atD (l.map DdL.p) i).fro = fi := by rw [hai]; exact hfi
                obtain ⟨kind, yA, yb, yc, fro, till, done, has, A2, vb, y2⟩ := y
                simp only at e0 e1 e2 e3 e4 e5 e6
                have htj : (atD (l.map DdL.p) j).till = till := by rw [haj]; rfl
                subst hA
                have g9 : wr.cell? ⟨w.heap.size, 0, none⟩ = some (.slice (some ⟨b, o, none⟩) q c) := HKr.out.cell 0
                have zlr : w.heap.size < wr.heap.size := HKr.out.lt
                have HKB := Lib.hid (Blk.new wr 47 #[.int .i64 kind, .slice yA yb.length yc, .int .i64 fro, .int .i64 till, .bool done, .bool has, .slice A2 vb.length y2])
                have HBA := Lib.hid ((Below.refl wr.heap.size wr).alloc (Nat.le_refl _) (.cells #[.int .i64 kind, .slice yA yb.length yc, .int .i64 fro, .int .i64 till, .bool done, .bool has, .slice A2 vb.length y2] 47))
                have HPB : Hid (pB (l.map DdL.p) i j = (decide (j ≠ i) && decide (till < fi))) := Lib.hid (by unfold pB; rw [htj, hfi2])
                obtain ⟨w3, hw3⟩ : ∃ W, wr.alloc (.cells #[.int .i64 kind, .slice yA yb.length yc, .int .i64 fro, .int .i64 till, .bool done, .bool has, .slice A2 vb.length y2] 47) = W := ⟨_, rfl⟩
                rw [hw3] at HKB HBA
                have hsl : gs < wr.heap.size ∧ hb < wr.heap.size ∧ sb < wr.heap.size ∧ eb < wr.heap.size := ⟨HSr.out.blk.lt, (Array.getElem?_eq_some_iff.1 HSr.out.mp).1, HSr.out.sp.lt, HSr.out.ep.lt⟩
                have HS3 := Lib.hid (HSr.out.below HBA.out hsl.1 hsl.2.1 hsl.2.2.1 hsl.2.2.2)
                have HK3 := Lib.hid (HKr.out.below HBA.out HKr.out.lt)
                have HB3 := Lib.hid (HBr.out.trans (HBA.out.mono HBr.out.size))
                clear hy hcl hbB hbw hbr hfi hfi2 haj hai htj hsl hj
                have t3 : w3.cell? ⟨wr.heap.size, 3, none⟩ = some (.int .i64 till) := HKB.out.cell 3
                have t9 : w3.cell? ⟨w.heap.size, 0, none⟩ = some (.slice (some ⟨b, o, none⟩) q c) := HK3.out.cell 0
                have t2 : w3.cell? ⟨b, o + i * 7 + 2, none⟩ = some (.int .i64 fi) := (HBA.out.cell (p := ⟨b, o + i * 7 + 2, none⟩) hblr).trans x2
                obtain ⟨pb, hpb⟩ : ∃ x, pB (l.map DdL.p) i j = x := ⟨_, rfl⟩
                have HPBV := Lib.hid hpb
                rw [hpb] at HPB
                clear hpb
                go_upto_region 17 with fail
                go_cut [87] (fun cv wx => cv = .bool pb ∧ Hid (∃ k, wx = w3.drewN k))
                case first =>
                  clear e0 e1 e2 e3 e4 e5 e6 x2 g9
                  by_cases hji : j = i
                  · have hb : ((j : Int) != (i : Int)) = false := by subst hji; simp
                    have HV : Hid (pb = false) := Lib.hid (by rw [HPB.out, hji]; simp)
                    clear hji
                    go_quiet (fail)
                    go_wp2_with fail
                    go_meet
                    exact ⟨by rw [HV.out], Lib.hid ⟨_, rfl⟩⟩
                  · have hb : ((j : Int) != (i : Int)) = true := by simp; omega
                    have HV : Hid (pb = decide (till < fi)) := Lib.hid (by rw [HPB.out, decide_eq_true hji]; rfl)
                    clear hji
                    go_quiet (fail)
                    go_wp2_with fail
                    go_meet
                    exact ⟨by rw [HV.out], Lib.hid ⟨_, rfl⟩⟩
                case rest =>
                  obtain ⟨rfl, hkk⟩ := hcut
                  obtain ⟨kk, rfl⟩ := hkk.out
                  have HS5 : Hid (StA (w3.drewN kk) gs hb sb eb q must g v (upd (bI (l.map DdL.p) q i) i (mOf (pB (l.map DdL.p) i) j)) (upd (tI g v q i) i (mOf (pT g v i) j)) (endL q q)) := Lib.hid (HS3.out.drewN kk)
                  have HK5 : Hid (Blk (w3.drewN kk) w.heap.size 28 #[.slice (some ⟨b, o, none⟩) q c]) := Lib.hid (HK3.out.drewN kk)
                  have HB5 := Lib.hid (HB3.out.trans (below_drew' w3 kk w1.heap.size))
                  obtain ⟨w5, hw5⟩ : ∃ W, w3.drewN kk = W := ⟨_, rfl⟩
                  rw [hw5] at HS5 HK5 HB5
                  try rw [hw5]
                  clear hw5 hkk e0 e1 e2 e3 e4 e5 e6 x2 g9 t3 t9 t2 HKB HBA HS3 HK3 HB3
                  cases pb
                  · have HS6 : Hid (StA w5 gs hb sb eb q must g v (upd (bI (l.map DdL.p) q i) i (mOf (pB (l.map DdL.p) i) (j + 1))) (upd (tI g v q i) i (mOf (pT g v i) j)) (endL q q)) := Lib.hid (by rw [mOf_no HPBV.out]; exact HS5.out)
                    have HK6 := HK5
                    have HB6 := HB5
                    clear HS5 HK5 HB5 HPB HPBV
                    go_upto_region 19 with fail
                    have v0 : w5.cell? ⟨gs, 0, none⟩ = some (.slice (some ⟨sb, 0, none⟩) q q) := HS6.out.blk.cell 0
                    obtain ⟨a0, a1, _, _⟩ := HS6.out.cell j hlt4
                    obtain ⟨_, b1, _, _⟩ := HS6.out.cell i HIQ.out
                    obtain ⟨pt, hpt⟩ : ∃ x, pT g v i j = x := ⟨_, rfl⟩
                    have HPT := Lib.hid hpt
                    clear hpt
                    go_cut [131] (fun cv wx => cv = .bool pt ∧ Hid (∃ k, wx = w5.drewN k))
                    case first =>
                      cases hgj : g j
                      · rw [hgj] at a0
                        have HV : Hid (pt = false) := Lib.hid (by rw [← HPT.out]; unfold pT; rw [hgj]; rfl)
                        clear hgj
                        go_quiet (fail)
                        go_wp2_with fail
                        go_meet
                        exact ⟨by rw [HV.out], Lib.hid ⟨_, rfl⟩⟩
                      · rw [hgj] at a0
                        obtain ⟨vj, hvj⟩ : ∃ x, v j = x := ⟨_, rfl⟩
                        obtain ⟨vi, hvi⟩ : ∃ x, v i = x := ⟨_, rfl⟩
                        rw [hvj] at a1
                        rw [hvi] at b1
                        have HV : Hid (pt = decide (vj = vi)) := Lib.hid (by rw [← HPT.out]; unfold pT; rw [hgj, hvj, hvi]; rfl)
                        clear hgj hvj hvi
                        by_cases hvv : vj = vi
                        · have hb : ((vj : Int) == (vi : Int)) = true := by simp [hvv]
                          have HV2 : Hid (pt = true) := Lib.hid (by rw [HV.out]; exact decide_eq_true hvv)
                          clear hvv HV
                          go_quiet (fail)
                          go_wp2_with fail
                          go_meet
                          exact ⟨by rw [HV2.out], Lib.hid ⟨_, rfl⟩⟩
                        · have hb : ((vj : Int) == (vi : Int)) = false := by simp; omega
                          have HV2 : Hid (pt = false) := Lib.hid (by rw [HV.out]; exact decide_eq_false hvv)
                          clear hvv HV
                          go_quiet (fail)
                          go_wp2_with fail
                          go_meet
                          exact ⟨by rw [HV2.out], Lib.hid ⟨_, rfl⟩⟩
                    case rest =>
                      obtain ⟨rfl, hkk⟩ := hcut
                      obtain ⟨kk2, rfl⟩ := hkk.out
                      have HS8 := Lib.hid (HS6.out.drewN kk2)
                      have HK8 := Lib.hid (HK6.out.drewN kk2)
                      have HB8 := Lib.hid (HB6.out.trans (below_drew' w5 kk2 w1.heap.size))
                      obtain ⟨w8, hw8⟩ : ∃ W, w5.drewN kk2 = W := ⟨_, rfl⟩
                      rw [hw8] at HS8 HK8 HB8
                      try rw [hw8]
                      clear hw8 hkk v0 a0 a1 b1 HS6 HK6 HB6
                      cases pt
                      · have HS9 : Hid (StA w8 gs hb sb eb q must g v (upd (bI (l.map DdL.p) q i) i (mOf (pB (l.map DdL.p) i) (j + 1))) (upd (tI g v q i) i (mOf (pT g v i) (j + 1))) (endL q q)) := Lib.hid (by rw [mOf_no (p := pT g v i) HPT.out]; exact HS8.out)
                        go_wp2
                        go_roundw
                        case rel => exact ⟨j + 1, by omega, by go_num, HS9, HB8, HK8⟩
                        case measure => simp [intOf]; omega
                      · obtain ⟨mt, hmt⟩ : ∃ x, mOf (pT g v i) j = x := ⟨_, rfl⟩
                        have hmtl : mt < 1048576 := by rw [← hmt]; exact mOf_lt _ _ 20 (by omega)
                        have HWT := Lib.hid (with_any mt j hmtl (by omega))
                        have HMT := Lib.hid hmt
                        clear hmt hmtl
                        go_wp2_with fail
                        refine wp_region_still_tail 17 (by kernel_rfl) (by kernel_rfl) ?_
                        change wpStill _ _ w8.drew (fun a' => wpList _ _ _ _ a' w8.drew) _ _
                        have hs9 := HS8.out.drewN 1
                        have hk9 := HK8.out.drewN 1
                        have hb9 := HB8.out.trans (below_drew' w8 1 w1.heap.size)
                        obtain ⟨w9, hw9⟩ : ∃ W, w8.drew = W := ⟨_, rfl⟩
                        change StA w8.drew _ _ _ _ _ _ _ _ _ _ _ at hs9
                        change Blk w8.drew _ _ _ at hk9
                        change Below _ _ w8.drew at hb9
                        rw [hw9] at hs9 hk9 hb9 ⊢
                        clear hw9
                        have u0 : w9.cell? ⟨gs, 0, none⟩ = some (.slice (some ⟨sb, 0, none⟩) q q) := hs9.blk.cell 0
                        obtain ⟨_, _, _, u2⟩ := hs9.cell i HIQ.out
                        rw [upd_same, HMT.out] at u2
                        have u3 := hs9.sp.frozen (i * 4 + 3)
                        have HSA : Hid (StA (w9.setCell ⟨sb, i * 4 + 3, none⟩ (.int .u32 ((ins mt j : Nat) : Int))) gs hb sb eb q must g v (upd (bI (l.map DdL.p) q i) i (mOf (pB (l.map DdL.p) i) (j + 1))) (upd (tI g v q i) i (mOf (pT g v i) (j + 1))) (endL q q)) := Lib.hid (by
                          have h := sta_gts hs9 HIQ.out (ins mt j)
                          rw [upd_upd] at h
                          rw [mOf_yes (p := pT g v i) HPT.out, HMT.out]; exact h)
                        have HKA := Lib.hid (hk9.far (p := ⟨sb, i * 4 + 3, none⟩) (hk9.ne_ hs9.sp (by decide)) (.int .u32 ((ins mt j : Nat) : Int)))
                        have HBA := Lib.hid (below_set hb9 HSB.out.1 (i * 4 + 3) (.int .u32 ((ins mt j : Nat) : Int)))
                        clear hs9 hk9 hb9 HS8 HK8 HB8
                        simp only [List.take_succ_cons, List.take_zero, List.drop_succ_cons, List.drop_zero]
                        repeat still_step
                        still_call ((HWT.out _).mono fun _ _ h => ⟨h.1, h.2.symm⟩)
                        repeat still_step
                        refine wpStill_nil ?_
                        go_wp2
                        go_roundw
                        case rel => exact ⟨j + 1, by omega, by go_num, HSA, HBA, HKA⟩
                        case measure => simp [intOf]; omega
                  · obtain ⟨mb, hmb⟩ : ∃ x, mOf (pB (l.map DdL.p) i) j = x := ⟨_, rfl⟩
                    have hmbl : mb < 1048576 := by rw [← hmb]; exact mOf_lt _ _ 20 (by omega)
                    have HWB := Lib.hid (with_any mb j hmbl (by omega))
                    have HMB := Lib.hid hmb
                    clear hmb hmbl
                    go_wp2_with fail
                    refine wp_region_still_tail 17 (by kernel_rfl) (by kernel_rfl) ?_
                    change wpStill _ _ w5.drew (fun a' => wpList _ _ _ _ a' w5.drew) _ _
                    have hs6 := HS5.out.drewN 1
                    have hk6 := HK5.out.drewN 1
                    have hb6 := HB5.out.trans (below_drew' w5 1 w1.heap.size)
                    obtain ⟨w6, hw6⟩ : ∃ W, w5.drew = W := ⟨_, rfl⟩
                    change StA w5.drew _ _ _ _ _ _ _ _ _ _ _ at hs6
                    change Blk w5.drew _ _ _ at hk6
                    change Below _ _ w5.drew at hb6
                    rw [hw6] at hs6 hk6 hb6 ⊢
                    clear hw6
                    have u0 : w6.cell? ⟨gs, 0, none⟩ = some (.slice (some ⟨sb, 0, none⟩) q q) := hs6.blk.cell 0
                    obtain ⟨_, _, u2, _⟩ := hs6.cell i HIQ.out
                    rw [upd_same, HMB.out] at u2
                    have u3 := hs6.sp.frozen (i * 4 + 2)
                    have HS7 : Hid (StA (w6.setCell ⟨sb, i * 4 + 2, none⟩ (.int .u32 ((ins mb j : Nat) : Int))) gs hb sb eb q must g v (upd (bI (l.map DdL.p) q i) i (mOf (pB (l.map DdL.p) i) (j + 1))) (upd (tI g v q i) i (mOf (pT g v i) j)) (endL q q)) := Lib.hid (by
                      have h := sta_bef hs6 HIQ.out (ins mb j)
                      rw [upd_upd] at h
                      rw [mOf_yes HPBV.out, HMB.out]; exact h)
                    have HK7 := Lib.hid (hk6.far (p := ⟨sb, i * 4 + 2, none⟩) (hk6.ne_ hs6.sp (by decide)) (.int .u32 ((ins mb j : Nat) : Int)))
                    have HB7 := Lib.hid (below_set hb6 HSB.out.1 (i * 4 + 2) (.int .u32 ((ins mb j : Nat) : Int)))
                    clear hs6 hk6 hb6 HS5 HK5 HB5 HPB HPBV
                    simp only [List.take_succ_cons, List.take_zero, List.drop_succ_cons, List.drop_zero]
                    repeat still_step
                    still_call ((HWB.out _).mono fun _ _ h => ⟨h.1, h.2.symm⟩)
                    repeat still_step
                    refine wpStill_nil ?_
                    go_upto_region 19 with fail
                    obtain ⟨w7, hw7⟩ : ∃ W, w6.setCell ⟨sb, i * 4 + 2, none⟩ (.int .u32 ((ins mb j : Nat) : Int)) = W := ⟨_, rfl⟩
                    rw [hw7] at HS7 HK7 HB7
                    try rw [hw7]
                    clear hw7 u0 u2 u3 HWB HMB
                    have v0 : w7.cell? ⟨gs, 0, none⟩ = some (.slice (some ⟨sb, 0, none⟩) q q) := HS7.out.blk.cell 0
                    obtain ⟨a0, a1, _, _⟩ := HS7.out.cell j hlt4
                    obtain ⟨_, b1, _, _⟩ := HS7.out.cell i HIQ.out
                    obtain ⟨pt, hpt⟩ : ∃ x, pT g v i j = x := ⟨_, rfl⟩
                    have HPT := Lib.hid hpt
                    clear hpt
                    go_cut [131] (fun cv wx => cv = .bool pt ∧ Hid (∃ k, wx = w7.drewN k))
                    case first =>
                      cases hgj : g j
                      · rw [hgj] at a0
                        have HV : Hid (pt = false) := Lib.hid (by rw [← HPT.out]; unfold pT; rw [hgj]; rfl)
                        clear hgj
                        go_quiet (fail)
                        go_wp2_with fail
                        go_meet
                        exact ⟨by rw [HV.out], Lib.hid ⟨_, rfl⟩⟩
                      · rw [hgj] at a0
                        obtain ⟨vj, hvj⟩ : ∃ x, v j = x := ⟨_, rfl⟩
                        obtain ⟨vi, hvi⟩ : ∃ x, v i = x := ⟨_, rfl⟩
                        rw [hvj] at a1
                        rw [hvi] at b1
                        have HV : Hid (pt = decide (vj = vi)) := Lib.hid (by rw [← HPT.out]; unfold pT; rw [hgj, hvj, hvi]; rfl)
                        clear hgj hvj hvi
                        by_cases hvv : vj = vi
                        · have hb : ((vj : Int) == (vi : Int)) = true := by simp [hvv]
                          have HV2 : Hid (pt = true) := Lib.hid (by rw [HV.out]; exact decide_eq_true hvv)
                          clear hvv HV
                          go_quiet (fail)
                          go_wp2_with fail
                          go_meet
                          exact ⟨by rw [HV2.out], Lib.hid ⟨_, rfl⟩⟩
                        · have hb : ((vj : Int) == (vi : Int)) = false := by simp; omega
                          have HV2 : Hid (pt = false) := Lib.hid (by rw [HV.out]; exact decide_eq_false hvv)
                          clear hvv HV
                          go_quiet (fail)
                          go_wp2_with fail
                          go_meet
                          exact ⟨by rw [HV2.out], Lib.hid ⟨_, rfl⟩⟩
                    case rest =>
                      obtain ⟨rfl, hkk⟩ := hcut
                      obtain ⟨kk2, rfl⟩ := hkk.out
                      have HS8 := Lib.hid (HS7.out.drewN kk2)
                      have HK8 := Lib.hid (HK7.out.drewN kk2)
                      have HB8 := Lib.hid (HB7.out.trans (below_drew' w7 kk2 w1.heap.size))
                      obtain ⟨w8, hw8⟩ : ∃ W, w7.drewN kk2 = W := ⟨_, rfl⟩
                      rw [hw8] at HS8 HK8 HB8
                      try rw [hw8]
                      clear hw8 hkk v0 a0 a1 b1 HS7 HK7 HB7
                      cases pt
                      · have HS9 : Hid (StA w8 gs hb sb eb q must g v (upd (bI (l.map DdL.p) q i) i (mOf (pB (l.map DdL.p) i) (j + 1))) (upd (tI g v q i) i (mOf (pT g v i) (j + 1))) (endL q q)) := Lib.hid (by rw [mOf_no (p := pT g v i) HPT.out]; exact HS8.out)
                        go_wp2
                        go_roundw
                        case rel => exact ⟨j + 1, by omega, by go_num, HS9, HB8, HK8⟩
                        case measure => simp [intOf]; omega
                      · obtain ⟨mt, hmt⟩ : ∃ x, mOf (pT g v i) j = x := ⟨_, rfl⟩
                        have hmtl : mt < 1048576 := by rw [← hmt]; exact mOf_lt _ _ 20 (by omega)
                        have HWT := Lib.hid (with_any mt j hmtl (by omega))
                        have HMT := Lib.hid hmt
                        clear hmt hmtl
                        go_wp2_with fail
                        refine wp_region_still_tail 17 (by kernel_rfl) (by kernel_rfl) ?_
                        change wpStill _ _ w8.drew (fun a' => wpList _ _ _ _ a' w8.drew) _ _
                        have hs9 := HS8.out.drewN 1
                        have hk9 := HK8.out.drewN 1
                        have hb9 := HB8.out.trans (below_drew' w8 1 w1.heap.size)
                        obtain ⟨w9, hw9⟩ : ∃ W, w8.drew = W := ⟨_, rfl⟩
                        change StA w8.drew _ _ _ _ _ _ _ _ _ _ _ at hs9
                        change Blk w8.drew _ _ _ at hk9
                        change Below _ _ w8.drew at hb9
                        rw [hw9] at hs9 hk9 hb9 ⊢
                        clear hw9
                        have u0 : w9.cell? ⟨gs, 0, none⟩ = some (.slice (some ⟨sb, 0, none⟩) q q) := hs9.blk.cell 0
                        obtain ⟨_, _, _, u2⟩ := hs9.cell i HIQ.out
                        rw [upd_same, HMT.out] at u2
                        have u3 := hs9.sp.frozen (i * 4 + 3)
                        have HSA : Hid (StA (w9.setCell ⟨sb, i * 4 + 3, none⟩ (.int .u32 ((ins mt j : Nat) : Int))) gs hb sb eb q must g v (upd (bI (l.map DdL.p) q i) i (mOf (pB (l.map DdL.p) i) (j + 1))) (upd (tI g v q i) i (mOf (pT g v i) (j + 1))) (endL q q)) := Lib.hid (by
                          have h := sta_gts hs9 HIQ.out (ins mt j)
                          rw [upd_upd] at h
                          rw [mOf_yes (p := pT g v i) HPT.out, HMT.out]; exact h)
                        have HKA := Lib.hid (hk9.far (p := ⟨sb, i * 4 + 3, none⟩) (hk9.ne_ hs9.sp (by decide)) (.int .u32 ((ins mt j : Nat) : Int)))
                        have HBA := Lib.hid (below_set hb9 HSB.out.1 (i * 4 + 3) (.int .u32 ((ins mt j : Nat) : Int)))
                        clear hs9 hk9 hb9 HS8 HK8 HB8
                        simp only [List.take_succ_cons, List.take_zero, List.drop_succ_cons, List.drop_zero]
                        repeat still_step
                        still_call ((HWT.out _).mono fun _ _ h => ⟨h.1, h.2.symm⟩)
                        repeat still_step
                        refine wpStill_nil ?_
                        go_wp2
                        go_roundw
                        case rel => exact ⟨j + 1, by omega, by go_num, HSA, HBA, HKA⟩
                        case measure => simp [intOf]; omega
              · obtain rfl : j = q := by omega
                have HSE : Hid (StA wr gs hb sb eb j must g v (bI (l.map DdL.p) j (i + 1)) (tI g v j (i + 1)) (endL j j)) := Lib.hid (by
                  have h := HSr.out
                  rw [bI_end, tI_end] at h
                  exact h)
                go_wp2
                go_roundw
                case rel => exact ⟨i + 1, by omega, by go_num, HSE, HBr, HKr⟩
                case measure => simp [intOf]; omega
          · obtain rfl : i = q := by omega
            have m1 : wf.cell? ⟨gs, 1, none⟩ = some (.slice (some ⟨eb, 0, none⟩) i i) := HSi.out.blk.cell 1
            obtain ⟨b, o, hA, hbB, hcl⟩ := dds_open HR.out (by rw [HN.out]; omega)
            have hbw : b < w.heap.size := Nat.lt_of_lt_of_le hbB HBB.out
            have hbr : wf.heap[b]? = w.heap[b]? := (HBi.out.block b (by omega)).trans (HB1.out.block b hbw)
            subst hA
            have hsca : ScA wf eb w.heap.size b o i c (fun k => (atD (l.map DdL.p) k).till) := ⟨HKi.out, fun y hy => by
                have hyl : y < l.length := by rw [HN.out]; exact hy
                obtain ⟨_, _, _, x3, _, _, _⟩ := (hcl y hyl).keep hbr
                rw [x3, atD_map (List.getElem?_eq_getElem hyl)]; rfl, HKi.out.ne_ HSi.out.ep (by decide), by have := HSB.out; omega, by have := HBi.out.size; omega⟩
            have HSO := Lib.hid (sort_any18 eb w.heap.size b o i c i _ hl0 hl wf hsca (by rw [← endL_all]; exact HSi.out.ep))
            obtain ⟨k1, k2, k3⟩ := so_end HL.out HN.out hl
            have HE1 := Lib.hid k1
            have HE2 := Lib.hid k2
            have HE3 := Lib.hid k3
            have HWB := Lib.hid (HB1.out.trans (HBi.out.mono (by omega)))
            clear hcl hbB hbw hbr hsca k1 k2 k3
            go_wp2_with fail
            refine HSO.out.mono ?_
            rintro e w9 ⟨rfl, h1, h2⟩
            have HEP := Lib.hid h1
            have HGR := Lib.hid h2
            clear h1 h2
            go_wp2
            go_ret
            exact ⟨gs, hb, sb, i, eb, i, _, _, _, rfl, so_at HSi.out HEP.out HGR.out, HE2.out, HE3.out, HE1.out, hop_of ((HGR.out.block hb (Array.getElem?_eq_some_iff.1 HSi.out.mp).1 (fun e => HSi.out.mne (by injection e))).trans HSi.out.mp), below_grown HWB.out HGR.out HWB.out.size (by have := HSB.out; omega), by have := HHB.out; omega⟩
end Go.Proofs.Ytlecbhnopokmnaa
