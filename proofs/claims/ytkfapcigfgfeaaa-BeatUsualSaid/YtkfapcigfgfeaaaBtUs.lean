/- BtUs: BeatUsual returns true, whatever the arguments; what was there is left as it was. -/
import Derived.Test.YtkfapcigfgfeaaaBtU
namespace Go.Proofs.Ytkfapcigfgfeaaa
open Go.RowKit Flo Mem
set_option maxRecDepth 100000
set_option maxHeartbeats 2000000
set_option linter.unusedVariables false
theorem usual_walk (fr n : Int) (s : Nat) (hf0 : 0 ≤ fr) (hf1 : fr ≤ 65535) (hs : s ≤ 65535) (hn0 : 0 ≤ n) (hn1 : n ≤ 255) (w : World) :
    Calls Try.prog 7 #[.int .u16 fr, .int .u16 (s : Int), .int .u8 n] w (Ret (.bool true) w) := by
  have hq0 : 0 ≤ n.tmod 40 := by rw [Int.tmod_eq_emod_of_nonneg hn0]; omega
  have hq1 : n.tmod 40 ≤ 39 := by rw [Int.tmod_eq_emod_of_nonneg hn0]; omega
  obtain ⟨q, hq⟩ : ∃ q : Nat, n.tmod 40 = (q : Int) := ⟨(n.tmod 40).toNat, by omega⟩
  have hq2 : (q : Int) ≤ 39 := by omega
  have hs0 : (0 : Int) ≤ (s : Int) := by omega
  have hs1 : (s : Int) ≤ 65535 := by omega
  obtain ⟨T, hT⟩ : ∃ T, tmZ (s : Int) = T := ⟨_, rfl⟩
  have htf := tm_facts (d := (s : Int)) (by omega) (by omega)
  rw [hT] at htf
  have HTW : Hid (Word T) := Lib.hid htf.1
  have HTO : Hid (okT T) := Lib.hid htf.2.2.1
  have HST : Hid (fnat T = floatOfInt .f64 (s : Int)) := Lib.hid (by rw [← hT]; rfl)
  have HNEW : Hid (∀ W, Calls Try.prog 26 #[.int .i64 fr] W (Ret (.tuple #[.agg #[.int .i64 fr, .slice none 0 0], .int .i64 0]) W)) := Lib.hid fun W => by
    have := new_any15 fr W
    rw [if_pos ⟨by omega, by omega⟩, if_pos ⟨by omega, by omega⟩] at this; exact this
  have HH : Hid (∀ (i : Nat) (last : Int) W A c, i ≤ 40 → last = fr + i * s → (repT i T).length ≤ c → Row W W.heap.size A ((repT i T).map fv) → Calls Try.prog 22 #[.agg #[.int .i64 last, .slice A (repT i T).length c], .int .i64 (last + (s : Int))] W (HrdP (last + (s : Int)) (repT (i + 1) T) W)) := Lib.hid fun i last W A c hi hl hc h => by
    have hb : (i : Int) * (s : Int) ≤ 40 * 65535 := by
      have := Nat.mul_le_mul hi hs
      have h2 : ((i * s : Nat) : Int) ≤ ((40 * 65535 : Nat) : Int) := by omega
      rw [Int.natCast_mul] at h2; omega
    have hb0 : 0 ≤ (i : Int) * (s : Int) := by
      have : (0 : Int) ≤ ((i * s : Nat) : Int) := by omega
      rw [Int.natCast_mul] at this; exact this
    have hr : rgtE last (repT i T) (last + (s : Int)) = 0 := rgt_ok (if_pos (rep_ok (by omega) (by omega) HTO.out)) (by omega) (by omega)
    have := heard_ok last (repT i T) _ c A rfl (by rw [rep_len]; omega) hc (fun x hx => by rw [rep_mem hx]; exact HTW.out) (last + (s : Int)) hr W h
    rw [show last + (s : Int) - last = (s : Int) by omega, hT, rep_next] at this
    exact this
  have HU : Hid (∀ (i : Nat) (last : Int) W A c, 0 < i → 0 ≤ last → last ≤ 10000000 → Row W W.heap.size A ((repT i T).map fv) → Calls Try.prog 11 #[.agg #[.int .i64 last, .slice A (repT i T).length c]] W (Ret (.tuple #[.float .f64 (fnat T), .int .i64 0]) W)) := Lib.hid fun i last W A c hi h0 h1 h => by
    have := usual_ok last (repT i T) _ c A rfl (by rw [rep_len]; omega) (fun x hx => by rw [rep_mem hx]; exact HTW.out) (rep_ok h0 (by omega) HTO.out) W h
    have hu := us_rep hs hi
    rw [hT] at hu
    rw [hu] at this; exact this
  obtain ⟨z, hz⟩ : ∃ z : Int, z = if s = 0 then 0 else 4607182418800017408 := ⟨_, rfl⟩
  have HS : Hid (∀ (i : Nat) (last : Int) W A c, 0 < i → 0 ≤ last → last ≤ 10000000 → Row W W.heap.size A ((repT i T).map fv) → Calls Try.prog 13 #[.agg #[.int .i64 last, .slice A (repT i T).length c], .int .i64 (last + (s : Int))] W (Ret (.tuple #[.float .f64 (fnat z), .int .i64 0]) W)) := Lib.hid fun i last W A c hi h0 h1 h => by
    have hr : rgtE last (repT i T) (last + (s : Int)) = 0 := rgt_ok (if_pos (rep_ok h0 (by omega) HTO.out)) (by omega) (by omega)
    have := score_ok last (repT i T) _ c A rfl (by rw [rep_len]; omega) (fun x hx => by rw [rep_mem hx]; exact HTW.out) (last + (s : Int)) hr W h
    have hu := sc_rep hs hi
    rw [hT] at hu
    rw [show last + (s : Int) - last = (s : Int) by omega, hu, ← hz] at this; exact this
  have gT : (FloatKind.f64.format.order (fnat T) (floatOfInt .f64 (s : Int)) != some .eq) = false := by
    rw [← HST.out, ne_self HTW.out]
    have := kind_cases HTW.out
    have h2 := HTO.out
    unfold okT at h2
    have h3 := HTW.out.1
    exact decide_eq_false (by omega)
  have hzs : ((s : Int) == 0) = true ∧ (FloatKind.f64.format.order (fnat z) 0 == some .eq) = true ∨ ((s : Int) == 0) = false ∧ (FloatKind.f64.format.order (fnat z) 4607182418800017408 == some .eq) = true := by
    by_cases h : s = 0
    · left; rw [hz, if_pos h, h]; exact ⟨rfl, by decide +kernel⟩
    · right; rw [hz, if_neg h]; exact ⟨beq_false_of_ne (by omega), by decide +kernel⟩
  have HQ2 := Lib.hid hq2
  clear hT htf hz hq0 hq1
  go_enter Try.func7, Try.ntmps7
  go_wp2_with fail
  refine (HNEW.out _).mono ?_
  rintro e1 w1 ⟨rfl, hb1⟩
  have HI0 := Lib.hid (UsI.start hb1 fr)
  have HB1 := Lib.hid hb1
  clear hb1
  go_wp2
  go_loopw [9] (fun iv wr => ∃ (i : Nat) (A : Option Addr) (c : Nat), i ≤ q + 1 ∧ iv = .int .i64 i ∧ Hid (UsI w wr w1.heap.size (fr + i * s) (repT i T) A c)) (fun iv _ => q + 1 - (intOf iv).toNat)
  case atStart => exact ⟨0, none, 0, by omega, rfl, Lib.hid (by have e : repT 0 T = [] := rfl; rw [e]; have := HI0.out; simpa using this)⟩
  case round =>
    obtain ⟨i, A, c, hi, rfl, HI⟩ := hrel
    obtain ⟨last, hl⟩ : ∃ last : Int, fr + i * s = last := ⟨_, rfl⟩
    rw [hl] at HI
    have hbnd : 0 ≤ last ∧ last ≤ 10000000 := by
      have h1 := Nat.mul_le_mul (show i ≤ 40 by have := HQ2.out; omega) hs
      have h2 : ((i * s : Nat) : Int) ≤ ((40 * 65535 : Nat) : Int) := by omega
      have h3 : (0 : Int) ≤ ((i * s : Nat) : Int) := by omega
      rw [Int.natCast_mul] at h2 h3
      omega
    obtain ⟨hl0, hl1⟩ := hbnd
    have HL := Lib.hid hl
    clear hl
    have q0 : wr.cell? ⟨w1.heap.size, 0, none⟩ = some (.int .i64 last) := HI.out.hk.cell 0
    have q1 : wr.cell? ⟨w1.heap.size, 1, none⟩ = some (.slice A (repT i T).length c) := HI.out.hk.cell 1
    by_cases hlt : i < q + 1
    · have hlt2 : (i : Int) < 1 + (q : Int) := by omega
      have hi0 : (0 : Int) ≤ (i : Int) := by omega
      go_wp2_with fail
      refine (HH.out i last _ A c (by have := HQ2.out; omega) HL.out.symm (own_le HI.out.ho) HI.out.row).mono ?_
      rintro e2 w2 ⟨A2, c2, rfl, ho2, hb2⟩
      have hk2 := HI.out.hk.below hb2 HI.out.hk.lt
      have y0 : w2.cell? ⟨w1.heap.size, 0, none⟩ = some (.int .i64 last) := hk2.cell 0
      have y1 : w2.cell? ⟨w1.heap.size, 1, none⟩ = some (.slice A (repT i T).length c) := hk2.cell 1
      have x0 := hk2.frozen 0
      have x1 := hk2.frozen 1
      have hgl : w1.heap.size < w2.heap.size := hk2.lt
      have HST2 : Hid (UsI w (((w2.setCell ⟨w1.heap.size, 0, none⟩ (.int .i64 (last + (s : Int)))).setCell ⟨w1.heap.size, 1, none⟩ (.slice A2 (repT (i + 1) T).length c2)).alloc (.cells #[.int .i64 (last + (s : Int)), .slice A2 (repT (i + 1) T).length c2] 27)) w1.heap.size (fr + ((i + 1 : Nat) : Int) * s) (repT (i + 1) T) A2 c2) := Lib.hid (by
        have h := HI.out.step (last' := last + (s : Int)) hb2 ho2 (.cells #[.int .i64 (last + (s : Int)), .slice A2 (repT (i + 1) T).length c2] 27)
        have e : fr + ((i + 1 : Nat) : Int) * s = last + (s : Int) := by have := HL.out; rw [Int.natCast_add, Int.add_mul]; omega
        rw [e]; exact h)
      clear q0 q1 hk2 ho2 hb2
      go_wp2
      go_roundw
      case rel => exact ⟨i + 1, A2, c2, by omega, by go_num, HST2⟩
      case measure => simp [intOf]; omega
    · have hlt2 : 1 + (q : Int) ≤ (i : Int) := by omega
      have hip : 0 < i := by omega
      rcases hzs with ⟨h1, h2⟩ | ⟨h1, h2⟩
      all_goals
        go_wp2_with fail
        refine (HU.out i last _ A c hip hl0 hl1 HI.out.row).mono ?_
        rintro e2 w2 ⟨rfl, hb2⟩
        have HI2 := Lib.hid (HI.out.below hb2)
        have y0 : w2.cell? ⟨w1.heap.size, 0, none⟩ = some (.int .i64 last) := HI2.out.hk.cell 0
        have y1 : w2.cell? ⟨w1.heap.size, 1, none⟩ = some (.slice A (repT i T).length c) := HI2.out.hk.cell 1
        clear hb2 q0 q1
        go_wp2_with fail
        refine (HS.out i last _ A c hip hl0 hl1 HI2.out.row).mono ?_
        rintro e3 w3 ⟨rfl, hb3⟩
        have HI3 := Lib.hid (HI2.out.below hb3)
        clear hb3
        go_wp2_with (go_at_call 9; refine (known15_any _).mono ?_; rintro e wk ⟨rfl, hbk⟩)
        go_ret
        exact ⟨rfl, HI3.out.hb.trans (hbk.mono HI3.out.hb.size)⟩
end Go.Proofs.Ytkfapcigfgfeaaa
