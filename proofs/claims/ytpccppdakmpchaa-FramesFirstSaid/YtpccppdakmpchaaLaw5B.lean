/- The law FramesFirst, walked. -/
import Derived.Test.YtpccppdakmpchaaLaw5A
namespace Go.Proofs.Ytpccppdakmpchaa
open Go.RowKit Mem Be Word Frm
set_option maxRecDepth 100000
set_option maxHeartbeats 2000000
set_option linter.unusedVariables false
theorem cutR (W : World) (A : Option Addr) (n c k : Nat) (h : k ≤ n) : (Instr.slice 22 (.slice A n c) (some (.int .i64 (k : Int))) none none).run Try.prog W = .ok (.slice (if c = k then A else A.map (·.add (k * 2))) (n - k) (c - k)) W := by
  obtain ⟨i, hi, hz, hz1, hz2⟩ := info_parts info_r
  simp [Instr.slice, run_underlying Try.underlying22, Instr.sliceBounds, Instr.sliceBound, asIntOf, sizeOf, typeInfo, hi, hz1, h]
theorem rowR_tail {w : World} {B : Nat} {A : Option Addr} {rs : List RecV} {c k : Nat} (h : Row w B A (recsC rs)) (hc : rs.length ≤ c) (hk : k ≤ rs.length) : Row w B (if c = k then A else A.map (·.add (k * 2))) (recsC (rs.drop k)) := by
  rcases Nat.lt_or_ge k rs.length with hlt | hge
  · obtain ⟨b, o, rfl, hb, hcell⟩ := h.open_ (by rw [recsC_len]; omega)
    rw [if_neg (by omega)]
    have e : (some (⟨b, o, none⟩ : Addr)).map (·.add (k * 2)) = some ⟨b, o + k * 2, none⟩ := by
      show some ((⟨b, o, none⟩ : Addr).add (k * 2)) = _
      unfold Addr.add
      split
      · rename_i h0
        rw [h0]; rfl
      · rfl
    rw [e]
    refine Or.inr ⟨b, o + k * 2, rfl, hb, fun j hj => ?_⟩
    have hd : recsC rs = recsC (rs.take k) ++ recsC (rs.drop k) := by rw [← recsC_app, List.take_append_drop]
    have hl : (recsC (rs.take k)).length = k * 2 := by rw [recsC_len, List.length_take]; congr 1; omega
    rw [recsC_len, List.length_drop] at hj
    have := hcell (k * 2 + j) (by rw [recsC_len]; omega)
    rw [Nat.add_assoc, this]
    congr 1
    simp only [hd]
    rw [List.getElem_append_right (by omega)]
    congr 1
    omega
  · rw [List.drop_of_length_le hge]; exact Row.nil _ _ _
theorem first_walk (A : Option Addr) (bs : List UInt8) (n c : Nat) (hn : n = bs.length) (hc : n ≤ c) (w : World) (h : Row w w.heap.size A (bs.map byteV)) :
    Calls Try.prog 9 #[.slice A n c] w (IsT true w) := by
  by_cases h15 : 1500 < n
  · have hg : (1500 : Int) < (n : Int) := by omega
    clear h hn h15 hc
    go_enter Try.func9, Try.ntmps9
    go_wp2_with (go_at_call 11; refine (known5_any _).mono ?_; rintro e w' ⟨rfl, hb⟩; have HB := Lib.hid hb; clear hb)
    go_ret
    exact ⟨rfl, HB.out⟩
  have hg : (n : Int) ≤ 1500 := by omega
  have hn15 : n ≤ 1500 := by omega
  have hsl := scan_len bs
  have HROW : Hid (∀ W, Below w.heap.size w W → Row W W.heap.size A (bs.map byteV)) := Lib.hid fun W hb => (h.below hb).more hb.size
  have HS1 : Hid (∀ W, Below w.heap.size w W → Calls Try.prog 18 #[.slice A n c] W (ScanP (scanS bs) W)) := Lib.hid fun W hb => scan_any _ c n A bs hn hc W (HROW.out W hb) (Nat.le_refl _) (by omega)
  have HN1 : Hid (∀ W, Below w.heap.size w W → Calls Try.prog 20 #[.slice A n c] W (NextP (nextS bs) W)) := Lib.hid fun W hb => next_any _ c n A bs hn hc W (HROW.out W hb) (Nat.le_refl _) (by omega)
  cases hx : nextS bs with
  | bad x0 =>
    have hs := scan_bad hx
    have hb4 := next_bad hx
    rw [hs] at HS1
    rw [hx] at HN1
    have hx0 : (x0 != 0) = true := by rcases hb4 with ⟨h, _⟩ | ⟨h | h | h, _⟩ <;> subst h <;> rfl
    clear h hn hc h15 hx hs hsl hb4 hn15 HROW
    by_cases h4 : x0 = 4
    · subst h4
      rw [if_pos rfl] at HS1
      go_enter Try.func9, Try.ntmps9
      go_wp2_with fail
      refine (HS1.out w (Below.refl _ _)).mono ?_
      rintro e w1 ⟨rs1, A1, c1, hm1, rfl, ho1, hr1, hb1⟩
      have HB1 := Lib.hid hb1
      have hl0 := map_len hm1
      simp only [List.length_nil] at hl0
      rw [hl0]
      clear hm1 ho1 hr1 hb1 HS1 hl0
      go_wp2_with fail
      refine (HN1.out w1 HB1.out).mono ?_
      rintro e w2 ⟨rfl, hb2⟩
      have HB2 := Lib.hid (HB1.out.trans (hb2.mono HB1.out.size))
      clear hb2 HN1
      go_wp2_with fail
      refine (known5_any _).mono ?_
      rintro e w3 ⟨rfl, hb3⟩
      have HB3 := Lib.hid (HB2.out.trans (hb3.mono HB2.out.size))
      clear hb3
      go_wp2
      go_ret
      exact ⟨rfl, HB3.out⟩
    · rw [if_neg h4] at HS1
      clear h4
      go_enter Try.func9, Try.ntmps9
      go_wp2_with fail
      refine (HS1.out w (Below.refl _ _)).mono ?_
      rintro e w1 ⟨rs1, A1, c1, hm1, rfl, ho1, hr1, hb1⟩
      have HB1 := Lib.hid hb1
      have hl0 := map_len hm1
      simp only [List.length_nil] at hl0
      rw [hl0]
      clear hm1 ho1 hr1 hb1 HS1 hl0
      go_wp2_with fail
      refine (HN1.out w1 HB1.out).mono ?_
      rintro e w2 ⟨rfl, hb2⟩
      have HB2 := Lib.hid (HB1.out.trans (hb2.mono HB1.out.size))
      clear hb2 HN1
      go_wp2_with fail
      refine (known5_any _).mono ?_
      rintro e w3 ⟨rfl, hb3⟩
      have HB3 := Lib.hid (HB2.out.trans (hb3.mono HB2.out.size))
      clear hb3
      go_wp2
      go_ret
      exact ⟨rfl, HB3.out⟩
  | ok r =>
    have hs := scan_ok hx
    have hk := next_ok hx
    rw [hx] at HN1
    obtain ⟨kk, ys⟩ := r
    simp only at hk hs
    obtain ⟨Z, hZ⟩ : ∃ Z, ys.length + 10 = Z := ⟨_, rfl⟩
    rw [hZ] at hs
    have hZn : Z ≤ n := by omega
    have hZ1 : (10 : Int) ≤ (Z : Int) := by omega
    have hZ2 : (Z : Int) ≤ (n : Int) := by omega
    have hcut := fun W => run_cut_l (P := Try.prog) (w := W) 25 5 _ _ Try.underlying25 info_b A n c Z hZn
    have HS2 : Hid (∀ W, Below w.heap.size w W → Calls Try.prog 18 #[.slice (cutA A Z c) (n - Z) (c - Z)] W (ScanP (scanS (bs.drop Z)) W)) := Lib.hid fun W hb =>
      scan_any _ (c - Z) (n - Z) _ (bs.drop Z) (by rw [List.length_drop]; omega) (by omega) W (by rw [List.map_drop]; exact cut_row (HROW.out W hb) Z c (by rw [List.length_map]; omega)) (Nat.le_refl _) (by omega)
    obtain ⟨⟨l2, a2, e2⟩, hs2⟩ : ∃ s, scanS (bs.drop Z) = s := ⟨_, rfl⟩
    have hl2 := scan_at (bs.drop Z)
    rw [List.length_drop] at hl2
    rw [hs2] at hs HS2 hl2
    simp only at hs hl2
    rw [hs] at HS1 hsl
    simp only [List.length_cons] at hsl
    obtain ⟨S, hS⟩ : ∃ S, Z + a2 = S := ⟨_, rfl⟩
    rw [hS] at HS1
    have hsum : (a2 : Int) + (Z : Int) = (S : Int) := by omega
    have hS1 : (S : Int) ≤ 3000 := by omega
    have HZ := Lib.hid hZ
    have HSL : Hid (l2.length ≤ 1000) := Lib.hid (by omega)
    clear h hn hc h15 hx hs hsl hk hs2 hl2 hZ hS HROW hZn
    go_enter Try.func9, Try.ntmps9
    go_wp2_with fail
    refine (HS1.out w (Below.refl _ _)).mono ?_
    rintro e w1 ⟨rs1, A1, c1, hm1, rfl, ho1, hr1, hb1⟩
    obtain ⟨⟨k1, B1, xs, d1⟩, rs, rfl⟩ : ∃ r rs, rs1 = r :: rs := by
      rcases rs1 with _ | ⟨r, rs⟩
      · simp at hm1
      · exact ⟨r, rs, rfl⟩
    simp only [List.map_cons, rcOf, List.cons.injEq, Prod.mk.injEq] at hm1
    obtain ⟨⟨rfl, rfl⟩, hm1⟩ := hm1
    have hll : rs.length = l2.length := map_len hm1
    obtain ⟨m, hm⟩ : ∃ m, (((k1, B1, xs, d1) : RecV) :: rs).length = m := ⟨_, rfl⟩
    have hm0 : rs.length + 1 = m := by simpa using hm
    rw [hm] at ho1 ⊢
    have hmc := (show m ≤ c1 by
      rcases ho1.2 with ⟨hv, hn⟩ | ⟨g, cap, cur, hv, _, _, hc, _⟩
      · omega
      · injection hv with _ _ h3; omega)
    have hmz : ((m : Int) == 0) = false := by simp; omega
    have hm1i : (1 : Int) ≤ (m : Int) := by omega
    obtain ⟨b, o, hA1, hbb, hcell⟩ := recs_open (ownRow ho1) (by simp)
    have hc00 := hcell 0 (by simp)
    simp only [List.getElem_cons_zero, Nat.zero_mul, Nat.add_zero] at hc00
    have hcR : ∀ W, (Instr.slice 22 (.slice A1 m c1) (some (.int .i64 1)) none none).run Try.prog W = .ok (.slice (if c1 = 1 then A1 else A1.map (·.add (1 * 2))) (m - 1) (c1 - 1)) W := fun W => cutR W A1 m c1 1 (by omega)
    have HTL : Hid (∀ W, Below w1.heap.size w1 W → Row W W.heap.size (if c1 = 1 then A1 else A1.map (·.add (1 * 2))) (recsC rs)) := Lib.hid fun W hb =>
      rowR_tail (rs := ((k1, B1, xs, d1) : RecV) :: rs) (k := 1) ((ownRow (ownLater ho1 hb))) (by rw [hm]; exact hmc) (by simp)
    obtain ⟨D, hD⟩ : ∃ D, (if c1 = 1 then A1 else A1.map (·.add (1 * 2))) = D := ⟨_, rfl⟩
    rw [hD] at hcR HTL
    clear hD
    subst hA1
    have HB1 := Lib.hid hb1
    have HO1 := Lib.hid ho1
    have HR1 := Lib.hid hr1
    have HM1 := Lib.hid hm1
    have HMM := Lib.hid (And.intro hm0 (And.intro hll hmc))
    have HCC := Lib.hid hc00
    simp only
    clear hm1 ho1 hr1 hb1 HS1 hm hm0 hll hmc hcell hc00
    go_wp2_with fail
    refine (HN1.out w1 HB1.out).mono ?_
    intro e w2 hq
    obtain ⟨A3, c3, rfl, ho3, hb3⟩ := nextQ_of HZ.out hq
    have HB2 := Lib.hid (HB1.out.trans (hb3.mono HB1.out.size))
    have hc0 : w2.cell? ⟨b, o, none⟩ = some (.int .u8 (k1.toNat : Int)) := (hb3.cell (p := ⟨b, o, none⟩) hbb).trans HCC.out.1
    have hc1 : w2.cell? ⟨b, o + 1, none⟩ = some (.slice B1 xs.length d1) := (hb3.cell (p := ⟨b, o + 1, none⟩) hbb).trans HCC.out.2
    have hm0i : (0 : Int) < (m : Int) := by omega
    have HRX := Lib.hid (Row.of_own ((recsO_below HR1.out hb3) (k1, B1, xs, d1) (by simp)))
    have HRY := Lib.hid (Row.of_own ho3)
    have HR2 := Lib.hid (recsO_recs (recsO_sub (recsO_below HR1.out hb3) (rs' := rs) (fun r hr => by simp [hr])))
    have HT2 : Hid (∀ W, Below w2.heap.size w2 W → Row W W.heap.size D (recsC rs)) := Lib.hid fun W hb => HTL.out W (hb3.trans (hb.mono hb3.size))
    clear hq ho3 hb3 HN1 HTL HO1 HR1 HB1 hbb HCC
    go_wp2_with fail
    refine (same_true w2.heap.size w2.heap.size d1 c3 xs.length xs.length B1 A3 xs w2 HRX.out HRY.out rfl rfl).mono ?_
    rintro e w3 ⟨rfl, rfl⟩
    clear HRX HRY hc0 hc1
    go_wp2_with fail
    refine (HS2.out w2 HB2.out).mono ?_
    rintro e w4 ⟨rs3, A5, c5, hm5, rfl, ho5, hr5, hb5⟩
    have HB4 := Lib.hid (HB2.out.trans (hb5.mono HB2.out.size))
    have HO5 := Lib.hid (ownRow ho5)
    have HR5 := Lib.hid (recsO_recs hr5)
    have HM5 := Lib.hid hm5
    have HT4 := Lib.hid (HT2.out w4 hb5)
    have HR4 := Lib.hid (recs_below HR2.out hb5)
    simp only
    clear hm5 ho5 hr5 hb5 HS2 HT2 HR2
    go_wp2_with fail
    refine (refsame5_true rs3.length (m - 1) c5 (c1 - 1) A5 D rs3 rs rfl (by have := HMM.out; omega) (HM5.out.trans HM1.out.symm) w4 HO5.out HT4.out HR5.out HR4.out (by rw [map_len HM5.out]; have := HSL.out; omega)).mono ?_
    rintro e w5 ⟨rfl, hb5⟩
    have HB5 := Lib.hid (HB4.out.trans (hb5.mono HB4.out.size))
    clear hb5 HO5 HT4 HR5 HR4
    go_wp2_with fail
    refine (known5_any _).mono ?_
    rintro e w6 ⟨rfl, hb6⟩
    have HB6 := Lib.hid (HB5.out.trans (hb6.mono HB5.out.size))
    clear hb6
    go_wp2
    go_ret
    exact ⟨rfl, HB6.out⟩
end Go.Proofs.Ytpccppdakmpchaa
