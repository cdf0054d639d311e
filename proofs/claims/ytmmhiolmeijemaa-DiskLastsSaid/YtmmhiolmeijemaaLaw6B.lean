/- The law DiskLasts, walked. -/
import Derived.Test.YtmmhiolmeijemaaLaw6A
namespace Go.Proofs.Ytmmhiolmeijemaa
open Go.RowKit Mem
set_option maxRecDepth 100000
set_option maxHeartbeats 2000000
set_option linter.unusedVariables false
/-- What lasts behind something that is done, where it is not replaced. -/
theorem doS_keep (L T : List UInt8) (n : Nat) (k : Int) (bs : List UInt8) (kp : Int) (hk : k ≠ 3) :
    (doS L T n k bs kp).1.take L.length = L ∧ L.length ≤ (doS L T n k bs kp).1.length ∧ (L ++ T).take (doS L T n k bs kp).1.length = (doS L T n k bs kp).1 ∧ (doS L T n k bs kp).1.length ≤ (L ++ T).length ∧ (k = 2 → (doS L T n k bs kp).1 = L ++ T) := by
  have key : ∃ m, (doS L T n k bs kp).1 = L ++ T.take m ∧ (k = 2 → T.take m = T) := by
    unfold doS
    by_cases h1 : k = 1
    · rw [if_pos h1]
      split
      · exact ⟨0, by simp, fun h => by omega⟩
      · exact ⟨0, by simp, fun h => by omega⟩
    rw [if_neg h1]
    by_cases h2 : k = 2
    · rw [if_pos h2]
      exact ⟨T.length, by simp, fun _ => by simp⟩
    rw [if_neg h2, if_neg hk]
    split
    · exact ⟨0, by simp, fun h => absurd h h2⟩
    · exact ⟨kp.toNat, rfl, fun h => absurd h h2⟩
  obtain ⟨m, hm, h2⟩ := key
  rw [hm]
  refine ⟨by simp, by simp, ?_, by simp; omega, fun h => by rw [h2 h]⟩
  rw [List.length_append, List.take_append, List.take_of_length_le (by omega)]
  congr 1
  rw [show L.length + (T.take m).length - L.length = (T.take m).length by omega, List.length_take]
  rw [List.take_eq_take_iff]
  omega
theorem lasts_walk (A : Option Addr) (rs : List DoV) (n c : Nat) (hn : n = rs.length) (hnl : n ≤ 140737488355328) (w : World) (h : InD w A rs) :
    Calls Try.prog 4 #[.slice A n c] w (IsT6 true w) := by
  have HLG := Lib.hid (longdo_any n c A rs hn (by unfold maxLen; omega) w h)
  have HIN := Lib.hid h
  have HN := Lib.hid hn
  have HNL := Lib.hid hnl
  have hni : (n : Int) ≤ 140737488355328 := by omega
  clear h hn hnl
  go_enter Try.func4, Try.ntmps4
  go_wp2_with fail
  refine HLG.out.mono ?_
  rintro e w' ⟨⟨lb, rfl⟩, rfl⟩
  clear HLG
  cases lb with
  | true =>
    go_wp2_with fail
    refine (known6_any _).mono ?_
    rintro e w1 ⟨rfl, hb⟩
    have HB := Lib.hid hb
    clear hb
    go_wp2
    go_ret
    exact ⟨rfl, HB.out⟩
  | false =>
  go_wp2_with fail
  refine (newdk_any w).mono ?_
  rintro e w1 ⟨g, F0, rfl, hF, hd, hb⟩
  have HK0 : Hid (Dk1 w w1 F0 g [] [] 0) := Lib.hid ⟨hF, hd, hb⟩
  simp only [id]
  clear hF hd hb
  go_wp2_with fail
  go_loopw [4] (fun i wr => ∃ k : Nat, k ≤ n ∧ i = .int .i64 k ∧ Hid (∃ F L T q, q ≤ k ∧ Dk1 w wr F g L T q)) (fun i _ => n - (intOf i).toNat)
  case atStart => exact ⟨0, by omega, rfl, Lib.hid ⟨F0, [], [], 0, by omega, HK0.out⟩⟩
  case round =>
    obtain ⟨k, hk, rfl, HK⟩ := hrel
    obtain ⟨F, L, T, q, hq, hd⟩ := HK.out
    have HD := Lib.hid hd
    have HQ := Lib.hid hq
    clear HK hd hq HK0
    by_cases hlt : k < n
    · have hk1 : k < rs.length := by rw [← HN.out]; exact hlt
      obtain ⟨b, o, rfl, hb0, _⟩ := dos_open (HIN.out w (Below.refl _ _)).1 (by omega)
      have HCL : Hid (∀ W, Below w.heap.size w W → W.cell? ⟨b, o + k * 3, none⟩ = some (.int .i64 rs[k].kind) ∧ W.cell? ⟨b, o + k * 3 + 1, none⟩ = some (rowV rs[k].row) ∧ W.cell? ⟨b, o + k * 3 + 2, none⟩ = some (.int .i64 rs[k].kept)) := Lib.hid fun W hb => by
        obtain ⟨b', o', e, _, hc⟩ := dos_open (HIN.out W hb).1 (by omega)
        injection e with e
        injection e with e1 e2
        subst e1; subst e2
        exact hc k hk1
      have HC : Hid (∀ W F L T q, Dk1 w W F g L T q → q ≤ k → Calls Try.prog 12 #[.pointer (some ⟨g, 0, none⟩), .agg #[.int .i64 rs[k].kind, .slice rs[k].row.1 rs[k].row.2.1.length rs[k].row.2.2, .int .i64 rs[k].kept]] W (DoneP F g (doS L T q rs[k].kind rs[k].row.2.1 rs[k].kept) W)) :=
        Lib.hid fun W F L T q h hq => done_round HIN.out h hk1 (by have := HNL.out; omega)
      have HRB : Hid (∀ W, Below w.heap.size w W → Row W w.heap.size rs[k].row.1 (rs[k].row.2.1.map byteV)) := Lib.hid fun W hb => ((HIN.out W hb).2 rs[k] (List.getElem_mem hk1)).row.1
      unfold rowV at HCL
      obtain ⟨⟨kd, ⟨A0, bs, c0⟩, kp⟩, hy1⟩ : ∃ y, rs[k] = y := ⟨_, rfl⟩
      rw [hy1] at HCL HC HRB
      simp only at HCL HC HRB
      have hki : (0 : Int) ≤ (k : Int) := by omega
      have hki2 : (k : Int) < (n : Int) := by omega
      clear hy1 hb0
      have hmx := HD.out.at_.mx
      go_wp2_with fail
      refine (lasting_any F g q L T wr HD.out.at_).mono ?_
      rintro e w1 ⟨A1, c1, rfl, ho, hb⟩
      have HR1 := Lib.hid (rowN_made HD.out.at_.lt ho)
      have HD1 := Lib.hid (HD.out.below hb)
      clear ho hb HD
      go_wp2_with fail
      refine (bytes_any F g q L T w1 HD1.out.at_).mono ?_
      rintro e w2 ⟨A2, c2, rfl, ho, hb⟩
      have HR2 := Lib.hid (rowN_made HD1.out.at_.lt ho)
      have HR1 := Lib.hid (HR1.out.below hb)
      have HD2 := Lib.hid (HD1.out.below hb)
      have hcap2 := (own_cap ho).1
      obtain ⟨Y, hY⟩ : ∃ Y, L ++ T = Y := ⟨_, rfl⟩
      have hYl : Y.length ≤ 4194304 := by rw [← hY, List.length_append]; omega
      rw [hY] at HR2 hcap2 ⊢
      clear ho hb HD1
      obtain ⟨d0, d1, d2⟩ := HCL.out w2 HD2.out.bel
      go_wp2_with fail
      refine (HC.out w2 F L T q HD2.out HQ.out).mono ?_
      rintro e w3 ⟨rfl, F', hf, hd, ht⟩
      have HR1 := Lib.hid (HR1.out.step ht hf)
      have HR2 := Lib.hid (HR2.out.step ht hf)
      have HD3 := Lib.hid (HD2.out.to hf hd ht)
      have hqn := doS_n L T q kd bs kp
      have hkeep := doS_keep L T q kd bs kp
      have hS3 : kd = 3 → doS L T q kd bs kp = if 4194304 < bs.length then (L, T, q, 3) else (bs, [], q, 0) := fun h => by subst h; rfl
      obtain ⟨⟨X, T', q', ev⟩, hS⟩ : ∃ s, doS L T q kd bs kp = s := ⟨_, rfl⟩
      rw [hS] at HD3 hqn hkeep hS3
      rw [hY] at hkeep
      simp only at HD3 hqn hkeep hS3
      have hmx3 := HD3.out.at_.mx
      have HQ3 : Hid (q' ≤ k + 1) := Lib.hid (by have := HQ.out; omega)
      clear hf hd ht HD2 d0 d1 d2 HC hqn HQ hY
      simp only [hS]
      clear hS
      go_wp2_with fail
      refine (lasting_any F' g q' X T' w3 HD3.out.at_).mono ?_
      rintro e w4 ⟨A3, c3, rfl, ho, hb⟩
      have HR3 := Lib.hid (rowN_made HD3.out.at_.lt ho)
      have HR1 := Lib.hid (HR1.out.below hb)
      have HR2 := Lib.hid (HR2.out.below hb)
      have HD4 := Lib.hid (HD3.out.below hb)
      have hcap3 := (own_cap ho).1
      clear ho hb HD3
      obtain ⟨d0, d1, d2⟩ := HCL.out w4 HD4.out.bel
      by_cases hk3 : kd = 3
      · have h3 := hS3 hk3
        subst hk3
        clear hkeep hS3
        by_cases hl : 4194304 < bs.length
        · rw [if_pos hl] at h3
          injection h3 with h31 h32; injection h32 with h32 h33; injection h33 with h33 h34
          subst h34
          have HK4 : Hid (∃ F L T q, q ≤ k + 1 ∧ Dk1 w w4 F g L T q) := Lib.hid ⟨F', X, T', q', HQ3.out, HD4.out⟩
          clear hl h31 h32 h33
          go_wp2
          go_roundw
          case rel => exact ⟨k + 1, by omega, by go_num, HK4⟩
          case measure => simp [intOf]; omega
        · rw [if_neg hl] at h3
          injection h3 with h31 h32; injection h32 with h32 h33; injection h33 with h33 h34
          subst h31; subst h32; subst h33; subst h34
          have HS := Lib.hid (same6_true w4.heap.size w.heap.size c3 c0 X.length X.length A3 A0 X w4 HR3.out.row (HRB.out w4 HD4.out.bel) rfl rfl)
          clear hl
          go_wp2_with fail
          refine HS.out.mono ?_
          rintro e w' ⟨rfl, rfl⟩
          go_wp2_with fail
          refine (tail_any F' g q' X [] w4 HD4.out.at_).mono ?_
          rintro e w5 ⟨A5, c5, rfl, ho, hb⟩
          have HK5 : Hid (∃ F L T q, q ≤ k + 1 ∧ Dk1 w w5 F g L T q) := Lib.hid ⟨F', X, [], q', HQ3.out, HD4.out.below hb⟩
          simp only [List.length_nil]
          clear ho hb HS
          go_wp2
          go_roundw
          case rel => exact ⟨k + 1, by omega, by go_num, HK5⟩
          case measure => simp [intOf]; omega
      · obtain ⟨e1, e2, e3, e4, e5⟩ := hkeep hk3
        have hkb : (kd == 3) = false := by simpa using hk3
        have hLX : (L.length : Int) ≤ (X.length : Int) := by omega
        have hXY : (X.length : Int) ≤ (Y.length : Int) := by omega
        have hYi : (Y.length : Int) ≤ 4194304 := by omega
        have hcutL := fun W => run_cut_h (P := Try.prog) (w := W) 22 5 _ _ Try.underlying22 info_b A3 X.length c3 L.length (by omega)
        have hcutX := fun W => run_cut_h (P := Try.prog) (w := W) 22 5 _ _ Try.underlying22 info_b A2 Y.length c2 X.length (by omega)
        have HS1 := Lib.hid (same6_true w4.heap.size w4.heap.size c3 c1 L.length L.length A3 A1 L w4 (by have := take_row HR3.out.row L.length; rw [← List.map_take, e1] at this; exact this) HR1.out.row rfl rfl)
        have HS2 := Lib.hid (same6_true w4.heap.size w4.heap.size c3 c2 X.length X.length A3 A2 X w4 HR3.out.row (by have := take_row HR2.out.row X.length; rw [← List.map_take, e3] at this; exact this) rfl rfl)
        have HK4 : Hid (∃ F L T q, q ≤ k + 1 ∧ Dk1 w w4 F g L T q) := Lib.hid ⟨F', X, T', q', HQ3.out, HD4.out⟩
        clear e1 e2 e3 e4 hS3 HR1 hYl hmx hmx3 hcap2 hcap3
        by_cases h1 : kd = 1
        · subst h1
          clear e5
          go_wp2_with fail
          refine HS1.out.mono ?_
          rintro e w' ⟨rfl, rfl⟩
          go_wp2
          go_roundw
          case rel => exact ⟨k + 1, by omega, by go_num, HK4⟩
          case measure => simp [intOf]; omega
        by_cases h2 : kd = 2
        · subst h2
          obtain rfl := e5 rfl
          have HS3 := Lib.hid (same6_true w4.heap.size w4.heap.size c3 c2 X.length X.length A3 A2 X w4 HR3.out.row HR2.out.row rfl rfl)
          clear e5
          go_wp2_with fail
          refine HS1.out.mono ?_
          rintro e w' ⟨rfl, rfl⟩
          go_wp2_with fail
          refine HS2.out.mono ?_
          rintro e w' ⟨rfl, rfl⟩
          go_wp2_with fail
          refine HS3.out.mono ?_
          rintro e w' ⟨rfl, rfl⟩
          go_wp2
          go_roundw
          case rel => exact ⟨k + 1, by omega, by go_num, HK4⟩
          case measure => simp [intOf]; omega
        · have hkb1 : (kd == 1) = false := by simpa using h1
          have hkb2 : (kd == 2) = false := by simpa using h2
          have hkb3 : (kd != 1) = true := by simpa using h1
          clear e5
          go_wp2_with fail
          refine HS1.out.mono ?_
          rintro e w' ⟨rfl, rfl⟩
          go_wp2_with fail
          refine HS2.out.mono ?_
          rintro e w' ⟨rfl, rfl⟩
          go_wp2
          go_roundw
          case rel => exact ⟨k + 1, by omega, by go_num, HK4⟩
          case measure => simp [intOf]; omega
    · obtain rfl : k = n := by omega
      go_wp2_with fail
      refine (known6_any _).mono ?_
      rintro e w8 ⟨rfl, hb⟩
      have HB8 := Lib.hid (HD.out.bel.trans (hb.mono HD.out.bel.size))
      clear hb
      go_wp2
      go_ret
      exact ⟨rfl, HB8.out⟩
end Go.Proofs.Ytmmhiolmeijemaa
