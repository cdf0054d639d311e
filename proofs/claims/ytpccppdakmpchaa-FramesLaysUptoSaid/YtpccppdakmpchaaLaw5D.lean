/- The law FramesLays, walked. -/
import Derived.Test.YtpccppdakmpchaaLaw5C
namespace Go.Proofs.Ytpccppdakmpchaa
open Go.RowKit Mem Be Word Frm
set_option maxRecDepth 100000
set_option maxHeartbeats 2000000
set_option linter.unusedVariables false
theorem lays_walk (A : Option Addr) (rs : List RecV) (n c : Nat) (hn : n = rs.length) (w : World) (h : InR w A rs) (hl : longN (rs.map rcOf) ≤ 5000000) :
    Calls Try.prog 3 #[.slice A n c] w (IsT true w) := by
  have HL1 := Lib.hid (long_any n c A rs hn w (h w (Below.refl _ _)).1 (by omega))
  obtain ⟨L1, hL1⟩ : ∃ L, longN (rs.map rcOf) = L := ⟨_, rfl⟩
  rw [hL1] at HL1
  by_cases h1 : 2000 < L1
  · have g1 : (2000 : Int) < (L1 : Int) := by omega
    clear h hn hl hL1 h1
    go_enter Try.func3, Try.ntmps3
    go_wp2_with fail
    refine HL1.out.mono ?_
    rintro e w' ⟨rfl, rfl⟩
    go_wp2_with (go_at_call 11; refine (known5_any _).mono ?_; rintro e w' ⟨rfl, hb⟩; have HB := Lib.hid hb; clear hb)
    go_ret
    exact ⟨rfl, HB.out⟩
  have g1 : (L1 : Int) ≤ 2000 := by omega
  have s1 := short_of (m := 2000) (by omega : longN (rs.map rcOf) ≤ 2000) (by omega)
  have hc1 := count_of (m := 2000) (by omega : longN (rs.map rcOf) ≤ 2000)
  have HA1 : Hid (∀ W, Below w.heap.size w W → Calls Try.prog 12 #[.slice A n c] W (MadeF W.heap.size (allB (rs.map rcOf), 0) W)) := Lib.hid fun W hb => all_any n c A rs hn W (h W hb).1 (h W hb).2 s1 (by omega) (by omega)
  have HA2 : Hid (∀ W, Below w.heap.size w W → Calls Try.prog 13 #[.slice A n c] W (MadeF W.heap.size (allB (rs.map rcOf), 0) W)) := Lib.hid fun W hb => refall5_any n c A rs hn W (h W hb).1 (h W hb).2 s1 (by omega) (by omega)
  have HS1 : Hid (∀ W, Below w.heap.size w W → Calls Try.prog 17 #[.slice A n c, .slice A n c] W (IsT true W)) := Lib.hid fun W hb => by
    have := same5_any n n c c A A rs rs hn hn W (h W hb).1 (h W hb).1 (h W hb).2 (h W hb).2 (by omega)
    rw [decide_eq_true rfl] at this
    exact this
  obtain ⟨X, hX⟩ : ∃ X, allB (rs.map rcOf) = X := ⟨_, rfl⟩
  rw [hX] at HA1 HA2
  have HIN := Lib.hid h
  have HN := Lib.hid hn
  have HSH := Lib.hid s1
  have hn200 : n ≤ 200 := by omega
  have hn2i : (n : Int) ≤ 200 := by omega
  clear h hn hl hL1 h1 s1 hc1 hX
  go_enter Try.func3, Try.ntmps3
  go_wp2_with fail
  refine HL1.out.mono ?_
  rintro e w' ⟨rfl, rfl⟩
  go_wp2_with fail
  refine (HA1.out w (Below.refl _ _)).mono ?_
  rintro e w2 ⟨A2, c2, rfl, ho2, hb2⟩
  have HB2 := Lib.hid hb2
  have HO2 := Lib.hid ho2
  simp only
  clear hb2 ho2 HA1 HL1
  go_wp2_with fail
  refine (HA2.out w2 HB2.out).mono ?_
  rintro e w3 ⟨A3, c3, rfl, ho3, hb3⟩
  have HB3 := Lib.hid (HB2.out.trans (hb3.mono HB2.out.size))
  have HO2 := Lib.hid (own_later HO2.out hb3)
  have HO3 := Lib.hid ho3
  simp only
  clear hb3 ho3 HA2
  go_wp2_with fail
  refine (same_true w3.heap.size w3.heap.size c2 c3 X.length X.length A2 A3 X w3 (Row.of_own HO2.out) (Row.of_own HO3.out) rfl rfl).mono ?_
  rintro e w' ⟨rfl, rfl⟩
  clear HO2 HO3
  go_wp2
  go_loopw [7] (fun i wr => ∃ k : Nat, k ≤ n ∧ i = .int .i64 k ∧ Hid (Below w.heap.size w wr)) (fun i _ => n - (intOf i).toNat)
  case atStart => exact ⟨0, by omega, rfl, HB3⟩
  case round =>
    obtain ⟨k, hk, rfl, HB⟩ := hrel
    by_cases hlt : k < n
    · have hkr : k < rs.length := by rw [← HN.out]; exact hlt
      obtain ⟨hrow, hrr⟩ := HIN.out wr HB.out
      obtain ⟨b, o, rfl, hbs, hc⟩ := recs_open hrow (by omega)
      obtain ⟨d0, d1⟩ := hc k hkr
      have hra := hrr rs[k] (List.getElem_mem hkr)
      have hsh := HSH.out (rcOf rs[k]) (List.mem_map.2 ⟨_, List.getElem_mem hkr, rfl⟩)
      obtain ⟨⟨kk, A1, xs, c1⟩, hx⟩ : ∃ p, rs[k]'hkr = p := ⟨_, rfl⟩
      rw [hx] at d0 d1 hra hsh
      simp only [rcOf] at d0 d1 hra hsh
      obtain ⟨F, hF⟩ : ∃ F, frB (kk, xs) = F := ⟨_, rfl⟩
      have hone : oneS (kk, xs) = (F, 0) := by unfold oneS; rw [if_neg (by show ¬ 65536 < xs.length; omega), hF]
      have HC : Hid (∀ W, Below wr.heap.size wr W → Calls Try.prog 15 #[.int .u8 (kk.toNat : Int), .slice A1 xs.length c1] W (MadeF W.heap.size (F, 0) W)) := Lib.hid fun W hW => by
        rw [← hone]
        exact one_any kk W.heap.size c1 xs.length A1 xs rfl W ((hra.below hW).more hW.size) (Nat.le_refl _)
      have HC2 : Hid (∀ W, Below wr.heap.size wr W → Calls Try.prog 16 #[.int .u8 (kk.toNat : Int), .slice A1 xs.length c1] W (MadeF W.heap.size (F, 0) W)) := Lib.hid fun W hW => by
        rw [← hone]
        exact refone_any kk W.heap.size c1 xs.length A1 xs rfl W ((hra.below hW).more hW.size) (Nat.le_refl _)
      have HD : Hid (Below wr.heap.size wr wr.drew) := Lib.hid (Below.refl _ _).drew
      clear hx hra hc hsh hF hone hrow hrr
      go_wp2_with fail
      go_region_held3 (fun w' => w'.cell? ⟨b, o + k * 2, none⟩ = some (.int .u8 (kk.toNat : Int)) ∧ w'.cell? ⟨b, o + k * 2 + 1, none⟩ = some (.slice A1 xs.length c1))
        (first | go_keep | exact ⟨(HD.out.cell (p := ⟨b, o + k * 2, none⟩) hbs).trans d0, (HD.out.cell (p := ⟨b, o + k * 2 + 1, none⟩) hbs).trans d1⟩)
        ((go_at_call 15; refine (HC.out _ HD.out).mono ?_; rintro e w4 ⟨A4, c4, rfl, ho4, hb4⟩; have HO4 := Lib.hid ho4; have HD := Lib.hid (HD.out.trans (hb4.mono HD.out.size)); clear ho4 hb4))
      have HB4 : Hid (Below wr.heap.size wr w4) := HD
      have HO4' : Hid (w4.drew.ownsRow _ 5 1 (.slice A4 F.length c4) F.length (F.map byteV)) := Lib.hid (own_later HO4.out (Below.refl _ _).drew)
      have HD2 : Hid (Below wr.heap.size wr w4.drew) := Lib.hid HB4.out.drew
      have e0 : w4.cell? ⟨b, o + k * 2, none⟩ = some (.int .u8 (kk.toNat : Int)) := (HB4.out.cell (p := ⟨b, o + k * 2, none⟩) hbs).trans d0
      have e1 : w4.cell? ⟨b, o + k * 2 + 1, none⟩ = some (.slice A1 xs.length c1) := (HB4.out.cell (p := ⟨b, o + k * 2 + 1, none⟩) hbs).trans d1
      clear d0 d1 HD HC
      have HD := HD2
      have HE : Hid (Below w4.heap.size w4 w4.drew) := Lib.hid (Below.refl _ _).drew
      have hbs4 : b < w4.heap.size := Nat.lt_of_lt_of_le hbs HB4.out.size
      go_wp2_with fail
      go_region_held3 (fun w' => w'.cell? ⟨b, o + k * 2, none⟩ = some (.int .u8 (kk.toNat : Int)) ∧ w'.cell? ⟨b, o + k * 2 + 1, none⟩ = some (.slice A1 xs.length c1))
        (first | go_keep | exact ⟨(HE.out.cell (p := ⟨b, o + k * 2, none⟩) hbs4).trans e0, (HE.out.cell (p := ⟨b, o + k * 2 + 1, none⟩) hbs4).trans e1⟩)
        ((go_at_call 16; refine (HC2.out _ HD.out).mono ?_; rintro e w5 ⟨A5, c5, rfl, ho5, hb5⟩; have HO5 := Lib.hid ho5; have HE := Lib.hid (HE.out.trans (hb5.mono HE.out.size)); clear ho5 hb5))
      have HB5 : Hid (Below w4.heap.size w4 w5) := HE
      have HO6 := Lib.hid (own_later HO4.out HB5.out)
      have HB6 : Hid (Below w.heap.size w w5) := Lib.hid ((HB.out.trans (HB4.out.mono HB.out.size)).trans (HB5.out.mono (Nat.le_trans HB.out.size HB4.out.size)))
      clear e0 e1 HD HE HC2 HD2 HO4'
      go_wp2_with fail
      refine (same_true w5.heap.size w5.heap.size c4 c5 F.length F.length A4 A5 F w5 (Row.of_own HO6.out) (Row.of_own HO5.out) rfl rfl).mono ?_
      rintro e w' ⟨rfl, rfl⟩
      clear HO6 HO5 HO4
      go_wp2
      go_roundw
      case rel => exact ⟨k + 1, by omega, by go_num, HB6⟩
      case measure => simp [intOf]; omega
    · go_wp2_with fail
      refine (HS1.out wr HB.out).mono ?_
      rintro e w4 ⟨rfl, hb4⟩
      have HB4 := Lib.hid (HB.out.trans (hb4.mono HB.out.size))
      clear hb4
      go_wp2_with fail
      refine (known5_any _).mono ?_
      rintro e w5 ⟨rfl, hb5⟩
      have HB5 := Lib.hid (HB4.out.trans (hb5.mono HB4.out.size))
      clear hb5
      go_wp2
      go_ret
      exact ⟨rfl, HB5.out⟩
end Go.Proofs.Ytpccppdakmpchaa
