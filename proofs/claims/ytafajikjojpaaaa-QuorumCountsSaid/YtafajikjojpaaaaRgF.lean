/- Who follows a word, by the program. -/
import Derived.Test.YtafajikjojpaaaaRgE
import Derived.Test.YtafajikjojpaaaaRgS
namespace Go.Proofs.Ytafajikjojpaaaa
open Go.RowKit Mem Rg
set_option maxRecDepth 100000
set_option maxHeartbeats 4000000
set_option linter.unusedVariables false
/-- Those that were met up to a place. -/
def metUp (l : List Pt) (h i : Nat) : List Int := dd [] (snds ((rotP l h).take i))
theorem metUp_zero (l : List Pt) (h : Nat) : metUp l h 0 = [] := by simp [metUp, snds, dd]
theorem metUp_snoc (l : List Pt) (h i m : Nat) (hi : i < l.length) (hm : (firstP l h + i) % l.length = m) (hml : m < l.length) : metUp l h (i + 1) = if l[m].2 ∈ metUp l h i then metUp l h i else metUp l h i ++ [l[m].2] := by
  unfold metUp
  rw [rotP_snoc l h i m hi hm hml]
  unfold snds
  rw [List.map_append, List.map_singleton, dd_snoc]
theorem metUp_all (l : List Pt) (h i : Nat) (hi : l.length ≤ i) : metUp l h i = metP l h := by
  unfold metUp metP
  rw [List.take_of_length_le (by rw [rotP_len]; exact hi)]
theorem metUp_pre (l : List Pt) (h i : Nat) : metUp l h i <+: metP l h := by
  have e : metP l h = dd (metUp l h i) (snds ((rotP l h).drop i)) := by
    unfold metUp metP
    rw [← dd_app]
    congr 1
    unfold snds
    rw [← List.map_append, List.take_append_drop]
  rw [e]
  exact dd_pre _ _
theorem metUp_keep (l : List Pt) (h i keep : Nat) (hk : (metUp l h i).length = keep) : metUp l h i = keepP l h keep := by
  unfold keepP
  rw [← hk]
  exact pre_take (metUp_pre l h i)
theorem following_any (l : List Pt) (hs : SL l) (h : Nat) (keep : Nat) (hk0 : 1 ≤ keep) (hk1 : keep ≤ 64) (n c : Nat) (A : Option Addr) (hn : n = l.length) (hp : 0 < n) (hl : n ≤ 4096) (w : World) (hr : Row w w.heap.size A (ptsC l)) :
    Calls Try.prog 55 #[.slice A n c, .int .u64 (h : Int), .int .i64 (keep : Int)] w (IntsE (keepP l h keep) w) := by
  obtain ⟨i0, hi0, hz0, hz1, hz2⟩ := info_parts info_i
  have HSEG := Lib.hid fun W (hb : Below w.heap.size w W) => segment_any l hs h n c A hn hp (by omega) W ((hr.below hb).more hb.size)
  obtain ⟨C, hC⟩ := make_room (P := Try.prog) 22 3 _ 1 8 Try.underlying22 info_i keep (by omega) (by unfold maxLen; omega)
  have hmk := fun W => (hC W).1
  have HOWN := Lib.hid fun W => (hC W).2
  obtain ⟨b, o, rfl, hbw, hc⟩ := pts_open hr (by omega)
  have HC := Lib.hid hc
  have HN := Lib.hid hn
  obtain ⟨F, hF⟩ : ∃ F, firstP l h = F := ⟨_, rfl⟩
  have hFl : F < n := by rw [← hF, hn]; exact firstP_lt l h (by omega)
  rw [hF] at HSEG
  have HF := Lib.hid hF
  have hn1 : (n : Int) ≤ 4096 := by omega
  have hn0 : (0 : Int) < (n : Int) := by omega
  have hF1 : (F : Int) < (n : Int) := by omega
  have hkz0 : (1 : Int) ≤ (keep : Int) := by omega
  have hkz1 : (keep : Int) ≤ 64 := by omega
  clear hC hc hn hF hs hr hFl
  go_enter Try.func55, Try.ntmps55
  go_wp2
  go_step3
  go_wp2_with fail
  clear hmk
  refine (HSEG.out _ ((Below.refl _ _).alloc (Nat.le_refl _) _)).mono ?_
  rintro e1 w1 ⟨rfl, hb1⟩
  have HB1 := Lib.hid (below_after1 hb1)
  have HO1 : Hid (OwnI w.heap.size (metUp l h 0) (.slice (some ⟨w.heap.size, 0, none⟩) 0 keep) w1) := Lib.hid (by rw [metUp_zero]; exact ownLater (HOWN.out w) hb1)
  clear hb1
  go_wp2
  go_step3
  go_wp2
  go_loopg [7, 20] n (fun gk v i wr => ∃ q : Nat, q + gk = n ∧ i = .int .i64 q ∧ Hid (OwnI w.heap.size (metUp l h q) v wr) ∧ Hid ((metUp l h q).length < keep) ∧ Hid (Below w.heap.size w wr))
  case atStart => exact ⟨0, by omega, rfl, HO1, Lib.hid (by rw [metUp_zero]; exact Nat.lt_of_lt_of_le Nat.zero_lt_one hk0), HB1⟩
  case round =>
    obtain ⟨q, hq, rfl, HO, HL, HB⟩ := hrel
    by_cases hlt : q < n
    · obtain ⟨G, rfl⟩ : ∃ G, gk = G + 1 := ⟨gk - 1, by omega⟩
      obtain ⟨m, hm⟩ : ∃ m, (F + q) % n = m := ⟨_, rfl⟩
      have hml : m < n := by rw [← hm]; exact Nat.mod_lt _ (by omega)
      have hml2 : m < l.length := by rw [← HN.out]; exact hml
      have hms := metUp_snoc l h q m (by rw [← HN.out]; exact hlt) (by rw [HF.out, ← HN.out]; exact hm) hml2
      have hcm := (HC.out m hml2).2
      rw [← HB.out.cell (p := ⟨b, o + m * 2 + 1, none⟩) hbw] at hcm
      obtain ⟨x, hx⟩ : ∃ x, l[m].2 = x := ⟨_, rfl⟩
      rw [hx] at hms hcm
      have hr1 : ((F : Int) + (q : Int)) % (n : Int) = (m : Int) := by rw [← hm, Int.natCast_emod, Int.natCast_add]
      have hr2 : ((F : Int) + (q : Int)).tmod (n : Int) = (m : Int) := by rw [Int.tmod_eq_emod_of_nonneg (by omega)]; exact hr1
      have hq0 : (0 : Int) ≤ (q : Int) := by omega
      have hq1 : (q : Int) < (n : Int) := by omega
      have hm0 : (0 : Int) ≤ (m : Int) := by omega
      have hm1 : (m : Int) < (n : Int) := by omega
      obtain ⟨D, hD⟩ : ∃ D, metUp l h q = D := ⟨_, rfl⟩
      rw [hD] at hms HO HL
      have HMS := Lib.hid hms
      have HD := Lib.hid hD
      obtain ⟨A1, c1, rfl⟩ := ownI_shape HO.out
      have hDl : (D.length : Int) < (keep : Int) := by have := HL.out; omega
      clear hms hx hm hD
      go_wp2
      clear hcm hr1 hr2
      go_loopg [35] D.length (fun g2 i w2 => ∃ j : Nat, j + g2 = D.length ∧ i = .int .i64 j ∧ Hid (∀ s (hs : s < D.length), s < j → D[s] ≠ x) ∧ w2 = wr)
      case atStart => exact ⟨0, by omega, rfl, Lib.hid fun s _ h => absurd h (Nat.not_lt_zero _), rfl⟩
      case round =>
        obtain ⟨j, hj, rfl, HALL, rfl⟩ := hrel
        by_cases hjl : j < D.length
        · obtain ⟨b2, o2, rfl, hb2, hc2⟩ := int_cell (ownRow HO.out) (by omega)
          have hcj := hc2 j hjl
          have HMEM : Hid (D[j] = x → x ∈ D) := Lib.hid fun e => by rw [← e]; exact List.getElem_mem hjl
          have HNX : Hid (D[j] ≠ x → ∀ s (hs : s < D.length), s < j + 1 → D[s] ≠ x) := Lib.hid fun e s hs hsj => by
            rcases Nat.lt_or_ge s j with h1 | h1
            · exact HALL.out s hs h1
            · obtain rfl : s = j := by omega
              exact e
          obtain ⟨y, hy⟩ : ∃ y, D[j] = y := ⟨_, rfl⟩
          rw [hy] at hcj HMEM HNX
          have hj0 : (0 : Int) ≤ (j : Int) := by omega
          have hj1 : (j : Int) < (D.length : Int) := by omega
          clear hc2 hy
          by_cases hyx : y = x
          · have hbe : (y == x) = true := by simpa using hyx
            have HST : Hid (metUp l h (q + 1) = D) := Lib.hid (by rw [HMS.out, if_pos (HMEM.out hyx)])
            clear hyx
            go_wp2
            go_roundg G
            case measure => omega
            case rel => exact ⟨q + 1, by omega, by go_num, Lib.hid (by rw [HST.out]; exact HO.out), Lib.hid (by rw [HST.out]; exact HL.out), HB⟩
          · have hbe : (y == x) = false := by simpa using hyx
            have HNX2 := Lib.hid (HNX.out hyx)
            clear hyx
            go_wp2
            go_roundg (gk - 1)
            case measure => omega
            case rel => exact ⟨j + 1, by omega, by go_num, HNX2, rfl⟩
        · obtain rfl : j = D.length := by omega
          have HST : Hid (metUp l h (q + 1) = D ++ [x]) := Lib.hid (by
            rw [HMS.out, if_neg]
            intro hxm
            obtain ⟨s, hs, e⟩ := List.getElem_of_mem hxm
            exact HALL.out s hs hs e)
          have HB4 : Hid (Below w.heap.size w (wr.alloc (.cells #[.int .i64 x] 3))) := Lib.hid (HB.out.alloc HB.out.size _)
          have HO4 := Lib.hid (own_later HO.out ((Below.refl wr.heap.size wr).alloc (Nat.le_refl _) (.cells #[.int .i64 x] 3)))
          have hsz := HB.out.size
          have HSZ := Lib.hid hsz
          clear hsz
          go_wp2_with (at_builtin; refine wpList_app _ rfl _ _ 22 rfl w.heap.size 3 i0 _ 8 Try.underlying22 hi0 hz0 hz1 hz2 rfl _ D.length (D.map iV) rfl HO4.out (wr.heap.size + 1) (some ⟨wr.heap.size, 0, none⟩) 1 1 ([x].map iV) rfl rfl (int_row wr x) (iV_one _) (by have := HL.out; unfold maxLen; omega) (by have := HL.out; omega) (by have := HSZ.out; simp; omega) ?_)
          intro v' w5 hown hgr _
          have HO5 : Hid (OwnI w.heap.size (D ++ [x]) v' w5) := Lib.hid (by unfold OwnI; rw [List.map_append, List.length_append]; exact hown)
          have HB5 : Hid (Below w.heap.size w w5) := Lib.hid (HB4.out.grown hgr HB4.out.size fun g hg => (HO4.out.lt g hg).1)
          obtain ⟨A5, c5, rfl⟩ := ownI_shape HO5.out
          have hlen : (D ++ [x]).length = D.length + 1 := by simp
          have HLEN := Lib.hid hlen
          have hlz : ((D ++ [x]).length : Int) = (D.length : Int) + 1 := by omega
          clear hown hgr hlen
          have HRES : Hid (D.length + 1 = keep → IntsE (keepP l h keep) w (.returned (.slice A5 (D ++ [x]).length c5)) w5) := Lib.hid fun hk => by
            have e := metUp_keep l h (q + 1) keep (by rw [HST.out, HLEN.out]; exact hk)
            rw [HST.out] at e
            rw [← e]
            exact ⟨A5, c5, rfl, HO5.out, HB5.out⟩
          generalize (D ++ [x]).length = z at hlz HLEN HRES HO5 ⊢
          by_cases hkk : (D.length : Int) + 1 = (keep : Int)
          · have hzk : ((z : Int) == (keep : Int)) = true := by simp; omega
            have HR2 := Lib.hid (HRES.out (by omega))
            clear hkk hlz
            go_wp2
            try rw [Exit.noGoto_ret]
            go_ret
            exact HR2.out
          · have hzk : ((z : Int) == (keep : Int)) = false := by simp; omega
            have HLL : Hid (z < keep) := Lib.hid (by have := HL.out; have := HLEN.out; omega)
            clear hkk hlz
            go_wp2
            go_roundg G
            case measure => omega
            case rel => exact ⟨q + 1, by omega, by go_num, Lib.hid (by rw [HST.out]; exact HO5.out), Lib.hid (by rw [HST.out]; have := HLL.out; have := HLEN.out; simp; omega), HB5⟩
    · obtain rfl : q = n := by omega
      have e := metUp_all l h q (by have := HN.out; omega)
      have ho := HO.out
      have hl2 := HL.out
      rw [e] at ho hl2
      have hkp : keepP l h keep = metP l h := by unfold keepP; exact List.take_of_length_le (by omega)
      obtain ⟨A1, c1, rfl⟩ := ownI_shape ho
      have HRES : Hid (IntsE (keepP l h keep) w (.returned (.slice A1 (metP l h).length c1)) wr) := Lib.hid (by rw [hkp]; exact ⟨A1, c1, rfl, ho, HB.out⟩)
      clear e ho hl2 hkp
      go_wp2
      try rw [Exit.noGoto_ret]
      go_ret
      exact HRES.out
end Go.Proofs.Ytafajikjojpaaaa
