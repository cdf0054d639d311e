/- The document's own answers (5): who keeps a word, and a key. -/
import Derived.Test.YtafajikjojpaaaaRfD
import Derived.Test.YtafajikjojpaaaaRgH
namespace Go.Proofs.Ytafajikjojpaaaa
open Go.RowKit Mem Rg
set_option maxRecDepth 100000
set_option maxHeartbeats 8000000
set_option linter.unusedVariables false
theorem refat_ok (A : Option Addr) (n c : Nat) (ns : List Int) (e k h : Nat) (hn : n = ns.length) (ok : OkR ns e k) (w : World) (hr : Row w w.heap.size A (ns.map iV)) :
    Calls Try.prog 47 #[.agg #[.slice A n c, .int .i64 (e : Int), .int .i64 (k : Int)], .int .u64 (h : Int)] w (IntsE (keepP (ptsP fP ns e) h k) w) := by
  obtain ⟨i0, hi0, hz0, hz1, hz2⟩ := info_parts info_i
  have HP := Lib.hid fun W (hb : Below w.heap.size w W) => refpoints_ok A n c ns e k hn ok W ((hr.below hb).more hb.size)
  obtain ⟨p1, p2, p3, p4, p5, p6, p7⟩ := pts_len_ok ok
  have HMET := Lib.hid (metP_len fP ns p3 e p7 h)
  have HF := Lib.hid fun W (A' : Option Addr) (c' : Nat) (h2 : Row W W.heap.size A' (ptsC (ptsP fP ns e))) => reffirst_any (ptsP fP ns e) (ptsP_sl _ _ _) h _ _ c' A' rfl p2 (by omega) W h2
  have HK6 := Lib.hid p6
  obtain ⟨l, hl⟩ : ∃ l, ptsP fP ns e = l := ⟨_, rfl⟩
  rw [hl] at HP HF p1 p2 HMET ⊢
  obtain ⟨F, hF⟩ : ∃ F, firstP l h = F := ⟨_, rfl⟩
  have hFl : F < l.length := by rw [← hF]; exact firstP_lt l h p2
  rw [hF] at HF
  have HFF := Lib.hid hF
  have hk1 : (k : Int) ≤ 64 := by omega
  clear hn ok hr hl hF p3 p4 p6 p7
  go_enter Try.func47, Try.ntmps47
  go_wp2_with fail
  refine (HP.out _ ((Below.refl _ _).alloc (Nat.le_refl _) _)).mono ?_
  rintro e1 w1 ⟨A1, c1, rfl, hr1, hb1⟩
  have HB1 := Lib.hid (below_after1 hb1)
  have hk1 := (Blk.new w 30 #[.slice A n c, .int .i64 (e : Int), .int .i64 (k : Int)]).below hb1 (by simp)
  have HK1 := Lib.hid hk1
  have HR1 := Lib.hid hr1
  clear hb1 hr1 hk1
  go_wp2_with fail
  refine (HF.out _ A1 c1 HR1.out).mono ?_
  rintro e2 w2 ⟨rfl, rfl⟩
  obtain ⟨b, o, rfl, hbw, hc⟩ := pts_open HR1.out p2
  have HC := Lib.hid hc
  have HN := Lib.hid (And.intro p1 (And.intro p2 hFl))
  have hn1 : (l.length : Int) ≤ 4096 := by omega
  have hn0 : (0 : Int) < (l.length : Int) := by omega
  clear hc
  go_wp2
  go_loopg [6, 7] l.length (fun gk i v wr => ∃ j : Nat, j + gk = l.length ∧ i = .int .i64 (((F + j) % l.length : Nat) : Int) ∧ Hid (OwnI w1.heap.size (metUp l h j) v wr) ∧ Hid ((metUp l h j).length ≤ k) ∧ Hid (Below w1.heap.size w1 wr))
  case atStart => exact ⟨0, by omega, by rw [Nat.add_zero, Nat.mod_eq_of_lt HN.out.2.2], Lib.hid (by rw [metUp_zero]; exact World.ownsRow_nil _ _ _ _), Lib.hid (by rw [metUp_zero]; exact Nat.zero_le _), Lib.hid (Below.refl _ _)⟩
  case round =>
    obtain ⟨j, hj, rfl, HO, HL, HB⟩ := hrel
    obtain ⟨m, hm⟩ : ∃ m, (F + j) % l.length = m := ⟨_, rfl⟩
    rw [hm]
    have hml : m < l.length := by rw [← hm]; exact Nat.mod_lt _ (by omega)
    obtain ⟨D, hD⟩ : ∃ D, metUp l h j = D := ⟨_, rfl⟩
    rw [hD] at HO HL
    have HDD := Lib.hid hD
    obtain ⟨A2, c2, rfl⟩ := ownI_shape HO.out
    have d2 : wr.cell? ⟨w.heap.size, 2, none⟩ = some (.int .i64 (k : Int)) := (HK1.out.below HB.out HK1.out.lt).cell 2
    by_cases hlt : D.length < k
    · have hjl : j < l.length := by
        rcases Nat.lt_or_ge j l.length with h1 | h1
        · exact h1
        · exfalso
          have := metUp_all l h j h1
          rw [hD] at this
          have h2 := HMET.out
          rw [← this] at h2
          have := HK6.out
          omega
      obtain ⟨G, rfl⟩ : ∃ G, gk = G + 1 := ⟨gk - 1, by omega⟩
      have hms := metUp_snoc l h j m hjl (by rw [HFF.out]; exact hm) hml
      have hcm := (HC.out m hml).2
      rw [← HB.out.cell (p := ⟨b, o + m * 2 + 1, none⟩) hbw] at hcm
      obtain ⟨x, hx⟩ : ∃ x, l[m].2 = x := ⟨_, rfl⟩
      rw [hx, hD] at hms
      rw [hx] at hcm
      have HMS := Lib.hid hms
      have HHAS := Lib.hid (has_any _ c2 D.length A2 D x rfl (by omega) wr (ownRow HO.out))
      obtain ⟨m2, hm2⟩ : ∃ m2, (m + 1) % l.length = m2 := ⟨_, rfl⟩
      have HM2 : Hid ((F + (j + 1)) % l.length = m2) := Lib.hid (by rw [← hm2, ← hm, Nat.mod_add_mod]; congr 1)
      have hr1 : ((m : Int) + 1) % (l.length : Int) = (m2 : Int) := by rw [← hm2, Int.natCast_emod, Int.natCast_succ]
      have hr2 : ((m : Int) + 1).tmod (l.length : Int) = (m2 : Int) := by rw [Int.tmod_eq_emod_of_nonneg (by omega)]; exact hr1
      have hm0 : (0 : Int) ≤ (m : Int) := by omega
      have hm1 : (m : Int) < (l.length : Int) := by omega
      have hlz : (D.length : Int) < (k : Int) := by omega
      clear hms hx hm hm2 hD
      by_cases hin : x ∈ D
      · rw [isIn_true hin] at HHAS
        have HST : Hid (metUp l h (j + 1) = D) := Lib.hid (by rw [HMS.out, if_pos hin])
        clear hin
        go_wp2_with fail
        refine HHAS.out.mono ?_
        rintro e3 w3 ⟨rfl, rfl⟩
        go_wp2
        go_roundg G
        case measure => omega
        case rel => exact ⟨j + 1, by omega, by rw [HM2.out], Lib.hid (by rw [HST.out]; exact HO.out), Lib.hid (by rw [HST.out]; exact HL.out), HB⟩
      · rw [isIn_false hin] at HHAS
        have HST : Hid (metUp l h (j + 1) = D ++ [x]) := Lib.hid (by rw [HMS.out, if_neg hin])
        clear hin
        have HB4 : Hid (Below w1.heap.size w1 (wr.alloc (.cells #[.int .i64 x] 3))) := Lib.hid (HB.out.alloc HB.out.size _)
        have HO4 := Lib.hid (own_later HO.out ((Below.refl wr.heap.size wr).alloc (Nat.le_refl _) (.cells #[.int .i64 x] 3)))
        have HSZ := Lib.hid HB.out.size
        have HLT := Lib.hid hlt
        go_wp2_with fail
        refine HHAS.out.mono ?_
        rintro e3 w3 ⟨rfl, rfl⟩
        go_wp2_with (at_builtin; refine wpList_app _ rfl _ _ 22 rfl w1.heap.size 3 i0 _ 8 Try.underlying22 hi0 hz0 hz1 hz2 rfl _ D.length (D.map iV) rfl HO4.out (wr.heap.size + 1) (some ⟨wr.heap.size, 0, none⟩) 1 1 ([x].map iV) rfl rfl (int_row wr x) (iV_one _) (by have := HLT.out; unfold maxLen; omega) (by have := HLT.out; omega) (by have := HSZ.out; simp; omega) ?_)
        intro v' w5 hown hgr _
        have HO5 : Hid (OwnI w1.heap.size (D ++ [x]) v' w5) := Lib.hid (by unfold OwnI; rw [List.map_append, List.length_append]; exact hown)
        have HB5 : Hid (Below w1.heap.size w1 w5) := Lib.hid (HB4.out.grown hgr HB4.out.size fun g hg => (HO4.out.lt g hg).1)
        clear hown hgr
        go_wp2
        go_roundg G
        case measure => omega
        case rel => exact ⟨j + 1, by omega, by rw [HM2.out], Lib.hid (by rw [HST.out]; exact HO5.out), Lib.hid (by rw [HST.out]; have := HLT.out; simp; omega), HB5⟩
    · have hlz : ¬ (D.length : Int) < (k : Int) := by omega
      have HRES : Hid (IntsE (keepP l h k) w (.returned (.slice A2 D.length c2)) wr) := Lib.hid (by
        have e := metUp_keep l h j k (by rw [hD]; have := HL.out; omega)
        rw [hD] at e
        rw [← e]
        exact ⟨A2, c2, rfl, ownBase HO.out HB1.out.size, HB1.out.trans (HB.out.mono HB1.out.size)⟩)
      clear hm hD
      go_wp2
      go_ret
      exact HRES.out
end Go.Proofs.Ytafajikjojpaaaa
