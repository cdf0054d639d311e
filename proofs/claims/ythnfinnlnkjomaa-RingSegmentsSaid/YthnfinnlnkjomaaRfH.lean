/- The document's own answers (8): one node less. -/
import Derived.Test.YthnfinnlnkjomaaRfB
import Derived.Test.YthnfinnlnkjomaaRgM
namespace Go.Proofs.Ythnfinnlnkjomaa
open Go.RowKit Mem Rg
set_option maxRecDepth 100000
set_option maxHeartbeats 8000000
set_option linter.unusedVariables false
theorem refwithout_none (A : Option Addr) (n c : Nat) (ns : List Int) (e k x : Int) (hf : x ∉ ns) (hn : n = ns.length) (hl : n ≤ 1000) (w : World) (h : Row w w.heap.size A (ns.map iV)) :
    Calls Try.prog 29 #[.agg #[.slice A n c, .int .i64 e, .int .i64 k], .int .i64 x] w (RingN 4 w) := by
  have hb0 : Below w.heap.size w ((w.alloc (.cells #[.slice A n c, .int .i64 e, .int .i64 k] 24)).alloc (.cells #[.slice none 0 0, .int .i64 0, .int .i64 0] 24)) := ((Below.refl _ _).alloc (Nat.le_refl _) _).alloc (by simp) _
  have hk0 : Blk ((w.alloc (.cells #[.slice A n c, .int .i64 e, .int .i64 k] 24)).alloc (.cells #[.slice none 0 0, .int .i64 0, .int .i64 0] 24)) w.heap.size 24 #[.slice A n c, .int .i64 e, .int .i64 k] := (Blk.new _ _ _).alloc _
  have hz0 : Blk ((w.alloc (.cells #[.slice A n c, .int .i64 e, .int .i64 k] 24)).alloc (.cells #[.slice none 0 0, .int .i64 0, .int .i64 0] 24)) (w.heap.size + 1) 24 #[.slice none 0 0, .int .i64 0, .int .i64 0] := blk_at' (by simp) (Blk.new _ _ _)
  obtain ⟨W0, hW0⟩ : ∃ W0, (w.alloc (.cells #[.slice A n c, .int .i64 e, .int .i64 k] 24)).alloc (.cells #[.slice none 0 0, .int .i64 0, .int .i64 0] 24) = W0 := ⟨_, rfl⟩
  have HW := Lib.hid hW0
  rw [hW0] at hb0 hk0 hz0
  have HB0 := Lib.hid hb0
  have HK0 := Lib.hid hk0
  have HZ0 := Lib.hid hz0
  have HROW := Lib.hid (h.below hb0)
  have HN := Lib.hid hn
  have hn1 : (n : Int) ≤ 1000 := by omega
  have c0 : W0.cell? ⟨w.heap.size, 0, none⟩ = some (.slice A n c) := hk0.cell 0
  have HF := Lib.hid hf
  have r0 : W0.cell? ⟨w.heap.size + 1, 0, none⟩ = some (.slice none 0 0) := hz0.cell 0
  have r1 : W0.cell? ⟨w.heap.size + 1, 1, none⟩ = some (.int .i64 0) := hz0.cell 1
  have r2 : W0.cell? ⟨w.heap.size + 1, 2, none⟩ = some (.int .i64 0) := hz0.cell 2
  have f0 := hz0.frozen 0
  have f1 := hz0.frozen 1
  have f2 := hz0.frozen 2
  clear h hn hb0 hk0 hz0 hW0 hf
  go_enter Try.func29, Try.ntmps29
  go_wp2_with fail
  rw [HW.out]
  go_wp2
  go_loop [6, 7] (fun a i => ∃ p : Nat, p ≤ n ∧ i = .int .i64 ((p : Int) - 1) ∧ a = .int .i64 (-1)) (fun _ i => (intOf i + 1).toNat)
  case atStart => exact ⟨n, by omega, rfl, rfl⟩
  case round =>
    obtain ⟨p, hp, rfl, rfl⟩ := hrel
    rcases p with _ | p
    · have hp1 : ¬ (0 : Int) ≤ ((0 : Nat) : Int) - 1 := by omega
      rw [show ((0 : Nat) : Int) - 1 = -1 by omega]
      clear hp1
      go_wp2
      have hfin := blkSet3 HZ0.out (.slice none 0 0) (.int .i64 0) (.int .i64 0)
      have g0 := hfin.cell 0
      have g1 := hfin.cell 1
      have g2 := hfin.cell 2
      refine bodyPost_ret (v := .tuple #[.agg #[.slice none 0 0, .int .i64 0, .int .i64 0], .int .i64 4]) (by simp [results, Try.results29, go_sem, g0, g1, g2]) rfl ⟨rfl, below_set3 HB0.out (by omega) _ _ _⟩
    · have hpl : p < ns.length := by have := HN.out; omega
      obtain ⟨b, o, rfl, hbw, hc⟩ := int_cell HROW.out (by omega)
      have hcp := hc p hpl
      have hne : ns[p] ≠ x := fun e => HF.out (by rw [← e]; exact List.getElem_mem hpl)
      generalize ns[p] = y at hcp hne
      have hb : (y == x) = false := by simpa using hne
      rw [show ((p + 1 : Nat) : Int) - 1 = (p : Int) by omega]
      have hp0 : (0 : Int) ≤ (p : Int) := by omega
      have hp1 : (p : Int) < (n : Int) := by omega
      clear hc hne
      go_wp2
      go_round
      case rel => exact ⟨p, by omega, rfl, rfl⟩
      case measure => first | (simp [intOf]; done) | (simp [intOf]; omega)
theorem refwithout_ok (A : Option Addr) (n c : Nat) (ns : List Int) (e k x : Int) (j : Nat) (hj : j < ns.length) (he : ns[j] = x) (hf : ∀ t (h : t < ns.length), t < j → ns[t] ≠ x) (hn : n = ns.length) (hl : n ≤ 1000) (hnc : n ≤ c) (w : World) (h : Row w w.heap.size A (ns.map iV)) :
    Calls Try.prog 29 #[.agg #[.slice A n c, .int .i64 e, .int .i64 k], .int .i64 x] w (RingR (withoutL ns j) e k w) := by
  obtain ⟨i0, hi0, hz0', hz1, hz2⟩ := info_parts info_i
  have hb0 : Below w.heap.size w ((w.alloc (.cells #[.slice A n c, .int .i64 e, .int .i64 k] 24)).alloc (.cells #[.slice none 0 0, .int .i64 0, .int .i64 0] 24)) := ((Below.refl _ _).alloc (Nat.le_refl _) _).alloc (by simp) _
  have hk0 : Blk ((w.alloc (.cells #[.slice A n c, .int .i64 e, .int .i64 k] 24)).alloc (.cells #[.slice none 0 0, .int .i64 0, .int .i64 0] 24)) w.heap.size 24 #[.slice A n c, .int .i64 e, .int .i64 k] := (Blk.new _ _ _).alloc _
  have hz0 : Blk ((w.alloc (.cells #[.slice A n c, .int .i64 e, .int .i64 k] 24)).alloc (.cells #[.slice none 0 0, .int .i64 0, .int .i64 0] 24)) (w.heap.size + 1) 24 #[.slice none 0 0, .int .i64 0, .int .i64 0] := blk_at' (by simp) (Blk.new _ _ _)
  obtain ⟨W0, hW0⟩ : ∃ W0, (w.alloc (.cells #[.slice A n c, .int .i64 e, .int .i64 k] 24)).alloc (.cells #[.slice none 0 0, .int .i64 0, .int .i64 0] 24) = W0 := ⟨_, rfl⟩
  have HW := Lib.hid hW0
  rw [hW0] at hb0 hk0 hz0
  have HB0 := Lib.hid hb0
  have HK0 := Lib.hid hk0
  have HZ0 := Lib.hid hz0
  have HROW := Lib.hid (h.below hb0)
  have HN := Lib.hid hn
  have hn1 : (n : Int) ≤ 1000 := by omega
  have c0 : W0.cell? ⟨w.heap.size, 0, none⟩ = some (.slice A n c) := hk0.cell 0
  have HF := Lib.hid hf
  have HE := Lib.hid he
  have HJ := Lib.hid hj
  have HWL : Hid ((withoutL ns j).length = n - 1) := Lib.hid (by rw [withoutL_len ns j hj, HN.out])
  clear h hb0 hk0 hz0 hW0 hf he hn
  go_enter Try.func29, Try.ntmps29
  go_wp2_with fail
  rw [HW.out]
  go_wp2
  go_loop [6, 7] (fun a i => ∃ (p : Nat) (v : Int), p ≤ n ∧ i = .int .i64 ((p : Int) - 1) ∧ a = .int .i64 v ∧ (p ≤ j → v = (j : Int))) (fun _ i => (intOf i + 1).toNat)
  case atStart => exact ⟨n, -1, by omega, rfl, rfl, fun h => by have := HN.out; omega⟩
  case round =>
    obtain ⟨p, v, hp, rfl, rfl, hv⟩ := hrel
    have hn := HN.out
    rcases p with _ | p
    · obtain rfl : v = (j : Int) := hv (Nat.zero_le _)
      rw [show ((0 : Nat) : Int) - 1 = -1 by omega]
      obtain ⟨j1, hj1⟩ : ∃ j1, j + 1 = j1 := ⟨_, rfl⟩
      have HJ1 := Lib.hid hj1
      have hjn : j < n := by omega
      have cut1 := fun W => run_cut_h (P := Try.prog) (w := W) 22 3 _ _ Try.underlying22 info_i A n c j (by omega)
      have cut2 := fun W => run_cut_l (P := Try.prog) (w := W) 22 3 _ _ Try.underlying22 info_i A n c j1 (by omega)
      have cut3 : ∀ W, (Instr.slice 22 (.slice A n c) (some (.int .i64 ((j : Int) + 1))) none none).run Try.prog W = .ok (.slice (cutA A j1 c) (n - j1) (c - j1)) W := fun W => by rw [show (j : Int) + 1 = (j1 : Int) by omega]; exact cut2 W
      have hj0 : (0 : Int) ≤ (j : Int) := by omega
      have hj2 : (j : Int) < (n : Int) := by omega
      obtain ⟨T, hT⟩ : ∃ T, ns.take j = T := ⟨_, rfl⟩
      obtain ⟨D, hD⟩ : ∃ D, ns.drop j1 = D := ⟨_, rfl⟩
      have HTL : Hid (T.length = j) := Lib.hid (by rw [← hT, List.length_take]; omega)
      have HDL : Hid (D.length = n - j1) := Lib.hid (by rw [← hD, List.length_drop]; omega)
      have HTR : Hid (Row W0 w.heap.size A (T.map iV)) := Lib.hid (by
        have := take_row HROW.out j
        rw [← List.map_take, hT] at this
        exact this)
      have HDR : Hid (Row W0 w.heap.size (cutA A j1 c) (D.map iV)) := Lib.hid (by
        have := cut_row HROW.out j1 c (by rw [List.length_map]; omega)
        rw [← List.map_drop, hD] at this
        exact this)
      obtain ⟨R, hR⟩ : ∃ R, withoutL ns j = R := ⟨_, rfl⟩
      have HR : Hid (T ++ D = R) := Lib.hid (by rw [← hR, ← hT, ← hD, ← hj1]; rfl)
      rw [hR] at HWL
      have HRR := Lib.hid hR
      clear hv hT hD hR hj1 cut2 hn
      go_wp2_with (at_builtin; refine wpList_app _ rfl _ _ 22 rfl (w.heap.size + 2) 3 i0 _ 8 Try.underlying22 hi0 hz0' hz1 hz2 rfl (.slice none 0 0) 0 [] rfl (World.ownsRow_nil _ _ _ _) w.heap.size A j c (T.map iV) rfl (by rw [List.length_map]; exact HTL.out) HTR.out (iV_one _) (by unfold maxLen; omega) (by omega) (by have := HZ0.out.lt; omega) ?_)
      intro v1 w5 hown hgr _
      have HO5 : Hid (OwnI (w.heap.size + 2) T v1 w5) := Lib.hid (by unfold OwnI; rw [HTL.out]; simpa using hown)
      have HB5 : Hid (Below w.heap.size w w5) := Lib.hid (HB0.out.grown hgr HB0.out.size fun g hg => by cases hg)
      have HBW : Hid (Below W0.heap.size W0 w5) := Lib.hid ((Below.refl _ _).grown hgr (Nat.le_refl _) fun g hg => by cases hg)
      have HK5 := Lib.hid (HK0.out.below HBW.out HK0.out.lt)
      have HZ5 := Lib.hid (HZ0.out.below HBW.out HZ0.out.lt)
      have HCUT := Lib.hid (HDR.out.below (HBW.out.mono (by have := HB0.out.size; omega)))
      have c5 : w5.cell? ⟨w.heap.size, 0, none⟩ = some (.slice A n c) := HK5.out.cell 0
      clear hown hgr c0
      go_wp2_with (at_builtin; refine wpList_app _ rfl _ _ 22 rfl (w.heap.size + 2) 3 i0 _ 8 Try.underlying22 hi0 hz0' hz1 hz2 rfl _ T.length (T.map iV) rfl HO5.out w.heap.size (cutA A j1 c) (n - j1) (c - j1) (D.map iV) rfl (by rw [List.length_map]; exact HDL.out) HCUT.out (iV_one _) (by have := HTL.out; unfold maxLen; omega) (by have := HTL.out; omega) (by have := HZ5.out.lt; omega) ?_)
      intro v2 w6 hown2 hgr2 _
      have HO6 : Hid (OwnI (w.heap.size + 2) R v2 w6) := Lib.hid (by
        rw [← HR.out]
        unfold OwnI
        rw [List.map_append, List.length_append, HDL.out]
        exact hown2)
      have HB6 : Hid (Below w.heap.size w w6) := Lib.hid (HB5.out.grown hgr2 HB5.out.size fun g hg => by have := (HO5.out.lt g hg).1; omega)
      have HK6 : Hid (Blk w6 w.heap.size 24 #[.slice A n c, .int .i64 e, .int .i64 k]) := Lib.hid (HK5.out.grown hgr2 fun hg => by have := (HO5.out.lt _ hg.symm).1; omega)
      have HZ6 : Hid (Blk w6 (w.heap.size + 1) 24 #[.slice none 0 0, .int .i64 0, .int .i64 0]) := Lib.hid (HZ5.out.grown hgr2 fun hg => by have := (HO5.out.lt _ hg.symm).1; omega)
      have HN9 := Lib.hid hjn
      clear c5
      obtain ⟨A2, c2, rfl⟩ := ownI_shape HO6.out
      have k1 : w6.cell? ⟨w.heap.size, 1, none⟩ = some (.int .i64 e) := HK6.out.cell 1
      have k2 : w6.cell? ⟨w.heap.size, 2, none⟩ = some (.int .i64 k) := HK6.out.cell 2
      have hal : Below w6.heap.size w6 (w6.alloc (.cells #[.slice A2 R.length c2, .int .i64 e, .int .i64 k] 24)) := (Below.refl _ _).alloc (Nat.le_refl _) _
      have HO7 : Hid (OwnI (w.heap.size + 2) R (.slice A2 R.length c2) (w6.alloc (.cells #[.slice A2 R.length c2, .int .i64 e, .int .i64 k] 24))) := Lib.hid (own_later HO6.out hal)
      have HCK := Lib.hid (refcheck_any A2 R.length c2 R e k rfl (by rw [HWL.out]; unfold maxLen; omega) _ (ownRow HO7.out))
      have HB7 : Hid (Below w.heap.size w (w6.alloc (.cells #[.slice A2 R.length c2, .int .i64 e, .int .i64 k] 24))) := Lib.hid (HB6.out.trans (hal.mono HB6.out.size))
      have HP7 : Hid (Blk (w6.alloc (.cells #[.slice A2 R.length c2, .int .i64 e, .int .i64 k] 24)) w6.heap.size 24 #[.slice A2 R.length c2, .int .i64 e, .int .i64 k]) := Lib.hid (Blk.new _ _ _)
      have HZ7 : Hid (Blk (w6.alloc (.cells #[.slice A2 R.length c2, .int .i64 e, .int .i64 k] 24)) (w.heap.size + 1) 24 #[.slice none 0 0, .int .i64 0, .int .i64 0]) := Lib.hid (HZ6.out.alloc _)
      clear hown2 hgr2 cut1 cut3
      go_wp2_with fail
      refine HCK.out.mono ?_
      rintro e8 w8 ⟨⟨q, rfl, hq0, hq1⟩, hb8⟩
      have HB8 : Hid (Below w.heap.size w w8) := Lib.hid (HB7.out.trans (hb8.mono HB7.out.size))
      have HO8 := Lib.hid (own_later HO7.out hb8)
      have hz8 := HZ7.out.below hb8 HZ7.out.lt
      have hp8 := HP7.out.below hb8 HP7.out.lt
      have HZ8 := Lib.hid hz8
      have p0 : w8.cell? ⟨w6.heap.size, 0, none⟩ = some (.slice A2 R.length c2) := hp8.cell 0
      have p1 : w8.cell? ⟨w6.heap.size, 1, none⟩ = some (.int .i64 e) := hp8.cell 1
      have p2 : w8.cell? ⟨w6.heap.size, 2, none⟩ = some (.int .i64 k) := hp8.cell 2
      have r0 : w8.cell? ⟨w.heap.size + 1, 0, none⟩ = some (.slice none 0 0) := hz8.cell 0
      have r1 : w8.cell? ⟨w.heap.size + 1, 1, none⟩ = some (.int .i64 0) := hz8.cell 1
      have r2 : w8.cell? ⟨w.heap.size + 1, 2, none⟩ = some (.int .i64 0) := hz8.cell 2
      have f0 := hz8.frozen 0
      have f1 := hz8.frozen 1
      have f2 := hz8.frozen 2
      clear hb8 hz8 hp8 k1 k2 hal
      by_cases ok : OkR R e k
      · have hq : q = 0 := hq0 ok
        subst hq
        have HOK := Lib.hid ok
        clear hq0 hq1 ok
        go_wp2
        have hfin := blkSet3 HZ8.out (.slice A2 R.length c2) (.int .i64 e) (.int .i64 k)
        have g0 := hfin.cell 0
        have g1 := hfin.cell 1
        have g2 := hfin.cell 2
        refine bodyPost_ret (v := .tuple #[.agg #[.slice A2 R.length c2, .int .i64 e, .int .i64 k], .int .i64 0]) (by simp [results, Try.results29, go_sem, g0, g1, g2]) rfl (by rw [HRR.out]; exact ⟨fun _ => ⟨A2, c2, rfl, ownBase (ownSet3 HO8.out (by omega) _ _ _) (by omega), below_set3 HB8.out (by omega) _ _ _⟩, fun bad => absurd HOK.out bad⟩)
      · have hq : q = 2 := hq1 ok
        subst hq
        have HOK := Lib.hid ok
        clear hq0 hq1 ok
        go_wp2
        have hfin := blkSet3 HZ8.out (.slice none 0 0) (.int .i64 0) (.int .i64 0)
        have g0 := hfin.cell 0
        have g1 := hfin.cell 1
        have g2 := hfin.cell 2
        refine bodyPost_ret (v := .tuple #[.agg #[.slice none 0 0, .int .i64 0, .int .i64 0], .int .i64 2]) (by simp [results, Try.results29, go_sem, g0, g1, g2]) rfl (by rw [HRR.out]; exact ⟨fun ok => absurd ok HOK.out, fun _ => ⟨rfl, below_set3 HB8.out (by omega) _ _ _⟩⟩)
    · have hpl : p < ns.length := by omega
      obtain ⟨b, o, rfl, hbw, hc⟩ := int_cell HROW.out (by omega)
      have hcp := hc p hpl
      have HNE : Hid (p < j → ns[p] ≠ x) := Lib.hid fun h => HF.out p hpl h
      have HEQ : Hid (p = j → ns[p] = x) := Lib.hid fun h => by subst h; exact HE.out
      generalize ns[p] = y at hcp HNE HEQ
      rw [show ((p + 1 : Nat) : Int) - 1 = (p : Int) by omega]
      have hp0 : (0 : Int) ≤ (p : Int) := by omega
      have hp1 : (p : Int) < (n : Int) := by omega
      have HV := Lib.hid hv
      clear hc hv hn
      by_cases hyx : y = x
      · have hb : (y == x) = true := by simpa using hyx
        have HLE : Hid (p ≤ j → (p : Int) = (j : Int)) := Lib.hid fun h => by
          rcases Nat.lt_or_ge p j with h1 | h1
          · exact absurd hyx (HNE.out h1)
          · omega
        clear hyx
        go_wp2
        go_round
        case rel => exact ⟨p, p, by omega, rfl, rfl, HLE.out⟩
        case measure => first | (simp [intOf]; done) | (simp [intOf]; omega)
      · have hb : (y == x) = false := by simpa using hyx
        have HLE : Hid (p ≤ j → v = (j : Int)) := Lib.hid fun h => by
          rcases Nat.lt_or_ge p j with h1 | h1
          · exact HV.out (by omega)
          · exact absurd (HEQ.out (by omega)) hyx
        clear hyx
        go_wp2
        go_round
        case rel => exact ⟨p, v, by omega, rfl, rfl, HLE.out⟩
        case measure => first | (simp [intOf]; done) | (simp [intOf]; omega)
end Go.Proofs.Ythnfinnlnkjomaa
