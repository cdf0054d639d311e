/- The document's own answers (7): one node more. -/
import Derived.Test.YthnfinnlnkjomaaRfB
import Derived.Test.YthnfinnlnkjomaaRgK
namespace Go.Proofs.Ythnfinnlnkjomaa
open Go.RowKit Mem Rg
set_option maxRecDepth 100000
set_option maxHeartbeats 8000000
set_option linter.unusedVariables false
/-- Where a number would stand. -/
def placeI (x : Int) : List Int → Nat
  | [] => 0
  | y :: l => if y < x then placeI x l + 1 else 0
theorem placeI_le (x : Int) : ∀ l : List Int, placeI x l ≤ l.length
  | [] => Nat.le_refl _
  | y :: l => by
    have := placeI_le x l
    unfold placeI
    split
    · simp; omega
    · exact Nat.zero_le _
theorem placeI_lt (x : Int) : ∀ (l : List Int) (j : Nat) (hj : j < l.length), j < placeI x l → l[j] < x
  | [], j, hj, _ => absurd hj (Nat.not_lt_zero _)
  | y :: l, j, hj, h => by
    unfold placeI at h
    split at h
    · rename_i e
      rcases j with _ | j
      · exact e
      · exact placeI_lt x l j (by simpa using hj) (by omega)
    · exact absurd h (Nat.not_lt_zero _)
theorem placeI_ge (x : Int) : ∀ (l : List Int) (k : Nat) (h : k < l.length), k = placeI x l → x ≤ l[k]
  | [], k, h, _ => absurd h (Nat.not_lt_zero _)
  | y :: l, k, h, hk => by
    unfold placeI at hk
    split at hk
    · subst hk
      exact placeI_ge x l _ (by simpa using h) rfl
    · rename_i e
      subst hk
      simp; omega
/-- A node that may be one more. -/
def NewN (ns : List Int) (x : Int) : Prop := 0 ≤ x ∧ x ≤ 1048575 ∧ x ∉ ns
theorem refwith_none (A : Option Addr) (n c : Nat) (ns : List Int) (e k x : Int) (hx : ¬ NewN ns x) (hn : n = ns.length) (hl : n ≤ 1000) (w : World) (h : Row w w.heap.size A (ns.map iV)) :
    Calls Try.prog 27 #[.agg #[.slice A n c, .int .i64 e, .int .i64 k], .int .i64 x] w (RingN 2 w) := by
  have hb0 : Below w.heap.size w ((w.alloc (.cells #[.slice A n c, .int .i64 e, .int .i64 k] 24)).alloc (.cells #[.slice none 0 0, .int .i64 0, .int .i64 0] 24)) := ((Below.refl _ _).alloc (Nat.le_refl _) _).alloc (by simp) _
  have hz0 : Blk ((w.alloc (.cells #[.slice A n c, .int .i64 e, .int .i64 k] 24)).alloc (.cells #[.slice none 0 0, .int .i64 0, .int .i64 0] 24)) (w.heap.size + 1) 24 #[.slice none 0 0, .int .i64 0, .int .i64 0] := blk_at' (by simp) (Blk.new _ _ _)
  have HB0 := Lib.hid hb0
  have HZ0 := Lib.hid hz0
  have HROW := Lib.hid h
  have HN := Lib.hid hn
  have HX := Lib.hid hx
  clear h hn hb0 hz0 hx
  by_cases a1 : x < 0
  · go_enter Try.func27, Try.ntmps27
    go_wp2
    refine bodyPost_ret (v := .tuple #[.agg #[.slice none 0 0, .int .i64 0, .int .i64 0], .int .i64 2]) (by simp [results, Try.results27, go_sem]) rfl ⟨rfl, HB0.out⟩
  by_cases a2 : 1048575 < x
  · go_enter Try.func27, Try.ntmps27
    go_wp2
    refine bodyPost_ret (v := .tuple #[.agg #[.slice none 0 0, .int .i64 0, .int .i64 0], .int .i64 2]) (by simp [results, Try.results27, go_sem]) rfl ⟨rfl, HB0.out⟩
  have hin : x ∈ ns := Classical.byContradiction fun h => HX.out ⟨by omega, by omega, h⟩
  have HHAS := Lib.hid fun W (hb : Below w.heap.size w W) => has_any _ c n A ns x HN.out (by omega) W (HROW.out.below hb)
  rw [isIn_true hin] at HHAS
  clear hin
  go_enter Try.func27, Try.ntmps27
  go_wp2_with (go_at_call 32; refine (HHAS.out _ HB0.out).mono ?_; rintro e1 w1 ⟨rfl, rfl⟩)
  refine bodyPost_ret (v := .tuple #[.agg #[.slice none 0 0, .int .i64 0, .int .i64 0], .int .i64 2]) (by simp [results, Try.results27, go_sem]) rfl ⟨rfl, HB0.out⟩
theorem refwith_ok (A : Option Addr) (n c : Nat) (ns : List Int) (e k x : Int) (hx : NewN ns x) (hn : n = ns.length) (hl : n ≤ 1000) (hnc : n ≤ c) (w : World) (h : Row w w.heap.size A (ns.map iV)) :
    Calls Try.prog 27 #[.agg #[.slice A n c, .int .i64 e, .int .i64 k], .int .i64 x] w (RingR (withL ns x (placeI x ns)) e k w) := by
  obtain ⟨i0, hi0, hz0', hz1, hz2⟩ := info_parts info_i
  obtain ⟨x1, x2, x3⟩ := hx
  have hb0 : Below w.heap.size w ((w.alloc (.cells #[.slice A n c, .int .i64 e, .int .i64 k] 24)).alloc (.cells #[.slice none 0 0, .int .i64 0, .int .i64 0] 24)) := ((Below.refl _ _).alloc (Nat.le_refl _) _).alloc (by simp) _
  have hk0 : Blk ((w.alloc (.cells #[.slice A n c, .int .i64 e, .int .i64 k] 24)).alloc (.cells #[.slice none 0 0, .int .i64 0, .int .i64 0] 24)) w.heap.size 24 #[.slice A n c, .int .i64 e, .int .i64 k] := (Blk.new _ _ _).alloc _
  have hz0 : Blk ((w.alloc (.cells #[.slice A n c, .int .i64 e, .int .i64 k] 24)).alloc (.cells #[.slice none 0 0, .int .i64 0, .int .i64 0] 24)) (w.heap.size + 1) 24 #[.slice none 0 0, .int .i64 0, .int .i64 0] := blk_at' (by simp) (Blk.new _ _ _)
  have HB0 := Lib.hid hb0
  have HK0 := Lib.hid hk0
  have HZ0 := Lib.hid hz0
  have HROW := Lib.hid h
  have HN := Lib.hid hn
  have HHAS := Lib.hid fun W (hb : Below w.heap.size w W) => has_any _ c n A ns x HN.out (by omega) W (HROW.out.below hb)
  rw [isIn_false x3] at HHAS
  obtain ⟨m, hm⟩ : ∃ m, placeI x ns = m := ⟨_, rfl⟩
  have HM : Hid (m ≤ ns.length) := Lib.hid (by rw [← hm]; exact placeI_le _ _)
  have HPLT : Hid (∀ t (ht : t < ns.length), t < m → ns[t] < x) := Lib.hid fun t ht h => placeI_lt _ ns t ht (by rw [hm]; exact h)
  have HPGE : Hid (∀ h : m < ns.length, x ≤ ns[m]) := Lib.hid fun h => placeI_ge _ ns m h hm.symm
  have HWL : Hid ((withL ns x m).length = n + 1) := Lib.hid (by rw [withL_len ns x m HM.out, HN.out])
  rw [hm]
  have hn1 : (n : Int) ≤ 1000 := by omega
  clear h hn hb0 hk0 hz0 x3 hm
  go_enter Try.func27, Try.ntmps27
  go_wp2_with (go_at_call 32; refine (HHAS.out _ HB0.out).mono ?_; rintro e1 w1 ⟨rfl, rfl⟩)
  clear HHAS
  go_loopw [6, 7] (fun v i wr => ∃ j : Nat, j ≤ m ∧ i = .int .i64 j ∧ Hid (OwnI (w.heap.size + 2) (ns.take j) v wr) ∧ Hid (Below w.heap.size w wr) ∧ Hid (Blk wr w.heap.size 24 #[.slice A n c, .int .i64 e, .int .i64 k]) ∧ Hid (Blk wr (w.heap.size + 1) 24 #[.slice none 0 0, .int .i64 0, .int .i64 0])) (fun _ i _ => m - (intOf i).toNat)
  case atStart => exact ⟨0, by omega, rfl, Lib.hid (World.ownsRow_nil _ _ _ _), HB0, HK0, HZ0⟩
  case round =>
    obtain ⟨j, hj, rfl, HO, HB, HK, HZ⟩ := hrel
    have HSZ : Hid (w.heap.size + 2 ≤ wr.heap.size) := Lib.hid (by have := HZ.out.lt; omega)
    have c0 : wr.cell? ⟨w.heap.size, 0, none⟩ = some (.slice A n c) := HK.out.cell 0
    by_cases hjm : j < m
    · have hjl : j < ns.length := by have := HM.out; omega
      obtain ⟨b, o, rfl, hbw, hc⟩ := int_cell (HROW.out.below HB.out) (by omega)
      have hcj := hc j hjl
      have hlt := HPLT.out j hjl hjm
      have hsn : ns.take (j + 1) = ns.take j ++ [ns[j]] := List.take_succ_eq_append_getElem hjl
      obtain ⟨y, hy⟩ : ∃ y, ns[j] = y := ⟨_, rfl⟩
      rw [hy] at hcj hlt hsn
      have hdj : decide (y < x) = true := by simpa using hlt
      have hj0 : (0 : Int) ≤ (j : Int) := by omega
      have hj1 : (j : Int) < (n : Int) := by have := HN.out; omega
      obtain ⟨T, hT⟩ : ∃ T, ns.take j = T := ⟨_, rfl⟩
      have HTL : Hid (T.length = j) := Lib.hid (by rw [← hT, List.length_take]; omega)
      rw [hT] at HO hsn
      have HSN := Lib.hid hsn
      have HB4 : Hid (Below w.heap.size w (wr.alloc (.cells #[.int .i64 y] 3))) := Lib.hid (HB.out.alloc HB.out.size _)
      have HO4 := Lib.hid (own_later HO.out ((Below.refl wr.heap.size wr).alloc (Nat.le_refl _) (.cells #[.int .i64 y] 3)))
      clear hc hy hlt hsn hT
      go_wp2_with (at_builtin; refine wpList_app _ rfl _ _ 22 rfl (w.heap.size + 2) 3 i0 _ 8 Try.underlying22 hi0 hz0' hz1 hz2 rfl _ T.length (T.map iV) rfl HO4.out (wr.heap.size + 1) (some ⟨wr.heap.size, 0, none⟩) 1 1 ([y].map iV) rfl rfl (int_row wr y) (iV_one _) (by have := HTL.out; have := HM.out; have := HN.out; unfold maxLen; omega) (by have := HTL.out; have := HM.out; have := HN.out; omega) (by have := HSZ.out; simp; omega) ?_)
      intro v' w5 hown hgr _
      have HO5 : Hid (OwnI (w.heap.size + 2) (ns.take (j + 1)) v' w5) := Lib.hid (by rw [HSN.out]; simpa [OwnI] using hown)
      have HB5 : Hid (Below w.heap.size w w5) := Lib.hid (HB4.out.grown hgr HB4.out.size fun g hg => by have := (HO4.out.lt g hg).1; omega)
      have HK5 : Hid (Blk w5 w.heap.size 24 #[.slice (some ⟨b, o, none⟩) n c, .int .i64 e, .int .i64 k]) := Lib.hid ((HK.out.alloc _).grown hgr fun hg => by have := (HO4.out.lt _ hg.symm).1; omega)
      have HZ5 : Hid (Blk w5 (w.heap.size + 1) 24 #[.slice none 0 0, .int .i64 0, .int .i64 0]) := Lib.hid ((HZ.out.alloc _).grown hgr fun hg => by have := (HO4.out.lt _ hg.symm).1; omega)
      clear hown hgr
      go_wp2
      go_roundw
      case rel => exact ⟨j + 1, by omega, by go_num, HO5, HB5, HK5, HZ5⟩
      case measure => simp [intOf]; omega
    · obtain rfl : j = m := by omega
      clear hjm
      obtain ⟨T, hT⟩ : ∃ T, ns.take j = T := ⟨_, rfl⟩
      have HTT := Lib.hid hT
      have HTL : Hid (T.length = j) := Lib.hid (by rw [← hT, List.length_take]; have := HM.out; omega)
      rw [hT] at HO
      have HB4 : Hid (Below w.heap.size w (wr.alloc (.cells #[.int .i64 x] 3))) := Lib.hid (HB.out.alloc HB.out.size _)
      have HO4 := Lib.hid (own_later HO.out ((Below.refl wr.heap.size wr).alloc (Nat.le_refl _) (.cells #[.int .i64 x] 3)))
      have hjn : j ≤ n := by have := HM.out; have := HN.out; omega
      have hj0 : (0 : Int) ≤ (j : Int) := by omega
      have hj2 : (j : Int) ≤ (n : Int) := by omega
      have cut2 := fun W => run_cut_l (P := Try.prog) (w := W) 22 3 _ _ Try.underlying22 info_i A n c j (by omega)
      clear hT
      by_cases hjn2 : j < n
      · have hjl : j < ns.length := by have := HN.out; omega
        obtain ⟨b, o, hA, hbw, hc⟩ := int_cell (HROW.out.below HB.out) (by omega)
        have hcj := hc j hjl
        have hge := HPGE.out hjl
        generalize ns[j] = y at hcj hge
        have hdj : decide (y < x) = false := by simpa using hge
        have hj1 : (j : Int) < (n : Int) := by omega
        subst hA
        clear hc hge
        go_wp2_with (at_builtin; refine wpList_app _ rfl _ _ 22 rfl (w.heap.size + 2) 3 i0 _ 8 Try.underlying22 hi0 hz0' hz1 hz2 rfl _ T.length (T.map iV) rfl HO4.out (wr.heap.size + 1) (some ⟨wr.heap.size, 0, none⟩) 1 1 ([x].map iV) rfl rfl (int_row wr x) (iV_one _) (by have := HTL.out; have := HM.out; have := HN.out; unfold maxLen; omega) (by have := HTL.out; have := HM.out; have := HN.out; omega) (by have := HSZ.out; simp; omega) ?_)
        intro v1 w5 hown hgr _
        obtain ⟨S, hS⟩ : ∃ S, T ++ [x] = S := ⟨_, rfl⟩
        have HO5 : Hid (OwnI (w.heap.size + 2) S v1 w5) := Lib.hid (by rw [← hS]; simpa [OwnI] using hown)
        have HB5 : Hid (Below w.heap.size w w5) := Lib.hid (HB4.out.grown hgr HB4.out.size fun g hg => by have := (HO4.out.lt g hg).1; omega)
        have HK5 : Hid (Blk w5 w.heap.size 24 #[.slice (some ⟨b, o, none⟩) n c, .int .i64 e, .int .i64 k]) := Lib.hid ((HK.out.alloc _).grown hgr fun hg => by have := (HO4.out.lt _ hg.symm).1; omega)
        have HZ5 : Hid (Blk w5 (w.heap.size + 1) 24 #[.slice none 0 0, .int .i64 0, .int .i64 0]) := Lib.hid ((HZ.out.alloc _).grown hgr fun hg => by have := (HO4.out.lt _ hg.symm).1; omega)
        have HSL : Hid (S.length = j + 1) := Lib.hid (by rw [← hS, List.length_append, HTL.out]; rfl)
        obtain ⟨D, hD⟩ : ∃ D, ns.drop j = D := ⟨_, rfl⟩
        have HDL : Hid (D.length = n - j) := Lib.hid (by rw [← hD, List.length_drop]; have := HN.out; omega)
        have HCUT : Hid (Row w5 w.heap.size (cutA (some ⟨b, o, none⟩) j c) (D.map iV)) := Lib.hid (by
          have := cut_row (HROW.out.below HB5.out) j c (by rw [List.length_map]; have := HN.out; omega)
          rw [← List.map_drop, hD] at this
          exact this)
        obtain ⟨R, hR⟩ : ∃ R, withL ns x j = R := ⟨_, rfl⟩
        have HR : Hid (S ++ D = R) := Lib.hid (by rw [← hR, ← hS, ← hD, ← HTT.out]; rfl)
        rw [hR] at HWL
        have HRR := Lib.hid hR
        have c5 : w5.cell? ⟨w.heap.size, 0, none⟩ = some (.slice (some ⟨b, o, none⟩) n c) := HK5.out.cell 0
        clear hown hgr hS hD hR c0
        go_wp2_with (at_builtin; refine wpList_app _ rfl _ _ 22 rfl (w.heap.size + 2) 3 i0 _ 8 Try.underlying22 hi0 hz0' hz1 hz2 rfl _ S.length (S.map iV) rfl HO5.out w.heap.size (cutA (some ⟨b, o, none⟩) j c) (n - j) (c - j) (D.map iV) rfl (by rw [List.length_map]; exact HDL.out) HCUT.out (iV_one _) (by have := HSL.out; have := HM.out; have := HN.out; unfold maxLen; omega) (by have := HSL.out; have := HM.out; have := HN.out; omega) (by have := HZ5.out.lt; omega) ?_)
        intro v2 w6 hown hgr _
        have HO6 : Hid (OwnI (w.heap.size + 2) R v2 w6) := Lib.hid (by
          rw [← HR.out]
          unfold OwnI
          rw [List.map_append, List.length_append, HDL.out]
          exact hown)
        have HB6 : Hid (Below w.heap.size w w6) := Lib.hid (HB5.out.grown hgr HB5.out.size fun g hg => by have := (HO5.out.lt g hg).1; omega)
        have HK6 : Hid (Blk w6 w.heap.size 24 #[.slice (some ⟨b, o, none⟩) n c, .int .i64 e, .int .i64 k]) := Lib.hid (HK5.out.grown hgr fun hg => by have := (HO5.out.lt _ hg.symm).1; omega)
        have HZ6 : Hid (Blk w6 (w.heap.size + 1) 24 #[.slice none 0 0, .int .i64 0, .int .i64 0]) := Lib.hid (HZ5.out.grown hgr fun hg => by have := (HO5.out.lt _ hg.symm).1; omega)
        obtain ⟨A2, c2, rfl⟩ := ownI_shape HO6.out
        have k1 : w6.cell? ⟨w.heap.size, 1, none⟩ = some (.int .i64 e) := HK6.out.cell 1
        have k2 : w6.cell? ⟨w.heap.size, 2, none⟩ = some (.int .i64 k) := HK6.out.cell 2
        have hal : Below w6.heap.size w6 (w6.alloc (.cells #[.slice A2 R.length c2, .int .i64 e, .int .i64 k] 24)) := (Below.refl _ _).alloc (Nat.le_refl _) _
        have HO7 : Hid (OwnI (w.heap.size + 2) R (.slice A2 R.length c2) (w6.alloc (.cells #[.slice A2 R.length c2, .int .i64 e, .int .i64 k] 24))) := Lib.hid (own_later HO6.out hal)
        have HCK := Lib.hid (refcheck_any A2 R.length c2 R e k rfl (by rw [HWL.out]; unfold maxLen; omega) _ (ownRow HO7.out))
        have HB7 : Hid (Below w.heap.size w (w6.alloc (.cells #[.slice A2 R.length c2, .int .i64 e, .int .i64 k] 24))) := Lib.hid (HB6.out.trans (hal.mono HB6.out.size))
        have HP7 : Hid (Blk (w6.alloc (.cells #[.slice A2 R.length c2, .int .i64 e, .int .i64 k] 24)) w6.heap.size 24 #[.slice A2 R.length c2, .int .i64 e, .int .i64 k]) := Lib.hid (Blk.new _ _ _)
        have HZ7 : Hid (Blk (w6.alloc (.cells #[.slice A2 R.length c2, .int .i64 e, .int .i64 k] 24)) (w.heap.size + 1) 24 #[.slice none 0 0, .int .i64 0, .int .i64 0]) := Lib.hid (HZ6.out.alloc _)
        clear hown hgr c5 cut2
        go_wp2_with fail
        refine HCK.out.mono ?_
        rintro e8 w8 ⟨⟨q, rfl, hq0, hq1⟩, hb8⟩
        have HB8 : Hid (Below w.heap.size w w8) := Lib.hid (HB7.out.trans (hb8.mono HB7.out.size))
        have HO8 := Lib.hid (own_later HO7.out hb8)
        have hz8 := HZ7.out.below hb8 HZ7.out.lt
        have hp8 := HP7.out.below hb8 HP7.out.lt
        have HZ8 := Lib.hid hz8
        have p0 : w8.cell? ⟨w6.heap.size, 0, none⟩ = some (.slice A2 R.length c2) := hp8.cell 0
        have p1 : w8.cell? ⟨w6.heap.size, 1, none⟩ = some (.int .i64 e) := hp8.cell 1
        have p2 : w8.cell? ⟨w6.heap.size, 2, none⟩ = some (.int .i64 k) := hp8.cell 2
        have r0 : w8.cell? ⟨w.heap.size + 1, 0, none⟩ = some (.slice none 0 0) := hz8.cell 0
        have r1 : w8.cell? ⟨w.heap.size + 1, 1, none⟩ = some (.int .i64 0) := hz8.cell 1
        have r2 : w8.cell? ⟨w.heap.size + 1, 2, none⟩ = some (.int .i64 0) := hz8.cell 2
        have f0 := hz8.frozen 0
        have f1 := hz8.frozen 1
        have f2 := hz8.frozen 2
        clear hb8 hz8 hp8 k1 k2 hal
        by_cases ok : OkR R e k
        · have hq : q = 0 := hq0 ok
          subst hq
          have HOK := Lib.hid ok
          clear hq0 hq1 ok
          go_wp2
          have hfin := blkSet3 HZ8.out (.slice A2 R.length c2) (.int .i64 e) (.int .i64 k)
          have g0 := hfin.cell 0
          have g1 := hfin.cell 1
          have g2 := hfin.cell 2
          refine bodyPost_ret (v := .tuple #[.agg #[.slice A2 R.length c2, .int .i64 e, .int .i64 k], .int .i64 0]) (by simp [results, Try.results27, go_sem, g0, g1, g2]) rfl (by rw [HRR.out]; exact ⟨fun _ => ⟨A2, c2, rfl, ownBase (ownSet3 HO8.out (by omega) _ _ _) (by omega), below_set3 HB8.out (by omega) _ _ _⟩, fun bad => absurd HOK.out bad⟩)
        · have hq : q = 2 := hq1 ok
          subst hq
          have HOK := Lib.hid ok
          clear hq0 hq1 ok
          go_wp2
          have hfin := blkSet3 HZ8.out (.slice none 0 0) (.int .i64 0) (.int .i64 0)
          have g0 := hfin.cell 0
          have g1 := hfin.cell 1
          have g2 := hfin.cell 2
          refine bodyPost_ret (v := .tuple #[.agg #[.slice none 0 0, .int .i64 0, .int .i64 0], .int .i64 2]) (by simp [results, Try.results27, go_sem, g0, g1, g2]) rfl (by rw [HRR.out]; exact ⟨fun ok => absurd ok HOK.out, fun _ => ⟨rfl, below_set3 HB8.out (by omega) _ _ _⟩⟩)
      · have hj1 : ¬ (j : Int) < (n : Int) := by omega
        go_wp2_with (at_builtin; refine wpList_app _ rfl _ _ 22 rfl (w.heap.size + 2) 3 i0 _ 8 Try.underlying22 hi0 hz0' hz1 hz2 rfl _ T.length (T.map iV) rfl HO4.out (wr.heap.size + 1) (some ⟨wr.heap.size, 0, none⟩) 1 1 ([x].map iV) rfl rfl (int_row wr x) (iV_one _) (by have := HTL.out; have := HM.out; have := HN.out; unfold maxLen; omega) (by have := HTL.out; have := HM.out; have := HN.out; omega) (by have := HSZ.out; simp; omega) ?_)
        intro v1 w5 hown hgr _
        obtain ⟨S, hS⟩ : ∃ S, T ++ [x] = S := ⟨_, rfl⟩
        have HO5 : Hid (OwnI (w.heap.size + 2) S v1 w5) := Lib.hid (by rw [← hS]; simpa [OwnI] using hown)
        have HB5 : Hid (Below w.heap.size w w5) := Lib.hid (HB4.out.grown hgr HB4.out.size fun g hg => by have := (HO4.out.lt g hg).1; omega)
        have HK5 : Hid (Blk w5 w.heap.size 24 #[.slice A n c, .int .i64 e, .int .i64 k]) := Lib.hid ((HK.out.alloc _).grown hgr fun hg => by have := (HO4.out.lt _ hg.symm).1; omega)
        have HZ5 : Hid (Blk w5 (w.heap.size + 1) 24 #[.slice none 0 0, .int .i64 0, .int .i64 0]) := Lib.hid ((HZ.out.alloc _).grown hgr fun hg => by have := (HO4.out.lt _ hg.symm).1; omega)
        have HSL : Hid (S.length = j + 1) := Lib.hid (by rw [← hS, List.length_append, HTL.out]; rfl)
        obtain ⟨D, hD⟩ : ∃ D, ns.drop j = D := ⟨_, rfl⟩
        have HDL : Hid (D.length = n - j) := Lib.hid (by rw [← hD, List.length_drop]; have := HN.out; omega)
        have HCUT : Hid (Row w5 w.heap.size (cutA A j c) (D.map iV)) := Lib.hid (by
          have := cut_row (HROW.out.below HB5.out) j c (by rw [List.length_map]; have := HN.out; omega)
          rw [← List.map_drop, hD] at this
          exact this)
        obtain ⟨R, hR⟩ : ∃ R, withL ns x j = R := ⟨_, rfl⟩
        have HR : Hid (S ++ D = R) := Lib.hid (by rw [← hR, ← hS, ← hD, ← HTT.out]; rfl)
        rw [hR] at HWL
        have HRR := Lib.hid hR
        have c5 : w5.cell? ⟨w.heap.size, 0, none⟩ = some (.slice A n c) := HK5.out.cell 0
        clear hown hgr hS hD hR c0
        go_wp2_with (at_builtin; refine wpList_app _ rfl _ _ 22 rfl (w.heap.size + 2) 3 i0 _ 8 Try.underlying22 hi0 hz0' hz1 hz2 rfl _ S.length (S.map iV) rfl HO5.out w.heap.size (cutA A j c) (n - j) (c - j) (D.map iV) rfl (by rw [List.length_map]; exact HDL.out) HCUT.out (iV_one _) (by have := HSL.out; have := HM.out; have := HN.out; unfold maxLen; omega) (by have := HSL.out; have := HM.out; have := HN.out; omega) (by have := HZ5.out.lt; omega) ?_)
        intro v2 w6 hown hgr _
        have HO6 : Hid (OwnI (w.heap.size + 2) R v2 w6) := Lib.hid (by
          rw [← HR.out]
          unfold OwnI
          rw [List.map_append, List.length_append, HDL.out]
          exact hown)
        have HB6 : Hid (Below w.heap.size w w6) := Lib.hid (HB5.out.grown hgr HB5.out.size fun g hg => by have := (HO5.out.lt g hg).1; omega)
        have HK6 : Hid (Blk w6 w.heap.size 24 #[.slice A n c, .int .i64 e, .int .i64 k]) := Lib.hid (HK5.out.grown hgr fun hg => by have := (HO5.out.lt _ hg.symm).1; omega)
        have HZ6 : Hid (Blk w6 (w.heap.size + 1) 24 #[.slice none 0 0, .int .i64 0, .int .i64 0]) := Lib.hid (HZ5.out.grown hgr fun hg => by have := (HO5.out.lt _ hg.symm).1; omega)
        obtain ⟨A2, c2, rfl⟩ := ownI_shape HO6.out
        have k1 : w6.cell? ⟨w.heap.size, 1, none⟩ = some (.int .i64 e) := HK6.out.cell 1
        have k2 : w6.cell? ⟨w.heap.size, 2, none⟩ = some (.int .i64 k) := HK6.out.cell 2
        have hal : Below w6.heap.size w6 (w6.alloc (.cells #[.slice A2 R.length c2, .int .i64 e, .int .i64 k] 24)) := (Below.refl _ _).alloc (Nat.le_refl _) _
        have HO7 : Hid (OwnI (w.heap.size + 2) R (.slice A2 R.length c2) (w6.alloc (.cells #[.slice A2 R.length c2, .int .i64 e, .int .i64 k] 24))) := Lib.hid (own_later HO6.out hal)
        have HCK := Lib.hid (refcheck_any A2 R.length c2 R e k rfl (by rw [HWL.out]; unfold maxLen; omega) _ (ownRow HO7.out))
        have HB7 : Hid (Below w.heap.size w (w6.alloc (.cells #[.slice A2 R.length c2, .int .i64 e, .int .i64 k] 24))) := Lib.hid (HB6.out.trans (hal.mono HB6.out.size))
        have HP7 : Hid (Blk (w6.alloc (.cells #[.slice A2 R.length c2, .int .i64 e, .int .i64 k] 24)) w6.heap.size 24 #[.slice A2 R.length c2, .int .i64 e, .int .i64 k]) := Lib.hid (Blk.new _ _ _)
        have HZ7 : Hid (Blk (w6.alloc (.cells #[.slice A2 R.length c2, .int .i64 e, .int .i64 k] 24)) (w.heap.size + 1) 24 #[.slice none 0 0, .int .i64 0, .int .i64 0]) := Lib.hid (HZ6.out.alloc _)
        clear hown hgr c5 cut2
        go_wp2_with fail
        refine HCK.out.mono ?_
        rintro e8 w8 ⟨⟨q, rfl, hq0, hq1⟩, hb8⟩
        have HB8 : Hid (Below w.heap.size w w8) := Lib.hid (HB7.out.trans (hb8.mono HB7.out.size))
        have HO8 := Lib.hid (own_later HO7.out hb8)
        have hz8 := HZ7.out.below hb8 HZ7.out.lt
        have hp8 := HP7.out.below hb8 HP7.out.lt
        have HZ8 := Lib.hid hz8
        have p0 : w8.cell? ⟨w6.heap.size, 0, none⟩ = some (.slice A2 R.length c2) := hp8.cell 0
        have p1 : w8.cell? ⟨w6.heap.size, 1, none⟩ = some (.int .i64 e) := hp8.cell 1
        have p2 : w8.cell? ⟨w6.heap.size, 2, none⟩ = some (.int .i64 k) := hp8.cell 2
        have r0 : w8.cell? ⟨w.heap.size + 1, 0, none⟩ = some (.slice none 0 0) := hz8.cell 0
        have r1 : w8.cell? ⟨w.heap.size + 1, 1, none⟩ = some (.int .i64 0) := hz8.cell 1
        have r2 : w8.cell? ⟨w.heap.size + 1, 2, none⟩ = some (.int .i64 0) := hz8.cell 2
        have f0 := hz8.frozen 0
        have f1 := hz8.frozen 1
        have f2 := hz8.frozen 2
        clear hb8 hz8 hp8 k1 k2 hal
        by_cases ok : OkR R e k
        · have hq : q = 0 := hq0 ok
          subst hq
          have HOK := Lib.hid ok
          clear hq0 hq1 ok
          go_wp2
          have hfin := blkSet3 HZ8.out (.slice A2 R.length c2) (.int .i64 e) (.int .i64 k)
          have g0 := hfin.cell 0
          have g1 := hfin.cell 1
          have g2 := hfin.cell 2
          refine bodyPost_ret (v := .tuple #[.agg #[.slice A2 R.length c2, .int .i64 e, .int .i64 k], .int .i64 0]) (by simp [results, Try.results27, go_sem, g0, g1, g2]) rfl (by rw [HRR.out]; exact ⟨fun _ => ⟨A2, c2, rfl, ownBase (ownSet3 HO8.out (by omega) _ _ _) (by omega), below_set3 HB8.out (by omega) _ _ _⟩, fun bad => absurd HOK.out bad⟩)
        · have hq : q = 2 := hq1 ok
          subst hq
          have HOK := Lib.hid ok
          clear hq0 hq1 ok
          go_wp2
          have hfin := blkSet3 HZ8.out (.slice none 0 0) (.int .i64 0) (.int .i64 0)
          have g0 := hfin.cell 0
          have g1 := hfin.cell 1
          have g2 := hfin.cell 2
          refine bodyPost_ret (v := .tuple #[.agg #[.slice none 0 0, .int .i64 0, .int .i64 0], .int .i64 2]) (by simp [results, Try.results27, go_sem, g0, g1, g2]) rfl (by rw [HRR.out]; exact ⟨fun ok => absurd ok HOK.out, fun _ => ⟨rfl, below_set3 HB8.out (by omega) _ _ _⟩⟩)
end Go.Proofs.Ythnfinnlnkjomaa
