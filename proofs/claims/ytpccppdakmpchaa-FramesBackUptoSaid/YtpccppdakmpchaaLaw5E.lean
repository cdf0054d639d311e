/- The law FramesJoin, walked. -/
import Derived.Test.YtpccppdakmpchaaLaw5C
namespace Go.Proofs.Ytpccppdakmpchaa
open Go.RowKit Mem Be Word Frm
set_option maxRecDepth 100000
set_option maxHeartbeats 2000000
set_option linter.unusedVariables false
theorem ownApart {w : World} {B s n : Nat} {e : TypeId} {v : Value} {xs : List Value} (h : w.ownsRow B e s v n xs) (row : Option Nat) (hr : ∀ g, row = some g → g < B) : v.ownBlock = none ∨ v.ownBlock ≠ row := by
  rcases h.2 with ⟨rfl, _⟩ | ⟨g, cap, cur, rfl, hb, _⟩
  · exact Or.inl rfl
  · refine Or.inr fun e => ?_
    have := hr g (by rw [← e]; rfl)
    omega
theorem ownOther {w : World} {B B' s s' n n' : Nat} {e e' : TypeId} {v v' : Value} {xs xs' : List Value} (h : w.ownsRow B e s v n xs) (h' : w.ownsRow B' e' s' v' n' xs') (hne : e ≠ e') : v.ownBlock = none ∨ v.ownBlock ≠ v'.ownBlock := by
  rcases h.2 with ⟨rfl, _⟩ | ⟨g, cap, cur, rfl, hb, hh, _⟩
  · exact Or.inl rfl
  · refine Or.inr fun eq => ?_
    rcases h'.2 with ⟨rfl, _⟩ | ⟨g', cap', cur', rfl, hb', hh', _⟩
    · cases eq
    · have eg : g = g' := by simpa [Value.ownBlock] using eq
      subst eg
      rw [hh] at hh'
      injection hh' with hh'
      injection hh' with _ ht
      exact hne ht
theorem long_app (rs ss : List RecV) : longN ((rs ++ ss).map rcOf) = longN (rs.map rcOf) + longN (ss.map rcOf) := by
  unfold longN; rw [List.map_append, all_app, List.length_append]
theorem join_walk (A A' : Option Addr) (rs ss : List RecV) (n m c d : Nat) (hn : n = rs.length) (hm : m = ss.length) (w : World) (h : InR w A rs) (h' : InR w A' ss) (hl : longN (rs.map rcOf) ≤ 5000000) (hl' : longN (ss.map rcOf) ≤ 5000000) :
    Calls Try.prog 8 #[.slice A n c, .slice A' m d] w (IsT true w) := by
  obtain ⟨i0, hi0, hz0, hz1, hz2⟩ := info_parts info_b
  have HL1 := Lib.hid (long_any n c A rs hn w (h w (Below.refl _ _)).1 (by omega))
  have HL2 := Lib.hid (long_any m d A' ss hm w (h' w (Below.refl _ _)).1 (by omega))
  have hla := long_app rs ss
  obtain ⟨L1, hL1⟩ : ∃ L, longN (rs.map rcOf) = L := ⟨_, rfl⟩
  obtain ⟨L2, hL2⟩ : ∃ L, longN (ss.map rcOf) = L := ⟨_, rfl⟩
  rw [hL1] at HL1
  rw [hL2] at HL2
  obtain ⟨S, hS⟩ : ∃ S, L1 + L2 = S := ⟨_, rfl⟩
  have hsum : (L1 : Int) + (L2 : Int) = (S : Int) := by omega
  have hS2 : (S : Int) ≤ 10000000 := by omega
  by_cases h1 : 1500 < S
  · have g1 : (1500 : Int) < (S : Int) := by omega
    clear h h' hn hm hl hl' hL1 hL2 h1 hS hla
    go_enter Try.func8, Try.ntmps8
    go_wp2_with fail
    refine HL1.out.mono ?_
    rintro e w' ⟨rfl, rfl⟩
    go_wp2_with fail
    refine HL2.out.mono ?_
    rintro e w' ⟨rfl, rfl⟩
    go_wp2_with (go_at_call 11; refine (known5_any _).mono ?_; rintro e w' ⟨rfl, hb⟩; have HB := Lib.hid hb; clear hb)
    go_ret
    exact ⟨rfl, HB.out⟩
  have g1 : (S : Int) ≤ 1500 := by omega
  have s0 := short_of (m := 1500) (by omega : longN ((rs ++ ss).map rcOf) ≤ 1500) (by omega)
  have s1 := short_of (m := 1500) (by omega : longN (rs.map rcOf) ≤ 1500) (by omega)
  have s2 := short_of (m := 1500) (by omega : longN (ss.map rcOf) ≤ 1500) (by omega)
  have hc1 := count_of (m := 1500) (by omega : longN (rs.map rcOf) ≤ 1500)
  have hc2 := count_of (m := 1500) (by omega : longN (ss.map rcOf) ≤ 1500)
  have HA1 : Hid (∀ W, Below w.heap.size w W → Calls Try.prog 12 #[.slice A n c] W (MadeF W.heap.size (allB (rs.map rcOf), 0) W)) := Lib.hid fun W hb => all_any n c A rs hn W (h W hb).1 (h W hb).2 s1 (by omega) (by omega)
  have HA2 : Hid (∀ W, Below w.heap.size w W → Calls Try.prog 12 #[.slice A' m d] W (MadeF W.heap.size (allB (ss.map rcOf), 0) W)) := Lib.hid fun W hb => all_any m d A' ss hm W (h' W hb).1 (h' W hb).2 s2 (by omega) (by omega)
  have hxy : allB ((rs ++ ss).map rcOf) = allB (rs.map rcOf) ++ allB (ss.map rcOf) := by rw [List.map_append, all_app]
  have HA3 : Hid (∀ W k c A, Below w.heap.size w W → k = (rs ++ ss).length → Row W W.heap.size A (recsC (rs ++ ss)) → Calls Try.prog 12 #[.slice A k c] W (MadeF W.heap.size (allB ((rs ++ ss).map rcOf), 0) W)) := Lib.hid fun W k c A hb hk hr =>
    all_any k c A (rs ++ ss) hk W hr (recs_app (h W hb).2 (h' W hb).2) s0 (by omega) (by rw [hk, List.length_append]; omega)
  have HSC : Hid (∀ W k c A, Below w.heap.size w W → k = (allB ((rs ++ ss).map rcOf)).length → k ≤ c → Row W W.heap.size A ((allB ((rs ++ ss).map rcOf)).map byteV) → Calls Try.prog 18 #[.slice A k c] W (ScanP ((rs ++ ss).map rcOf, k, 0) W)) := Lib.hid fun W k c A hb hk hkc hr => by
    have := scan_any W.heap.size c k A (allB ((rs ++ ss).map rcOf)) hk hkc W hr (Nat.le_refl _) (by have : (allB ((rs ++ ss).map rcOf)).length = longN ((rs ++ ss).map rcOf) := rfl; omega)
    rw [scan_all _ s0, ← hk] at this
    exact this
  obtain ⟨X, hX⟩ : ∃ X, allB (rs.map rcOf) = X := ⟨_, rfl⟩
  obtain ⟨Y, hY⟩ : ∃ Y, allB (ss.map rcOf) = Y := ⟨_, rfl⟩
  have hXl : X.length ≤ 1500 := by rw [← hX]; show longN (rs.map rcOf) ≤ 1500; omega
  have hYl : Y.length ≤ 1500 := by rw [← hY]; show longN (ss.map rcOf) ≤ 1500; omega
  rw [hX] at HA1
  rw [hY] at HA2
  rw [hX, hY] at hxy
  obtain ⟨Z, hZ⟩ : ∃ Z, X ++ Y = Z := ⟨_, rfl⟩
  obtain ⟨zl, hzl⟩ : ∃ l, Z.length = l := ⟨_, rfl⟩
  have hzl2 : X.length + Y.length = zl := by rw [← hzl, ← hZ, List.length_append]
  rw [hxy, hZ] at HA3 HSC
  have HZ := Lib.hid (And.intro hZ (And.intro hzl hzl2))
  have HIN := Lib.hid (And.intro h h')
  have HN := Lib.hid (And.intro hn (And.intro hm (And.intro hc1 hc2)))
  have HXY := Lib.hid (And.intro hXl hYl)
  clear h h' hn hm hl hl' hL1 hL2 h1 s0 s1 s2 hc1 hc2 hxy hX hY hXl hYl hla hS hS2 hZ hzl hzl2
  go_enter Try.func8, Try.ntmps8
  go_wp2_with fail
  refine HL1.out.mono ?_
  rintro e w' ⟨rfl, rfl⟩
  go_wp2_with fail
  refine HL2.out.mono ?_
  rintro e w' ⟨rfl, rfl⟩
  clear HL1 HL2
  go_wp2_with fail
  refine (HA1.out w (Below.refl _ _)).mono ?_
  rintro e w1 ⟨A1, c1, rfl, ho1, hb1⟩
  have HB1 := Lib.hid hb1
  have HO1 := Lib.hid ho1
  simp only
  clear hb1 ho1 HA1
  go_wp2_with fail
  refine (HA2.out w1 HB1.out).mono ?_
  rintro e w2 ⟨A2, c2, rfl, ho2, hb2⟩
  have HB2 := Lib.hid (HB1.out.trans (hb2.mono HB1.out.size))
  have HO1 := Lib.hid (own_later HO1.out hb2)
  have HO2 := Lib.hid ho2
  simp only
  clear hb2 ho2 HA2
  have HRA := Lib.hid (HIN.out.1 w2 HB2.out).1
  go_wp2_with (at_builtin; refine wpList_appR rfl _ _ rfl w2.heap.size (.slice none 0 0) 0 [] rfl (World.ownsRow_nil _ _ _ _) w2.heap.size A n c rs rfl HN.out.1.symm HRA.out (by have := HN.out; omega) (Nat.le_refl _) ?_)
  intro A3 c3 w3 hown hgr
  have HB3 : Hid (Below w2.heap.size w2 w3) := Lib.hid ((Below.refl _ _).grown hgr (Nat.le_refl _) (fun g hg => by simp [Value.ownBlock] at hg))
  have HO3 : Hid (w3.ownsRow w2.heap.size 34 2 (.slice A3 n c3) n (recsC rs)) := Lib.hid hown
  have HRB := Lib.hid (HIN.out.2 w3 (HB2.out.trans (HB3.out.mono HB2.out.size))).1
  clear hown hgr HRA
  go_wp2_with (at_builtin; refine wpList_appR rfl _ _ rfl w2.heap.size _ n rs rfl HO3.out w3.heap.size A' m d ss rfl HN.out.2.1.symm HRB.out (by have := HN.out; omega) HB3.out.size ?_)
  intro A4 c4 w4 hown hgr
  obtain ⟨k, hk⟩ : ∃ k, n + m = k := ⟨_, rfl⟩
  rw [hk] at hown ⊢
  have hkl : k = (rs ++ ss).length := by rw [List.length_append, ← HN.out.1, ← HN.out.2.1]; exact hk.symm
  have HB4 : Hid (Below w2.heap.size w2 w4) := Lib.hid (HB3.out.grown hgr HB3.out.size fun g hg => (HO3.out.lt g hg).1)
  have HO4 : Hid (w4.ownsRow w2.heap.size 34 2 (.slice A4 k c4) k (recsC (rs ++ ss))) := Lib.hid (by rw [recsC_app]; exact hown)
  have HW4 : Hid (Below w.heap.size w w4) := Lib.hid (HB2.out.trans (HB4.out.mono HB2.out.size))
  have HK := Lib.hid (And.intro hkl (show k ≤ 1000 by have := HN.out; omega))
  clear hown hgr HRB HO3 HB3 hk hkl
  go_wp2_with fail
  refine (HA3.out w4 k c4 A4 HW4.out HK.out.1 (ownRow HO4.out)).mono ?_
  rintro e w5 ⟨A5, c5, rfl, ho5, hb5⟩
  simp only [HZ.out.2.1] at ho5 ⊢
  have HB5 : Hid (Below w2.heap.size w2 w5) := Lib.hid (HB4.out.trans (hb5.mono HB4.out.size))
  have HW5 : Hid (Below w.heap.size w w5) := Lib.hid (HW4.out.trans (hb5.mono HW4.out.size))
  have HO1' := Lib.hid (own_later HO1.out HB5.out)
  have HO2' := Lib.hid (Row.of_own (own_later HO2.out HB5.out))
  have HO4' := Lib.hid (ownLater HO4.out hb5)
  have HO5 := Lib.hid ho5
  clear ho5 hb5 HA3 HO2 HO4
  go_wp2_with (at_builtin; refine wpList_app _ rfl _ _ 25 rfl w.heap.size 5 i0 (.int .u8 0) 1 Try.underlying25 hi0 hz0 hz1 hz2 rfl _ X.length _ rfl HO1'.out w5.heap.size _ Y.length c2 (Y.map byteV) rfl (by simp) HO2'.out (byte_one _) (by have := HXY.out; unfold maxLen; omega) (by have := HXY.out; omega) HW5.out.size ?_)
  intro v' w6 hown hgr _
  have HW6 : Hid (Below w.heap.size w w6) := Lib.hid (HW5.out.grown hgr HW5.out.size fun g hg => (HO1'.out.lt g hg).1)
  have HO5' := Lib.hid (HO5.out.kept hgr (ownApart HO5.out _ (fun g hg => Nat.lt_of_lt_of_le (HO1.out.lt g hg).2 HB4.out.size)))
  have HO4'' := Lib.hid (HO4'.out.kept hgr (ownOther HO4'.out HO1'.out (by decide)))
  obtain ⟨A6, c6, hv, ho6, _⟩ := made_of (bs := Z) hown (by rw [← HZ.out.1, List.map_append]) HW6.out
  rw [HZ.out.2.1] at hv ho6
  injection hv with hv
  subst hv
  have HO6 := Lib.hid ho6
  clear hown hgr ho6 HO1 HO1' HO2' HO4' HO5 HB5 HB4 HB2 HB1
  go_wp2_with fail
  refine (HSC.out w6 zl c6 A6 HW6.out HZ.out.2.1.symm (own_cap HO6.out).1 (Row.of_own HO6.out)).mono ?_
  rintro e w7 ⟨rs3, A7, c7, hm7, rfl, ho7, hr7, hb7⟩
  have HW7 : Hid (Below w.heap.size w w7) := Lib.hid (HW6.out.trans (hb7.mono HW6.out.size))
  have HX7 := Lib.hid (Row.of_own (own_later HO6.out hb7))
  have HZ7 := Lib.hid (Row.of_own (own_later HO5'.out hb7))
  have HL7 := Lib.hid (ownRow (ownLater HO4''.out hb7))
  have HR7 := Lib.hid (recs_app (HIN.out.1 w7 HW7.out).2 (HIN.out.2 w7 HW7.out).2)
  have HM7 := Lib.hid (And.intro hm7 (And.intro (ownRow ho7) (recsO_recs hr7)))
  simp only
  clear hm7 ho7 hr7 hb7 HO6 HO5' HO4'' HSC
  go_wp2_with fail
  refine (same_true w7.heap.size w7.heap.size c6 c5 zl zl A6 A5 Z w7 HX7.out HZ7.out HZ.out.2.1.symm HZ.out.2.1.symm).mono ?_
  rintro e w' ⟨rfl, rfl⟩
  have hsm := same5_any rs3.length k c7 c4 A7 A4 rs3 (rs ++ ss) rfl HK.out.1 w7 HM7.out.2.1 HL7.out HM7.out.2.2 HR7.out (by have h1 := map_len HM7.out.1; rw [List.length_map, ← HK.out.1] at h1; have := HK.out.2; omega)
  rw [decide_eq_true HM7.out.1] at hsm
  have HSM := Lib.hid hsm
  clear hsm HM7 HL7 HR7 HX7 HZ7
  go_wp2_with fail
  refine HSM.out.mono ?_
  rintro e w8 ⟨rfl, hb8⟩
  have HW8 := Lib.hid (HW7.out.trans (hb8.mono HW7.out.size))
  clear hb8 HSM
  go_wp2_with fail
  refine (known5_any _).mono ?_
  rintro e w9 ⟨rfl, hb9⟩
  have HW9 := Lib.hid (HW8.out.trans (hb9.mono HW8.out.size))
  clear hb9
  go_wp2
  go_ret
  exact ⟨rfl, HW9.out⟩
end Go.Proofs.Ytpccppdakmpchaa
