/- The law FramesSame, walked. -/
import Derived.Test.YtpccppdakmpchaaLaw5A
import Derived.Test.YtpccppdakmpchaaRefAll5
namespace Go.Proofs.Ytpccppdakmpchaa
open Go.RowKit Mem Be Word Frm
set_option maxRecDepth 100000
set_option maxHeartbeats 2000000
set_option linter.unusedVariables false
/-- Records that came in: where they lie, in whatever later world. -/
def InR (w : World) (A : Option Addr) (rs : List RecV) : Prop := ∀ W, Below w.heap.size w W → Row W W.heap.size A (recsC rs) ∧ Recs_ W rs
theorem inR_of {w : World} {A : Option Addr} {rs : List RecV} (h : Row w w.heap.size A (recsC rs)) (hr : Recs_ w rs) : InR w A rs := fun W hb => ⟨(h.below hb).more hb.size, recs_below hr hb⟩
theorem short_of {rs : List RecV} {m : Nat} (h : longN (rs.map rcOf) ≤ m) (hm : m ≤ 65536) : Short (rs.map rcOf) := fun r hr => by
  have := long_each hr
  omega
theorem count_of {rs : List RecV} {m : Nat} (h : longN (rs.map rcOf) ≤ m) : rs.length * 10 ≤ m := by
  have := long_many (rs.map rcOf)
  rw [List.length_map] at this
  omega
theorem all_same {a b : List Rc} (ha : Short a) (hb : Short b) : (allB a == allB b) = decide (a = b) := by
  by_cases h : a = b
  · subst h; simp
  · rw [decide_eq_false h]
    simp only [beq_eq_false_iff_ne, ne_eq]
    exact fun e => h (all_inj ha hb e)
theorem sames_walk (A A' : Option Addr) (rs ss : List RecV) (n m c d : Nat) (hn : n = rs.length) (hm : m = ss.length) (w : World) (h : InR w A rs) (h' : InR w A' ss) (hl : longN (rs.map rcOf) ≤ 5000000) (hl' : longN (ss.map rcOf) ≤ 5000000) :
    Calls Try.prog 6 #[.slice A n c, .slice A' m d] w (IsT true w) := by
  have HL1 := Lib.hid (long_any n c A rs hn w (h w (Below.refl _ _)).1 (by omega))
  have HL2 := Lib.hid (long_any m d A' ss hm w (h' w (Below.refl _ _)).1 (by omega))
  obtain ⟨L1, hL1⟩ : ∃ L, longN (rs.map rcOf) = L := ⟨_, rfl⟩
  obtain ⟨L2, hL2⟩ : ∃ L, longN (ss.map rcOf) = L := ⟨_, rfl⟩
  rw [hL1] at HL1
  rw [hL2] at HL2
  by_cases h1 : 1000 < L1
  · have g1 : (1000 : Int) < (L1 : Int) := by omega
    clear h h' hn hm hl hl' hL1 hL2 h1
    go_enter Try.func6, Try.ntmps6
    go_wp2_with fail
    refine HL1.out.mono ?_
    rintro e w' ⟨rfl, rfl⟩
    go_wp2_with (go_at_call 11; refine (known5_any _).mono ?_; rintro e w' ⟨rfl, hb⟩; have HB := Lib.hid hb; clear hb)
    go_ret
    exact ⟨rfl, HB.out⟩
  have g1 : (L1 : Int) ≤ 1000 := by omega
  by_cases h2 : 1000 < L2
  · have g2 : (1000 : Int) < (L2 : Int) := by omega
    clear h h' hn hm hl hl' hL1 hL2 h1 h2
    go_enter Try.func6, Try.ntmps6
    go_wp2_with fail
    refine HL1.out.mono ?_
    rintro e w' ⟨rfl, rfl⟩
    go_wp2_with fail
    refine HL2.out.mono ?_
    rintro e w' ⟨rfl, rfl⟩
    go_wp2_with (go_at_call 11; refine (known5_any _).mono ?_; rintro e w' ⟨rfl, hb⟩; have HB := Lib.hid hb; clear hb)
    go_ret
    exact ⟨rfl, HB.out⟩
  have g2 : (L2 : Int) ≤ 1000 := by omega
  have s1 := short_of (m := 1000) (by omega : longN (rs.map rcOf) ≤ 1000) (by omega)
  have s2 := short_of (m := 1000) (by omega : longN (ss.map rcOf) ≤ 1000) (by omega)
  have hc1 := count_of (m := 1000) (by omega : longN (rs.map rcOf) ≤ 1000)
  have hc2 := count_of (m := 1000) (by omega : longN (ss.map rcOf) ≤ 1000)
  have hxy := all_same s1 s2
  have HA1 : Hid (∀ W, Below w.heap.size w W → Calls Try.prog 12 #[.slice A n c] W (MadeF W.heap.size (allB (rs.map rcOf), 0) W)) := Lib.hid fun W hb => all_any n c A rs hn W (h W hb).1 (h W hb).2 s1 (by omega) (by omega)
  have HA2 : Hid (∀ W, Below w.heap.size w W → Calls Try.prog 12 #[.slice A' m d] W (MadeF W.heap.size (allB (ss.map rcOf), 0) W)) := Lib.hid fun W hb => all_any m d A' ss hm W (h' W hb).1 (h' W hb).2 s2 (by omega) (by omega)
  have HS1 : Hid (∀ W, Below w.heap.size w W → Calls Try.prog 17 #[.slice A n c, .slice A' m d] W (IsT (decide (rs.map rcOf = ss.map rcOf)) W)) := Lib.hid fun W hb => same5_any n m c d A A' rs ss hn hm W (h W hb).1 (h' W hb).1 (h W hb).2 (h' W hb).2 (by omega)
  have HS2 : Hid (∀ W, Below w.heap.size w W → Calls Try.prog 22 #[.slice A n c, .slice A' m d] W (IsT (decide (rs.map rcOf = ss.map rcOf)) W)) := Lib.hid fun W hb => refsame5_any n m c d A A' rs ss hn hm W (h W hb).1 (h' W hb).1 (h W hb).2 (h' W hb).2 (by omega)
  obtain ⟨bb, hbb⟩ : ∃ b, decide (rs.map rcOf = ss.map rcOf) = b := ⟨_, rfl⟩
  obtain ⟨X, hX⟩ : ∃ X, allB (rs.map rcOf) = X := ⟨_, rfl⟩
  obtain ⟨Y, hY⟩ : ∃ Y, allB (ss.map rcOf) = Y := ⟨_, rfl⟩
  rw [hbb] at hxy HS1 HS2
  rw [hX, hY] at hxy
  rw [hX] at HA1
  rw [hY] at HA2
  have HXY := Lib.hid hxy
  clear h h' hn hm hl hl' hL1 hL2 h1 h2 s1 s2 hc1 hc2 hxy hbb hX hY
  go_enter Try.func6, Try.ntmps6
  go_wp2_with fail
  refine HL1.out.mono ?_
  rintro e w' ⟨rfl, rfl⟩
  go_wp2_with fail
  refine HL2.out.mono ?_
  rintro e w' ⟨rfl, rfl⟩
  go_wp2_with fail
  refine (HS1.out w (Below.refl _ _)).mono ?_
  rintro e w1 ⟨rfl, hb1⟩
  have HB1 := Lib.hid hb1
  clear hb1 HS1 HL1 HL2
  go_wp2_with fail
  refine (HA1.out w1 HB1.out).mono ?_
  rintro e w2 ⟨A2, c2, rfl, ho2, hb2⟩
  have HB2 := Lib.hid (HB1.out.trans (hb2.mono HB1.out.size))
  have HO2 := Lib.hid ho2
  simp only
  clear hb2 ho2 HA1
  go_wp2_with fail
  refine (HA2.out w2 HB2.out).mono ?_
  rintro e w3 ⟨A3, c3, rfl, ho3, hb3⟩
  have HB3 := Lib.hid (HB2.out.trans (hb3.mono HB2.out.size))
  have HO2 := Lib.hid (own_later HO2.out hb3)
  have HO3 := Lib.hid ho3
  simp only
  clear hb3 ho3 HA2
  go_wp2_with fail
  refine (HS2.out w3 HB3.out).mono ?_
  rintro e w4 ⟨rfl, hb4⟩
  have HB4 := Lib.hid (HB3.out.trans (hb4.mono HB3.out.size))
  have HO2 := Lib.hid (own_later HO2.out hb4)
  have HO3 := Lib.hid (own_later HO3.out hb4)
  clear hb4 HS2
  have hsm := same_any w4.heap.size w4.heap.size c2 c3 X.length Y.length A2 A3 X Y w4 (Row.of_own HO2.out) (Row.of_own HO3.out) rfl rfl
  rw [HXY.out] at hsm
  have HSM := Lib.hid hsm
  clear hsm HO2 HO3
  go_wp2_with fail
  refine HSM.out.mono ?_
  rintro e w' ⟨rfl, rfl⟩
  clear HSM
  go_wp2_with fail
  refine (known5_any _).mono ?_
  rintro e w5 ⟨rfl, hb5⟩
  have HB5 := Lib.hid (HB4.out.trans (hb5.mono HB4.out.size))
  clear hb5
  go_wp2
  go_ret
  exact ⟨rfl, HB5.out⟩
end Go.Proofs.Ytpccppdakmpchaa
