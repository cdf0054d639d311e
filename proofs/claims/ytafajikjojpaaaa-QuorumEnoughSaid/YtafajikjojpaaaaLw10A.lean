/- Of any list, and any nodes, whether they are enough, which they have in common; how many are needed. -/
import Derived.Test.YtafajikjojpaaaaLw10
namespace Go.Proofs.Ytafajikjojpaaaa
open Go.RowKit Mem Rg
set_option maxRecDepth 100000
set_option maxHeartbeats 16000000
set_option linter.unusedVariables false
theorem enough_walk (A1 A2 : Option Addr) (l g : List Int) (n1 n2 c1 c2 : Nat) (x : Int) (hx : x ≤ 9223372036854775807) (hn1 : n1 = l.length) (hn2 : n2 = g.length) (hw : WfI l) (w : World) (h1 : Row w w.heap.size A1 (l.map iV)) (h2 : Row w w.heap.size A2 (g.map iV)) :
    Calls Try.prog 3 #[.slice A1 n1 c1, .slice A2 n2 c2, .int .i64 x] w (IsTr w) := by
  have HR1 := Lib.hid fun W (hb : Below w.heap.size w W) => (h1.below hb).more hb.size
  have HR2 := Lib.hid fun W (hb : Below w.heap.size w W) => (h2.below hb).more hb.size
  have HN1 := Lib.hid hn1
  have HN2 := Lib.hid hn2
  have HW := Lib.hid hw
  have HB0 := Lib.hid (Below.refl w.heap.size w)
  clear h1 h2 hn1 hn2 hw
  by_cases b1 : (60 : Int) < (n1 : Int)
  · go_enter Try.func3, Try.ntmps3
    go_wp2_with (go_at_call 10; refine (known10_any _).mono ?_; rintro e1 w1 ⟨rfl, hb1⟩)
    go_ret
    exact ⟨rfl, HB0.out.trans (hb1.mono HB0.out.size)⟩
  by_cases b2 : (60 : Int) < (n2 : Int)
  · go_enter Try.func3, Try.ntmps3
    go_wp2_with (go_at_call 10; refine (known10_any _).mono ?_; rintro e1 w1 ⟨rfl, hb1⟩)
    go_ret
    exact ⟨rfl, HB0.out.trans (hb1.mono HB0.out.size)⟩
  have HL1 : Hid (n1 ≤ 60) := Lib.hid (by omega)
  have HL2 : Hid (n2 ≤ 60) := Lib.hid (by omega)
  obtain ⟨u, hu⟩ : ∃ u, enO (dd [] l) g = u := ⟨_, rfl⟩
  have hbu : (u == u) = true := by simp
  have HE1 := Lib.hid fun W (hb : Below w.heap.size w W) => enough_any n1 c1 n2 c2 A1 A2 l g HN1.out (by have := HL1.out; omega) HN2.out (by have := HL2.out; omega) HW.out W (HR1.out W hb) (HR2.out W hb)
  have HE2 := Lib.hid fun W (hb : Below w.heap.size w W) => refenough_any n1 c1 n2 c2 A1 A2 l g HN1.out (by have := HL1.out; omega) HN2.out (by have := HL2.out; omega) W (HR1.out W hb) (HR2.out W hb)
  have HC1 := Lib.hid fun W (hb : Below w.heap.size w W) => common_any n1 c1 n2 c2 A1 A2 l g HN1.out HN2.out (by have := HL1.out; omega) (by have := HL2.out; omega) HW.out W (HR1.out W hb) (HR2.out W hb)
  have HC2 := Lib.hid fun W (hb : Below w.heap.size w W) => refcommon_any n1 c1 n2 c2 A1 A2 l g HN1.out (by have := HL1.out; omega) HN2.out (by have := HL2.out; omega) W (HR1.out W hb) (HR2.out W hb)
  have HCL : Hid ((cmn l g).length ≤ 60) := Lib.hid (by have := cmn_le l g; have := HN1.out; have := HL1.out; omega)
  rw [hu] at HE1 HE2
  clear hu
  by_cases hx0 : x < 1
  · have hnz : needZ x = 0 := if_pos hx0
    have HND := Lib.hid fun W => need_any x hx W
    rw [hnz] at HND
    have hxp : ¬ (0 : Int) < x := by omega
    have g0 : decide (0 < x) = false := by simp; omega
    have g1 : decide (x ≤ 100000) = true := by simp; omega
    clear hnz
    go_enter Try.func3, Try.ntmps3
    go_wp2_with (go_at_call 12; refine (HND.out _).mono ?_; rintro e w' ⟨rfl, rfl⟩)
    go_wp2_with fail
    refine (HE1.out _ HB0.out).mono ?_
    rintro e1 w1 ⟨rfl, hb1⟩
    have HB1 := Lib.hid (HB0.out.trans (hb1.mono HB0.out.size))
    clear  hb1
    go_wp2_with fail
    refine (HE2.out _ HB1.out).mono ?_
    rintro e2 w2 ⟨rfl, hb2⟩
    have HB2 := Lib.hid (HB1.out.trans (hb2.mono HB1.out.size))
    clear  hb2
    go_wp2_with fail
    refine (HC1.out _ HB2.out).mono ?_
    rintro e3 w3 ⟨A3, k3, rfl, hr3, hb3⟩
    have HB3 := Lib.hid (HB2.out.trans (hb3.mono HB2.out.size))
    have HO3 := Lib.hid hr3
    clear  hb3 hr3
    go_wp2_with fail
    refine (HC2.out _ HB3.out).mono ?_
    rintro e4 w4 ⟨A4, k4, rfl, ho4, hb4⟩
    have HB4 := Lib.hid (HB3.out.trans (hb4.mono HB3.out.size))
    replace HO3 := Lib.hid ((HO3.out.below hb4).more hb4.size)
    have HO4 := Lib.hid ho4
    clear  hb4 ho4
    go_wp2_with fail
    refine (sameints_true _ _ k3 k4 _ _ A3 A4 (cmn l g) w4 HO3.out (ownRow HO4.out) rfl rfl (by have := HCL.out; omega)).mono ?_
    rintro e5 w5 ⟨rfl, q5, hq5⟩
    have hb5 : Below w4.heap.size w4 w5 := by rw [hq5]; exact below_drew' _ _ _
    clear hq5
    have HB5 := Lib.hid (HB4.out.trans (hb5.mono HB4.out.size))
    replace HO3 := Lib.hid ((HO3.out.below hb5).more hb5.size)
    replace HO4 := Lib.hid (ownLater HO4.out hb5)
    clear  hb5
    go_wp2_with (go_at_call 10; refine (known10_any _).mono ?_; rintro e6 w6 ⟨rfl, hb6⟩)
    go_ret
    exact ⟨rfl, HB5.out.trans (hb6.mono HB5.out.size)⟩
  · by_cases hx1 : x ≤ 100000
    · obtain ⟨m, rfl⟩ : ∃ m : Nat, x = (m : Int) := ⟨x.toNat, by omega⟩
      have HND := Lib.hid fun W => needn_any m (by omega) W
      have HNR := Lib.hid fun W => refneed_any m (by omega) W
      obtain ⟨z, hz⟩ : ∃ z, need m = z := ⟨_, rfl⟩
      rw [hz] at HND HNR
      have hzz : ((z : Int) != (z : Int)) = false := by simp
      have g0 : decide ((0 : Int) < (m : Int)) = true := by simp; omega
      have g0' : decide (0 < m) = true := by simp; omega
      have g1 : decide ((m : Int) ≤ 100000) = true := by simp; omega
      have g1' : decide (m ≤ 100000) = true := by simp; omega
      clear hz
      go_enter Try.func3, Try.ntmps3
      go_wp2_with (first
        | (go_at_call 12; refine (HND.out _).mono ?_; rintro e w' ⟨rfl, rfl⟩)
        | (go_at_call 11; refine (HNR.out _).mono ?_; rintro e w' ⟨rfl, rfl⟩))
      go_wp2_with fail
      refine (HE1.out _ HB0.out).mono ?_
      rintro e1 w1 ⟨rfl, hb1⟩
      have HB1 := Lib.hid (HB0.out.trans (hb1.mono HB0.out.size))
      clear  hb1
      go_wp2_with fail
      refine (HE2.out _ HB1.out).mono ?_
      rintro e2 w2 ⟨rfl, hb2⟩
      have HB2 := Lib.hid (HB1.out.trans (hb2.mono HB1.out.size))
      clear  hb2
      go_wp2_with fail
      refine (HC1.out _ HB2.out).mono ?_
      rintro e3 w3 ⟨A3, k3, rfl, hr3, hb3⟩
      have HB3 := Lib.hid (HB2.out.trans (hb3.mono HB2.out.size))
      have HO3 := Lib.hid hr3
      clear  hb3 hr3
      go_wp2_with fail
      refine (HC2.out _ HB3.out).mono ?_
      rintro e4 w4 ⟨A4, k4, rfl, ho4, hb4⟩
      have HB4 := Lib.hid (HB3.out.trans (hb4.mono HB3.out.size))
      replace HO3 := Lib.hid ((HO3.out.below hb4).more hb4.size)
      have HO4 := Lib.hid ho4
      clear  hb4 ho4
      go_wp2_with fail
      refine (sameints_true _ _ k3 k4 _ _ A3 A4 (cmn l g) w4 HO3.out (ownRow HO4.out) rfl rfl (by have := HCL.out; omega)).mono ?_
      rintro e5 w5 ⟨rfl, q5, hq5⟩
      have hb5 : Below w4.heap.size w4 w5 := by rw [hq5]; exact below_drew' _ _ _
      clear hq5
      have HB5 := Lib.hid (HB4.out.trans (hb5.mono HB4.out.size))
      replace HO3 := Lib.hid ((HO3.out.below hb5).more hb5.size)
      replace HO4 := Lib.hid (ownLater HO4.out hb5)
      clear  hb5
      go_wp2_with (go_at_call 10; refine (known10_any _).mono ?_; rintro e6 w6 ⟨rfl, hb6⟩)
      go_ret
      exact ⟨rfl, HB5.out.trans (hb6.mono HB5.out.size)⟩
    · have g0 : decide (0 < x) = true := by simp; omega
      have g1 : decide (x ≤ 100000) = false := by simp; omega
      go_enter Try.func3, Try.ntmps3
      go_wp2_with fail
      refine (HE1.out _ HB0.out).mono ?_
      rintro e1 w1 ⟨rfl, hb1⟩
      have HB1 := Lib.hid (HB0.out.trans (hb1.mono HB0.out.size))
      clear  hb1
      go_wp2_with fail
      refine (HE2.out _ HB1.out).mono ?_
      rintro e2 w2 ⟨rfl, hb2⟩
      have HB2 := Lib.hid (HB1.out.trans (hb2.mono HB1.out.size))
      clear  hb2
      go_wp2_with fail
      refine (HC1.out _ HB2.out).mono ?_
      rintro e3 w3 ⟨A3, k3, rfl, hr3, hb3⟩
      have HB3 := Lib.hid (HB2.out.trans (hb3.mono HB2.out.size))
      have HO3 := Lib.hid hr3
      clear  hb3 hr3
      go_wp2_with fail
      refine (HC2.out _ HB3.out).mono ?_
      rintro e4 w4 ⟨A4, k4, rfl, ho4, hb4⟩
      have HB4 := Lib.hid (HB3.out.trans (hb4.mono HB3.out.size))
      replace HO3 := Lib.hid ((HO3.out.below hb4).more hb4.size)
      have HO4 := Lib.hid ho4
      clear  hb4 ho4
      go_wp2_with fail
      refine (sameints_true _ _ k3 k4 _ _ A3 A4 (cmn l g) w4 HO3.out (ownRow HO4.out) rfl rfl (by have := HCL.out; omega)).mono ?_
      rintro e5 w5 ⟨rfl, q5, hq5⟩
      have hb5 : Below w4.heap.size w4 w5 := by rw [hq5]; exact below_drew' _ _ _
      clear hq5
      have HB5 := Lib.hid (HB4.out.trans (hb5.mono HB4.out.size))
      replace HO3 := Lib.hid ((HO3.out.below hb5).more hb5.size)
      replace HO4 := Lib.hid (ownLater HO4.out hb5)
      clear  hb5
      go_wp2_with (go_at_call 10; refine (known10_any _).mono ?_; rintro e6 w6 ⟨rfl, hb6⟩)
      go_ret
      exact ⟨rfl, HB5.out.trans (hb6.mono HB5.out.size)⟩
end Go.Proofs.Ytafajikjojpaaaa
