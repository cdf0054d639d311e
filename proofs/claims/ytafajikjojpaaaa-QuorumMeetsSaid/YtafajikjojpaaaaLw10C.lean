/- Any two that are enough of one list have a node in common. -/
import Derived.Test.YtafajikjojpaaaaLw10
namespace Go.Proofs.Ytafajikjojpaaaa
open Go.RowKit Mem Rg
set_option maxRecDepth 100000
set_option maxHeartbeats 16000000
set_option linter.unusedVariables false
theorem meets_walk (A1 A2 A3 : Option Addr) (l a b : List Int) (n1 n2 n3 c1 c2 c3 : Nat) (hn1 : n1 = l.length) (hn2 : n2 = a.length) (hn3 : n3 = b.length) (hw : WfI l) (w : World) (h1 : Row w w.heap.size A1 (l.map iV)) (h2 : Row w w.heap.size A2 (a.map iV)) (h3 : Row w w.heap.size A3 (b.map iV)) :
    Calls Try.prog 5 #[.slice A1 n1 c1, .slice A2 n2 c2, .slice A3 n3 c3] w (IsTr w) := by
  have HR1 := Lib.hid fun W (hb : Below w.heap.size w W) => (h1.below hb).more hb.size
  have HR2 := Lib.hid fun W (hb : Below w.heap.size w W) => (h2.below hb).more hb.size
  have HR3 := Lib.hid fun W (hb : Below w.heap.size w W) => (h3.below hb).more hb.size
  have HN1 := Lib.hid hn1
  have HN2 := Lib.hid hn2
  have HN3 := Lib.hid hn3
  have HW := Lib.hid hw
  have HB0 := Lib.hid (Below.refl w.heap.size w)
  clear h1 h2 h3 hn1 hn2 hn3 hw
  by_cases b1 : (40 : Int) < (n1 : Int)
  · go_enter Try.func5, Try.ntmps5
    go_wp2_with (go_at_call 10; refine (known10_any _).mono ?_; rintro e1 w1 ⟨rfl, hb1⟩)
    go_ret
    exact ⟨rfl, HB0.out.trans (hb1.mono HB0.out.size)⟩
  by_cases b2 : (40 : Int) < (n2 : Int)
  · go_enter Try.func5, Try.ntmps5
    go_wp2_with (go_at_call 10; refine (known10_any _).mono ?_; rintro e1 w1 ⟨rfl, hb1⟩)
    go_ret
    exact ⟨rfl, HB0.out.trans (hb1.mono HB0.out.size)⟩
  by_cases b3 : (40 : Int) < (n3 : Int)
  · go_enter Try.func5, Try.ntmps5
    go_wp2_with (go_at_call 10; refine (known10_any _).mono ?_; rintro e1 w1 ⟨rfl, hb1⟩)
    go_ret
    exact ⟨rfl, HB0.out.trans (hb1.mono HB0.out.size)⟩
  have HL1 : Hid (n1 ≤ 40) := Lib.hid (by omega)
  have HL2 : Hid (n2 ≤ 40) := Lib.hid (by omega)
  have HL3 : Hid (n3 ≤ 40) := Lib.hid (by omega)
  have HX := Lib.hid fun W (hb : Below w.heap.size w W) => common_any n1 c1 n2 c2 A1 A2 l a HN1.out HN2.out (by have := HL1.out; omega) (by have := HL2.out; omega) HW.out W (HR1.out W hb) (HR2.out W hb)
  have HY := Lib.hid fun W (hb : Below w.heap.size w W) => common_any n1 c1 n3 c3 A1 A3 l b HN1.out HN3.out (by have := HL1.out; omega) (by have := HL3.out; omega) HW.out W (HR1.out W hb) (HR3.out W hb)
  have HC := Lib.hid fun W (hb : Below w.heap.size w W) => common_any n1 c1 n1 c1 A1 A1 l l HN1.out HN1.out (by have := HL1.out; omega) (by have := HL1.out; omega) HW.out W (HR1.out W hb) (HR1.out W hb)
  have HE1 := Lib.hid fun W (hb : Below w.heap.size w W) => enough_any n1 c1 n2 c2 A1 A2 l a HN1.out (by have := HL1.out; omega) HN2.out (by have := HL2.out; omega) HW.out W (HR1.out W hb) (HR2.out W hb)
  have HE2 := Lib.hid fun W (hb : Below w.heap.size w W) => enough_any n1 c1 n3 c3 A1 A3 l b HN1.out (by have := HL1.out; omega) HN3.out (by have := HL3.out; omega) HW.out W (HR1.out W hb) (HR3.out W hb)
  have hxl := cmn_le l a
  have hyl := cmn_le l b
  have hzl := cmn_le l l
  have hxz : (cmn l a).length ≤ (cmn l l).length := by rw [cmn_self, cmn_eq l a]; exact inn_le _ _
  have hyz : (cmn l b).length ≤ (cmn l l).length := by rw [cmn_self, cmn_eq l b]; exact inn_le _ _
  have hwx : WfI (cmn l a) := fun y hy => HW.out y (cmn_mem.1 hy).1
  have he1 := enD_eq l a
  have he2 := enD_eq l b
  unfold enD at he1 he2
  have hmt := meet_cmn l a b
  have hxy := cmn_le (cmn l a) (cmn l b)
  obtain ⟨zx, hzx⟩ : ∃ z, (cmn l a).length = z := ⟨_, rfl⟩
  obtain ⟨zy, hzy⟩ : ∃ z, (cmn l b).length = z := ⟨_, rfl⟩
  obtain ⟨z0, hz0⟩ : ∃ z, (cmn l l).length = z := ⟨_, rfl⟩
  obtain ⟨zz, hzz⟩ : ∃ z, (cmn (cmn l a) (cmn l b)).length = z := ⟨_, rfl⟩
  have HZX := Lib.hid hzx
  have HZY := Lib.hid hzy
  have HZ0 := Lib.hid hz0
  have HZZ := Lib.hid hzz
  have hn1 := HN1.out
  have hl1 := HL1.out
  rw [hzx, hz0] at he1 hxz
  rw [hzy, hz0] at he2 hyz
  rw [hzx, hzy, hz0, hzz] at hmt
  rw [hzx] at hxl
  rw [hzy] at hyl
  rw [hz0] at hzl
  rw [hzz, hzx] at hxy
  have hzb : zx ≤ 40 ∧ zy ≤ 40 ∧ z0 ≤ 40 ∧ zz ≤ 40 := by omega
  obtain ⟨hb1, hb2, hb3, hb4⟩ := hzb
  have HM1 := Lib.hid fun W => meet_any z0 zx zy (by omega) hxz hyz W
  have HM2 := Lib.hid fun W => refmeet_any z0 zx zy (by omega) hxz hyz W
  obtain ⟨d, hd⟩ : ∃ d, decide (z0 < zx + zy) = d := ⟨_, rfl⟩
  rw [hd] at HM1 HM2
  have hdd : (d == d) = true := by simp
  have HXY := Lib.hid fun W A4 A5 c4 c5 (hx : Row W W.heap.size A4 ((cmn l a).map iV)) (hy : Row W W.heap.size A5 ((cmn l b).map iV)) => common_any zx c4 zy c5 A4 A5 (cmn l a) (cmn l b) HZX.out.symm HZY.out.symm (by omega) (by omega) hwx W hx hy
  obtain ⟨u1, hu1⟩ : ∃ u, enO (dd [] l) a = u := ⟨_, rfl⟩
  obtain ⟨u2, hu2⟩ : ∃ u, enO (dd [] l) b = u := ⟨_, rfl⟩
  rw [hu1] at he1 HE1
  rw [hu2] at he2 HE2
  have HD := Lib.hid hd
  clear hu1 hu2 hzx hzy hz0 hzz hn1 hl1 hxl hyl hzl hxy hd hwx
  rcases u1 with _ | _
  · clear he1 he2 hmt
    go_enter Try.func5, Try.ntmps5
    go_wp2_with fail
    refine (HX.out _ HB0.out).mono ?_
    rintro e1 w1 ⟨A1, k1, rfl, hr1, hb1⟩
    have HB1 := Lib.hid (HB0.out.trans (hb1.mono HB0.out.size))
    have HOX := Lib.hid hr1
    clear  hb1 hr1
    rw [HZX.out]
    go_wp2_with fail
    refine (HY.out _ HB1.out).mono ?_
    rintro e2 w2 ⟨A2, k2, rfl, hr2, hb2⟩
    have HB2 := Lib.hid (HB1.out.trans (hb2.mono HB1.out.size))
    replace HOX := Lib.hid ((HOX.out.below hb2).more hb2.size)
    have HOY := Lib.hid hr2
    clear  hb2 hr2
    rw [HZY.out]
    go_wp2_with fail
    refine (HE1.out _ HB2.out).mono ?_
    rintro e3 w3 ⟨rfl, hb3⟩
    have HB3 := Lib.hid (HB2.out.trans (hb3.mono HB2.out.size))
    replace HOX := Lib.hid ((HOX.out.below hb3).more hb3.size)
    replace HOY := Lib.hid ((HOY.out.below hb3).more hb3.size)
    clear  hb3
    go_wp2_with fail
    refine (HC.out _ HB3.out).mono ?_
    rintro e4 w4 ⟨A4, k4, rfl, _, hb4⟩
    have HB4 := Lib.hid (HB3.out.trans (hb4.mono HB3.out.size))
    replace HOX := Lib.hid ((HOX.out.below hb4).more hb4.size)
    replace HOY := Lib.hid ((HOY.out.below hb4).more hb4.size)
    clear  hb4
    rw [HZ0.out]
    go_wp2_with (first
      | (go_at_call 24; refine (HM1.out _).mono ?_; rintro e w' ⟨rfl, rfl⟩)
      | (go_at_call 25; refine (HM2.out _).mono ?_; rintro e w' ⟨rfl, rfl⟩))
    go_wp2_with (go_at_call 10; refine (known10_any _).mono ?_; rintro e5 w5 ⟨rfl, hb5⟩)
    go_ret
    exact ⟨rfl, HB4.out.trans (hb5.mono HB4.out.size)⟩
  · rcases u2 with _ | _
    · clear he1 he2 hmt
      go_enter Try.func5, Try.ntmps5
      go_wp2_with fail
      refine (HX.out _ HB0.out).mono ?_
      rintro e1 w1 ⟨A1, k1, rfl, hr1, hb1⟩
      have HB1 := Lib.hid (HB0.out.trans (hb1.mono HB0.out.size))
      have HOX := Lib.hid hr1
      clear  hb1 hr1
      rw [HZX.out]
      go_wp2_with fail
      refine (HY.out _ HB1.out).mono ?_
      rintro e2 w2 ⟨A2, k2, rfl, hr2, hb2⟩
      have HB2 := Lib.hid (HB1.out.trans (hb2.mono HB1.out.size))
      replace HOX := Lib.hid ((HOX.out.below hb2).more hb2.size)
      have HOY := Lib.hid hr2
      clear  hb2 hr2
      rw [HZY.out]
      go_wp2_with fail
      refine (HE1.out _ HB2.out).mono ?_
      rintro e3 w3 ⟨rfl, hb3⟩
      have HB3 := Lib.hid (HB2.out.trans (hb3.mono HB2.out.size))
      replace HOX := Lib.hid ((HOX.out.below hb3).more hb3.size)
      replace HOY := Lib.hid ((HOY.out.below hb3).more hb3.size)
      clear  hb3
      go_wp2_with fail
      refine (HE2.out _ HB3.out).mono ?_
      rintro e4 w4 ⟨rfl, hb4⟩
      have HB4 := Lib.hid (HB3.out.trans (hb4.mono HB3.out.size))
      replace HOX := Lib.hid ((HOX.out.below hb4).more hb4.size)
      replace HOY := Lib.hid ((HOY.out.below hb4).more hb4.size)
      clear  hb4
      go_wp2_with fail
      refine (HC.out _ HB4.out).mono ?_
      rintro e5 w5 ⟨A5, k5, rfl, _, hb5⟩
      have HB5 := Lib.hid (HB4.out.trans (hb5.mono HB4.out.size))
      replace HOX := Lib.hid ((HOX.out.below hb5).more hb5.size)
      replace HOY := Lib.hid ((HOY.out.below hb5).more hb5.size)
      clear  hb5
      rw [HZ0.out]
      go_wp2_with (first
        | (go_at_call 24; refine (HM1.out _).mono ?_; rintro e w' ⟨rfl, rfl⟩)
        | (go_at_call 25; refine (HM2.out _).mono ?_; rintro e w' ⟨rfl, rfl⟩))
      go_wp2_with (go_at_call 10; refine (known10_any _).mono ?_; rintro e6 w6 ⟨rfl, hb6⟩)
      go_ret
      exact ⟨rfl, HB5.out.trans (hb6.mono HB5.out.size)⟩
    · rw [decide_eq_true_eq] at he1 he2
      have hlt : z0 < zx + zy := by omega
      have hzp : 0 < zz := hmt hlt
      have hzn : ((zz : Int) == 0) = false := by simp; omega
      obtain rfl : d = true := by rw [← HD.out]; exact decide_eq_true hlt
      clear he1 he2 hmt hlt hzp
      go_enter Try.func5, Try.ntmps5
      go_wp2_with fail
      refine (HX.out _ HB0.out).mono ?_
      rintro e1 w1 ⟨A1, k1, rfl, hr1, hb1⟩
      have HB1 := Lib.hid (HB0.out.trans (hb1.mono HB0.out.size))
      have HOX := Lib.hid hr1
      clear  hb1 hr1
      rw [HZX.out]
      go_wp2_with fail
      refine (HY.out _ HB1.out).mono ?_
      rintro e2 w2 ⟨A2, k2, rfl, hr2, hb2⟩
      have HB2 := Lib.hid (HB1.out.trans (hb2.mono HB1.out.size))
      replace HOX := Lib.hid ((HOX.out.below hb2).more hb2.size)
      have HOY := Lib.hid hr2
      clear  hb2 hr2
      rw [HZY.out]
      go_wp2_with fail
      refine (HE1.out _ HB2.out).mono ?_
      rintro e3 w3 ⟨rfl, hb3⟩
      have HB3 := Lib.hid (HB2.out.trans (hb3.mono HB2.out.size))
      replace HOX := Lib.hid ((HOX.out.below hb3).more hb3.size)
      replace HOY := Lib.hid ((HOY.out.below hb3).more hb3.size)
      clear  hb3
      go_wp2_with fail
      refine (HE2.out _ HB3.out).mono ?_
      rintro e4 w4 ⟨rfl, hb4⟩
      have HB4 := Lib.hid (HB3.out.trans (hb4.mono HB3.out.size))
      replace HOX := Lib.hid ((HOX.out.below hb4).more hb4.size)
      replace HOY := Lib.hid ((HOY.out.below hb4).more hb4.size)
      clear  hb4
      go_wp2_with fail
      refine (HC.out _ HB4.out).mono ?_
      rintro e5 w5 ⟨A5, k5, rfl, _, hb5⟩
      have HB5 := Lib.hid (HB4.out.trans (hb5.mono HB4.out.size))
      replace HOX := Lib.hid ((HOX.out.below hb5).more hb5.size)
      replace HOY := Lib.hid ((HOY.out.below hb5).more hb5.size)
      clear  hb5
      rw [HZ0.out]
      go_wp2_with fail
      refine (HXY.out _ A1 A2 k1 k2 HOX.out HOY.out).mono ?_
      rintro e6 w6 ⟨A6, k6, rfl, _, hb6⟩
      have HB6 := Lib.hid (HB5.out.trans (hb6.mono HB5.out.size))
      replace HOX := Lib.hid ((HOX.out.below hb6).more hb6.size)
      replace HOY := Lib.hid ((HOY.out.below hb6).more hb6.size)
      clear  hb6
      rw [HZZ.out]
      go_wp2_with (first
        | (go_at_call 24; refine (HM1.out _).mono ?_; rintro e w' ⟨rfl, rfl⟩)
        | (go_at_call 25; refine (HM2.out _).mono ?_; rintro e w' ⟨rfl, rfl⟩))
      go_wp2_with (go_at_call 10; refine (known10_any _).mono ?_; rintro e7 w7 ⟨rfl, hb7⟩)
      go_ret
      exact ⟨rfl, HB6.out.trans (hb7.mono HB6.out.size)⟩
end Go.Proofs.Ytafajikjojpaaaa
