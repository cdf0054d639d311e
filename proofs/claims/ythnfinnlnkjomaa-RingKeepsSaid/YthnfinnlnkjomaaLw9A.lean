/- Of any ring who keeps any word, and any key, and from which point on. -/
import Derived.Test.YthnfinnlnkjomaaLw9
import Derived.Test.YthnfinnlnkjomaaRfB
import Derived.Test.YthnfinnlnkjomaaRfF
namespace Go.Proofs.Ythnfinnlnkjomaa
open Go.RowKit Mem Rg
set_option maxRecDepth 100000
set_option maxHeartbeats 16000000
set_option linter.unusedVariables false
theorem keeps_walk (A : Option Addr) (n c : Nat) (ns : List Int) (e k : Int) (h0 : Nat) (key : ByteArray) (hn : n = ns.length) (hl : n ≤ maxLen) (w : World) (h : Row w w.heap.size A (ns.map iV)) :
    Calls Try.prog 3 #[.agg #[.slice A n c, .int .i64 e, .int .i64 k], .int .u64 (h0 : Int), .string key] w (IsTr w) := by
  have hbw : Below w.heap.size w (w.alloc (.cells #[.slice A n c, .int .i64 e, .int .i64 k] 24)) := (Below.refl _ _).alloc (Nat.le_refl _) _
  have hkk : Blk (w.alloc (.cells #[.slice A n c, .int .i64 e, .int .i64 k] 24)) w.heap.size 24 #[.slice A n c, .int .i64 e, .int .i64 k] := Blk.new _ _ _
  obtain ⟨W0, hW0⟩ : ∃ W0, w.alloc (.cells #[.slice A n c, .int .i64 e, .int .i64 k] 24) = W0 := ⟨_, rfl⟩
  have HW0 := Lib.hid hW0
  rw [hW0] at hbw hkk
  have HBW := Lib.hid hbw
  have HKK := Lib.hid hkk
  have hrow : ∀ W, Below W0.heap.size W0 W → Row W W.heap.size A (ns.map iV) := fun W hb => (h.below (hbw.trans (hb.mono hbw.size))).more (Nat.le_trans hbw.size hb.size)
  have HROW := Lib.hid hrow
  have HN := Lib.hid hn
  clear h hn hW0 hbw hkk hrow
  have HB0 := Lib.hid (Below.refl W0.heap.size W0)
  have c0 : W0.cell? ⟨w.heap.size, 0, none⟩ = some (.slice A n c) := (HKK.out).cell 0
  have c1 : W0.cell? ⟨w.heap.size, 1, none⟩ = some (.int .i64 e) := (HKK.out).cell 1
  have c2 : W0.cell? ⟨w.heap.size, 2, none⟩ = some (.int .i64 k) := (HKK.out).cell 2
  go_enter Try.func3, Try.ntmps3
  go_wp2_with fail
  rw [HW0.out]
  refine (long_any A n c e k W0).mono ?_
  rintro e1 w1 ⟨b, rfl, hb12, hb1⟩
  have HB1 := Lib.hid hb1
  have HB12 := Lib.hid hb12
  clear c0 c1 c2 hb1 hb12

  have c0 : w1.cell? ⟨w.heap.size, 0, none⟩ = some (.slice A n c) := (HKK.out.below HB1.out HKK.out.lt).cell 0
  have c1 : w1.cell? ⟨w.heap.size, 1, none⟩ = some (.int .i64 e) := (HKK.out.below HB1.out HKK.out.lt).cell 1
  have c2 : w1.cell? ⟨w.heap.size, 2, none⟩ = some (.int .i64 k) := (HKK.out.below HB1.out HKK.out.lt).cell 2
  rcases b with _ | _
  rotate_left
  · skip
    go_wp2_with (go_at_call 11; refine (known_any _).mono ?_; rintro e2 w2 ⟨rfl, hb2⟩)
    go_ret
    exact ⟨rfl, HBW.out.trans ((HB1.out.trans (hb2.mono HB1.out.size)).mono HBW.out.size)⟩
  have HN12 := Lib.hid (HB12.out rfl)
  by_cases hkey : (300 : Int) < (key.size : Int)
  · skip
    go_wp2_with (go_at_call 11; refine (known_any _).mono ?_; rintro e2 w2 ⟨rfl, hb2⟩)
    go_ret
    exact ⟨rfl, HBW.out.trans ((HB1.out.trans (hb2.mono HB1.out.size)).mono HBW.out.size)⟩
  have HKS : Hid (key.size ≤ 100000) := Lib.hid (by omega)
  by_cases ok : OkR ns e k
  · skip
    obtain ⟨en, rfl⟩ : ∃ en : Nat, e = (en : Int) := ⟨e.toNat, by have := ok.2.2.1; omega⟩
    obtain ⟨kn, rfl⟩ : ∃ kn : Nat, k = (kn : Int) := ⟨k.toNat, by have := ok.2.2.2.2.1; omega⟩
    have HOK := Lib.hid ok
    have HPL := Lib.hid (pts_len_ok ok)
    have HKA := Lib.hid (keepP_len fP ns (pts_len_ok ok).2.2.1 en (pts_len_ok ok).2.2.2.2.2.2 h0 kn (pts_len_ok ok).2.2.2.2.2.1)
    have HKB := Lib.hid (keepP_len fP ns (pts_len_ok ok).2.2.1 en (pts_len_ok ok).2.2.2.2.2.2 (keyN (kb key)) kn (pts_len_ok ok).2.2.2.2.2.1)
    clear ok
    go_wp2_with fail
    refine (at_ok A n c ns en kn h0 HN.out HOK.out _ (HROW.out _ HB1.out)).mono ?_
    rintro e2 w2 ⟨A2, k2, rfl, hoa, hb2⟩
    have HB2 := Lib.hid (HB1.out.trans (hb2.mono HB1.out.size))
    have HOA := Lib.hid hoa
    clear c0 c1 c2 hb2 hoa
    have c0 : w2.cell? ⟨w.heap.size, 0, none⟩ = some (.slice A n c) := (HKK.out.below HB2.out HKK.out.lt).cell 0
    have c1 : w2.cell? ⟨w.heap.size, 1, none⟩ = some (.int .i64 (en : Int)) := (HKK.out.below HB2.out HKK.out.lt).cell 1
    have c2 : w2.cell? ⟨w.heap.size, 2, none⟩ = some (.int .i64 (kn : Int)) := (HKK.out.below HB2.out HKK.out.lt).cell 2
    go_wp2_with fail
    refine (keepers_ok A n c ns en kn key HKS.out HN.out HOK.out _ (HROW.out _ HB2.out)).mono ?_
    rintro e3 w3 ⟨A3, k3, rfl, hob, hb3⟩
    have HB3 := Lib.hid (HB2.out.trans (hb3.mono HB2.out.size))
    replace HOA := Lib.hid (own_later HOA.out hb3)
    have HOB := Lib.hid hob
    clear c0 c1 c2 hb3 hob
    have c0 : w3.cell? ⟨w.heap.size, 0, none⟩ = some (.slice A n c) := (HKK.out.below HB3.out HKK.out.lt).cell 0
    have c1 : w3.cell? ⟨w.heap.size, 1, none⟩ = some (.int .i64 (en : Int)) := (HKK.out.below HB3.out HKK.out.lt).cell 1
    have c2 : w3.cell? ⟨w.heap.size, 2, none⟩ = some (.int .i64 (kn : Int)) := (HKK.out.below HB3.out HKK.out.lt).cell 2
    go_wp2_with fail
    refine (segr_ok A n c ns en kn h0 HN.out HOK.out _ (HROW.out _ HB3.out)).mono ?_
    rintro e4 w4 ⟨rfl, hb4⟩
    have HB4 := Lib.hid (HB3.out.trans (hb4.mono HB3.out.size))
    replace HOA := Lib.hid (own_later HOA.out hb4)
    replace HOB := Lib.hid (own_later HOB.out hb4)
    clear c0 c1 c2 hb4
    have c0 : w4.cell? ⟨w.heap.size, 0, none⟩ = some (.slice A n c) := (HKK.out.below HB4.out HKK.out.lt).cell 0
    have c1 : w4.cell? ⟨w.heap.size, 1, none⟩ = some (.int .i64 (en : Int)) := (HKK.out.below HB4.out HKK.out.lt).cell 1
    have c2 : w4.cell? ⟨w.heap.size, 2, none⟩ = some (.int .i64 (kn : Int)) := (HKK.out.below HB4.out HKK.out.lt).cell 2
    go_wp2_with fail
    refine (refcheck_any A n c ns en kn HN.out hl _ (HROW.out _ HB4.out)).mono ?_
    rintro e5 w5 ⟨⟨q, rfl, hq, _⟩, hb5⟩
    have HB5 := Lib.hid (HB4.out.trans (hb5.mono HB4.out.size))
    replace HOA := Lib.hid (own_later HOA.out hb5)
    replace HOB := Lib.hid (own_later HOB.out hb5)
    clear c0 c1 c2 hb5
    have c0 : w5.cell? ⟨w.heap.size, 0, none⟩ = some (.slice A n c) := (HKK.out.below HB5.out HKK.out.lt).cell 0
    have c1 : w5.cell? ⟨w.heap.size, 1, none⟩ = some (.int .i64 (en : Int)) := (HKK.out.below HB5.out HKK.out.lt).cell 1
    have c2 : w5.cell? ⟨w.heap.size, 2, none⟩ = some (.int .i64 (kn : Int)) := (HKK.out.below HB5.out HKK.out.lt).cell 2
    obtain rfl : q = 0 := hq HOK.out
    clear hq
    go_wp2_with fail
    refine (check_ok A n c ns en kn HN.out HOK.out _ (HROW.out _ HB5.out)).mono ?_
    rintro e6 w6 ⟨rfl, hb6⟩
    have HB6 := Lib.hid (HB5.out.trans (hb6.mono HB5.out.size))
    replace HOA := Lib.hid (own_later HOA.out hb6)
    replace HOB := Lib.hid (own_later HOB.out hb6)
    clear c0 c1 c2 hb6
    have c0 : w6.cell? ⟨w.heap.size, 0, none⟩ = some (.slice A n c) := (HKK.out.below HB6.out HKK.out.lt).cell 0
    have c1 : w6.cell? ⟨w.heap.size, 1, none⟩ = some (.int .i64 (en : Int)) := (HKK.out.below HB6.out HKK.out.lt).cell 1
    have c2 : w6.cell? ⟨w.heap.size, 2, none⟩ = some (.int .i64 (kn : Int)) := (HKK.out.below HB6.out HKK.out.lt).cell 2
    go_wp2_with fail
    refine (refat_ok A n c ns en kn h0 HN.out HOK.out _ (HROW.out _ HB6.out)).mono ?_
    rintro e7 w7 ⟨A7, k7, rfl, hoc, hb7⟩
    have HB7 := Lib.hid (HB6.out.trans (hb7.mono HB6.out.size))
    replace HOA := Lib.hid (own_later HOA.out hb7)
    replace HOB := Lib.hid (own_later HOB.out hb7)
    have HOC := Lib.hid hoc
    clear c0 c1 c2 hb7 hoc
    have c0 : w7.cell? ⟨w.heap.size, 0, none⟩ = some (.slice A n c) := (HKK.out.below HB7.out HKK.out.lt).cell 0
    have c1 : w7.cell? ⟨w.heap.size, 1, none⟩ = some (.int .i64 (en : Int)) := (HKK.out.below HB7.out HKK.out.lt).cell 1
    have c2 : w7.cell? ⟨w.heap.size, 2, none⟩ = some (.int .i64 (kn : Int)) := (HKK.out.below HB7.out HKK.out.lt).cell 2
    have HS1 := Lib.hid (sameints_true _ _ k2 k7 _ _ A2 A7 (keepP (ptsP fP ns en) h0 kn) w7 (ownRow HOA.out) (ownRow HOC.out) rfl rfl (by rw [HKA.out]; have := HPL.out; omega))
    go_wp2_with fail
    refine HS1.out.mono ?_
    rintro e8 w8 ⟨rfl, q8, hq8⟩
    have hb8 : Below w7.heap.size w7 w8 := by rw [hq8]; exact below_drew' _ _ _
    clear hq8
    have HB8 := Lib.hid (HB7.out.trans (hb8.mono HB7.out.size))
    replace HOA := Lib.hid (own_later HOA.out hb8)
    replace HOB := Lib.hid (own_later HOB.out hb8)
    replace HOC := Lib.hid (own_later HOC.out hb8)
    clear c0 c1 c2 hb8
    have c0 : w8.cell? ⟨w.heap.size, 0, none⟩ = some (.slice A n c) := (HKK.out.below HB8.out HKK.out.lt).cell 0
    have c1 : w8.cell? ⟨w.heap.size, 1, none⟩ = some (.int .i64 (en : Int)) := (HKK.out.below HB8.out HKK.out.lt).cell 1
    have c2 : w8.cell? ⟨w.heap.size, 2, none⟩ = some (.int .i64 (kn : Int)) := (HKK.out.below HB8.out HKK.out.lt).cell 2
    go_wp2_with fail
    refine (refkeepers_ok A n c ns en kn key HKS.out HN.out HOK.out _ (HROW.out _ HB8.out)).mono ?_
    rintro e9 w9 ⟨A9, k9, rfl, hod, hb9⟩
    have HB9 := Lib.hid (HB8.out.trans (hb9.mono HB8.out.size))
    replace HOA := Lib.hid (own_later HOA.out hb9)
    replace HOB := Lib.hid (own_later HOB.out hb9)
    replace HOC := Lib.hid (own_later HOC.out hb9)
    have HOD := Lib.hid hod
    clear c0 c1 c2 hb9 hod
    have c0 : w9.cell? ⟨w.heap.size, 0, none⟩ = some (.slice A n c) := (HKK.out.below HB9.out HKK.out.lt).cell 0
    have c1 : w9.cell? ⟨w.heap.size, 1, none⟩ = some (.int .i64 (en : Int)) := (HKK.out.below HB9.out HKK.out.lt).cell 1
    have c2 : w9.cell? ⟨w.heap.size, 2, none⟩ = some (.int .i64 (kn : Int)) := (HKK.out.below HB9.out HKK.out.lt).cell 2
    have HS2 := Lib.hid (sameints_true _ _ k3 k9 _ _ A3 A9 (keepP (ptsP fP ns en) (keyN (kb key)) kn) w9 (ownRow HOB.out) (ownRow HOD.out) rfl rfl (by rw [HKB.out]; have := HPL.out; omega))
    go_wp2_with fail
    refine HS2.out.mono ?_
    rintro e10 w10 ⟨rfl, q10, hq10⟩
    have hb10 : Below w9.heap.size w9 w10 := by rw [hq10]; exact below_drew' _ _ _
    clear hq10
    have HB10 := Lib.hid (HB9.out.trans (hb10.mono HB9.out.size))
    replace HOA := Lib.hid (own_later HOA.out hb10)
    replace HOB := Lib.hid (own_later HOB.out hb10)
    replace HOC := Lib.hid (own_later HOC.out hb10)
    replace HOD := Lib.hid (own_later HOD.out hb10)
    clear c0 c1 c2 hb10
    have c0 : w10.cell? ⟨w.heap.size, 0, none⟩ = some (.slice A n c) := (HKK.out.below HB10.out HKK.out.lt).cell 0
    have c1 : w10.cell? ⟨w.heap.size, 1, none⟩ = some (.int .i64 (en : Int)) := (HKK.out.below HB10.out HKK.out.lt).cell 1
    have c2 : w10.cell? ⟨w.heap.size, 2, none⟩ = some (.int .i64 (kn : Int)) := (HKK.out.below HB10.out HKK.out.lt).cell 2
    go_wp2_with fail
    refine (refpoints_ok A n c ns en kn HN.out HOK.out _ (HROW.out _ HB10.out)).mono ?_
    rintro e11 w11 ⟨A11, k11, rfl, hrp, hb11⟩
    have HB11 := Lib.hid (HB10.out.trans (hb11.mono HB10.out.size))
    clear c0 c1 c2 hb11
    have c0 : w11.cell? ⟨w.heap.size, 0, none⟩ = some (.slice A n c) := (HKK.out.below HB11.out HKK.out.lt).cell 0
    have c1 : w11.cell? ⟨w.heap.size, 1, none⟩ = some (.int .i64 (en : Int)) := (HKK.out.below HB11.out HKK.out.lt).cell 1
    have c2 : w11.cell? ⟨w.heap.size, 2, none⟩ = some (.int .i64 (kn : Int)) := (HKK.out.below HB11.out HKK.out.lt).cell 2
    have HRP := Lib.hid hrp
    clear hrp
    go_wp2_with fail
    refine (reffirst_any (ptsP fP ns en) (ptsP_sl _ _ _) h0 _ _ k11 A11 rfl HPL.out.2.1 (by have := HPL.out.1; omega) w11 HRP.out).mono ?_
    rintro e12 w12 ⟨rfl, rfl⟩
    have hbe : (((firstP (ptsP fP ns en) h0 : Nat) : Int) == ((firstP (ptsP fP ns en) h0 : Nat) : Int)) = true := by simp
    go_wp2_with (go_at_call 11; refine (known_any _).mono ?_; rintro e12 w12 ⟨rfl, hb12⟩)
    go_ret
    exact ⟨rfl, HBW.out.trans ((HB11.out.trans (hb12.mono HB11.out.size)).mono HBW.out.size)⟩
  · have HOK := Lib.hid ok
    clear ok
    go_wp2_with fail
    refine (at_bad A n c ns e k h0 HN.out hl HOK.out _ (HROW.out _ HB1.out)).mono ?_
    rintro e2 w2 ⟨rfl, hb2⟩
    have HB2 := Lib.hid (HB1.out.trans (hb2.mono HB1.out.size))
    clear c0 c1 c2 hb2
    have c0 : w2.cell? ⟨w.heap.size, 0, none⟩ = some (.slice A n c) := (HKK.out.below HB2.out HKK.out.lt).cell 0
    have c1 : w2.cell? ⟨w.heap.size, 1, none⟩ = some (.int .i64 e) := (HKK.out.below HB2.out HKK.out.lt).cell 1
    have c2 : w2.cell? ⟨w.heap.size, 2, none⟩ = some (.int .i64 k) := (HKK.out.below HB2.out HKK.out.lt).cell 2
    go_wp2_with fail
    refine (keepers_bad A n c ns e k key HKS.out HN.out hl HOK.out _ (HROW.out _ HB2.out)).mono ?_
    rintro e3 w3 ⟨rfl, hb3⟩
    have HB3 := Lib.hid (HB2.out.trans (hb3.mono HB2.out.size))
    clear c0 c1 c2 hb3
    have c0 : w3.cell? ⟨w.heap.size, 0, none⟩ = some (.slice A n c) := (HKK.out.below HB3.out HKK.out.lt).cell 0
    have c1 : w3.cell? ⟨w.heap.size, 1, none⟩ = some (.int .i64 e) := (HKK.out.below HB3.out HKK.out.lt).cell 1
    have c2 : w3.cell? ⟨w.heap.size, 2, none⟩ = some (.int .i64 k) := (HKK.out.below HB3.out HKK.out.lt).cell 2
    go_wp2_with fail
    refine (segr_bad A n c ns e k h0 HN.out hl HOK.out _ (HROW.out _ HB3.out)).mono ?_
    rintro e4 w4 ⟨rfl, hb4⟩
    have HB4 := Lib.hid (HB3.out.trans (hb4.mono HB3.out.size))
    clear c0 c1 c2 hb4
    have c0 : w4.cell? ⟨w.heap.size, 0, none⟩ = some (.slice A n c) := (HKK.out.below HB4.out HKK.out.lt).cell 0
    have c1 : w4.cell? ⟨w.heap.size, 1, none⟩ = some (.int .i64 e) := (HKK.out.below HB4.out HKK.out.lt).cell 1
    have c2 : w4.cell? ⟨w.heap.size, 2, none⟩ = some (.int .i64 k) := (HKK.out.below HB4.out HKK.out.lt).cell 2
    go_wp2_with fail
    refine (refcheck_any A n c ns e k HN.out hl _ (HROW.out _ HB4.out)).mono ?_
    rintro e5 w5 ⟨⟨q, rfl, _, hq⟩, hb5⟩
    have HB5 := Lib.hid (HB4.out.trans (hb5.mono HB4.out.size))
    clear c0 c1 c2 hb5
    have c0 : w5.cell? ⟨w.heap.size, 0, none⟩ = some (.slice A n c) := (HKK.out.below HB5.out HKK.out.lt).cell 0
    have c1 : w5.cell? ⟨w.heap.size, 1, none⟩ = some (.int .i64 e) := (HKK.out.below HB5.out HKK.out.lt).cell 1
    have c2 : w5.cell? ⟨w.heap.size, 2, none⟩ = some (.int .i64 k) := (HKK.out.below HB5.out HKK.out.lt).cell 2
    obtain rfl : q = 2 := hq HOK.out
    clear hq
    go_wp2_with fail
    refine (check_bad A n c ns e k HN.out hl HOK.out _ (HROW.out _ HB5.out)).mono ?_
    rintro e6 w6 ⟨rfl, hb6⟩
    have HB6 := Lib.hid (HB5.out.trans (hb6.mono HB5.out.size))
    clear c0 c1 c2 hb6
    have c0 : w6.cell? ⟨w.heap.size, 0, none⟩ = some (.slice A n c) := (HKK.out.below HB6.out HKK.out.lt).cell 0
    have c1 : w6.cell? ⟨w.heap.size, 1, none⟩ = some (.int .i64 e) := (HKK.out.below HB6.out HKK.out.lt).cell 1
    have c2 : w6.cell? ⟨w.heap.size, 2, none⟩ = some (.int .i64 k) := (HKK.out.below HB6.out HKK.out.lt).cell 2
    go_wp2_with (go_at_call 11; refine (known_any _).mono ?_; rintro e7 w7 ⟨rfl, hb7⟩)
    go_ret
    exact ⟨rfl, HBW.out.trans ((HB6.out.trans (hb7.mono HB6.out.size)).mono HBW.out.size)⟩
end Go.Proofs.Ythnfinnlnkjomaa
