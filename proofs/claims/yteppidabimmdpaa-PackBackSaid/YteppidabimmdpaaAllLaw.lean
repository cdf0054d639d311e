/- PackAll returns true, whatever the bytes; nothing that was there is changed. -/
import Derived.Test.YteppidabimmdpaaNums
import Derived.Test.YteppidabimmdpaaAllRows
namespace Go.Proofs.Yteppidabimmdpaa
open Go.RowKit Mem Be
set_option maxRecDepth 10000
set_option maxHeartbeats 2000000
theorem Rows2.below {w w' : World} {rs : List RowV} (h : ∀ x ∈ rs, Row w w.heap.size x.1 (x.2.1.map byteV)) (hb : Below w.heap.size w w') : ∀ x ∈ rs, Row w' w.heap.size x.1 (x.2.1.map byteV) := fun x hx => (h x hx).below hb
theorem all_len {α : Type} {get : List UInt8 → α × Nat × Int} (hg : Be.Good get) : ∀ (n : Nat) (bs : List UInt8), bs.length ≤ n → (allA get bs).1.length ≤ bs.length := by
  intro n
  induction n with
  | zero => intro bs h; rw [List.length_eq_zero_iff.1 (by omega : bs.length = 0)]; simp [all_nil]
  | succ n ih =>
    intro bs h
    by_cases h0 : bs.length = 0
    · rw [List.length_eq_zero_iff.1 h0]; simp [all_nil]
    · by_cases he : (get bs).2.2 = 0
      · have hk := hg bs he
        have := ih (bs.drop (get bs).2.1) (by rw [List.length_drop]; omega)
        rw [List.length_drop] at this
        rw [all_step hg bs h0 he]
        unfold cons1
        by_cases h3 : (allA get (bs.drop (get bs).2.1)).2 = 0
        · rw [if_pos h3]; simp only [List.length_cons]; omega
        · rw [if_neg h3]; simp
      · rw [all_err bs h0 he]; simp
theorem all_walk (A : Option Addr) (bs : List UInt8) (m c : Nat) (hm : m = bs.length) (hc : m ≤ c) (w : World) (h : Row w w.heap.size A (bs.map byteV)) :
    Calls Try.prog 4 #[.slice A m c] w fun e w' => e = .returned (.bool true) ∧ Below w.heap.size w w' := by
  subst hm
  by_cases h2 : 500 < bs.length
  · have hg : (500 : Int) < (bs.length : Int) := by omega
    clear h h2 hc
    go_enter Try.func4, Try.ntmps4
    go_wp2_with (go_at_call 10; refine (known_any _).mono ?_; rintro e w' ⟨rfl, hb⟩; have HB := Lib.hid hb; clear hb)
    go_ret
    exact ⟨rfl, HB.out⟩
  · have hg : (bs.length : Int) ≤ 500 := by omega
    have hl : bs.length ≤ 1000000 := by omega
    have HR := Lib.hid h
    have HC := Lib.hid hc
    obtain ⟨rn, hrn⟩ : ∃ rn, allA getN bs = rn := ⟨_, rfl⟩
    obtain ⟨rr, hrr⟩ : ∃ rr, allA getR bs = rr := ⟨_, rfl⟩
    have L1 : Hid (rn.1.length ≤ 1000000) := Lib.hid (by rw [← hrn]; have := all_len good_num _ bs (Nat.le_refl _); omega)
    have L2 : Hid (rr.1.length ≤ 1000000) := Lib.hid (by rw [← hrr]; have := all_len good_row _ bs (Nat.le_refl _); omega)
    have HN := Lib.hid hrn
    have HRR := Lib.hid hrr
    clear h h2 hc hrn hrr
    go_enter Try.func4, Try.ntmps4
    go_wp2_with fail
    refine (nums_any _ c _ A bs rfl _ HR.out (Nat.le_refl _) hl).mono ?_
    rw [HN.out]
    rintro e w1 ⟨A1, c1, rfl, ho, hb⟩
    have HB1 := Lib.hid hb
    have HR1 := Lib.hid (Row.of_own ho)
    clear ho hb
    go_wp2_with fail
    refine (refnums_any _ c _ A bs rfl _ (HR.out.below HB1.out) HB1.out.size hl).mono ?_
    rw [HN.out]
    rintro e w2 ⟨A2, c2, rfl, ho, hb⟩
    have HB2 : Hid (Below w.heap.size w w2) := Lib.hid (HB1.out.trans (hb.mono HB1.out.size))
    have HR1b := Lib.hid (HR1.out.below hb)
    have HR2 := Lib.hid (Row.of_own ho)
    have HS1 := Lib.hid hb.size
    clear ho hb
    go_wp2_with fail
    refine (rows_any _ c _ A bs rfl _ (HR.out.below HB2.out) HB2.out.size hl).mono ?_
    rw [HRR.out]
    rintro e w3 ⟨A3, c3, rs3, rfl, hm3, ho, hb, hx3⟩
    have HB3 : Hid (Below w.heap.size w w3) := Lib.hid (HB2.out.trans (hb.mono HB2.out.size))
    have HR1c := Lib.hid (HR1b.out.below (hb.mono HS1.out))
    have HR2c := Lib.hid (HR2.out.below hb)
    have HR3 := Lib.hid (Row.of_own ho)
    have HM3 := Lib.hid hm3
    have HX3 := Lib.hid hx3
    have HS2 := Lib.hid hb.size
    clear ho hb hm3 hx3
    go_wp2_with fail
    refine (refrows_any _ c _ A bs rfl _ (HR.out.below HB3.out) HB3.out.size hl HC.out).mono ?_
    rw [HRR.out]
    rintro e w4 ⟨A4, c4, rs4, rfl, hm4, ho, hb, hx4⟩
    have HB4 : Hid (Below w.heap.size w w4) := Lib.hid (HB3.out.trans (hb.mono HB3.out.size))
    have HR1d := Lib.hid (HR1c.out.below (hb.mono (Nat.le_trans HS1.out HS2.out)))
    have HR2d := Lib.hid (HR2c.out.below (hb.mono HS2.out))
    have HR3d := Lib.hid (HR3.out.below hb)
    have HX3d : Hid (∀ x ∈ rs3, ∃ B, Row w4 B x.1 (x.2.1.map byteV)) := Lib.hid (fun x hx => ⟨_, (HX3.out x hx).below hb⟩)
    have HR4 := Lib.hid (Row.of_own ho)
    have HM4 := Lib.hid hm4
    have HX4 : Hid (∀ x ∈ rs4, ∃ B, Row w4 B x.1 (x.2.1.map byteV)) := Lib.hid (fun x hx => ⟨_, hx4 x hx⟩)
    clear ho hb hm4 hx4
    go_wp2_with fail
    refine (sameints_true _ _ _ _ _ _ _ _ rn.1 _ HR1d.out HR2d.out rfl rfl L1.out).mono ?_
    rintro e w5 ⟨rfl, hq⟩
    have HQ := Lib.hid hq
    have HB5 : Hid (Below w.heap.size w w5) := Lib.hid (HB4.out.trans (quiet_below hq))
    clear hq
    go_wp2_with fail
    refine (samelists_true _ _ _ _ _ _ _ _ rs3 rs4 _ (quiet_row HR3d.out HQ.out) (quiet_row HR4.out HQ.out) (by rw [HM3.out, HM4.out]) (fun x hx => by obtain ⟨B, h⟩ := HX3d.out x hx; exact ⟨B, quiet_row h HQ.out⟩) (fun x hx => by obtain ⟨B, h⟩ := HX4.out x hx; exact ⟨B, quiet_row h HQ.out⟩) rfl rfl (by have h1 := L2.out; have h2 := congrArg List.length HM3.out; simp at h2; omega)).mono ?_
    rintro e w6 ⟨rfl, hq⟩
    have HB6 : Hid (Below w.heap.size w w6) := Lib.hid (HB5.out.trans (quiet_below hq))
    clear hq
    go_wp2_with fail
    refine (known_any _).mono ?_
    rintro e w7 ⟨rfl, hb⟩
    have HB7 : Hid (Below w.heap.size w w7) := Lib.hid (HB6.out.trans (hb.mono HB6.out.size))
    clear hb
    go_wp2
    go_ret
    exact ⟨rfl, HB7.out⟩
end Go.Proofs.Yteppidabimmdpaa
