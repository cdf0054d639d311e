/- The law FramesScans, walked. -/
import Derived.Test.YtpccppdakmpchaaSame5
namespace Go.Proofs.Ytpccppdakmpchaa
open Go.RowKit Mem Be Word Frm
set_option maxRecDepth 100000
set_option maxHeartbeats 2000000
set_option linter.unusedVariables false
theorem same_true (B B' c c' n n' : Nat) (A A' : Option Addr) (xs : List UInt8) (w : World) (h : Row w B A (xs.map byteV)) (h' : Row w B' A' (xs.map byteV)) (hn : n = xs.length) (hn' : n' = xs.length) :
    Calls Try.prog 14 #[.slice A n c, .slice A' n' c'] w fun e w' => e = .returned (.bool true) ∧ w = w' := by
  have := same_any B B' c c' n n' A A' xs xs w h h' hn hn'
  rw [show (xs == xs) = true by simp] at this
  exact this
/-- Records that are the same lie the same. -/
theorem refsame5_true (n m c d : Nat) (A A' : Option Addr) (rs ss : List RecV) (hn : n = rs.length) (hm : m = ss.length) (he : rs.map rcOf = ss.map rcOf) (w : World) (h : Row w w.heap.size A (recsC rs)) (h' : Row w w.heap.size A' (recsC ss)) (hr : Recs_ w rs) (hs : Recs_ w ss) (hnm : n ≤ 1073741824) :
    Calls Try.prog 22 #[.slice A n c, .slice A' m d] w (IsT true w) := by
  have := refsame5_any n m c d A A' rs ss hn hm w h h' hr hs hnm
  rw [decide_eq_true he] at this
  exact this
theorem scan_len (bs : List UInt8) : (scanS bs).1.length * 10 ≤ bs.length := by
  have h1 := long_many (scanS bs).1
  have h2 := scan_back _ bs (Nat.le_refl _)
  unfold longN at h1
  omega
/-- A first frame that is there. -/
def NextQ (kk : UInt8) (ys : List UInt8) (Z : Nat) (w : World) (e : Ending) (w' : World) : Prop :=
  ∃ A c, e = .returned (.tuple #[.int .u8 (kk.toNat : Int), .slice A ys.length c, .int .i64 (Z : Int), .int .i64 0]) ∧
      w'.ownsRow w.heap.size 5 1 (.slice A ys.length c) ys.length (ys.map byteV) ∧ Below w.heap.size w w'
theorem nextQ_of {kk : UInt8} {ys : List UInt8} {Z : Nat} (hZ : ys.length + 10 = Z) {w : World} {e : Ending} {w' : World} (h : NextP (.ok (kk, ys)) w e w') : NextQ kk ys Z w e w' := by
  subst hZ; exact h
theorem map_len {rs : List RecV} {l : List Rc} (h : rs.map rcOf = l) : rs.length = l.length := by rw [← h, List.length_map]
theorem scans_walk (A : Option Addr) (bs : List UInt8) (n c : Nat) (hn : n = bs.length) (hc : n ≤ c) (w : World) (h : Row w w.heap.size A (bs.map byteV)) :
    Calls Try.prog 4 #[.slice A n c] w (IsT true w) := by
  by_cases h15 : 1500 < n
  · have hg : (1500 : Int) < (n : Int) := by omega
    clear h hn h15 hc
    go_enter Try.func4, Try.ntmps4
    go_wp2_with (go_at_call 11; refine (known5_any _).mono ?_; rintro e w' ⟨rfl, hb⟩; have HB := Lib.hid hb; clear hb)
    go_ret
    exact ⟨rfl, HB.out⟩
  have hg : (n : Int) ≤ 1500 := by omega
  have hsl := scan_len bs
  have HROW : Hid (∀ W, Below w.heap.size w W → Row W W.heap.size A (bs.map byteV)) := Lib.hid fun W hb => (h.below hb).more hb.size
  have HS1 : Hid (∀ W, Below w.heap.size w W → Calls Try.prog 18 #[.slice A n c] W (ScanP (scanS bs) W)) := Lib.hid fun W hb => scan_any _ c n A bs hn hc W (HROW.out W hb) (Nat.le_refl _) (by omega)
  have HS2 : Hid (∀ W, Below w.heap.size w W → Calls Try.prog 19 #[.slice A n c] W (ScanP (scanS bs) W)) := Lib.hid fun W hb => refscan_any n _ c n A bs (Nat.le_refl _) hn hc W (HROW.out W hb) (Nat.le_refl _) (by omega)
  have HN1 : Hid (∀ W, Below w.heap.size w W → Calls Try.prog 20 #[.slice A n c] W (NextP (nextS bs) W)) := Lib.hid fun W hb => next_any _ c n A bs hn hc W (HROW.out W hb) (Nat.le_refl _) (by omega)
  have HN2 : Hid (∀ W, Below w.heap.size w W → Calls Try.prog 21 #[.slice A n c] W (NextP (nextS bs) W)) := Lib.hid fun W hb => refnext_any _ c n A bs hn hc W (HROW.out W hb) (Nat.le_refl _) (by omega)
  have hn15 : n ≤ 1500 := by omega
  rw [← hn] at hsl
  obtain ⟨⟨l0, a0, e0⟩, hs⟩ : ∃ s, scanS bs = s := ⟨_, rfl⟩
  rw [hs] at HS1 HS2 hsl
  simp only at hsl
  have HSL : Hid (l0.length ≤ 1073741824) := Lib.hid (by omega)
  obtain ⟨nx, hnx⟩ : ∃ x, nextS bs = x := ⟨_, rfl⟩
  rw [hnx] at HN1 HN2
  clear h hn hc h15 hs hnx hsl
  go_enter Try.func4, Try.ntmps4
  go_wp2_with fail
  refine (HS1.out w (Below.refl _ _)).mono ?_
  rintro e w1 ⟨rs1, A1, c1, hm1, rfl, ho1, hr1, hb1⟩
  have HB1 := Lib.hid hb1
  have HO1 := Lib.hid ho1
  have HR1 := Lib.hid hr1
  have HM1 := Lib.hid hm1
  simp only
  clear hm1 ho1 hr1 hb1 HS1
  go_wp2_with fail
  refine (HS2.out w1 HB1.out).mono ?_
  rintro e w2 ⟨rs2, A2, c2, hm2, rfl, ho2, hr2, hb2⟩
  have HB2 := Lib.hid (HB1.out.trans (hb2.mono HB1.out.size))
  have HO1 := Lib.hid (ownLater HO1.out hb2)
  have HR1 := Lib.hid (recsO_below HR1.out hb2)
  have HO2 := Lib.hid ho2
  have HR2 := Lib.hid hr2
  have HM2 := Lib.hid hm2
  simp only
  clear hm2 ho2 hr2 hb2 HS2
  cases nx with
  | bad x0 =>
    go_wp2_with fail
    refine (HN1.out w2 HB2.out).mono ?_
    rintro e w3 ⟨rfl, hb3⟩
    have HB3 := Lib.hid (HB2.out.trans (hb3.mono HB2.out.size))
    have HO1 := Lib.hid (ownLater HO1.out hb3)
    have HR1 := Lib.hid (recsO_below HR1.out hb3)
    have HO2 := Lib.hid (ownLater HO2.out hb3)
    have HR2 := Lib.hid (recsO_below HR2.out hb3)
    clear hb3 HN1
    go_wp2_with fail
    refine (HN2.out w3 HB3.out).mono ?_
    rintro e w4 ⟨rfl, hb4⟩
    have HB4 := Lib.hid (HB3.out.trans (hb4.mono HB3.out.size))
    have HO1 := Lib.hid (ownLater HO1.out hb4)
    have HR1 := Lib.hid (recsO_below HR1.out hb4)
    have HO2 := Lib.hid (ownLater HO2.out hb4)
    have HR2 := Lib.hid (recsO_below HR2.out hb4)
    clear hb4 HN2
    go_wp2_with fail
    refine (refsame5_true rs1.length rs2.length c1 c2 A1 A2 rs1 rs2 rfl rfl (HM1.out.trans HM2.out.symm) _ (ownRow HO1.out) (ownRow HO2.out) (recsO_recs HR1.out) (recsO_recs HR2.out) (by rw [map_len HM1.out]; exact HSL.out)).mono ?_
    rintro e w5 ⟨rfl, hb5⟩
    have HB5 := Lib.hid (HB4.out.trans (hb5.mono HB4.out.size))
    clear hb5 HO1 HR1 HO2 HR2
    go_wp2_with fail
    refine (same_true w5.heap.size w5.heap.size _ _ 0 0 none none [] w5 (Row.nil _ _ _) (Row.nil _ _ _) rfl rfl).mono ?_
    rintro e w6 ⟨rfl, rfl⟩
    go_wp2_with fail
    refine (known5_any _).mono ?_
    rintro e w6 ⟨rfl, hb6⟩
    have HB6 := Lib.hid (HB5.out.trans (hb6.mono HB5.out.size))
    clear hb6
    go_wp2
    go_ret
    exact ⟨rfl, HB6.out⟩
  | ok r =>
    obtain ⟨kk, ys⟩ := r
    obtain ⟨Z, hZ⟩ : ∃ Z, ys.length + 10 = Z := ⟨_, rfl⟩
    have HZ := Lib.hid hZ
    clear hZ
    go_wp2_with fail
    refine (HN1.out w2 HB2.out).mono ?_
    intro e w3 hq
    obtain ⟨A3, c3, rfl, ho3, hb3⟩ := nextQ_of HZ.out hq
    clear hq
    have HB3 := Lib.hid (HB2.out.trans (hb3.mono HB2.out.size))
    have HO1 := Lib.hid (ownLater HO1.out hb3)
    have HR1 := Lib.hid (recsO_below HR1.out hb3)
    have HO2 := Lib.hid (ownLater HO2.out hb3)
    have HR2 := Lib.hid (recsO_below HR2.out hb3)
    have HO3 := Lib.hid ho3
    clear hb3 HN1 ho3
    go_wp2_with fail
    refine (HN2.out w3 HB3.out).mono ?_
    intro e w4 hq
    obtain ⟨A4, c4, rfl, ho4, hb4⟩ := nextQ_of HZ.out hq
    clear hq
    have HB4 := Lib.hid (HB3.out.trans (hb4.mono HB3.out.size))
    have HO1 := Lib.hid (ownLater HO1.out hb4)
    have HR1 := Lib.hid (recsO_below HR1.out hb4)
    have HO2 := Lib.hid (ownLater HO2.out hb4)
    have HR2 := Lib.hid (recsO_below HR2.out hb4)
    have HO3 := Lib.hid (ownLater HO3.out hb4)
    have HO4 := Lib.hid ho4
    clear hb4 HN2 ho4
    go_wp2_with fail
    refine (refsame5_true rs1.length rs2.length c1 c2 A1 A2 rs1 rs2 rfl rfl (HM1.out.trans HM2.out.symm) _ (ownRow HO1.out) (ownRow HO2.out) (recsO_recs HR1.out) (recsO_recs HR2.out) (by rw [map_len HM1.out]; exact HSL.out)).mono ?_
    rintro e w5 ⟨rfl, hb5⟩
    have HB5 := Lib.hid (HB4.out.trans (hb5.mono HB4.out.size))
    have HO3 := Lib.hid (ownLater HO3.out hb5)
    have HO4 := Lib.hid (ownLater HO4.out hb5)
    clear hb5 HO1 HR1 HO2 HR2
    go_wp2_with fail
    refine (same_true w5.heap.size w5.heap.size c3 c4 ys.length ys.length A3 A4 ys w5 (Row.of_own HO3.out) (Row.of_own HO4.out) rfl rfl).mono ?_
    rintro e w6 ⟨rfl, rfl⟩
    go_wp2_with fail
    refine (known5_any _).mono ?_
    rintro e w6 ⟨rfl, hb6⟩
    have HB6 := Lib.hid (HB5.out.trans (hb6.mono HB5.out.size))
    clear hb6
    go_wp2
    go_ret
    exact ⟨rfl, HB6.out⟩
end Go.Proofs.Ytpccppdakmpchaa
