/- PackOne, PackFails, PackMixed return true, whatever the input; nothing that was there is changed. -/
import Derived.Test.YteppidabimmdpaaReader2
namespace Go.Proofs.Yteppidabimmdpaa
open Go.RowKit Mem Be
set_option maxRecDepth 10000
set_option maxHeartbeats 2000000
theorem in_wf {a : Int} (h : (Lit.int .i64 a).wf = true) : In64 a := by
  have := bounds_i64 h
  unfold In64; omega
theorem own_below {w w' : World} {base : Nat} {e : TypeId} {v : Value} {n : Nat} {xs : List Value} (h : w.ownsRow base e 1 v n xs) (hb : Below w.heap.size w w') : w'.ownsRow base e 1 v n xs :=
  h.kept (grown_below hb (Nat.le_refl _) none) (by cases hv : v.ownBlock <;> simp)
theorem numB_inj (n m : Int) (hn : In64 n) (hm : In64 m) (h : numB n = numB m) : n = m := by
  have h1 := getN_num n hn []
  have h2 := getN_num m hm []
  rw [h, h2] at h1
  exact (Prod.mk.inj h1).1.symm
theorem same_false (B B' c c' n n' : Nat) (A A' : Option Addr) (xs ys : List UInt8) (hxy : xs ≠ ys) (w : World) (h : Row w B A (xs.map byteV)) (h' : Row w B' A' (ys.map byteV)) (hn : n = xs.length) (hn' : n' = ys.length) :
    Calls Try.prog 13 #[.slice A n c, .slice A' n' c'] w fun e w' => e = .returned (.bool false) ∧ w = w' :=
  (same_any B B' c c' n n' A A' xs ys w h h' hn hn').mono fun _ _ ⟨h1, h2⟩ => ⟨by rw [h1]; simp [hxy], h2⟩
theorem same_val (B B' c c' n n' : Nat) (A A' : Option Addr) (xs ys : List UInt8) (b : Bool) (hxy : (xs == ys) = b) (w : World) (h : Row w B A (xs.map byteV)) (h' : Row w B' A' (ys.map byteV)) (hn : n = xs.length) (hn' : n' = ys.length) :
    Calls Try.prog 13 #[.slice A n c, .slice A' n' c'] w fun e w' => e = .returned (.bool b) ∧ w = w' :=
  (same_any B B' c c' n n' A A' xs ys w h h' hn hn').mono fun _ _ ⟨h1, h2⟩ => ⟨by rw [h1, hxy], h2⟩
theorem num_eq (n m : Int) (hn : In64 n) (hm : In64 m) : (numB n == numB m) = (n == m) := by
  rw [Bool.eq_iff_iff]; simp only [beq_iff_eq]
  exact ⟨numB_inj n m hn hm, fun h => by rw [h]⟩
theorem step_num (n : Int) (hn : In64 n) (more : List UInt8) : stepN (numB n ++ more) 0 = (n, more, 0) := by
  unfold stepN; rw [if_pos rfl, getN_num n hn more]
  simp
theorem end_len (bs : List UInt8) : (endZ bs 0 == 0) = ((bs.length : Int) == 0) := by
  unfold endZ
  rw [if_pos rfl]
  by_cases h : bs.length = 0
  · rw [if_pos h, h]; rfl
  · rw [if_neg h, Bool.eq_iff_iff]; simp only [beq_iff_eq]; omega
theorem one_walk (n m : Int) (hn : In64 n) (hm : In64 m) (A : Option Addr) (bs : List UInt8) (k c : Nat) (hk : k = bs.length) (w : World) (h : Row w w.heap.size A (bs.map byteV)) :
    Calls Try.prog 6 #[.int .i64 n, .int .i64 m, .slice A k c] w fun e w' => e = .returned (.bool true) ∧ Below w.heap.size w w' := by
  subst hk
  by_cases h2 : 300 < bs.length
  · have hg : (300 : Int) < (bs.length : Int) := by omega
    clear h h2 hn hm
    go_enter Try.func6, Try.ntmps6
    go_wp2_with (go_at_call 10; refine (known_any _).mono ?_; rintro e w' ⟨rfl, hb⟩; have HB := Lib.hid hb; clear hb)
    go_ret
    exact ⟨rfl, HB.out⟩
  · have hg : (bs.length : Int) ≤ 300 := by omega
    have hl : bs.length ≤ 300 := by omega
    obtain ⟨i0, hi0, hz0, hz1, hz2⟩ := info_parts info_b
    have HR := Lib.hid h
    have HE := Lib.hid (num_eq n m hn hm)
    have HS := Lib.hid (step_num n hn bs)
    have hp := numB_pos n
    have hle := numB_le n
    have hp1 : (((numB n).length : Int) == 0) = false := by simp; exact List.ne_nil_of_length_pos hp
    have hle1 : ((numB n).length : Int) ≤ 9 := by omega
    have hXX : (numB n).map byteV ++ bs.map byteV = (numB n ++ bs).map byteV := by rw [List.map_append]
    have HX := Lib.hid hXX
    have hEE := end_len bs
    have HZ := Lib.hid hEE
    clear h h2 hn hm hp hXX hEE
    go_enter Try.func6, Try.ntmps6
    go_wp2_with fail
    refine (num_any n _).mono ?_
    rintro e w1 ⟨A1, c1, rfl, ho, hb⟩
    have HO1 := Lib.hid ho
    have HB1 := Lib.hid hb
    clear ho hb
    go_wp2_with fail
    refine (num_any m _).mono ?_
    rintro e w2 ⟨A2, c2, rfl, ho, hb⟩
    have HB2 : Hid (Below w.heap.size w w2) := Lib.hid (HB1.out.trans (hb.mono HB1.out.size))
    have HO1b := Lib.hid (own_below HO1.out hb)
    have HR2 := Lib.hid (Row.of_own ho)
    clear ho hb
    go_wp2_with fail
    refine (same_val _ _ _ _ _ _ _ _ (numB n) (numB m) _ HE.out _ (Row.of_own HO1b.out) HR2.out rfl rfl).mono ?_
    rintro e w' ⟨rfl, rfl⟩
    go_wp2_with (at_builtin; refine wpList_app _ rfl _ _ 22 rfl w.heap.size 5 i0 (.int .u8 0) 1 Try.underlying22 hi0 hz0 hz1 hz2 rfl _ _ _ rfl HO1b.out w.heap.size _ bs.length c (bs.map byteV) rfl (by simp) (HR.out.below HB2.out) (byte_one bs) (by unfold maxLen; omega) (by omega) HB2.out.size ?_)
    intro v' w3 hown hgr _
    have HB3 : Hid (Below w.heap.size w w3) := Lib.hid (HB2.out.grown hgr HB2.out.size (fun g hg => (HO1b.out.lt g hg).1))
    rw [HX.out] at hown
    obtain ⟨A3, c3, rfl, hr3⟩ : ∃ A3 c3, v' = .slice A3 (numB n ++ bs).length c3 ∧ Row w3 w3.heap.size A3 ((numB n ++ bs).map byteV) := by
      obtain ⟨A3, c3, he, ho, _⟩ := made_of hown rfl HB3.out
      injection he with he
      exact ⟨A3, c3, he, Row.of_own ho⟩
    have HR3 := Lib.hid hr3
    clear hown hgr hr3
    go_wp2_with fail
    refine (new_any _ c3 _ A3 (numB n ++ bs) (by simp) _ HR3.out (Nat.le_refl _) (by rw [List.length_append]; omega)).mono ?_
    rintro e w4 ⟨g, rfl, hg1, hrd, hb⟩
    have HB4 : Hid (Below w.heap.size w w4) := Lib.hid (HB3.out.trans (hb.mono HB3.out.size))
    have HG : Hid (w.heap.size ≤ g) := Lib.hid (Nat.le_trans HB3.out.size hg1)
    have HD := Lib.hid hrd
    clear hb hg1 hrd
    go_wp2_with fail
    refine (num_call g _ 0 _ HD.out).mono ?_
    rw [HS.out]
    rintro e w5 ⟨rfl, hrd, hgr⟩
    have HB5 : Hid (Below w.heap.size w w5) := Lib.hid (below_grown HB4.out hgr HB4.out.size HG.out)
    have HD5 := Lib.hid hrd
    clear hrd hgr
    go_wp2_with fail
    refine (left_any g _ 0 _ HD5.out).mono ?_
    rintro e w' ⟨rfl, rfl⟩
    go_wp2_with fail
    refine (end_any g _ 0 _ HD5.out).mono ?_
    rintro e w' ⟨rfl, rfl⟩
    have hEE := HZ.out
    go_wp2_with fail
    refine (known_any _).mono ?_
    rintro e w6 ⟨rfl, hb⟩
    have HB6 : Hid (Below w.heap.size w w6) := Lib.hid (HB5.out.trans (hb.mono HB5.out.size))
    clear hb
    go_wp2
    go_ret
    exact ⟨rfl, HB6.out⟩
theorem step_num_no (bs : List UInt8) (e : Int) (he : e ≠ 0) : stepN bs e = (0, bs, e) := if_neg he
theorem step_below_no (m : Int) (bs : List UInt8) (e : Int) (he : e ≠ 0) : stepB m bs e = (0, bs, e) := if_neg he
theorem step_row_no (bs : List UInt8) (e : Int) (he : e ≠ 0) : stepR bs e = ([], bs, e) := if_neg he
theorem step_truth_no (bs : List UInt8) (e : Int) (he : e ≠ 0) : stepT bs e = (false, bs, e) := if_neg he
theorem end_no (bs : List UInt8) (e : Int) (he : e ≠ 0) : endZ bs e = e := if_neg he
theorem fails_walk (A : Option Addr) (bs : List UInt8) (m c : Nat) (hm : m = bs.length) (d : Int) (hd0 : 0 ≤ d) (hd1 : d ≤ 255) (w : World) (h : Row w w.heap.size A (bs.map byteV)) :
    Calls Try.prog 7 #[.slice A m c, .int .u8 d] w fun e w' => e = .returned (.bool true) ∧ Below w.heap.size w w' := by
  subst hm
  by_cases h2 : 300 < bs.length
  · have hg : (300 : Int) < (bs.length : Int) := by omega
    clear h h2
    go_enter Try.func7, Try.ntmps7
    go_wp2_with (go_at_call 10; refine (known_any _).mono ?_; rintro e w' ⟨rfl, hb⟩; have HB := Lib.hid hb; clear hb)
    go_ret
    exact ⟨rfl, HB.out⟩
  · have hg : (bs.length : Int) ≤ 300 := by omega
    have hl : bs.length ≤ 1073741824 := by omega
    have HR := Lib.hid h
    clear h h2
    go_enter Try.func7, Try.ntmps7
    go_wp2_with fail
    refine (new_any _ c _ A bs rfl _ HR.out (Nat.le_refl _) hl).mono ?_
    rintro e w1 ⟨g, rfl, hg1, hrd, hb⟩
    have HB1 := Lib.hid hb
    have HG := Lib.hid hg1
    have HD1 := Lib.hid hrd
    clear hb hg1 hrd
    go_wp2_with fail
    go_loopw [6] (fun i wr => ∃ k : Nat, k ≤ 5 ∧ i = .int .i64 k ∧ (∃ bs' e', Rd wr g bs' e') ∧ Below w.heap.size w wr) (fun i _ => 5 - (intOf i).toNat)
    case atStart => exact ⟨0, by omega, rfl, ⟨_, _, HD1.out⟩, HB1.out⟩
    case round =>
      obtain ⟨k, hk, rfl, ⟨bs', e', hrd⟩, hb⟩ := hrel
      have HD := Lib.hid hrd
      have HB := Lib.hid hb
      clear hrd hb
      by_cases hlt : (k : Int) < d % 5
      · have hk5 : k < 5 := by omega
        go_wp2_with fail
        refine (num_call g _ _ _ HD.out).mono ?_
        rintro e w5 ⟨rfl, hrd, hgr⟩
        have HB5 : Hid (Below w.heap.size w w5) := Lib.hid (below_grown HB.out hgr HB.out.size HG.out)
        have HD5 := Lib.hid hrd
        clear hrd hgr
        go_wp2
        go_roundw
        case rel => exact ⟨k + 1, by omega, by go_num, ⟨_, _, HD5.out⟩, HB5.out⟩
        case measure => simp [intOf]; omega
      · have hge : d % 5 ≤ (k : Int) := by omega
        clear hlt
        by_cases he : e' = 0
        · subst he
          go_wp2_with fail
          refine (failed_no g _ _ HD.out).mono ?_
          rintro e w' ⟨rfl, rfl⟩
          go_wp2_with fail
          refine (end_any g _ 0 _ HD.out).mono ?_
          rintro e w' ⟨rfl, rfl⟩
          go_wp2_with fail
          refine (left_any g _ 0 _ HD.out).mono ?_
          rintro e w' ⟨rfl, rfl⟩
          go_wp2_with fail
          refine (fail_call g _ 0 _ HD.out).mono ?_
          rw [if_pos rfl]
          rintro e w2 ⟨rfl, hrd, hgr⟩
          have HB2 : Hid (Below w.heap.size w w2) := Lib.hid (below_grown HB.out hgr HB.out.size HG.out)
          have HD2 := Lib.hid hrd
          clear hrd hgr
          go_wp2_with fail
          refine (failed_yes g _ 11 (by decide) _ HD2.out).mono ?_
          rintro e w' ⟨rfl, rfl⟩
          go_wp2_with fail
          refine (end_any g _ 11 _ HD2.out).mono ?_
          rw [end_no _ 11 (by decide)]
          rintro e w' ⟨rfl, rfl⟩
          go_wp2_with fail
          refine (num_call g _ 11 _ HD2.out).mono ?_
          rw [step_num_no _ 11 (by decide)]
          rintro e w3 ⟨rfl, hrd, hgr⟩
          have HB3 : Hid (Below w.heap.size w w3) := Lib.hid (below_grown HB2.out hgr HB2.out.size HG.out)
          have HD3 := Lib.hid hrd
          clear hrd hgr
          go_wp2_with fail
          refine (row_call g _ 11 _ HD3.out).mono ?_
          rw [step_row_no _ 11 (by decide)]
          rintro e w4 ⟨A4, c4, rfl, ho, hrd, hgr⟩
          have HB4 : Hid (Below w.heap.size w w4) := Lib.hid (below_grown HB3.out hgr HB3.out.size HG.out)
          have HD4 := Lib.hid hrd
          clear hrd hgr ho
          go_wp2_with fail
          refine (truth_call g _ 11 _ HD4.out).mono ?_
          rw [step_truth_no _ 11 (by decide)]
          rintro e w5 ⟨rfl, hrd, hgr⟩
          have HB5 : Hid (Below w.heap.size w w5) := Lib.hid (below_grown HB4.out hgr HB4.out.size HG.out)
          have HD5 := Lib.hid hrd
          clear hrd hgr
          go_wp2_with fail
          refine (below_call g _ 9 11 _ HD5.out).mono ?_
          rw [step_below_no 9 _ 11 (by decide)]
          rintro e w6 ⟨rfl, hrd, hgr⟩
          have HB6 : Hid (Below w.heap.size w w6) := Lib.hid (below_grown HB5.out hgr HB5.out.size HG.out)
          have HD6 := Lib.hid hrd
          clear hrd hgr
          go_wp2_with fail
          refine (left_any g _ 11 _ HD6.out).mono ?_
          rintro e w' ⟨rfl, rfl⟩
          go_wp2_with fail
          refine (known_any _).mono ?_
          rintro e w7 ⟨rfl, hb⟩
          have HB7 : Hid (Below w.heap.size w w7) := Lib.hid (HB6.out.trans (hb.mono HB6.out.size))
          clear hb
          go_wp2
          go_ret
          exact ⟨rfl, HB7.out⟩
        · have HE := Lib.hid he
          clear he
          go_wp2_with fail
          refine (failed_yes g _ e' HE.out _ HD.out).mono ?_
          rintro e w' ⟨rfl, rfl⟩
          go_wp2_with fail
          refine (end_any g _ e' _ HD.out).mono ?_
          rw [end_no _ e' HE.out]
          rintro e w' ⟨rfl, rfl⟩
          go_wp2_with fail
          refine (left_any g _ e' _ HD.out).mono ?_
          rintro e w' ⟨rfl, rfl⟩
          go_wp2_with fail
          refine (fail_call g _ e' _ HD.out).mono ?_
          rw [if_neg HE.out]
          rintro e w2 ⟨rfl, hrd, hgr⟩
          have HB2 : Hid (Below w.heap.size w w2) := Lib.hid (below_grown HB.out hgr HB.out.size HG.out)
          have HD2 := Lib.hid hrd
          clear hrd hgr
          go_wp2_with fail
          refine (failed_yes g _ e' HE.out _ HD2.out).mono ?_
          rintro e w' ⟨rfl, rfl⟩
          go_wp2_with fail
          refine (end_any g _ e' _ HD2.out).mono ?_
          rw [end_no _ e' HE.out]
          rintro e w' ⟨rfl, rfl⟩
          go_wp2_with fail
          refine (num_call g _ e' _ HD2.out).mono ?_
          rw [step_num_no _ e' HE.out]
          rintro e w3 ⟨rfl, hrd, hgr⟩
          have HB3 : Hid (Below w.heap.size w w3) := Lib.hid (below_grown HB2.out hgr HB2.out.size HG.out)
          have HD3 := Lib.hid hrd
          clear hrd hgr
          go_wp2_with fail
          refine (row_call g _ e' _ HD3.out).mono ?_
          rw [step_row_no _ e' HE.out]
          rintro e w4 ⟨A4, c4, rfl, ho, hrd, hgr⟩
          have HB4 : Hid (Below w.heap.size w w4) := Lib.hid (below_grown HB3.out hgr HB3.out.size HG.out)
          have HD4 := Lib.hid hrd
          clear hrd hgr ho
          go_wp2_with fail
          refine (truth_call g _ e' _ HD4.out).mono ?_
          rw [step_truth_no _ e' HE.out]
          rintro e w5 ⟨rfl, hrd, hgr⟩
          have HB5 : Hid (Below w.heap.size w w5) := Lib.hid (below_grown HB4.out hgr HB4.out.size HG.out)
          have HD5 := Lib.hid hrd
          clear hrd hgr
          go_wp2_with fail
          refine (below_call g _ 9 e' _ HD5.out).mono ?_
          rw [step_below_no 9 _ e' HE.out]
          rintro e w6 ⟨rfl, hrd, hgr⟩
          have HB6 : Hid (Below w.heap.size w w6) := Lib.hid (below_grown HB5.out hgr HB5.out.size HG.out)
          have HD6 := Lib.hid hrd
          clear hrd hgr
          go_wp2_with fail
          refine (left_any g _ e' _ HD6.out).mono ?_
          rintro e w' ⟨rfl, rfl⟩
          go_wp2_with fail
          refine (known_any _).mono ?_
          rintro e w7 ⟨rfl, hb⟩
          have HB7 : Hid (Below w.heap.size w w7) := Lib.hid (HB6.out.trans (hb.mono HB6.out.size))
          clear hb
          go_wp2
          go_ret
          exact ⟨rfl, HB7.out⟩
theorem getR_row (x rest : List UInt8) (h : x.length ≤ 65536) : getR (rowB x ++ rest) = (x, (rowB x).length, 0) := by
  have hin : In64 (x.length : Int) := by unfold In64; omega
  have hg := getN_num (x.length : Int) hin (x ++ rest)
  rw [← List.append_assoc] at hg
  have hb : numB (x.length : Int) ++ x = rowB x := rfl
  rw [hb] at hg
  unfold getR
  rw [hg]
  simp only
  rw [if_neg (by simp), if_neg (by omega), if_neg (by unfold rowB; simp only [List.length_append]; omega)]
  have e1 : (rowB x ++ rest).drop (numB (x.length : Int)).length = x ++ rest := by
    unfold rowB; rw [List.append_assoc, List.drop_left]
  have e2 : ((x.length : Int)).toNat = x.length := by omega
  rw [e1, e2, List.take_left]
  unfold rowB
  rw [List.length_append]
theorem step_row (x rest : List UInt8) (h : x.length ≤ 65536) : stepR (rowB x ++ rest) 0 = (x, rest, 0) := by
  unfold stepR; rw [if_pos rfl, getR_row x rest h]; simp
theorem step_truth (t : Bool) (rest : List UInt8) : stepT (truthB t ++ rest) 0 = (t, rest, 0) := by
  unfold stepT; rw [if_pos rfl]
  have e : getT (truthB t ++ rest) = (t, 1, 0) := by
    cases t <;> rfl
  rw [e]; rfl
theorem own_of {w : World} {B n : Nat} {v : Value} {xs : List Value} (bs : List UInt8) (ho : w.ownsRow B 5 1 v n xs) (hx : xs = bs.map byteV) : ∃ A c, v = .slice A bs.length c ∧ w.ownsRow B 5 1 (.slice A bs.length c) bs.length (bs.map byteV) := by
  obtain ⟨A, c, he, h, _⟩ := made_of ho hx (Below.refl B w)
  injection he with he
  exact ⟨A, c, he, h⟩
theorem mixed_walk (n : Int) (hn : In64 n) (A : Option Addr) (x : List UInt8) (k c : Nat) (hk : k = x.length) (t : Bool) (A' : Option Addr) (more : List UInt8) (k' c' : Nat) (hk' : k' = more.length) (w : World) (h : Row w w.heap.size A (x.map byteV)) (h' : Row w w.heap.size A' (more.map byteV)) :
    Calls Try.prog 9 #[.int .i64 n, .slice A k c, .bool t, .slice A' k' c'] w fun e w' => e = .returned (.bool true) ∧ Below w.heap.size w w' := by
  subst hk; subst hk'
  by_cases h2 : 300 < x.length
  · have hg : (300 : Int) < (x.length : Int) := by omega
    clear h h' h2 hn
    go_enter Try.func9, Try.ntmps9
    go_wp2_with (go_at_call 10; refine (known_any _).mono ?_; rintro e w' ⟨rfl, hb⟩; have HB := Lib.hid hb; clear hb)
    go_ret
    exact ⟨rfl, HB.out⟩
  by_cases h3 : 100 < more.length
  · have hg : (100 : Int) < (more.length : Int) := by omega
    have hg' : (x.length : Int) ≤ 300 := by omega
    clear h h' h2 h3 hn
    go_enter Try.func9, Try.ntmps9
    go_wp2_with (go_at_call 10; refine (known_any _).mono ?_; rintro e w' ⟨rfl, hb⟩; have HB := Lib.hid hb; clear hb)
    go_ret
    exact ⟨rfl, HB.out⟩
  · have hg : (x.length : Int) ≤ 300 := by omega
    have hg' : (more.length : Int) ≤ 100 := by omega
    have hl : x.length ≤ 65536 := by omega
    obtain ⟨i0, hi0, hz0, hz1, hz2⟩ := info_parts info_b
    have HR := Lib.hid h
    have HR' := Lib.hid h'
    have h9 := numB_le n
    have h9' := numB_le (x.length : Int)
    obtain ⟨B1, hB1⟩ : ∃ B1, B1 = numB n ++ rowB x := ⟨_, rfl⟩
    obtain ⟨B2, hB2⟩ : ∃ B2, B2 = B1 ++ truthB t := ⟨_, rfl⟩
    obtain ⟨B3, hB3⟩ : ∃ B3, B3 = B2 ++ more := ⟨_, rfl⟩
    obtain ⟨N, hN⟩ : ∃ N, N = numB n := ⟨_, rfl⟩
    obtain ⟨R, hR⟩ : ∃ R, R = rowB x := ⟨_, rfl⟩
    obtain ⟨T, hT⟩ : ∃ T, T = truthB t := ⟨_, rfl⟩
    have lN : N.length ≤ 9 := by rw [hN]; exact h9
    have lR : R.length ≤ 400 := by rw [hR]; unfold rowB; rw [List.length_append]; omega
    have lT : T.length ≤ 1 := by rw [hT]; unfold truthB; simp
    have l1 : B1.length ≤ 500 := by rw [hB1, List.length_append, ← hN, ← hR]; omega
    have l2 : B2.length ≤ 600 := by rw [hB2, List.length_append, ← hT]; omega
    have l3 : B3.length ≤ 700 := by rw [hB3, List.length_append]; omega
    have S1 : Hid (stepN B3 0 = (n, R ++ (T ++ more), 0)) := Lib.hid (by rw [hB3, hB2, hB1, List.append_assoc, List.append_assoc, ← hR, ← hT]; exact step_num n hn _)
    have S2 : Hid (stepR (R ++ (T ++ more)) 0 = (x, T ++ more, 0)) := Lib.hid (by rw [hR]; exact step_row x _ hl)
    have S3 : Hid (stepT (T ++ more) 0 = (t, more, 0)) := Lib.hid (by rw [hT]; exact step_truth t more)
    have X1 : Hid (N.map byteV ++ R.map byteV = B1.map byteV) := Lib.hid (by rw [hB1, hN, hR, List.map_append])
    have X2 : Hid (B1.map byteV ++ T.map byteV = B2.map byteV) := Lib.hid (by rw [hB2, hT, List.map_append])
    have X3 : Hid (B2.map byteV ++ more.map byteV = B3.map byteV) := Lib.hid (by rw [hB3, List.map_append])
    have HN := Lib.hid hN
    have HRR := Lib.hid hR
    have HT := Lib.hid hT
    have L2 := Lib.hid l2
    have L1 := Lib.hid l1
    have LN := Lib.hid lN
    have LR := Lib.hid lR
    have LT := Lib.hid lT
    have LM : Hid (more.length ≤ 100) := Lib.hid (by omega)
    have L3 := Lib.hid l3
    clear h h' h2 h3 hn h9 h9' hB1 hB2 hB3 hN hR hT lN lR lT l1 l2 l3
    go_enter Try.func9, Try.ntmps9
    go_wp2_with fail
    refine (row_any _ c _ A x rfl _ HR.out (Nat.le_refl _) hl).mono ?_
    rw [← HRR.out]
    rintro e w1 ⟨A1, c1, rfl, ho, hb⟩
    have HB1 := Lib.hid hb
    have HR1 := Lib.hid (Row.of_own ho)
    clear ho hb
    go_wp2_with fail
    refine (refnum_any n _).mono ?_
    rw [← HN.out]
    rintro e w2 ⟨A2, c2, rfl, ho, hb⟩
    have HB2 : Hid (Below w.heap.size w w2) := Lib.hid (HB1.out.trans (hb.mono HB1.out.size))
    have HR1b := Lib.hid (HR1.out.below hb)
    have HS := Lib.hid hb.size
    have HO2 := Lib.hid ho
    clear ho hb
    go_wp2_with (at_builtin; refine wpList_app _ rfl _ _ 22 rfl w1.heap.size 5 i0 (.int .u8 0) 1 Try.underlying22 hi0 hz0 hz1 hz2 rfl _ _ _ rfl HO2.out w1.heap.size _ R.length c1 (R.map byteV) rfl (by simp) HR1b.out (byte_one R) (by have := LN.out; have := LR.out; unfold maxLen; omega) (by have := LN.out; have := LR.out; omega) HS.out ?_)
    intro v' w3 hown hgr _
    have HB3 : Hid (Below w.heap.size w w3) := Lib.hid (HB2.out.grown hgr HB2.out.size (fun g hg => Nat.le_trans HB1.out.size (HO2.out.lt g hg).1))
    have HS3 : Hid (w1.heap.size ≤ w3.heap.size) := Lib.hid (Nat.le_trans HS.out hgr.size)
    obtain ⟨A3, c3, rfl, ho3⟩ := own_of B1 hown X1.out
    have HO3 := Lib.hid ho3
    clear hown hgr ho3
    go_wp2_with fail
    refine (puttruth_any t _).mono ?_
    rw [← HT.out]
    rintro e w4 ⟨A4, c4, rfl, ho, hb⟩
    have HB4 : Hid (Below w.heap.size w w4) := Lib.hid (HB3.out.trans (hb.mono HB3.out.size))
    have HO3b := Lib.hid (own_below HO3.out hb)
    have HR4 := Lib.hid (Row.of_own ho)
    have HS4 : Hid (w1.heap.size ≤ w4.heap.size) := Lib.hid (Nat.le_trans HS3.out hb.size)
    clear ho hb
    go_wp2_with (at_builtin; refine wpList_app _ rfl _ _ 22 rfl w1.heap.size 5 i0 (.int .u8 0) 1 Try.underlying22 hi0 hz0 hz1 hz2 rfl _ _ _ rfl HO3b.out w4.heap.size _ T.length c4 (T.map byteV) rfl (by simp) HR4.out (byte_one T) (by have := L1.out; have := LT.out; unfold maxLen; omega) (by have := L1.out; have := LT.out; omega) HS4.out ?_)
    intro v' w5 hown hgr _
    have HB5 : Hid (Below w.heap.size w w5) := Lib.hid (HB4.out.grown hgr HB4.out.size (fun g hg => Nat.le_trans HB1.out.size (HO3b.out.lt g hg).1))
    have HS5 : Hid (w1.heap.size ≤ w5.heap.size) := Lib.hid (Nat.le_trans HS4.out hgr.size)
    obtain ⟨A5, c5, rfl, ho5⟩ := own_of B2 hown X2.out
    have HO5 := Lib.hid ho5
    clear hown hgr ho5
    go_wp2_with (at_builtin; refine wpList_app _ rfl _ _ 22 rfl w1.heap.size 5 i0 (.int .u8 0) 1 Try.underlying22 hi0 hz0 hz1 hz2 rfl _ _ _ rfl HO5.out w.heap.size _ more.length c' (more.map byteV) rfl (by simp) (HR'.out.below HB5.out) (byte_one more) (by have := L2.out; have := LM.out; unfold maxLen; omega) (by have := L2.out; have := LM.out; omega) HS5.out ?_)
    intro v' w6 hown hgr _
    have HB6 : Hid (Below w.heap.size w w6) := Lib.hid (HB5.out.grown hgr HB5.out.size (fun g hg => Nat.le_trans HB1.out.size (HO5.out.lt g hg).1))
    obtain ⟨A6, c6, rfl, ho6⟩ := own_of B3 hown X3.out
    have HR6 := Lib.hid (Row.of_own ho6)
    clear hown hgr ho6
    go_wp2_with fail
    refine (new_any _ c6 _ A6 B3 rfl _ HR6.out (Nat.le_refl _) (by have := L3.out; omega)).mono ?_
    rintro e w7 ⟨g, rfl, hg1, hrd, hb⟩
    have HB7 : Hid (Below w.heap.size w w7) := Lib.hid (HB6.out.trans (hb.mono HB6.out.size))
    have HG : Hid (w.heap.size ≤ g) := Lib.hid (Nat.le_trans HB6.out.size hg1)
    have HD := Lib.hid hrd
    clear hb hg1 hrd
    go_wp2_with fail
    refine (num_call g _ 0 _ HD.out).mono ?_
    rw [S1.out]
    rintro e w8 ⟨rfl, hrd, hgr⟩
    have HB8 : Hid (Below w.heap.size w w8) := Lib.hid (below_grown HB7.out hgr HB7.out.size HG.out)
    have HD8 := Lib.hid hrd
    clear hrd hgr
    go_wp2_with fail
    refine (row_call g _ 0 _ HD8.out).mono ?_
    rw [S2.out]
    rintro e w9 ⟨A9, c9, rfl, ho, hrd, hgr⟩
    have HB9 : Hid (Below w.heap.size w w9) := Lib.hid (below_grown HB8.out hgr HB8.out.size HG.out)
    have HD9 := Lib.hid hrd
    have HR9 := Lib.hid (Row.of_own ho)
    clear hrd hgr ho
    go_wp2_with fail
    refine (same_true _ _ _ _ _ _ _ _ x x rfl _ HR9.out (HR.out.below HB9.out) rfl rfl).mono ?_
    rintro e w' ⟨rfl, rfl⟩
    go_wp2_with fail
    refine (truth_call g _ 0 _ HD9.out).mono ?_
    rw [S3.out]
    rintro e w10 ⟨rfl, hrd, hgr⟩
    have HB10 : Hid (Below w.heap.size w w10) := Lib.hid (below_grown HB9.out hgr HB9.out.size HG.out)
    have HD10 := Lib.hid hrd
    clear hrd hgr
    go_wp2_with fail
    refine (left_any g _ 0 _ HD10.out).mono ?_
    rintro e w' ⟨rfl, rfl⟩
    go_wp2_with fail
    refine (known_any _).mono ?_
    rintro e w11 ⟨rfl, hb⟩
    have HB11 : Hid (Below w.heap.size w w11) := Lib.hid (HB10.out.trans (hb.mono HB10.out.size))
    clear hb
    go_wp2
    go_ret
    exact ⟨rfl, HB11.out⟩
end Go.Proofs.Yteppidabimmdpaa
