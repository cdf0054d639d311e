/- MsE: Whether two lists of numbers, two rings, are the same: by the program, by the document; small calls on entries of whatever length. -/
import Derived.Test.YtkdpfjenjcpcfaaGreatDoorMsP
import Derived.Test.YtkdpfjenjcpcfaaGreatDoorRgB
import Derived.Deep.QuietTactic
import Derived.BigQuiet
namespace Go.Proofs.YtkdpfjenjcpcfaaGreatDoor
open Go.RowKit Mem Be Rg
set_option maxRecDepth 100000
set_option maxHeartbeats 4000000
set_option linter.unusedVariables false
theorem take_next12 {α : Type} {xs ys : List α} {k : Nat} (h1 : k < xs.length) (h2 : k < ys.length) (ht : xs.take k = ys.take k) (h : xs[k] = ys[k]) : xs.take (k + 1) = ys.take (k + 1) := by
  rw [List.take_succ_eq_append_getElem h1, List.take_succ_eq_append_getElem h2, ht, h]
theorem equali_gen (B B' c c' n n' : Nat) (A A' : Option Addr) (xs ys : List Int) (w : World) (h : Row w B A (xs.map iV)) (h' : Row w B' A' (ys.map iV)) (hn : n = xs.length) (hn' : n' = ys.length) (hl : n ≤ maxLen) (hl' : n' ≤ maxLen) :
    Calls Tryz.prog 141 #[.slice A n c, .slice A' n' c'] w (Quiet (.bool (decide (xs = ys))) w) := by
  have hni : (n : Int) ≤ 9223372036854775807 := by unfold maxLen at hl; omega
  have hni' : (n' : Int) ≤ 9223372036854775807 := by unfold maxLen at hl'; omega
  obtain ⟨R, hR⟩ : ∃ R, decide (xs = ys) = R := ⟨_, rfl⟩
  rw [hR]
  by_cases hnn : n = n'
  · subst hnn
    have HR := Lib.hid h
    have HR' := Lib.hid h'
    have HN := Lib.hid hn
    have HN' := Lib.hid hn'
    have HV := Lib.hid hR
    have hni0 : (0 : Int) ≤ (n : Int) := by omega
    clear h h' hn hn' hR hl hl'
    go_enter Tryz.func141, Tryz.ntmps141
    go_wp2
    go_loopw [13] (fun i wr => ∃ k : Nat, k ≤ n ∧ i = .int .i64 k ∧ Hid (∃ q, wr = w.drewN q) ∧ Hid (xs.take k = ys.take k)) (fun i _ => n - (intOf i).toNat)
    case atStart => exact ⟨0, by omega, rfl, Lib.hid ⟨0, rfl⟩, Lib.hid rfl⟩
    case round =>
      obtain ⟨k, hk, rfl, HQ, HT⟩ := hrel
      by_cases hlt : k < n
      · have hk1 : k < xs.length := by rw [← HN.out]; exact hlt
        have hk2 : k < ys.length := by rw [← HN'.out]; exact hlt
        obtain ⟨b, o, rfl, _, hc⟩ := int_cell (quiet_row HR.out HQ.out) (by omega)
        obtain ⟨b', o', rfl, _, hc'⟩ := int_cell (quiet_row HR'.out HQ.out) (by omega)
        have hx := hc k hk1
        have hy := hc' k hk2
        have HNO : Hid (xs[k] ≠ ys[k] → R = false) := Lib.hid fun h => by
          rw [← HV.out]
          exact decide_eq_false fun e => h (List.getElem_of_eq e hk1)
        have HYES : Hid (xs[k] = ys[k] → xs.take (k + 1) = ys.take (k + 1)) := Lib.hid fun h => take_next12 hk1 hk2 HT.out h
        obtain ⟨x, hxx⟩ : ∃ x, xs[k] = x := ⟨_, rfl⟩
        obtain ⟨y, hyy⟩ : ∃ y, ys[k] = y := ⟨_, rfl⟩
        rw [hxx] at hx HNO HYES
        rw [hyy] at hy HNO HYES
        have hki : (0 : Int) ≤ (k : Int) := by omega
        have hki2 : (k : Int) < (n : Int) := by omega
        clear hc hc' hxx hyy
        by_cases he : x = y
        · subst he
          have HY := Lib.hid (HYES.out rfl)
          go_wp2
          go_quiet (fail)
          go_wp2
          go_roundw
          case rel => exact ⟨k + 1, by omega, by go_num, Lib.hid (by obtain ⟨q, rfl⟩ := HQ.out; exact ⟨_, World.drewN_drewN _ _ _⟩), HY⟩
          case measure => simp [intOf]; omega
        · have he2 : (x == y) = false := by simpa using he
          have he3 : (x != y) = true := by simpa using he
          have HY := Lib.hid (HNO.out he)
          go_wp2
          go_quiet (fail)
          go_wp2
          go_ret
          exact ⟨by rw [HY.out]; rfl, by obtain ⟨q, rfl⟩ := HQ.out; exact ⟨_, World.drewN_drewN _ _ _⟩⟩
      · obtain rfl : k = n := by omega
        have HY : Hid (R = true) := Lib.hid (by
          rw [← HV.out]
          refine decide_eq_true ?_
          have := HT.out
          rwa [show xs.take k = xs by rw [HN.out]; exact List.take_length, show ys.take k = ys by rw [HN'.out]; exact List.take_length] at this)
        go_wp2
        go_ret
        exact ⟨by rw [HY.out]; rfl, HQ.out⟩
  · have HY : Hid (R = false) := Lib.hid (by
      rw [← hR]
      exact decide_eq_false fun e => hnn (by rw [hn, hn', e]))
    have hb : ((n : Int) == (n' : Int)) = false := by rw [beq_eq_false_iff_ne]; omega
    have hb2 : ((n : Int) != (n' : Int)) = true := by rw [bne_iff_ne]; omega
    clear h h' hn hn' hR hl hl'
    go_enter Tryz.func141, Tryz.ntmps141
    go_wp2
    go_ret
    exact ⟨by rw [HY.out]; rfl, 0, rfl⟩
theorem refsameints_gen (B B' c c' n n' : Nat) (A A' : Option Addr) (xs ys : List Int) (w : World) (h : Row w B A (xs.map iV)) (h' : Row w B' A' (ys.map iV)) (hn : n = xs.length) (hn' : n' = ys.length) (hl : n ≤ maxLen) (hl' : n' ≤ maxLen) :
    Calls Tryz.prog 74 #[.slice A n c, .slice A' n' c'] w (Quiet (.bool (decide (xs = ys))) w) := by
  have hni : (n : Int) ≤ 9223372036854775807 := by unfold maxLen at hl; omega
  have hni' : (n' : Int) ≤ 9223372036854775807 := by unfold maxLen at hl'; omega
  obtain ⟨R, hR⟩ : ∃ R, decide (xs = ys) = R := ⟨_, rfl⟩
  rw [hR]
  by_cases hnn : n = n'
  · subst hnn
    have HR := Lib.hid h
    have HR' := Lib.hid h'
    have HN := Lib.hid hn
    have HN' := Lib.hid hn'
    have HV := Lib.hid hR
    have hni0 : (0 : Int) ≤ (n : Int) := by omega
    clear h h' hn hn' hR hl hl'
    go_enter Tryz.func74, Tryz.ntmps74
    go_wp2
    go_loopw [5] (fun i wr => ∃ k : Nat, k ≤ n ∧ i = .int .i64 k ∧ Hid (∃ q, wr = w.drewN q) ∧ Hid (xs.take k = ys.take k)) (fun i _ => n - (intOf i).toNat)
    case atStart => exact ⟨0, by omega, rfl, Lib.hid ⟨0, rfl⟩, Lib.hid rfl⟩
    case round =>
      obtain ⟨k, hk, rfl, HQ, HT⟩ := hrel
      by_cases hlt : k < n
      · have hk1 : k < xs.length := by rw [← HN.out]; exact hlt
        have hk2 : k < ys.length := by rw [← HN'.out]; exact hlt
        obtain ⟨b, o, rfl, _, hc⟩ := int_cell (quiet_row HR.out HQ.out) (by omega)
        obtain ⟨b', o', rfl, _, hc'⟩ := int_cell (quiet_row HR'.out HQ.out) (by omega)
        have hx := hc k hk1
        have hy := hc' k hk2
        have HNO : Hid (xs[k] ≠ ys[k] → R = false) := Lib.hid fun h => by
          rw [← HV.out]
          exact decide_eq_false fun e => h (List.getElem_of_eq e hk1)
        have HYES : Hid (xs[k] = ys[k] → xs.take (k + 1) = ys.take (k + 1)) := Lib.hid fun h => take_next12 hk1 hk2 HT.out h
        obtain ⟨x, hxx⟩ : ∃ x, xs[k] = x := ⟨_, rfl⟩
        obtain ⟨y, hyy⟩ : ∃ y, ys[k] = y := ⟨_, rfl⟩
        rw [hxx] at hx HNO HYES
        rw [hyy] at hy HNO HYES
        have hki : (0 : Int) ≤ (k : Int) := by omega
        have hki2 : (k : Int) < (n : Int) := by omega
        clear hc hc' hxx hyy
        by_cases he : x = y
        · subst he
          have HY := Lib.hid (HYES.out rfl)
          go_wp2
          go_quiet (fail)
          go_wp2
          go_roundw
          case rel => exact ⟨k + 1, by omega, by go_num, Lib.hid (by obtain ⟨q, rfl⟩ := HQ.out; exact ⟨_, World.drewN_drewN _ _ _⟩), HY⟩
          case measure => simp [intOf]; omega
        · have he2 : (x == y) = false := by simpa using he
          have he3 : (x != y) = true := by simpa using he
          have HY := Lib.hid (HNO.out he)
          go_wp2
          go_quiet (fail)
          go_wp2
          go_ret
          exact ⟨by rw [HY.out]; rfl, by obtain ⟨q, rfl⟩ := HQ.out; exact ⟨_, World.drewN_drewN _ _ _⟩⟩
      · obtain rfl : k = n := by omega
        have HY : Hid (R = true) := Lib.hid (by
          rw [← HV.out]
          refine decide_eq_true ?_
          have := HT.out
          rwa [show xs.take k = xs by rw [HN.out]; exact List.take_length, show ys.take k = ys by rw [HN'.out]; exact List.take_length] at this)
        go_wp2
        go_ret
        exact ⟨by rw [HY.out]; rfl, HQ.out⟩
  · have HY : Hid (R = false) := Lib.hid (by
      rw [← hR]
      exact decide_eq_false fun e => hnn (by rw [hn, hn', e]))
    have hb : ((n : Int) == (n' : Int)) = false := by rw [beq_eq_false_iff_ne]; omega
    have hb2 : ((n : Int) != (n' : Int)) = true := by rw [bne_iff_ne]; omega
    clear h h' hn hn' hR hl hl'
    go_enter Tryz.func74, Tryz.ntmps74
    go_wp2
    go_ret
    exact ⟨by rw [HY.out]; rfl, 0, rfl⟩
theorem ringsame_gen (A A' : Option Addr) (n n' c c' : Nat) (ns ms : List Int) (e k e' k' : Int) (hn : n = ns.length) (hn' : n' = ms.length) (hl : n ≤ maxLen) (hl' : n' ≤ maxLen) (w : World) (h : Row w w.heap.size A (ns.map iV)) (h' : Row w w.heap.size A' (ms.map iV)) :
    Calls Tryz.prog 112 #[.agg #[.slice A n c, .int .i64 e, .int .i64 k], .agg #[.slice A' n' c', .int .i64 e', .int .i64 k']] w (IsB (decide (ns = ms ∧ e = e' ∧ k = k')) w) := by
  have HE := Lib.hid fun W (hb : Below w.heap.size w W) => equali_gen _ _ c c' n n' A A' ns ms W (h.below hb) (h'.below hb) hn hn' hl hl'
  have HB0 : Hid (Below w.heap.size w ((w.alloc (.cells #[.slice A n c, .int .i64 e, .int .i64 k] 49)).alloc (.cells #[.slice A' n' c', .int .i64 e', .int .i64 k'] 49))) := Lib.hid (((Below.refl _ _).alloc (Nat.le_refl _) _).alloc (by simp) _)
  obtain ⟨R, hR⟩ : ∃ R, decide (ns = ms ∧ e = e' ∧ k = k') = R := ⟨_, rfl⟩
  rw [hR]
  obtain ⟨b, hb⟩ : ∃ b, decide (ns = ms) = b := ⟨_, rfl⟩
  rw [hb] at HE
  have HV := Lib.hid hR
  have HBV := Lib.hid hb
  clear h h' hn hn' hl hl' hR hb
  have fin : ∀ (b' : Bool) (W : World), R = b' → Below w.heap.size w W → IsB R w (.returned (.bool b')) W := fun b' W h1 h2 => ⟨by rw [h1], h2⟩
  have FIN := Lib.hid fin
  clear fin
  cases b
  · have HY : Hid (R = false) := Lib.hid (by rw [← HV.out]; exact decide_eq_false fun h => of_decide_eq_false HBV.out h.1)
    go_enter Tryz.func112, Tryz.ntmps112
    go_wp2_with fail
    refine (HE.out _ HB0.out).mono ?_
    rintro e1 w1 ⟨rfl, q, rfl⟩
    go_wp2
    go_ret
    exact FIN.out _ _ HY.out (HB0.out.trans (below_drew' _ _ _))
  · by_cases he : e = e'
    · subst he
      by_cases hk : k = k'
      · subst hk
        have HY : Hid (R = true) := Lib.hid (by rw [← HV.out]; exact decide_eq_true ⟨of_decide_eq_true HBV.out, rfl, rfl⟩)
        go_enter Tryz.func112, Tryz.ntmps112
        go_wp2_with fail
        refine (HE.out _ HB0.out).mono ?_
        rintro e1 w1 ⟨rfl, q, rfl⟩
        go_wp2
        go_ret
        exact FIN.out _ _ HY.out (HB0.out.trans (below_drew' _ _ _))
      · have HY : Hid (R = false) := Lib.hid (by rw [← HV.out]; exact decide_eq_false fun h => hk h.2.2)
        have hk2 : (k == k') = false := by simpa using hk
        go_enter Tryz.func112, Tryz.ntmps112
        go_wp2_with fail
        refine (HE.out _ HB0.out).mono ?_
        rintro e1 w1 ⟨rfl, q, rfl⟩
        go_wp2
        go_ret
        exact FIN.out _ _ HY.out (HB0.out.trans (below_drew' _ _ _))
    · have HY : Hid (R = false) := Lib.hid (by rw [← HV.out]; exact decide_eq_false fun h => he h.2.1)
      have hk2 : (e == e') = false := by simpa using he
      go_enter Tryz.func112, Tryz.ntmps112
      go_wp2_with fail
      refine (HE.out _ HB0.out).mono ?_
      rintro e1 w1 ⟨rfl, q, rfl⟩
      go_wp2
      go_ret
      exact FIN.out _ _ HY.out (HB0.out.trans (below_drew' _ _ _))
theorem refringsame_gen (A A' : Option Addr) (n n' c c' : Nat) (ns ms : List Int) (e k e' k' : Int) (hn : n = ns.length) (hn' : n' = ms.length) (hl : n ≤ maxLen) (hl' : n' ≤ maxLen) (w : World) (h : Row w w.heap.size A (ns.map iV)) (h' : Row w w.heap.size A' (ms.map iV)) :
    Calls Tryz.prog 49 #[.agg #[.slice A n c, .int .i64 e, .int .i64 k], .agg #[.slice A' n' c', .int .i64 e', .int .i64 k']] w (IsB (decide (ns = ms ∧ e = e' ∧ k = k')) w) := by
  have HE := Lib.hid fun W (hb : Below w.heap.size w W) => refsameints_gen _ _ c c' n n' A A' ns ms W (h.below hb) (h'.below hb) hn hn' hl hl'
  have HB0 : Hid (Below w.heap.size w ((w.alloc (.cells #[.slice A n c, .int .i64 e, .int .i64 k] 49)).alloc (.cells #[.slice A' n' c', .int .i64 e', .int .i64 k'] 49))) := Lib.hid (((Below.refl _ _).alloc (Nat.le_refl _) _).alloc (by simp) _)
  obtain ⟨R, hR⟩ : ∃ R, decide (ns = ms ∧ e = e' ∧ k = k') = R := ⟨_, rfl⟩
  rw [hR]
  obtain ⟨b, hb⟩ : ∃ b, decide (ns = ms) = b := ⟨_, rfl⟩
  rw [hb] at HE
  have HV := Lib.hid hR
  have HBV := Lib.hid hb
  clear h h' hn hn' hl hl' hR hb
  have fin : ∀ (b' : Bool) (W : World), R = b' → Below w.heap.size w W → IsB R w (.returned (.bool b')) W := fun b' W h1 h2 => ⟨by rw [h1], h2⟩
  have FIN := Lib.hid fin
  clear fin
  cases b
  · have HY : Hid (R = false) := Lib.hid (by rw [← HV.out]; exact decide_eq_false fun h => of_decide_eq_false HBV.out h.1)
    go_enter Tryz.func49, Tryz.ntmps49
    go_wp2_with fail
    refine (HE.out _ HB0.out).mono ?_
    rintro e1 w1 ⟨rfl, q, rfl⟩
    go_wp2
    go_ret
    exact FIN.out _ _ HY.out (HB0.out.trans (below_drew' _ _ _))
  · by_cases he : e = e'
    · subst he
      by_cases hk : k = k'
      · subst hk
        have HY : Hid (R = true) := Lib.hid (by rw [← HV.out]; exact decide_eq_true ⟨of_decide_eq_true HBV.out, rfl, rfl⟩)
        go_enter Tryz.func49, Tryz.ntmps49
        go_wp2_with fail
        refine (HE.out _ HB0.out).mono ?_
        rintro e1 w1 ⟨rfl, q, rfl⟩
        go_wp2
        go_ret
        exact FIN.out _ _ HY.out (HB0.out.trans (below_drew' _ _ _))
      · have HY : Hid (R = false) := Lib.hid (by rw [← HV.out]; exact decide_eq_false fun h => hk h.2.2)
        have hk2 : (k == k') = false := by simpa using hk
        go_enter Tryz.func49, Tryz.ntmps49
        go_wp2_with fail
        refine (HE.out _ HB0.out).mono ?_
        rintro e1 w1 ⟨rfl, q, rfl⟩
        go_wp2
        go_ret
        exact FIN.out _ _ HY.out (HB0.out.trans (below_drew' _ _ _))
    · have HY : Hid (R = false) := Lib.hid (by rw [← HV.out]; exact decide_eq_false fun h => he h.2.1)
      have hk2 : (e == e') = false := by simpa using he
      go_enter Tryz.func49, Tryz.ntmps49
      go_wp2_with fail
      refine (HE.out _ HB0.out).mono ?_
      rintro e1 w1 ⟨rfl, q, rfl⟩
      go_wp2
      go_ret
      exact FIN.out _ _ HY.out (HB0.out.trans (below_drew' _ _ _))
theorem sizebig_any (key : ByteArray) (s u o : Int) (has : Bool) (A : Option Addr) (m c : Nat) (hm : (key.size : Int) + (m : Int) ≤ 9223372036854775807) (w : World) :
    Calls Tryz.prog 111 #[entV key s u o has A m c] w (IsI ((key.size : Int) + (m : Int)) w) := by
  have HB : Hid (Below w.heap.size w (w.alloc (entO key s u o has A m c))) := Lib.hid ((Below.refl _ _).alloc (Nat.le_refl _) _)
  go_enter Tryz.func111, Tryz.ntmps111
  go_wp2
  go_ret
  exact isI_of rfl HB.out
theorem sameval0_any (has : Bool) (A : Option Addr) (m c : Nat) (w : World) : Calls Tryz.prog 140 #[valV has A m c, valV false none 0 0] w (IsB (!has) w) := by
  have HB : Hid (Below w.heap.size w ((w.alloc (.cells #[.bool has, .slice A m c] 44)).alloc (.cells #[.bool false, .slice none 0 0] 44))) := Lib.hid (((Below.refl _ _).alloc (Nat.le_refl _) _).alloc (by simp) _)
  cases has
  · go_enter Tryz.func140, Tryz.ntmps140
    go_wp2
    go_ret
    exact isB_of rfl HB.out
  · go_enter Tryz.func140, Tryz.ntmps140
    go_wp2
    go_ret
    exact isB_of rfl HB.out
theorem same0_any (k : ByteArray) (s u o : Int) (has : Bool) (A : Option Addr) (m c : Nat) (w : World) :
    Calls Tryz.prog 110 #[entV k s u o has A m c, entV ⟨#[]⟩ 0 0 0 false none 0 0] w (IsB (decide (k = ⟨#[]⟩) && (eqT s u o 0 0 0 && !has)) w) := by
  have HB : Hid (Below w.heap.size w ((w.alloc (entO k s u o has A m c)).alloc (entO ⟨#[]⟩ 0 0 0 false none 0 0))) := Lib.hid (((Below.refl _ _).alloc (Nat.le_refl _) _).alloc (by simp) _)
  by_cases hk : k = ⟨#[]⟩
  · subst hk
    rw [decide_eq_true rfl, Bool.true_and]
    have hq := run_eqT s u o 0 0 0
    cases he : eqT s u o 0 0 0
    · rw [he] at hq
      clear he
      go_enter Tryz.func110, Tryz.ntmps110
      go_wp2
      go_ret
      exact isB_of rfl HB.out
    · rw [he] at hq
      rw [Bool.true_and]
      clear he
      go_enter Tryz.func110, Tryz.ntmps110
      go_wp2_with (go_at_call 140; refine (sameval0_any _ _ _ _ _).mono ?_; rintro e w2 ⟨rfl, hb⟩; have HB2 := Lib.hid (HB.out.trans (hb.mono HB.out.size)); clear hb)
      go_ret
      exact isB_of rfl HB2.out
  · have hb2 : (k.toList == (⟨#[]⟩ : ByteArray).toList) = false := list_ne hk
    rw [decide_eq_false hk, Bool.false_and]
    have f0 : k.toList ≠ [] := fun e => hk (by
      obtain ⟨⟨l⟩⟩ := k
      rw [ByteArray.toList_eq] at e
      simp at e
      rw [e])
    have f1 : (k.toList == []) = false := by simpa using f0
    have f2 : k.toList.isEmpty = false := by cases h : k.toList with
      | nil => exact absurd h f0
      | cons a r => rfl
    go_enter Tryz.func110, Tryz.ntmps110
    go_wp2
    go_ret
    exact isB_of rfl HB.out
end Go.Proofs.YtkdpfjenjcpcfaaGreatDoor
