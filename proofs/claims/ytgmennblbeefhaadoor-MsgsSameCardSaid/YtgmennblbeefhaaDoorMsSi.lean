/- MsSi: Package tags: SameVal, Same; slices.EqualFunc of entries by it: whatever their length. -/
import Derived.Test.YtgmennblbeefhaaDoorSam8
import Derived.Test.YtgmennblbeefhaaDoorMsC
import Derived.Test.YtgmennblbeefhaaDoorMsSm
import Derived.BigFrame
namespace Go.Proofs.YtgmennblbeefhaaDoor
open Go.RowKit Mem Be Rg
set_option maxRecDepth 100000
set_option maxHeartbeats 4000000
set_option linter.unusedVariables false
set_option linter.unusedSimpArgs false
theorem sameval_big (h1 h2 : Bool) (A A' : Option Addr) (xs ys : List UInt8) (c c' n n' : Nat) (hn : n = xs.length) (hn' : n' = ys.length) (w : World) (h : ValB w A xs c) (h' : ValB w A' ys c') :
    Calls Tryd.prog 101 #[valV h1 A n c, valV h2 A' n' c'] w (IsB (sameV h1 h2 xs ys) w) := by
  subst hn; subst hn'
  have HB : Hid (Below w.heap.size w ((w.alloc (.cells #[.bool h1, .slice A xs.length c] 26)).alloc (.cells #[.bool h2, .slice A' ys.length c'] 26))) := Lib.hid (((Below.refl _ _).alloc (Nat.le_refl _) _).alloc (by simp) _)
  have HR := Lib.hid (h.row.below HB.out)
  have HR' := Lib.hid (h'.row.below HB.out)
  clear h h'
  cases h1 <;> cases h2
  · go_enter Tryd.func101, Tryd.ntmps101
    go_wp2
    go_ret
    exact isB_of rfl HB.out
  · go_enter Tryd.func101, Tryd.ntmps101
    go_wp2
    go_ret
    exact isB_of rfl HB.out
  · go_enter Tryd.func101, Tryd.ntmps101
    go_wp2
    go_ret
    exact isB_of rfl HB.out
  · obtain ⟨b, hb⟩ : ∃ b, (xs == ys) = b := ⟨_, rfl⟩
    have HE := Lib.hid hb
    have HV : Hid (sameV true true xs ys = b) := Lib.hid (by rw [← hb]; rfl)
    clear hb
    cases b
    all_goals
      go_enter Tryd.func101, Tryd.ntmps101
      go_wp2_with (go_at_call 115; refine (equal_val _ HE HR.out HR'.out rfl rfl).mono ?_; rintro e w' ⟨rfl, rfl⟩)
      go_ret
      exact isB_of HV.out.symm HB.out
theorem same_big (k1 k2 : ByteArray) (s u o s' u' o' : Int) (h1 h2 : Bool) (A A' : Option Addr) (xs ys : List UInt8) (c c' n n' : Nat) (hn : n = xs.length) (hn' : n' = ys.length) (w : World) (h : ValB w A xs c) (h' : ValB w A' ys c') :
    Calls Tryd.prog 76 #[entV k1 s u o h1 A n c, entV k2 s' u' o' h2 A' n' c'] w (IsB (sameE k1 k2 s u o s' u' o' h1 h2 xs ys) w) := by
  have HB : Hid (Below w.heap.size w ((w.alloc (entO k1 s u o h1 A n c)).alloc (entO k2 s' u' o' h2 A' n' c'))) := Lib.hid (((Below.refl _ _).alloc (Nat.le_refl _) _).alloc (by simp) _)
  have HR := Lib.hid (h.below HB.out)
  have HR' := Lib.hid (h'.below HB.out)
  have HN := Lib.hid hn
  have HN' := Lib.hid hn'
  clear h h' hn hn'
  by_cases hk : k1 = k2
  · subst hk
    have HV1 : Hid (sameE k1 k1 s u o s' u' o' h1 h2 xs ys = (eqT s u o s' u' o' && sameV h1 h2 xs ys)) := Lib.hid (by unfold sameE; simp)
    have hq := run_eqT s u o s' u' o'
    cases he : eqT s u o s' u' o'
    · rw [he] at hq
      have HV : Hid (sameE k1 k1 s u o s' u' o' h1 h2 xs ys = false) := Lib.hid (by rw [HV1.out, he]; rfl)
      clear he
      go_enter Tryd.func76, Tryd.ntmps76
      go_wp2
      go_ret
      exact isB_of HV.out.symm HB.out
    · rw [he] at hq
      have HV : Hid (sameE k1 k1 s u o s' u' o' h1 h2 xs ys = sameV h1 h2 xs ys) := Lib.hid (by rw [HV1.out, he]; rfl)
      clear he
      go_enter Tryd.func76, Tryd.ntmps76
      go_wp2_with (go_at_call 101; refine (sameval_big _ _ _ _ xs ys _ _ _ _ HN.out HN'.out _ HR.out HR'.out).mono ?_; rintro e w2 ⟨rfl, hb⟩; have HB2 := Lib.hid (HB.out.trans (hb.mono HB.out.size)); clear hb)
      go_ret
      exact isB_of HV.out.symm HB2.out
  · have hb2 : (k1.toList == k2.toList) = false := list_ne hk
    have HV : Hid (sameE k1 k2 s u o s' u' o' h1 h2 xs ys = false) := Lib.hid (by unfold sameE; rw [decide_eq_false hk]; rfl)
    clear hk
    go_enter Tryd.func76, Tryd.ntmps76
    go_wp2
    go_ret
    exact isB_of HV.out.symm HB.out
theorem equalents_big (n c m c' : Nat) (A A' : Option Addr) (us vs : List EV) (hn : n = us.length) (hm : m = vs.length) (hl : n ≤ maxLen) (hl' : m ≤ maxLen) (w : World) (h : EntsB w A us) (h' : EntsB w A' vs) :
    Calls Tryd.prog 77 #[.slice A n c, .slice A' m c', .func (.func 76) #[] #[]] w (IsB (sAllB (us.map Prod.fst) (vs.map Prod.fst)) w) := by
  obtain ⟨R, hR⟩ : ∃ R, sAllB (us.map Prod.fst) (vs.map Prod.fst) = R := ⟨_, rfl⟩
  rw [hR]
  have HV := Lib.hid hR
  have HN := Lib.hid hn
  have HM := Lib.hid hm
  have HU := Lib.hid h
  have HVV := Lib.hid h'
  have hni0 : (0 : Int) ≤ (n : Int) := by omega
  have hni1 : (n : Int) ≤ 9223372036854775807 := by unfold maxLen at hl; omega
  have hmi1 : (m : Int) ≤ 9223372036854775807 := by unfold maxLen at hl'; omega
  clear h h' hR hl hl'
  by_cases hnm : n = m
  · subst hnm
    clear hn hm
    go_enter Tryd.func77, Tryd.ntmps77
    go_wp2
    go_loopw [17] (fun i wr => ∃ k : Nat, k ≤ n ∧ i = .int .i64 k ∧ Hid (Below w.heap.size w wr) ∧ Hid (∀ j (h1 : j < us.length) (h2 : j < vs.length), j < k → sEB us[j].1 vs[j].1 = true)) (fun i _ => n - (intOf i).toNat)
    case atStart => exact ⟨0, by omega, rfl, Lib.hid (Below.refl _ _), Lib.hid fun j _ _ h => absurd h (Nat.not_lt_zero _)⟩
    case round =>
      obtain ⟨k, hk, rfl, HB, HS⟩ := hrel
      by_cases hlt : k < n
      · have hk1 : k < us.length := by rw [← HN.out]; exact hlt
        have hk2 : k < vs.length := by rw [← HM.out]; exact hlt
        obtain ⟨b, o, rfl, hb, hc⟩ := ents_open (HU.out.below HB.out).row (by omega)
        obtain ⟨b', o', rfl, hb', hc'⟩ := ents_open (HVV.out.below HB.out).row (by omega)
        obtain ⟨a0, a1, a2, a3, a4, a5⟩ := hc k hk1
        obtain ⟨b0, b1, b2, b3, b4, b5⟩ := hc' k hk2
        have v1 := (HU.out.below HB.out).val us[k] (List.getElem_mem hk1)
        have v2 := (HVV.out.below HB.out).val vs[k] (List.getElem_mem hk2)
        obtain ⟨q, hq⟩ : ∃ q, sEB (us[k]'hk1).1 (vs[k]'hk2).1 = q := ⟨_, rfl⟩
        have HQ : Hid ((q = true → ∀ j (h1 : j < us.length) (h2 : j < vs.length), j < k + 1 → sEB us[j].1 vs[j].1 = true) ∧ (q = false → R = false)) := Lib.hid ⟨fun hq' j h1 h2 hj => by
          by_cases hjk : j = k
          · subst hjk; exact hq.trans hq'
          · exact HS.out j h1 h2 (by omega), fun hq' => by
          rw [← HV.out]
          cases hs : sAllB (us.map Prod.fst) (vs.map Prod.fst)
          · rfl
          · have := sAllB_at k (by simpa using hk1) (by simpa using hk2) hs
            simp only [List.getElem_map] at this
            rw [hq, hq'] at this; cases this⟩
        obtain ⟨⟨x, A1, c1⟩, hx⟩ : ∃ p, us[k]'hk1 = p := ⟨_, rfl⟩
        obtain ⟨⟨y, A2, c2⟩, hy⟩ : ∃ p, vs[k]'hk2 = p := ⟨_, rfl⟩
        rw [hx] at a0 a1 a2 a3 a4 a5 v1 hq
        rw [hy] at b0 b1 b2 b3 b4 b5 v2 hq
        simp only at a0 a1 a2 a3 a4 a5 b0 b1 b2 b3 b4 b5 v1 v2 hq
        have C := fun W (hW : Below wr.heap.size wr W) => same_big ⟨x.k.toArray⟩ ⟨y.k.toArray⟩ x.s x.u x.o y.s y.u y.o x.has y.has A1 A2 x.v y.v c1 c2 x.v.length y.v.length rfl rfl W ⟨(v1.below hW).row, v1.leni⟩ ⟨(v2.below hW).row, v2.leni⟩
        unfold sEB at hq
        rw [hq] at C
        have HC := Lib.hid C
        have hki : (0 : Int) ≤ (k : Int) := by omega
        have hki2 : (k : Int) < (n : Int) := by omega
        have hbs : b < wr.heap.size := hb
        have hbs' : b' < wr.heap.size := hb'
        clear hc hc' hx hy v1 v2 hq HS C
        cases q
        · have HR : Hid (R = false) := Lib.hid (HQ.out.2 rfl)
          clear HQ
          go_wp2_with fail
          refine (HC.out _ (((Below.refl _ _).alloc (Nat.le_refl _) _).alloc (by simp) _)).mono ?_
          rintro e w2 ⟨rfl, hb2⟩
          have HB2 : Hid (Below w.heap.size w w2) := Lib.hid (HB.out.trans ((below_after2 hb2).mono HB.out.size))
          clear hb2
          go_wp2
          go_ret
          exact isB_of HR.out.symm HB2.out
        · have HS := Lib.hid (HQ.out.1 rfl)
          clear HQ
          go_wp2_with fail
          refine (HC.out _ (((Below.refl _ _).alloc (Nat.le_refl _) _).alloc (by simp) _)).mono ?_
          rintro e w2 ⟨rfl, hb2⟩
          have HB2 : Hid (Below w.heap.size w w2) := Lib.hid (HB.out.trans ((below_after2 hb2).mono HB.out.size))
          clear hb2
          go_wp2
          go_roundw
          case rel => exact ⟨k + 1, by omega, by go_num, HB2, HS⟩
          case measure => simp [intOf]; omega
      · obtain rfl : n = k := by omega
        have HR : Hid (R = true) := Lib.hid (by
          rw [← HV.out]
          refine sAllB_of (by rw [List.length_map, List.length_map, ← HN.out, ← HM.out]) fun j h1 h2 => ?_
          simp only [List.length_map] at h1 h2
          simp only [List.getElem_map]
          exact HS.out j h1 h2 (by rw [HN.out]; exact h1))
        clear HS
        go_wp2
        go_ret
        exact isB_of HR.out.symm HB.out
  · have HR : Hid (R = false) := Lib.hid (by
      rw [← HV.out]
      cases hs : sAllB (us.map Prod.fst) (vs.map Prod.fst)
      · rfl
      · have := sAllB_len hs
        simp only [List.length_map] at this
        exact absurd (by rw [HN.out, HM.out]; exact this) hnm)
    have hln : ((n : Int) != (m : Int)) = true := by simp; omega
    clear hn hm hnm
    go_enter Tryd.func77, Tryd.ntmps77
    go_wp2
    go_ret
    exact isB_of HR.out.symm (Below.refl _ _)
end Go.Proofs.YtgmennblbeefhaaDoor
