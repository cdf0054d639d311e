/- LnR: Whether two histories are the same, by package lin; how much there is in one. -/
import Derived.Test.YtlecbhnopokmnaaLnL
namespace Go.Proofs.Ytlecbhnopokmnaa
open Go.RowKit Mem
set_option maxRecDepth 100000
set_option maxHeartbeats 4000000
set_option linter.unusedVariables false
set_option linter.unusedSimpArgs false
open Ln
/-- Are all the same, one by one? -/
noncomputable def allN (us vs : List NtL) : Bool := @decide (us.length = vs.length ∧ ∀ j (h1 : j < us.length) (h2 : j < vs.length), sameN us[j] vs[j] = true) (Classical.propDecidable _)
theorem allN_yes {us vs : List NtL} (h : us.length = vs.length) (hs : ∀ j (h1 : j < us.length) (h2 : j < vs.length), sameN us[j] vs[j] = true) : allN us vs = true := by
  unfold allN; exact @decide_eq_true _ (Classical.propDecidable _) ⟨h, hs⟩
theorem allN_not {us vs : List NtL} (k : Nat) (h1 : k < us.length) (h2 : k < vs.length) (hs : sameN us[k] vs[k] = false) : allN us vs = false := by
  unfold allN; exact @decide_eq_false _ (Classical.propDecidable _) fun h => by rw [h.2 k h1 h2] at hs; cases hs
theorem allN_len {us vs : List NtL} (h : us.length ≠ vs.length) : allN us vs = false := by
  unfold allN; exact @decide_eq_false _ (Classical.propDecidable _) fun e => h e.1
/-- Notes of a row that lies in a world. -/
structure NtsB (w : World) (A : Option Addr) (us : List NtL) : Prop where
  row : Row w w.heap.size A (ntsC us)
  ok : ∀ x ∈ us, NtOk w w.heap.size x
theorem NtsB.below {w w' : World} {A : Option Addr} {us : List NtL} (h : NtsB w A us) (hb : Below w.heap.size w w') : NtsB w' A us := ⟨(h.row.below hb).more hb.size, fun x hx => (h.ok x hx).to hb⟩
theorem eqnotes_any (n c m c' : Nat) (A A' : Option Addr) (us vs : List NtL) (hn : n = us.length) (hm : m = vs.length) (hl : n ≤ maxLen) (hl' : m ≤ maxLen) (w : World) (h : NtsB w A us) (h' : NtsB w A' vs) :
    Calls Try.prog 48 #[.slice A n c, .slice A' m c', .func (.func 49) #[] #[]] w (IsB18 (allN us vs) w) := by
  obtain ⟨R, hR⟩ : ∃ R, allN us vs = R := ⟨_, rfl⟩
  rw [hR]
  have HV := Lib.hid hR
  have HN := Lib.hid hn
  have HM := Lib.hid hm
  have HU := Lib.hid h
  have HVV := Lib.hid h'
  have hn2 : (n : Int) ≤ 9223372036854775807 := by unfold maxLen at hl; omega
  have hm2 : (m : Int) ≤ 9223372036854775807 := by unfold maxLen at hl'; omega
  clear h h' hR hl hl'
  by_cases hnm : n = m
  · subst hnm
    clear hn hm
    go_enter Try.func48, Try.ntmps48
    go_wp2
    go_loopw [17] (fun i wr => ∃ k : Nat, k ≤ n ∧ i = .int .i64 k ∧ Hid (Below w.heap.size w wr) ∧ Hid (∀ j (h1 : j < us.length) (h2 : j < vs.length), j < k → sameN us[j] vs[j] = true)) (fun i _ => n - (intOf i).toNat)
    case atStart => exact ⟨0, by omega, rfl, Lib.hid (Below.refl _ _), Lib.hid fun j _ _ h => absurd h (Nat.not_lt_zero _)⟩
    case round =>
      obtain ⟨k, hk, rfl, HB, HS⟩ := hrel
      by_cases hlt : k < n
      · have hk1 : k < us.length := by rw [← HN.out]; exact hlt
        have hk2 : k < vs.length := by rw [← HM.out]; exact hlt
        obtain ⟨b, o, rfl, hb, hc⟩ := nts_open (HU.out.below HB.out).row (by omega)
        obtain ⟨b', o', rfl, hb', hc'⟩ := nts_open (HVV.out.below HB.out).row (by omega)
        obtain ⟨a0, a1, a2, a3, a4, a5, a6, a7, a8⟩ := hc k hk1
        obtain ⟨b0, b1, b2, b3, b4, b5, b6, b7, b8⟩ := hc' k hk2
        have v1 := (HU.out.below HB.out).ok us[k] (List.getElem_mem hk1)
        have v2 := (HVV.out.below HB.out).ok vs[k] (List.getElem_mem hk2)
        obtain ⟨q, hq⟩ : ∃ q, sameN (us[k]'hk1) (vs[k]'hk2) = q := ⟨_, rfl⟩
        have HQ : Hid ((q = true → ∀ j (h1 : j < us.length) (h2 : j < vs.length), j < k + 1 → sameN us[j] vs[j] = true) ∧ (q = false → R = false)) := Lib.hid ⟨fun hq' j h1 h2 hj => by
          by_cases hjk : j = k
          · subst hjk; exact hq.trans hq'
          · exact HS.out j h1 h2 (by omega), fun hq' => by rw [← HV.out]; exact allN_not k hk1 hk2 (hq.trans hq')⟩
        obtain ⟨x, hx⟩ : ∃ p, us[k]'hk1 = p := ⟨_, rfl⟩
        obtain ⟨y, hy⟩ : ∃ p, vs[k]'hk2 = p := ⟨_, rfl⟩
        rw [hx] at a0 a1 a2 a3 a4 a5 a6 a7 a8 v1 hq
        rw [hy] at b0 b1 b2 b3 b4 b5 b6 b7 b8 v2 hq
        have C : ∀ W : World, Below wr.heap.size wr W → Calls Try.prog 49 #[x.v, y.v] W (IsB18 q W) := fun W hW => by rw [← hq]; exact samenote_any x y W (v1.to hW) (v2.to hW)
        have HC := Lib.hid C
        have hki : (0 : Int) ≤ (k : Int) := by omega
        have hki2 : (k : Int) < (n : Int) := by omega
        clear hc hc' hx hy v1 v2 hq HS C hk1 hk2
        obtain ⟨xa, xi, xk, xkey, xA, xb, xc, xai, xe, xh, xA2, xvb, xc2⟩ := x
        obtain ⟨ya, yi, yk, ykey, yA, yb, yc, yai, ye, yh, yA2, yvb, yc2⟩ := y
        unfold NtL.v at HC
        simp only at a0 a1 a2 a3 a4 a5 a6 a7 a8 b0 b1 b2 b3 b4 b5 b6 b7 b8 HC
        cases q
        · have HR : Hid (R = false) := Lib.hid (HQ.out.2 rfl)
          clear HQ
          obtain rfl : R = false := HR.out
          go_wp2_with fail
          have hbb := (((Below.refl wr.heap.size wr).alloc (Nat.le_refl _) (.cells #[.bool xa, .int .i64 xi, .int .i64 xk, .string xkey, .slice xA xb.length xc, .int .i64 xai, .int .i64 xe, .bool xh, .slice xA2 xvb.length xc2] 58)).alloc (by simp) (.cells #[.bool ya, .int .i64 yi, .int .i64 yk, .string ykey, .slice yA yb.length yc, .int .i64 yai, .int .i64 ye, .bool yh, .slice yA2 yvb.length yc2] 58))
          refine (HC.out _ hbb).mono ?_
          rintro e w2 ⟨rfl, hb2⟩
          have HB2 : Hid (Below w.heap.size w w2) := Lib.hid (HB.out.trans ((hbb.trans (hb2.mono hbb.size)).mono HB.out.size))
          clear hb2 hbb
          go_wp2
          go_ret
          exact ⟨rfl, HB2.out⟩
        · have HS := Lib.hid (HQ.out.1 rfl)
          clear HQ
          go_wp2_with fail
          have hbb := (((Below.refl wr.heap.size wr).alloc (Nat.le_refl _) (.cells #[.bool xa, .int .i64 xi, .int .i64 xk, .string xkey, .slice xA xb.length xc, .int .i64 xai, .int .i64 xe, .bool xh, .slice xA2 xvb.length xc2] 58)).alloc (by simp) (.cells #[.bool ya, .int .i64 yi, .int .i64 yk, .string ykey, .slice yA yb.length yc, .int .i64 yai, .int .i64 ye, .bool yh, .slice yA2 yvb.length yc2] 58))
          refine (HC.out _ hbb).mono ?_
          rintro e w2 ⟨rfl, hb2⟩
          have HB2 : Hid (Below w.heap.size w w2) := Lib.hid (HB.out.trans ((hbb.trans (hb2.mono hbb.size)).mono HB.out.size))
          clear hb2 hbb
          go_wp2
          go_roundw
          case rel => exact ⟨k + 1, by omega, by go_num, HB2, HS⟩
          case measure => simp [intOf]; omega
      · obtain rfl : n = k := by omega
        have HR : Hid (R = true) := Lib.hid (by
          rw [← HV.out]
          exact allN_yes (by rw [← HN.out, ← HM.out]) fun j h1 h2 => HS.out j h1 h2 (by rw [HN.out]; exact h1))
        clear HS
        obtain rfl : R = true := HR.out
        go_wp2
        go_ret
        exact ⟨rfl, HB.out⟩
  · have HR : Hid (R = false) := Lib.hid (by rw [← HV.out]; exact allN_len (by rw [← HN.out, ← HM.out]; exact hnm))
    have hne : ((n : Int) != (m : Int)) = true := by simp; omega
    clear hn hm
    obtain rfl : R = false := HR.out
    go_enter Try.func48, Try.ntmps48
    go_wp2
    go_ret
    exact ⟨rfl, Below.refl _ _⟩
theorem same18_any (n c m c' : Nat) (A A' : Option Addr) (us vs : List NtL) (hn : n = us.length) (hm : m = vs.length) (hl : n ≤ maxLen) (hl' : m ≤ maxLen) (w : World) (h : NtsB w A us) (h' : NtsB w A' vs) :
    Calls Try.prog 24 #[.slice A n c, .slice A' m c'] w (IsB18 (allN us vs) w) := by
  have HC := Lib.hid (eqnotes_any n c m c' A A' us vs hn hm hl hl' w h h')
  obtain ⟨R, hR⟩ : ∃ R, allN us vs = R := ⟨_, rfl⟩
  rw [hR] at HC ⊢
  clear h h' hn hm hl hl' hR
  go_enter Try.func24, Try.ntmps24
  go_wp2_with fail
  refine HC.out.mono ?_
  rintro e w2 ⟨rfl, hb⟩
  have HB := Lib.hid hb
  clear hb
  go_wp2
  go_ret
  exact ⟨rfl, HB.out⟩
/-- Some number. -/
def SmP (w : World) (e : Ending) (w' : World) : Prop := ∃ t : Int, e = .returned (.int .i64 t) ∧ Below w.heap.size w w'
theorem longh_any (n c : Nat) (A : Option Addr) (us : List NtL) (hn : n = us.length) (hl : n ≤ maxLen) (w : World) (h : NtsB w A us) :
    Calls Try.prog 9 #[.slice A n c] w (SmP w) := by
  have HRES : Hid (∀ (t : Int) (W : World), Below w.heap.size w W → SmP w (.returned (.int .i64 t)) W) := Lib.hid fun t W hb => ⟨t, rfl, hb⟩
  obtain ⟨Q, hQ⟩ : ∃ Q, SmP w = Q := ⟨_, rfl⟩
  rw [hQ] at HRES ⊢
  have HN := Lib.hid hn
  have HU := Lib.hid h
  have hn2 : (n : Int) ≤ 9223372036854775807 := by unfold maxLen at hl; omega
  clear h hn hl hQ
  go_enter Try.func9, Try.ntmps9
  go_wp2
  go_loopw [3, 4] (fun nv iv wr => ∃ (t : Int) (q : Nat), q ≤ n ∧ nv = .int .i64 t ∧ iv = .int .i64 (q : Int) ∧ Hid (Below w.heap.size w wr)) (fun _ iv _ => n - (intOf iv).toNat)
  case atStart => exact ⟨0, 0, by omega, rfl, rfl, Lib.hid (Below.refl _ _)⟩
  case round =>
    obtain ⟨t, q, hq, rfl, rfl, HB⟩ := hrel
    have hq0 : (0 : Int) ≤ (q : Int) := by omega
    by_cases hlt : q < n
    · have hlt2 : (q : Int) < (n : Int) := by omega
      have hql : q < us.length := by rw [← HN.out]; exact hlt
      obtain ⟨b, o, hA, hbB, hcl⟩ := nts_open (HU.out.below HB.out).row (by omega)
      obtain ⟨e0, e1, e2, e3, e4, e5, e6, e7, e8⟩ := hcl q hql
      obtain ⟨y, hy⟩ : ∃ y, us[q] = y := ⟨_, rfl⟩
      rw [hy] at e0 e1 e2 e3 e4 e5 e6 e7 e8
      subst hA
      clear hy hcl hbB hql
      obtain ⟨ya, yi, yk, ykey, yA, yb, yc, yai, ye, yh, yA2, yvb, yc2⟩ := y
      simp only at e0 e1 e2 e3 e4 e5 e6 e7 e8
      clear e0 e1 e2 e5 e6 e7
      go_wp2
      go_quiet (fail)
      go_wp2
      go_roundw
      case rel => exact ⟨_, q + 1, by omega, rfl, by go_num, Lib.hid (HB.out.trans (below_drew' _ _ _))⟩
      case measure => simp [intOf]; omega
    · obtain rfl : q = n := by omega
      go_wp2
      exact HRES.out _ _ HB.out
end Go.Proofs.Ytlecbhnopokmnaa
