/- LnT: LinTells returns true, whatever the arguments; what was there is left as it was. -/
import Derived.Test.YtlecbhnopokmnaaLnJ
import Derived.Test.YtlecbhnopokmnaaLnM
namespace Go.Proofs.Ytlecbhnopokmnaa
open Go.RowKit Mem
set_option maxRecDepth 100000
set_option maxHeartbeats 8000000
set_option linter.unusedVariables false
set_option linter.unusedSimpArgs false
open Ln
theorem out_row {w : World} {B : Nat} {A : Option Addr} {out : List Nat} (h : Row w B A (out.map iN)) : Row w B A ((out.map Int.ofNat).map iV8) := by
  rw [List.map_map]; exact h
theorem tells_walk (l : List DdL) (xs : List Int) (n m c c' : Nat) (A A' : Option Addr) (hn : n = l.length) (hm : m = xs.length) (hl : l.length ≤ maxLen) (w : World) (hr : Row w w.heap.size A (ddsC l)) (hd : ∀ r ∈ l, DdOk w r) (hx : Row w w.heap.size A' (xs.map iV8)) (hxl : xs.length ≤ maxLen) :
    Calls Try.prog 4 #[.slice A n c, .slice A' m c'] w (IsB18 true w) := by
  subst hn; subst hm
  have HRES : Hid (∀ W W' : World, Below w.heap.size w W → Below W.heap.size W W' → IsB18 true w (.returned (.bool true)) W') := Lib.hid fun W W' h h' => ⟨rfl, h.trans (h'.mono h.size)⟩
  have HLG := Lib.hid (long18_any l hl w.heap.size c A w hr (Nat.le_refl _))
  have HR := Lib.hid hr
  have HX := Lib.hid hx
  have HDD : Hid (Dds_ w w.heap.size l) := Lib.hid fun r h => (hd r h).1
  have HW : Hid (∀ r ∈ l, minI ≤ r.till) := Lib.hid fun r h => (hd r h).2.1
  obtain ⟨Q, hQ⟩ : ∃ Q, IsB18 true w = Q := ⟨_, rfl⟩
  rw [hQ] at HRES ⊢
  have hln : (l.length : Int) ≤ 9223372036854775807 := by unfold maxLen at hl; omega
  have hxn : (xs.length : Int) ≤ 9223372036854775807 := by unfold maxLen at hxl; omega
  clear hQ hr hx hd hl hxl
  go_enter Try.func4, Try.ntmps4
  go_wp2_with fail
  refine HLG.out.mono ?_
  rintro e w1 ⟨b, rfl, h7, hb1⟩
  have HB1 := Lib.hid hb1
  clear hb1 HLG
  cases b
  rotate_left
  · go_wp2_with fail
    refine (known18_any _).mono ?_
    rintro e w2 ⟨rfl, hb2⟩
    go_wp2
    exact HRES.out _ _ HB1.out hb2
  have h7' : l.length ≤ 7 := h7 rfl
  clear h7
  by_cases h20 : 20 < xs.length
  · have h202 : (20 : Int) < (xs.length : Int) := by omega
    go_wp2_with fail
    refine (known18_any _).mono ?_
    rintro e w2 ⟨rfl, hb2⟩
    go_wp2
    exact HRES.out _ _ HB1.out hb2
  have h202 : (xs.length : Int) ≤ 20 := by omega
  go_wp2
  go_loopw [5] (fun iv wr => ∃ q : Nat, q ≤ l.length ∧ iv = .int .i64 (q : Int) ∧ Hid (Below w.heap.size w wr)) (fun iv _ => l.length - (intOf iv).toNat)
  case atStart => exact ⟨0, by omega, rfl, HB1⟩
  case round =>
    obtain ⟨q, hq, rfl, HB⟩ := hrel
    have hq0 : (0 : Int) ≤ (q : Int) := by omega
    by_cases hlt : q < l.length
    · have hlt2 : (q : Int) < (l.length : Int) := by omega
      obtain ⟨b, o, hA, hbB, hcl⟩ := dds_open HR.out (by omega)
      obtain ⟨e0, e1, e2, e3, e4, e5, e6⟩ := (hcl q hlt).keep (HB.out.block b hbB)
      obtain ⟨y, hy⟩ : ∃ y, l[q] = y := ⟨_, rfl⟩
      rw [hy] at e0 e1 e2 e3 e4 e5 e6
      subst hA
      clear hy hcl hbB
      obtain ⟨kind, yA, yb, yc, fro, till, done, has, A2, vb, c2⟩ := y
      simp only at e0 e1 e2 e3 e4 e5 e6
      clear e0 e1 e5 e6
      by_cases ht : till < fro
      · go_wp2
        go_quiet (fail)
        go_wp2_with fail
        refine (known18_any _).mono ?_
        rintro e w2 ⟨rfl, hb2⟩
        go_wp2
        exact HRES.out _ _ (HB.out.trans (below_drew' _ _ _)) hb2
      have ht2 : fro ≤ till := by omega
      cases done
      · by_cases h1 : till < 1000
        · go_wp2
          go_quiet (fail)
          go_wp2_with fail
          refine (known18_any _).mono ?_
          rintro e w2 ⟨rfl, hb2⟩
          go_wp2
          exact HRES.out _ _ (HB.out.trans (below_drew' _ _ _)) hb2
        · have h12 : 1000 ≤ till := by omega
          go_wp2
          go_quiet (fail)
          go_wp2
          go_roundw
          case rel => exact ⟨q + 1, by omega, by go_num, Lib.hid (HB.out.trans (below_drew' _ _ _))⟩
          case measure => simp [intOf]; omega
      · go_wp2
        go_quiet (fail)
        go_wp2
        go_roundw
        case rel => exact ⟨q + 1, by omega, by go_num, Lib.hid (HB.out.trans (below_drew' _ _ _))⟩
        case measure => simp [intOf]; omega
    obtain rfl : q = l.length := by omega
    clear hq hlt hq0
    go_wp2
    go_loopw [6] (fun iv wr => ∃ q : Nat, q ≤ l.length ∧ iv = .int .i64 (q : Int) ∧ Hid (Below w.heap.size w wr)) (fun iv _ => l.length - (intOf iv).toNat)
    case atStart => exact ⟨0, by omega, rfl, HB⟩
    case round =>
      obtain ⟨q, hq, rfl, HB⟩ := hrel
      have hq0 : (0 : Int) ≤ (q : Int) := by omega
      by_cases hlt : q < l.length
      · have hlt2 : (q : Int) < (l.length : Int) := by omega
        obtain ⟨b, o, hA, hbB, hcl⟩ := dds_open HR.out (by omega)
        obtain ⟨e0, e1, e2, e3, e4, e5, e6⟩ := (hcl q hlt).keep (HB.out.block b hbB)
        obtain ⟨y, hy⟩ : ∃ y, l[q] = y := ⟨_, rfl⟩
        rw [hy] at e0 e1 e2 e3 e4 e5 e6
        subst hA
        clear hy hcl hbB
        obtain ⟨kind, yA, yb, yc, fro, till, done, has, A2, vb, c2⟩ := y
        simp only at e0 e1 e2 e3 e4 e5 e6
        clear e0 e1 e3 e4 e5 e6
        by_cases ht : 1000 ≤ fro
        · go_wp2_with fail
          refine (known18_any _).mono ?_
          rintro e w2 ⟨rfl, hb2⟩
          go_wp2
          exact HRES.out _ _ HB.out hb2
        · have ht2 : fro < 1000 := by omega
          go_wp2
          go_roundw
          case rel => exact ⟨q + 1, by omega, by go_num, HB⟩
          case measure => simp [intOf]; omega
      obtain rfl : q = l.length := by omega
      have HO := Lib.hid (order_full l (by omega) w.heap.size c A _ (HR.out.below HB.out) HB.out.size (HDD.out.below HB.out) HW.out)
      clear hq hlt hq0
      go_wp2_with fail
      refine HO.out.mono ?_
      rintro e w3 ⟨hb3, ⟨h, _⟩ | ⟨_, hno, rfl⟩ | ⟨_, out, A3, c3, h1, h2, h3, rfl, ho⟩⟩
      · omega
      · have HB3 := Lib.hid (HB.out.trans (hb3.mono HB.out.size))
        have HH := Lib.hid (holds_any l (by omega) xs (by omega) w.heap.size c xs.length c' A A' rfl w3 (HR.out.below HB3.out) HB3.out.size (HDD.out.below HB3.out) (HX.out.below HB3.out))
        rw [hno xs] at HH
        clear hno hb3 HO
        go_wp2_with fail
        refine HH.out.mono ?_
        rintro e w4 ⟨rfl, hb4⟩
        have HB4 := Lib.hid (HB3.out.trans (hb4.mono HB3.out.size))
        clear hb4 HH
        go_wp2_with fail
        refine (known18_any _).mono ?_
        rintro e w5 ⟨rfl, hb5⟩
        go_wp2
        exact HRES.out _ _ HB4.out hb5
      · have HB3 := Lib.hid (HB.out.trans (hb3.mono HB.out.size))
        have HH := Lib.hid (holds_any l (by omega) (out.map Int.ofNat) (by rw [List.length_map]; omega) w3.heap.size c out.length c3 A A3 (by rw [List.length_map]) w3 ((HR.out.below HB3.out).more HB3.out.size) (Nat.le_refl _) ((HDD.out.below HB3.out).more HB3.out.size) (out_row (Row.of_own ho)))
        rw [h1] at HH
        clear h1 h2 h3 ho hb3 HO
        go_wp2_with fail
        refine HH.out.mono ?_
        rintro e w4 ⟨rfl, hb4⟩
        have HB4 := Lib.hid (HB3.out.trans (hb4.mono HB3.out.size))
        clear hb4 HH
        have HH := Lib.hid (holds_any l (by omega) xs (by omega) w.heap.size c xs.length c' A A' rfl w4 (HR.out.below HB4.out) HB4.out.size (HDD.out.below HB4.out) (HX.out.below HB4.out))
        obtain ⟨b, hb⟩ : ∃ b, holdsP (l.map DdL.p) xs = b := ⟨_, rfl⟩
        rw [hb] at HH
        clear hb
        go_wp2_with fail
        refine HH.out.mono ?_
        rintro e w5 ⟨rfl, hb5⟩
        have HB5 := Lib.hid (HB4.out.trans (hb5.mono HB4.out.size))
        clear hb5 HH
        cases b
        all_goals
          go_wp2_with fail
          refine (known18_any _).mono ?_
          rintro e w6 ⟨rfl, hb6⟩
          go_wp2
          exact HRES.out _ _ HB5.out hb6
end Go.Proofs.Ytlecbhnopokmnaa
