/- Which entries may be, by the document; how many bytes one has. -/
import Derived.Test.YtnljljfopelopaaEnt
namespace Go.Proofs.Ytnljljfopelopaa
open Go.RowKit Mem
set_option maxRecDepth 10000
set_option maxHeartbeats 2000000
theorem refright_any (key : ByteArray) (s u o : Int) (has : Bool) (A : Option Addr) (m c : Nat) (hm : (m : Int) ≤ 1073741824) (hsz : (key.size : Int) ≤ 1073741824) (w : World) :
    Calls Try.prog 27 #[entV key s u o has A m c] w (IsI (rightE key.size m s u o has) w) := by
  have HB : Hid (Below w.heap.size w (w.alloc (entO key s u o has A m c))) := Lib.hid ((Below.refl _ _).alloc (Nat.le_refl _) _)
  obtain ⟨hk, hv⟩ := ways key.size m has
  rcases hk with hk | hk | ⟨hk, hk2⟩
  · clear hv
    go_enter Try.func27, Try.ntmps27
    go_wp2
    go_ret
    exact isI_of (rightE_no (by rintro ⟨h1, _⟩; omega)).symm HB.out
  · clear hv
    go_enter Try.func27, Try.ntmps27
    go_wp2
    go_ret
    exact isI_of (rightE_no (by rintro ⟨_, h1, _⟩; omega)).symm HB.out
  rcases hv with hv | ⟨hv, rfl⟩ | ⟨hv, rfl, rfl⟩ | ⟨hv, hv2, rfl⟩
  · go_enter Try.func27, Try.ntmps27
    go_wp2
    go_ret
    exact isI_of (rightE_no (by rintro ⟨_, _, h1, _⟩; omega)).symm HB.out
  · rcases checkT_02 s u o with h0 | h0
    · have H0 := Lib.hid h0
      clear h0
      cases h1 : (s == 0)
      · have hq : (s == 0) = false := h1
        have H1 : Hid ((s == 0) = false) := Lib.hid h1
        clear h1
        go_enter Try.func27, Try.ntmps27
        go_wp2_with (go_at_call 17; refine (refcheck_val _ _ _ _ (by assumption) _).mono ?_; rintro e w2 ⟨rfl, hb⟩; obtain ⟨hc, hf⟩ := bcell hb; have HB2 := Lib.hid (HB.out.trans (hb.mono HB.out.size)); clear hb)
        go_ret
        exact isI_of ((rightE_check (by refine ⟨by omega, by omega, by omega, by simp, ?_⟩; rintro ⟨h1, h2⟩; exact hid_some H1 h1)).trans H0.out).symm HB2.out
      · have H1 : Hid ((s == 0) = true) := Lib.hid h1
        go_enter Try.func27, Try.ntmps27
        go_wp2_with (go_at_call 17; refine (refcheck_val _ _ _ _ (by assumption) _).mono ?_; rintro e w2 ⟨rfl, hb⟩; obtain ⟨hc, hf⟩ := bcell hb; have HB2 := Lib.hid (HB.out.trans (hb.mono HB.out.size)); clear hb)
        go_ret
        exact isI_of (rightE_no (by rintro ⟨h1, h2, h3, h4, h5, h6⟩; exact h6 ⟨hid_nought H1, rfl⟩)).symm HB2.out
    · have H0 := Lib.hid h0
      clear h0
      go_enter Try.func27, Try.ntmps27
      go_wp2_with (go_at_call 17; refine (refcheck_val _ _ _ _ (by assumption) _).mono ?_; rintro e w2 ⟨rfl, hb⟩; obtain ⟨hc, hf⟩ := bcell hb; have HB2 := Lib.hid (HB.out.trans (hb.mono HB.out.size)); clear hb)
      go_ret
      exact isI_of (rightE_no (by rintro ⟨_, _, _, _, h1, _⟩; have := H0.out; omega)).symm HB2.out
  · rcases checkT_02 s u o with h0 | h0
    · have H0 := Lib.hid h0
      clear h0
      cases h1 : (s == 0)
      all_goals
        go_enter Try.func27, Try.ntmps27
        go_wp2_with (go_at_call 17; refine (refcheck_val _ _ _ _ (by assumption) _).mono ?_; rintro e w2 ⟨rfl, hb⟩; obtain ⟨hc, hf⟩ := bcell hb; have HB2 := Lib.hid (HB.out.trans (hb.mono HB.out.size)); clear hb)
        go_ret
        exact isI_of ((rightE_check (by refine ⟨by omega, by omega, by omega, by simp, ?_⟩; rintro ⟨h1, h2⟩; simp at h2)).trans H0.out).symm HB2.out
    · have H0 := Lib.hid h0
      clear h0
      go_enter Try.func27, Try.ntmps27
      go_wp2_with (go_at_call 17; refine (refcheck_val _ _ _ _ (by assumption) _).mono ?_; rintro e w2 ⟨rfl, hb⟩; obtain ⟨hc, hf⟩ := bcell hb; have HB2 := Lib.hid (HB.out.trans (hb.mono HB.out.size)); clear hb)
      go_ret
      exact isI_of (rightE_no (by rintro ⟨_, _, _, _, h1, _⟩; have := H0.out; omega)).symm HB2.out
  · go_enter Try.func27, Try.ntmps27
    go_wp2
    go_ret
    exact isI_of (rightE_no (by rintro ⟨_, _, _, h1, _⟩; simp at h1; omega)).symm HB.out
theorem size_any (key : ByteArray) (s u o : Int) (has : Bool) (A : Option Addr) (m c : Nat) (hm : (m : Int) ≤ 1073741824) (hsz : (key.size : Int) ≤ 1073741824) (w : World) :
    Calls Try.prog 28 #[entV key s u o has A m c] w (IsI ((key.size : Int) + (m : Int)) w) := by
  have HB : Hid (Below w.heap.size w (w.alloc (entO key s u o has A m c))) := Lib.hid ((Below.refl _ _).alloc (Nat.le_refl _) _)
  go_enter Try.func28, Try.ntmps28
  go_wp2
  go_ret
  exact isI_of rfl HB.out
def longE (k m : Nat) : Bool := decide (400 < k ∨ 1000 < m)
theorem longE_no {k m : Nat} (h : longE k m = false) : k ≤ 400 ∧ m ≤ 1000 := by have := of_decide_eq_false h; omega
theorem isB_of {a b : Bool} {w w' : World} (h : a = b) (hb : Below w.heap.size w w') : IsB b w (.returned (.bool a)) w' := ⟨by rw [h], hb⟩
theorem long_any (key : ByteArray) (s u o : Int) (has : Bool) (A : Option Addr) (m c : Nat) (w : World) :
    Calls Try.prog 22 #[entV key s u o has A m c] w (IsB (longE key.size m) w) := by
  have HB : Hid (Below w.heap.size w (w.alloc (entO key s u o has A m c))) := Lib.hid ((Below.refl _ _).alloc (Nat.le_refl _) _)
  by_cases h1 : (400 : Int) < (key.size : Int)
  · have HV : Hid (longE key.size m = true) := Lib.hid (decide_eq_true (by omega))
    go_enter Try.func22, Try.ntmps22
    go_wp2
    go_ret
    exact isB_of HV.out.symm HB.out
  by_cases h2 : (1000 : Int) < (m : Int)
  · have HV : Hid (longE key.size m = true) := Lib.hid (decide_eq_true (by omega))
    have h3 : (key.size : Int) ≤ 400 := by omega
    have h3' : decide ((400 : Int) < (key.size : Int)) = false := decide_eq_false h1
    have h4 : decide ((1000 : Int) < (m : Int)) = true := decide_eq_true h2
    clear h1 h2
    go_enter Try.func22, Try.ntmps22
    go_wp2
    go_ret
    exact isB_of HV.out.symm HB.out
  · have HV : Hid (longE key.size m = false) := Lib.hid (decide_eq_false (by omega))
    have h3 : (key.size : Int) ≤ 400 := by omega
    have h3' : decide ((400 : Int) < (key.size : Int)) = false := decide_eq_false h1
    have h4 : decide ((1000 : Int) < (m : Int)) = false := decide_eq_false h2
    clear h1 h2
    go_enter Try.func22, Try.ntmps22
    go_wp2
    go_ret
    exact isB_of HV.out.symm HB.out
theorem long_val (key : ByteArray) (s u o : Int) (has : Bool) (A : Option Addr) (m c : Nat) (b : Bool) (h : Hid (longE key.size m = b)) (w : World) :
    Calls Try.prog 22 #[entV key s u o has A m c] w (IsB b w) := by
  have := long_any key s u o has A m c w
  rw [h.out] at this; exact this
end Go.Proofs.Ytnljljfopelopaa
