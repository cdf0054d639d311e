/- Which entries may be, told by the reference: whatever lengths (written by tools/gen_rrg8.py). -/
import Derived.Test.YtfamklplhdnaiaaDoorTg
namespace Go.Proofs.YtfamklplhdnaiaaDoor
open Go.RowKit Mem
set_option maxRecDepth 10000
set_option maxHeartbeats 4000000
theorem refright_big (key : ByteArray) (s u o : Int) (has : Bool) (A : Option Addr) (m c : Nat) (hm : (m : Int) ≤ 9223372036854775807) (hsz : (key.size : Int) ≤ 9223372036854775807) (w : World) :
    Calls Tryd.prog 48 #[entV key s u o has A m c] w (IsI (rightE key.size m s u o has) w) := by
  have HB : Hid (Below w.heap.size w (w.alloc (entO key s u o has A m c))) := Lib.hid ((Below.refl _ _).alloc (Nat.le_refl _) _)
  obtain ⟨hk, hv⟩ := ways key.size m has
  rcases hk with hk | hk | ⟨hk, hk2⟩
  · clear hv
    go_enter Tryd.func48, Tryd.ntmps48
    go_wp2
    go_ret
    exact isI_of (rightE_no (by rintro ⟨h1, _⟩; omega)).symm HB.out
  · clear hv
    go_enter Tryd.func48, Tryd.ntmps48
    go_wp2
    go_ret
    exact isI_of (rightE_no (by rintro ⟨_, h1, _⟩; omega)).symm HB.out
  rcases hv with hv | ⟨hv, rfl⟩ | ⟨hv, rfl, rfl⟩ | ⟨hv, hv2, rfl⟩
  · go_enter Tryd.func48, Tryd.ntmps48
    go_wp2
    go_ret
    exact isI_of (rightE_no (by rintro ⟨_, _, h1, _⟩; omega)).symm HB.out
  · rcases checkT_02 s u o with h0 | h0
    · have H0 := Lib.hid h0
      clear h0
      cases h1 : (s == 0)
      · have hq : (s == 0) = false := h1
        have H1 : Hid ((s == 0) = false) := Lib.hid h1
        clear h1
        go_enter Tryd.func48, Tryd.ntmps48
        go_wp2_with (go_at_call 86; refine (refcheck_val _ _ _ _ (by assumption) _).mono ?_; rintro e w2 ⟨rfl, hb⟩; obtain ⟨hc, hf⟩ := bcell hb; have HB2 := Lib.hid (HB.out.trans (hb.mono HB.out.size)); clear hb)
        go_ret
        exact isI_of ((rightE_check (by refine ⟨by omega, by omega, by omega, by simp, ?_⟩; rintro ⟨h1, h2⟩; exact hid_some H1 h1)).trans H0.out).symm HB2.out
      · have H1 : Hid ((s == 0) = true) := Lib.hid h1
        go_enter Tryd.func48, Tryd.ntmps48
        go_wp2_with (go_at_call 86; refine (refcheck_val _ _ _ _ (by assumption) _).mono ?_; rintro e w2 ⟨rfl, hb⟩; obtain ⟨hc, hf⟩ := bcell hb; have HB2 := Lib.hid (HB.out.trans (hb.mono HB.out.size)); clear hb)
        go_ret
        exact isI_of (rightE_no (by rintro ⟨h1, h2, h3, h4, h5, h6⟩; exact h6 ⟨hid_nought H1, rfl⟩)).symm HB2.out
    · have H0 := Lib.hid h0
      clear h0
      go_enter Tryd.func48, Tryd.ntmps48
      go_wp2_with (go_at_call 86; refine (refcheck_val _ _ _ _ (by assumption) _).mono ?_; rintro e w2 ⟨rfl, hb⟩; obtain ⟨hc, hf⟩ := bcell hb; have HB2 := Lib.hid (HB.out.trans (hb.mono HB.out.size)); clear hb)
      go_ret
      exact isI_of (rightE_no (by rintro ⟨_, _, _, _, h1, _⟩; have := H0.out; omega)).symm HB2.out
  · rcases checkT_02 s u o with h0 | h0
    · have H0 := Lib.hid h0
      clear h0
      cases h1 : (s == 0)
      all_goals
        go_enter Tryd.func48, Tryd.ntmps48
        go_wp2_with (go_at_call 86; refine (refcheck_val _ _ _ _ (by assumption) _).mono ?_; rintro e w2 ⟨rfl, hb⟩; obtain ⟨hc, hf⟩ := bcell hb; have HB2 := Lib.hid (HB.out.trans (hb.mono HB.out.size)); clear hb)
        go_ret
        exact isI_of ((rightE_check (by refine ⟨by omega, by omega, by omega, by simp, ?_⟩; rintro ⟨h1, h2⟩; simp at h2)).trans H0.out).symm HB2.out
    · have H0 := Lib.hid h0
      clear h0
      go_enter Tryd.func48, Tryd.ntmps48
      go_wp2_with (go_at_call 86; refine (refcheck_val _ _ _ _ (by assumption) _).mono ?_; rintro e w2 ⟨rfl, hb⟩; obtain ⟨hc, hf⟩ := bcell hb; have HB2 := Lib.hid (HB.out.trans (hb.mono HB.out.size)); clear hb)
      go_ret
      exact isI_of (rightE_no (by rintro ⟨_, _, _, _, h1, _⟩; have := H0.out; omega)).symm HB2.out
  · go_enter Tryd.func48, Tryd.ntmps48
    go_wp2
    go_ret
    exact isI_of (rightE_no (by rintro ⟨_, _, _, h1, _⟩; simp at h1; omega)).symm HB.out
end Go.Proofs.YtfamklplhdnaiaaDoor
