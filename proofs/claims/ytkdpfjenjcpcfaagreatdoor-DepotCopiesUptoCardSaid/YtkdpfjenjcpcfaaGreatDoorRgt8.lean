/- Which entries may be: whatever lengths. -/
import Derived.Test.YtkdpfjenjcpcfaaGreatDoorTg
namespace Go.Proofs.YtkdpfjenjcpcfaaGreatDoor
open Go.RowKit Mem
set_option maxRecDepth 10000
set_option maxHeartbeats 2000000
theorem right_big (key : ByteArray) (s u o : Int) (has : Bool) (A : Option Addr) (m c : Nat) (hm : (m : Int) ≤ 9223372036854775807) (hsz : (key.size : Int) ≤ 9223372036854775807) (w : World) :
    Calls Tryz.prog 107 #[entV key s u o has A m c] w (IsI (rightE key.size m s u o has) w) := by
  have HB : Hid (Below w.heap.size w (w.alloc (entO key s u o has A m c))) := Lib.hid ((Below.refl _ _).alloc (Nat.le_refl _) _)
  obtain ⟨hk, hv⟩ := ways key.size m has
  have hs := none_ways s
  rcases hk with hk | hk | ⟨hk, hk2⟩ <;> rcases hv with hv | ⟨hv, rfl⟩ | ⟨hv, rfl, rfl⟩ | ⟨hv, hv2, rfl⟩ <;> rcases hs with hs | hs
  all_goals try (cases has)
  all_goals
    go_enter Tryz.func107, Tryz.ntmps107
    go_wp2_with (first
      | (go_at_call 113; refine (none_val _ _ _ _ (by assumption) _).mono ?_; rintro e w2 ⟨rfl, hb⟩; obtain ⟨hc, hf⟩ := bcell hb; have HB2 := Lib.hid (HB.out.trans (hb.mono HB.out.size)); clear hb)
      | (go_at_call 136; refine (checkT_any _ _ _ _).mono ?_; rintro e w3 ⟨rfl, hb⟩; have HB3 := Lib.hid (HB2.out.trans (hb.mono HB2.out.size)); clear hb))
    go_ret
    first
      | exact isI_of (rightE_check (by refine ⟨by omega, by omega, by omega, by simp, ?_⟩; rintro ⟨h1, h2⟩; first | exact hid_some hs h1 | simp at h2)).symm HB3.out
      | exact isI_of (rightE_no (by rintro ⟨h1, h2, h3, h4, h5, h6⟩; first | omega | (simp at h4; omega) | exact h6 ⟨hid_nought hs, rfl⟩)).symm HB2.out
end Go.Proofs.YtkdpfjenjcpcfaaGreatDoor
