/- LnRt: LinSame returns true, whatever the arguments; what was there is left as it was. -/
import Derived.Test.YtlecbhnopokmnaaLnRs
import Derived.Test.YtlecbhnopokmnaaLnJ
namespace Go.Proofs.Ytlecbhnopokmnaa
open Go.RowKit Mem
set_option maxRecDepth 100000
set_option maxHeartbeats 4000000
set_option linter.unusedVariables false
set_option linter.unusedSimpArgs false
open Ln
theorem linsame_walk (us vs : List NtL) (n c m c' : Nat) (A A' : Option Addr) (hn : n = us.length) (hm : m = vs.length) (hl : n ≤ maxLen) (hl' : m ≤ maxLen) (w : World) (h : NtsB w A us) (h' : NtsB w A' vs) :
    Calls Try.prog 6 #[.slice A n c, .slice A' m c'] w (IsB18 true w) := by
  have HRES : Hid (∀ W W' : World, Below w.heap.size w W → Below W.heap.size W W' → IsB18 true w (.returned (.bool true)) W') := Lib.hid fun W W' h h' => ⟨rfl, h.trans (h'.mono h.size)⟩
  have HL1 := Lib.hid fun (W : World) (hb : Below w.heap.size w W) => longh_any n c A us hn hl W (h.below hb)
  have HL2 := Lib.hid fun (W : World) (hb : Below w.heap.size w W) => longh_any m c' A' vs hm hl' W (h'.below hb)
  have HS1 := Lib.hid fun (W : World) (hb : Below w.heap.size w W) => same18_any n c m c' A A' us vs hn hm hl hl' W (h.below hb) (h'.below hb)
  have HS2 := Lib.hid fun (W : World) (hb : Below w.heap.size w W) => refsamenotes_any n c m c' A A' us vs hn hm hl hl' W (h.below hb) (h'.below hb)
  obtain ⟨R, hR⟩ : ∃ R, allN us vs = R := ⟨_, rfl⟩
  rw [hR] at HS1 HS2
  obtain ⟨Q, hQ⟩ : ∃ Q, IsB18 true w = Q := ⟨_, rfl⟩
  rw [hQ] at HRES ⊢
  clear hQ hR h h' hn hm hl hl'
  go_enter Try.func6, Try.ntmps6
  go_wp2_with fail
  refine (HL1.out _ (Below.refl _ _)).mono ?_
  rintro e w1 ⟨t1, rfl, hb1⟩
  have HB1 := Lib.hid hb1
  clear hb1 HL1
  by_cases h1 : 60 < t1
  · go_wp2_with fail
    refine (known18_any _).mono ?_
    rintro e w2 ⟨rfl, hb2⟩
    go_wp2
    exact HRES.out _ _ HB1.out hb2
  have h1' : t1 ≤ 60 := by omega
  go_wp2_with fail
  refine (HL2.out _ HB1.out).mono ?_
  rintro e w2 ⟨t2, rfl, hb2⟩
  have HB2 := Lib.hid (HB1.out.trans (hb2.mono HB1.out.size))
  clear hb2 HL2
  by_cases h2 : 60 < t2
  · go_wp2_with fail
    refine (known18_any _).mono ?_
    rintro e w3 ⟨rfl, hb3⟩
    go_wp2
    exact HRES.out _ _ HB2.out hb3
  have h2' : t2 ≤ 60 := by omega
  go_wp2_with fail
  refine (HS1.out _ HB2.out).mono ?_
  rintro e w3 ⟨rfl, hb3⟩
  have HB3 := Lib.hid (HB2.out.trans (hb3.mono HB2.out.size))
  clear hb3 HS1
  go_wp2_with fail
  refine (HS2.out _ HB3.out).mono ?_
  rintro e w4 ⟨rfl, hb4⟩
  have HB4 := Lib.hid (HB3.out.trans (hb4.mono HB3.out.size))
  clear hb4 HS2
  cases R
  all_goals
    go_wp2_with fail
    refine (known18_any _).mono ?_
    rintro e w5 ⟨rfl, hb5⟩
    go_wp2
    exact HRES.out _ _ HB4.out hb5
end Go.Proofs.Ytlecbhnopokmnaa
