/- The laws HashWords, HashBack, HashKeys and HashSteps, walked. -/
import Derived.Test.YtmiihakfpldeiaaKnown4
namespace Go.Proofs.Ytmiihakfpldeiaa
open Go.RowKit Mem Be Word
set_option maxRecDepth 100000
set_option maxHeartbeats 4000000
theorem word_of {a : Int} (h : (Lit.int .u64 a).wf = true) : ∃ n : Nat, a = (n : Int) ∧ U64 n := by
  have := bounds_u64 h
  exact ⟨a.toNat, by omega, by unfold U64; omega⟩
theorem byte_of {a : Int} (h : (Lit.int .u8 a).wf = true) : ∃ n : Nat, a = (n : Int) ∧ n ≤ 255 := by
  have := bounds_u8 h
  exact ⟨a.toNat, by omega, by omega⟩
theorem words_walk (h c : Nat) (hh : U64 h) (hc : c ≤ 255) (w : World) : Calls Try.prog 4 #[.int .u64 (h : Int), .int .u8 (c : Int)] w fun e w' => e = .returned (.bool true) ∧ Below w.heap.size w w' := by
  go_enter Try.func4, Try.ntmps4
  go_wp2_with fail
  refine (step_any h c _ hh hc).mono ?_
  rintro e w' ⟨rfl, rfl⟩
  go_wp2_with fail
  refine (refstep_any h c _ hh hc).mono ?_
  rintro e w' ⟨rfl, rfl⟩
  go_wp2_with fail
  refine (stir_any h _ hh).mono ?_
  rintro e w' ⟨rfl, rfl⟩
  go_wp2_with fail
  refine (refstir_any h _ hh).mono ?_
  rintro e w' ⟨rfl, rfl⟩
  go_wp2_with fail
  refine (known_any _).mono ?_
  rintro e w1 ⟨rfl, hb⟩
  have HB := Lib.hid hb
  clear hb
  go_wp2
  go_ret
  exact ⟨rfl, HB.out⟩
/-- How two words stand is how what they become stands. -/
def SameW (a b x y : Nat) : Prop := ((x : Int) == (y : Int)) = ((a : Int) == (b : Int))
theorem same_of {a b x y : Nat} (h : x = y ↔ a = b) : SameW a b x y := by
  unfold SameW
  rw [Bool.eq_iff_iff]
  simp only [beq_iff_eq]
  omega
theorem back_walk (a b c : Nat) (ha : U64 a) (hb : U64 b) (hc : c ≤ 255) (w : World) : Calls Try.prog 6 #[.int .u64 (a : Int), .int .u64 (b : Int), .int .u8 (c : Int)] w fun e w' => e = .returned (.bool true) ∧ Below w.heap.size w w' := by
  have E1 := Lib.hid (unstir_stir a ha)
  have E2 := Lib.hid (stir_unstir a ha)
  obtain ⟨p, hp⟩ : ∃ p, stirN a = p := ⟨_, rfl⟩
  obtain ⟨q, hq⟩ : ∃ q, stirN b = q := ⟨_, rfl⟩
  obtain ⟨r, hr⟩ : ∃ r, stepN a c = r := ⟨_, rfl⟩
  obtain ⟨s, hs⟩ : ∃ s, stepN b c = s := ⟨_, rfl⟩
  have k1 : SameW a b p q := same_of ⟨fun e => stir_inj a b ha hb (by rw [hp, hq, e]), fun e => by rw [← hp, ← hq, e]⟩
  have k2 : SameW a b r s := same_of ⟨fun e => step_inj a b c ha hb (by omega) (by rw [hr, hs, e]), fun e => by rw [← hr, ← hs, e]⟩
  unfold SameW at k1 k2
  have HP := Lib.hid hp
  have HQ := Lib.hid hq
  have HR := Lib.hid hr
  have HS := Lib.hid hs
  clear hp hq hr hs
  go_enter Try.func6, Try.ntmps6
  go_wp2_with fail
  refine (stir_any a _ ha).mono ?_
  rintro e w' ⟨rfl, rfl⟩
  go_wp2_with fail
  refine (unstir_any _ _ (stir_lt _)).mono ?_
  rw [E1.out]
  rintro e w' ⟨rfl, rfl⟩
  go_wp2_with fail
  refine (unstir_any a _ ha).mono ?_
  rintro e w' ⟨rfl, rfl⟩
  go_wp2_with fail
  refine (stir_any _ _ (unstir_lt _)).mono ?_
  rw [E2.out]
  rintro e w' ⟨rfl, rfl⟩
  go_wp2_with fail
  refine (stir_any a _ ha).mono ?_
  rw [HP.out]
  rintro e w' ⟨rfl, rfl⟩
  go_wp2_with fail
  refine (stir_any b _ hb).mono ?_
  rw [HQ.out]
  rintro e w' ⟨rfl, rfl⟩
  go_wp2_with fail
  refine (step_any a c _ ha hc).mono ?_
  rw [HR.out]
  rintro e w' ⟨rfl, rfl⟩
  go_wp2_with fail
  refine (step_any b c _ hb hc).mono ?_
  rw [HS.out]
  rintro e w' ⟨rfl, rfl⟩
  go_wp2_with fail
  refine (known_any _).mono ?_
  rintro e w1 ⟨rfl, hb⟩
  have HB := Lib.hid hb
  clear hb
  go_wp2
  go_ret
  exact ⟨rfl, HB.out⟩
theorem keys_walk (s : ByteArray) (n k : Int) (w : World) : Calls Try.prog 5 #[.string s, .int .i64 n, .int .i64 k] w fun e w' => e = .returned (.bool true) ∧ Below w.heap.size w w' := by
  by_cases h2 : 2000 < s.size
  · have hg : (2000 : Int) < (s.size : Int) := by omega
    clear h2
    go_enter Try.func5, Try.ntmps5
    go_wp2_with (go_at_call 10; refine (known_any _).mono ?_; rintro e w' ⟨rfl, hb⟩; have HB := Lib.hid hb; clear hb)
    go_ret
    exact ⟨rfl, HB.out⟩
  · have hg : (s.size : Int) ≤ 2000 := by omega
    have hs : s.size ≤ 100000 := by omega
    clear h2
    obtain ⟨⟨x, y⟩, hx⟩ : ∃ r, bucketN (keyN (kb s)) n = r := ⟨_, rfl⟩
    have HX := Lib.hid hx
    clear hx
    go_enter Try.func5, Try.ntmps5
    go_wp2_with fail
    refine (bucket_any s n hs _).mono ?_
    rw [HX.out]
    rintro e w1 ⟨rfl, hb⟩
    have HB1 := Lib.hid hb
    clear hb
    go_wp2_with fail
    refine (refbucket_any s n hs _).mono ?_
    rw [HX.out]
    rintro e w2 ⟨rfl, hb⟩
    have HB2 : Hid (Below w.heap.size w w2) := Lib.hid (HB1.out.trans (hb.mono HB1.out.size))
    clear hb
    go_wp2_with fail
    refine (key_any s hs _).mono ?_
    rintro e w3 ⟨rfl, hb⟩
    have HB3 : Hid (Below w.heap.size w w3) := Lib.hid (HB2.out.trans (hb.mono HB2.out.size))
    clear hb
    go_wp2_with fail
    refine (refkey_any s hs _).mono ?_
    rintro e w4 ⟨rfl, hb⟩
    have HB4 : Hid (Below w.heap.size w w4) := Lib.hid (HB3.out.trans (hb.mono HB3.out.size))
    clear hb
    go_wp2_with fail
    refine (point_any n k _).mono ?_
    rintro e w5 ⟨rfl, hb⟩
    have HB5 : Hid (Below w.heap.size w w5) := Lib.hid (HB4.out.trans (hb.mono HB4.out.size))
    clear hb
    go_wp2_with fail
    refine (refpoint_any n k _).mono ?_
    rintro e w6 ⟨rfl, hb⟩
    have HB6 : Hid (Below w.heap.size w w6) := Lib.hid (HB5.out.trans (hb.mono HB5.out.size))
    clear hb
    go_wp2_with fail
    refine (known_any _).mono ?_
    rintro e w7 ⟨rfl, hb⟩
    have HB7 : Hid (Below w.heap.size w w7) := Lib.hid (HB6.out.trans (hb.mono HB6.out.size))
    clear hb
    go_wp2
    go_ret
    exact ⟨rfl, HB7.out⟩
end Go.Proofs.Ytmiihakfpldeiaa
