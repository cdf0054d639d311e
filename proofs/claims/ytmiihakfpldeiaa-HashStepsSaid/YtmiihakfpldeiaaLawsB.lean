/- The law HashSteps, walked. -/
import Derived.Test.YtmiihakfpldeiaaLawsA
namespace Go.Proofs.Ytmiihakfpldeiaa
open Go.RowKit Mem Be Word
set_option maxRecDepth 100000
set_option maxHeartbeats 4000000
theorem law_known {w w' : World} {e : Ending} (h : e = .returned (.bool true) ∧ Below w.heap.size w w') : e = .returned (.bool true) ∧ Below w.heap.size w w' := h
theorem steps_walk (A : Option Addr) (bs : List UInt8) (n c : Nat) (hn : n = bs.length) (w : World) (h : Row w w.heap.size A (bs.map byteV)) :
    Calls Try.prog 8 #[.slice A n c] w fun e w' => e = .returned (.bool true) ∧ Below w.heap.size w w' := by
  by_cases h2 : 2000 < n
  · have hg : (2000 : Int) < (n : Int) := by omega
    clear h hn h2
    go_enter Try.func8, Try.ntmps8
    go_wp2_with (go_at_call 10; refine (known_any _).mono ?_; rintro e w' ⟨rfl, hb⟩; have HB := Lib.hid hb; clear hb)
    go_ret
    exact ⟨rfl, HB.out⟩
  have hg : (n : Int) ≤ 2000 := by omega
  have hg' : n ≤ 2000 := by omega
  have HR := Lib.hid h
  have HN := Lib.hid hn
  clear h hn h2
  go_enter Try.func8, Try.ntmps8
  go_wp2_with fail
  refine (sum_any w.heap.size 0 0 none [] rfl _ (Row.nil _ _ _) (rows_nil _) (by simp) (by omega)).mono ?_
  rw [show sumN basisN (catB []) = basisN by rfl]
  rintro e w' ⟨rfl, rfl⟩
  go_wp2
  go_loop [3, 4] (fun v i => ∃ (k h : Nat), k ≤ n ∧ i = .int .i64 k ∧ v = .int .u64 (h : Int) ∧ Hid (sumN basisN (bs.take k) = h)) (fun _ i => n - (intOf i).toNat)
  case atStart => exact ⟨0, basisN, by omega, rfl, rfl, Lib.hid rfl⟩
  case round =>
    obtain ⟨k, h, hk, rfl, rfl, HS⟩ := hrel
    by_cases hlt : k < n
    · obtain ⟨b, o, rfl, hb, hc⟩ := HR.out.open_ (by rw [List.length_map, ← HN.out]; omega)
      have hkr : k < bs.length := by rw [← HN.out]; exact hlt
      have hck := hc k (by rw [List.length_map]; exact hkr)
      rw [byteV_list bs k hkr] at hck
      have hsn := Lib.hid (sum_snoc basisN bs k hkr)
      have hu2 : U64 h := by rw [← HS.out]; exact sum_lt _ basis_lt _
      have hb8 : bs[k].toNat ≤ 255 := by have := bs[k].toNat_lt; omega
      clear hc hb
      go_wp2_with fail
      refine (step_any h _ _ hu2 hb8).mono ?_
      rintro e w' ⟨rfl, rfl⟩
      go_wp2
      go_round
      case rel => exact ⟨k + 1, stepN h bs[k].toNat, by omega, by go_num, rfl, Lib.hid (by rw [hsn.out, HS.out])⟩
      case measure => simp [intOf]; omega
    · have hfin : Hid (sumN basisN bs = h) := Lib.hid (by rw [← HS.out, List.take_of_length_le (by rw [← HN.out]; omega)])
      have hu : U64 h := by rw [← hfin.out]; exact sum_lt _ basis_lt _
      have HU := Lib.hid hu
      have r3 := check_xor h hu
      obtain ⟨p, hp⟩ : ∃ p : Nat, h / 4294967296 = p := ⟨_, rfl⟩
      obtain ⟨q, hq⟩ : ∃ q : Nat, h % 4294967296 = q := ⟨_, rfl⟩
      obtain ⟨y, hy⟩ : ∃ y : Nat, checkN h = y := ⟨_, rfl⟩
      rw [hp, hq, hy] at r3
      have r1 : (h : Int) / 4294967296 = (p : Int) := by omega
      have r2 : (h : Int) % 4294967296 = (q : Int) := by omega
      have r4 : IntKind.u64.wrap (p : Int) = (p : Int) := by rw [IntKind.wrap_u64]; unfold U64 at hu; omega
      have r5 : IntKind.u32.wrap (p : Int) = (p : Int) := u32_of p (by unfold U64 at hu; omega)
      have r6 : IntKind.u32.wrap (q : Int) = (q : Int) := u32_of q (by omega)
      have HY := Lib.hid hy
      have hcv := conv_row (P := Try.prog) (w := w.alloc (.cells #[.slice A n c] 23)) c 23 9 5 Try.underlying23 Try.underlying5 Try.underlying9 (HR.out.alloc (Nat.le_refl _) _)
      rw [← HN.out] at hcv
      have HSZ : Hid ((⟨bs.toArray⟩ : ByteArray).size ≤ 100000) := Lib.hid (by show bs.toArray.size ≤ 100000; simp; rw [← HN.out]; omega)
      clear hp hq hy hu
      go_wp2_with fail
      refine (sum_any (w.heap.size + 1) 1 1 _ [(A, bs, c)] rfl _ (one_row _ _ _ bs _ _ HN.out) (rows_alloc (rows_one HR.out) _) (lens_one (by rw [← HN.out]; omega)) (by omega)).mono ?_
      rw [show catB [(A, bs, c)] = bs by simp [catB], hfin.out]
      rintro e w' ⟨rfl, rfl⟩
      go_wp2_with fail
      refine (key_any _ HSZ.out _).mono ?_
      rw [kb_mk, show keyN bs = stirN h by unfold keyN; rw [hfin.out]]
      rintro e w1 ⟨rfl, hb⟩
      have HB1 : Hid (Below w.heap.size w w1) := Lib.hid (((Below.refl _ _).alloc (Nat.le_refl _) _).trans (hb.mono (by simp)))
      have HR1 := Lib.hid ((HR.out.below HB1.out).more HB1.out.size)
      clear hb hcv
      go_wp2_with fail
      refine (stir_any h _ HU.out).mono ?_
      rintro e w' ⟨rfl, rfl⟩
      go_wp2_with fail
      refine (check_any (w1.heap.size + 1) 1 1 _ [(A, bs, c)] rfl _ (one_row _ _ _ bs _ _ HN.out) (rows_alloc (rows_one HR1.out) _) (lens_one (by rw [← HN.out]; omega)) (by omega)).mono ?_
      rw [show catB [(A, bs, c)] = bs by simp [catB], hfin.out, HY.out]
      rintro e w' ⟨rfl, rfl⟩
      go_wp2_with fail
      refine (known_any _).mono ?_
      rintro e w2 ⟨rfl, hb⟩
      have HB2 : Hid (Below w.heap.size w w2) := Lib.hid ((HB1.out.alloc HB1.out.size _).trans (hb.mono (by have := HB1.out.size; simp; omega)))
      clear hb
      go_wp2
      go_ret
      exact ⟨rfl, HB2.out⟩
end Go.Proofs.Ytmiihakfpldeiaa
