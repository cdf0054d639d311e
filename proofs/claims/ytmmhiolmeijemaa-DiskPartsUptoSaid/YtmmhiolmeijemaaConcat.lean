/- Rows of bytes laid one behind the other, in new memory; the bytes of a string. -/
import Derived.Test.YtmmhiolmeijemaaMany
import Derived.Test.YtmmhiolmeijemaaLater
import Derived.Lib.AppendZeros
namespace Go.Proofs.Ytmmhiolmeijemaa
open Go.RowKit Mem
set_option maxRecDepth 10000
set_option maxHeartbeats 2000000
/-- A slice of no bytes with room of its own. -/
def RoomB (w : World) (e : Ending) (w' : World) : Prop := ∃ A c, e = .returned (.slice A 0 c) ∧ w'.ownsRow w.heap.size 5 1 (.slice A 0 c) 0 [] ∧ Below w.heap.size w w'
theorem grow_any (n : Nat) (hn : n ≤ 1073741824) (w : World) : Calls Try.prog 31 #[.slice none 0 0, .int .i64 n] w (RoomB w) := by
  obtain ⟨i0, hi0, hz0, hz1, hz2⟩ := info_parts info_b
  have hnl : (n : Int) ≤ 1073741824 := by omega
  rcases Nat.eq_zero_or_pos n with h0 | h0
  · subst h0
    go_enter Try.func31, Try.ntmps31
    go_wp2
    go_ret
    exact ⟨none, 0, rfl, World.ownsRow_nil _ _ _ _, Below.refl _ _⟩
  · have hp : (0 : Int) < (n : Int) := by omega
    have hcut1 := fun W => run_cut_h (P := Try.prog) (w := W) 22 5 _ _ Try.underlying22 info_b none 0 0 0 (Nat.le_refl _)
    have hz := fun (w : World) => Lib.run_append_nil_zeros (P := Try.prog) w 22 3 22 5 i0 (.int .u8 0) .i64 .i64 Try.underlying22 Try.underlying3 hi0 hz0 n h0 (by omega) (by omega) (by rw [hz2]; omega)
    have HZ := Lib.hid hz
    have H1 := Lib.hid hz1
    clear hz
    have hcut2 := fun W c => run_cut_h (P := Try.prog) (w := W) 22 5 _ _ Try.underlying22 info_b (some ⟨w.heap.size, 0, none⟩) n c 0 (Nat.zero_le _)
    go_enter Try.func31, Try.ntmps31
    go_wp2_with (at_builtin; refine Lib.wpList_append_run _ rfl _ _ _ _ rfl _ _ rfl rfl _ _ (HZ.out _) ?_)
    go_ret
    have hge := grownCap_ge w n 0 5
    refine ⟨_, _, rfl, ?_, ((Below.refl _ _).alloc (Nat.le_refl _) _).drew⟩
    have := World.ownsRow_made (base := w.heap.size) (e := 5) (size := 1) w (Builtin.zeroCells #[.int .u8 0] n ++ Builtin.zeroCells #[.int .u8 0] (grownCap w n 0 5 - n)) (grownCap w n 0 5) (Nat.le_refl _) (grownCap_le_maxLen w n 0 5 (by unfold maxLen; omega)) (by rw [Array.size_append, size_zeroCells, size_zeroCells]; simp; omega)
    exact this
theorem concat_any (B n c : Nat) (A : Option Addr) (rs : List RowV) (hn : n = rs.length) (w : World) (h : Row w B A (rs.map rowV)) (hB : B ≤ w.heap.size) (hx : ∀ r ∈ rs, Row w w.heap.size r.1 (r.2.1.map byteV)) (hl : (catB rs).length ≤ 1073741824) (hn2 : n ≤ 1000000) :
    Calls Try.prog 29 #[.slice A n c] w (Made w.heap.size (catB rs) w) := by
  obtain ⟨i0, hi0, hz0, hz1, hz2⟩ := info_parts info_b
  have HR := Lib.hid h
  have HX := Lib.hid hx
  have HN := Lib.hid hn
  have HL := Lib.hid hl
  have hnl : (n : Int) ≤ 1000000 := by omega
  clear h hx hn hl
  go_enter Try.func29, Try.ntmps29
  go_wp2
  go_loop [3, 11] (fun z i => ∃ k : Nat, k ≤ n ∧ i = .int .i64 k ∧ z = .int .i64 ((catB (rs.take k)).length : Nat)) (fun _ i => n - (intOf i).toNat)
  case atStart => exact ⟨0, by omega, rfl, rfl⟩
  case round =>
    obtain ⟨k, hk, rfl, rfl⟩ := hrel
    by_cases hlt : k < n
    · have hk1 : k < rs.length := by rw [← HN.out]; exact hlt
      obtain ⟨b, o, rfl, _, hc⟩ := HR.out.open_ (by simp; omega)
      have hcell : w.cell? ⟨b, o + k, none⟩ = some (rowV rs[k]) := (hc k (by simpa using hk1)).trans (congrArg some (List.getElem_map (f := rowV) (h := by simpa using hk1)))
      obtain ⟨⟨A1, y1, c1⟩, hy1⟩ : ∃ y, rs[k] = y := ⟨_, rfl⟩
      rw [hy1] at hcell
      unfold rowV at hcell
      simp only at hcell
      have hs := catB_snoc rs k hk1
      rw [hy1] at hs
      have hle := catB_le rs (k + 1)
      rw [hs, List.length_append] at hle
      obtain ⟨z, hz⟩ : ∃ z, (catB (rs.take k)).length = z := ⟨_, rfl⟩
      have HS : Hid ((catB (rs.take (k + 1))).length = z + y1.length) := Lib.hid (by rw [hs, List.length_append, hz])
      rw [hz] at hle ⊢
      have hle2 : (z : Int) + (y1.length : Int) ≤ 1073741824 := by have := HL.out; simp only at hle; omega
      have hki : (0 : Int) ≤ (k : Int) := by omega
      have hki2 : (k : Int) < (n : Int) := by omega
      clear hc hy1 hs hz hle
      go_wp2
      go_round
      case rel => exact ⟨k + 1, by omega, by go_num, by rw [HS.out]; go_num⟩
      case measure => simp [intOf]; omega
    · obtain rfl : k = n := by omega
      have HT : Hid (rs.take k = rs) := Lib.hid (List.take_of_length_le (by rw [← HN.out]; omega))
      rw [HT.out]
      obtain ⟨z, hz⟩ : ∃ z, (catB rs).length = z := ⟨_, rfl⟩
      rw [hz]
      have hzl : z ≤ 1073741824 := by rw [← hz]; exact HL.out
      clear hz
      go_wp2_with (go_at_call 31; refine (grow_any z hzl _).mono ?_; rintro e w1 ⟨A0, c0, rfl, ho, hb⟩; have HO0 := Lib.hid ho; have HB0 := Lib.hid hb; clear ho hb)
      go_loopw [6, 27] (fun v i wr => ∃ j : Nat, j ≤ k ∧ i = .int .i64 j ∧ wr.ownsRow w.heap.size 5 1 v (catB (rs.take j)).length ((catB (rs.take j)).map byteV) ∧ Below w.heap.size w wr) (fun _ i _ => k - (intOf i).toNat)
      case atStart => exact ⟨0, by omega, rfl, HO0.out, HB0.out⟩
      case round =>
        obtain ⟨j, hj, rfl, hown, hbl⟩ := hrel
        have HO := Lib.hid hown
        have HB := Lib.hid hbl
        clear hown hbl
        by_cases hjt : j < k
        · have hj1 : j < rs.length := by rw [← HN.out]; exact hjt
          obtain ⟨b, o, rfl, hbB, hc⟩ := HR.out.open_ (by simp; omega)
          have hcell : wr.cell? ⟨b, o + j, none⟩ = some (rowV rs[j]) := (HB.out.cell (p := ⟨b, o + j, none⟩) (by show b < w.heap.size; omega)).trans ((hc j (by simpa using hj1)).trans (congrArg some (List.getElem_map (f := rowV) (h := by simpa using hj1))))
          have hrow := HX.out rs[j] (List.getElem_mem hj1)
          obtain ⟨⟨A1, y1, c1⟩, hy1⟩ : ∃ y, rs[j] = y := ⟨_, rfl⟩
          rw [hy1] at hcell hrow
          unfold rowV at hcell
          simp only at hcell hrow
          have hs := catB_snoc rs j hj1
          rw [hy1] at hs
          simp only at hs
          have hle := catB_le rs (j + 1)
          have HLE : Hid ((catB (rs.take j)).length + y1.length ≤ 1073741824) := Lib.hid (by rw [hs, List.length_append] at hle; have := HL.out; omega)
          have HS := Lib.hid hs
          have HROW := Lib.hid (hrow.below HB.out)
          have hki : (0 : Int) ≤ (j : Int) := by omega
          have hki2 : (j : Int) < (k : Int) := by omega
          clear hc hy1 hs hle hrow
          go_wp2_with (at_builtin; refine wpList_app _ rfl _ _ 22 rfl w.heap.size 5 i0 (.int .u8 0) 1 Try.underlying22 hi0 hz0 hz1 hz2 rfl _ _ _ rfl HO.out w.heap.size _ y1.length c1 (y1.map byteV) rfl (by simp) HROW.out (byte_one y1) (by have := HLE.out; unfold maxLen; omega) (by have := HLE.out; omega) HB.out.size ?_)
          intro v' w2 hown hgr _
          have HO2 : Hid (w2.ownsRow w.heap.size 5 1 v' (catB (rs.take (j + 1))).length ((catB (rs.take (j + 1))).map byteV)) := Lib.hid (by rw [HS.out, List.map_append, List.length_append]; exact hown)
          have HB2 : Hid (Below w.heap.size w w2) := Lib.hid (HB.out.grown hgr HB.out.size fun g hg => (HO.out.lt g hg).1)
          clear hown hgr
          go_wp2
          go_roundw
          case rel => exact ⟨j + 1, by omega, by go_num, HO2.out, HB2.out⟩
          case measure => simp [intOf]; omega
        · obtain rfl : j = k := by omega
          go_wp2
          go_ret
          exact made_of HO.out (by rw [HT.out]) HB.out
end Go.Proofs.Ytmmhiolmeijemaa
