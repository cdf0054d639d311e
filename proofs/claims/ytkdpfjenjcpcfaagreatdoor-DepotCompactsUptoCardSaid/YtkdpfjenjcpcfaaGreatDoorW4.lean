/- Four bytes of a number, laid and read, by the program and by the document: one contract each. -/
import Derived.Test.YtkdpfjenjcpcfaaGreatDoorHsh
import Derived.Test.YtkdpfjenjcpcfaaGreatDoorFrm
import Derived.Test.YtkdpfjenjcpcfaaGreatDoorCore
import Derived.Deep.OwnRows
import Derived.Lib.Small
import Derived.Lib.Strings
import Derived.Lib.Slices
import Derived.Lib.Walk
import Derived.Laws.BitsAllLaws
namespace Go.Proofs.YtkdpfjenjcpcfaaGreatDoor
open Go.RowKit Mem Be Word Frm
set_option maxRecDepth 10000
set_option maxHeartbeats 1000000
/-- Four cells, of which the first hi are written. -/
def CF (u : Int) (hi : Nat) : Array Value := ((List.range 4).map fun j => if j < hi then Value.int .u8 (u / 256 ^ (3 - j) % 256) else .int .u8 0).toArray
theorem size_CF (u : Int) (hi : Nat) : (CF u hi).size = 4 := by simp [CF]
theorem CF_at (u : Int) (hi j : Nat) (h : j < 4) : (CF u hi)[j]'(by rw [size_CF]; exact h) = if j < hi then Value.int .u8 (u / 256 ^ (3 - j) % 256) else .int .u8 0 := by
  simp [CF]
theorem CF_none (u : Int) : madeCells #[.int .u8 0] 4 = CF u 0 := by
  apply Array.ext
  · rw [size_CF, ← Array.length_toList, toList_madeCells_one]; simp
  · intro j h1 h2
    have h8 : j < 4 := by rw [size_CF] at h2; exact h2
    rw [CF_at u 0 j h8, if_neg (by omega), ← Array.getElem_toList]
    simp only [toList_madeCells_one, List.getElem_replicate]
theorem set_CF (u : Int) (hi : Nat) (x : Int) (hx : x = u / 256 ^ (3 - hi) % 256) : (CF u hi).setIfInBounds hi (.int .u8 x) = CF u (hi + 1) := by
  apply Array.ext
  · simp [size_CF]
  · intro j h1 h2
    have h8 : j < 4 := by rw [size_CF] at h2; exact h2
    rw [Array.getElem_setIfInBounds (by rw [size_CF]; exact h8), CF_at u (hi + 1) j h8]
    by_cases h : hi = j
    · subst h; rw [if_pos rfl, if_pos (by omega), hx]
    · rw [if_neg h, CF_at u hi j h8]
      by_cases hj : j < hi
      · rw [if_pos hj, if_pos (by omega)]
      · rw [if_neg hj, if_neg (by omega)]
theorem CF_bytes (u : Int) : (CF u 4).toList = (be 4 u).map byteV := by
  apply List.ext_getElem
  · simp [CF, be_len]
  · intro j h2 h3
    have h8 : j < 4 := by simpa [be_len] using h3
    rw [Array.getElem_toList, CF_at u 4 j h8, if_pos (by omega), List.getElem_map, be_get _ _ _ h8]
    unfold byteV
    rw [byte_back]
theorem own_lit {w : World} (bs : List UInt8) (cs : Array Value) (h : cs.toList = bs.map byteV) (hm : bs.length ≤ 1000000) : (w.alloc (.cells cs 5)).ownsRow w.heap.size 5 1 (.slice (some ⟨w.heap.size, 0, none⟩) bs.length bs.length) bs.length (bs.map byteV) := by
  have hl : cs.size = bs.length := by rw [← Array.length_toList, h, List.length_map]
  refine ⟨by simp, Or.inr ⟨w.heap.size, bs.length, _, rfl, Nat.le_refl _, heap_alloc_new w _, Nat.le_refl _, by unfold maxLen; omega, by rw [hl, Nat.mul_one], ?_⟩⟩
  rw [h, List.take_of_length_le (by simp)]
theorem lit_end (bs : List UInt8) (cs : Array Value) (h : cs.toList = bs.map byteV) (hm : bs.length ≤ 1000000) (w : World) (n : Nat) (hn : n = bs.length) : Made w.heap.size bs w (.returned (.slice (some ⟨w.heap.size, 0, none⟩) n n)) (w.alloc (.cells cs 5)) := by
  subst hn
  exact ⟨some ⟨w.heap.size, 0, none⟩, bs.length, rfl, own_lit bs cs h hm, (Below.refl _ _).alloc (Nat.le_refl _) _⟩
theorem make_4 (W : World) : (Instr.makeSlice 27 (.int .i64 4) (.int .i64 4)).run Tryz.prog W = .ok (.slice (some ⟨W.heap.size, 0, none⟩) 4 4) (W.alloc (.cells (madeCells #[.int .u8 0] 4) 5)) :=
  run_make_row' (P := Tryz.prog) 27 5 (.int .u8 0) 1 Tryz.underlying27 info_b rfl .i64 .i64 4 (by omega) (by omega) W
theorem wordof_any (n : Nat) (w : World) : Calls Tryz.prog 174 #[.int .u32 (n : Int)] w (Made w.heap.size (b4 n) w) := by
  obtain ⟨u, hu⟩ : ∃ u : Int, u = (n : Int) := ⟨_, rfl⟩
  have hu0 : 0 ≤ u := by omega
  have HN := Lib.hid hu
  have hmk := make_4
  rw [← hu]
  clear hu
  go_enter Tryz.func174, Tryz.ntmps174
  go_wp2
  rw [CF_none u]
  clear hmk
  go_loopw [8] (fun i wr => ∃ k : Nat, k ≤ 4 ∧ i = .int .i64 k ∧ wr = w.alloc (.cells (CF u k) 5)) (fun i _ => 4 - (intOf i).toNat)
  case atStart => exact ⟨0, by omega, rfl, rfl⟩
  case round =>
    obtain ⟨k, hk, rfl, rfl⟩ := hrel
    by_cases hlt : k < 4
    · obtain ⟨m, hm⟩ : ∃ m : Nat, m = 3 - k := ⟨_, rfl⟩
      have hm1 : (3 : Int) - (k : Int) = (m : Int) := by omega
      have hm2 : m ≤ 3 := by omega
      have HM := Lib.hid hm
      clear hm
      obtain ⟨old, hold⟩ : ∃ old, (CF u k)[k]? = some old := ⟨_, Array.getElem?_eq_getElem (by rw [size_CF]; omega)⟩
      go_wp2
      go_roundw
      case rel => exact ⟨k + 1, by omega, by go_num, by rw [set_CF u k _ (by rw [show (256 : Int) = 2 ^ 8 by decide, ← Int.pow_mul, ← HM.out])]⟩
      case measure => simp [intOf]; omega
    · obtain rfl : k = 4 := by omega
      go_wp2
      go_ret
      rw [HN.out]
      exact lit_end (b4 n) _ (CF_bytes _) (by rw [b4_len]; omega) w 4 (b4_len n).symm
theorem shl_or32 (u : Int) (b : UInt8) (h0 : 0 ≤ u) (h1 : u ≤ 16777215) : bits .or .u32 (u * 256 % 4294967296) ((b.toNat : Int) % 4294967296) = u * 256 + (b.toNat : Int) := by
  have hb := b.toNat_lt
  have e1 : u * 256 % 4294967296 = u * 256 := by omega
  have e2 : (b.toNat : Int) % 4294967296 = (b.toNat : Int) := by omega
  rw [e1, e2, u32_or _ _ (by omega) (by omega) (by omega) (by omega)]
  have : (u * 256).toNat ||| ((b.toNat : Int)).toNat = (u * 256).toNat + b.toNat := by
    rw [show ((b.toNat : Int)).toNat = b.toNat by omega]
    exact nat_join 8 _ _ (by omega) (by omega)
  rw [this]; omega
theorem rd_small4 (bs : List UInt8) (k : Nat) (h : k < bs.length) (h4 : bs.length ≤ 4) : rd (bs.take k) ≤ 16777215 := by
  have h1 := rd_lt (bs.take k)
  have h2 : (256 : Int) ^ (bs.take k).length ≤ 256 ^ 3 := pow_mono (by rw [List.length_take]; omega)
  have p := pows.2.2.2.1
  omega
theorem readword_any (B c n : Nat) (A : Option Addr) (bs : List UInt8) (hn : n = bs.length) (h4 : bs.length ≤ 4) (w : World) (h : Row w B A (bs.map byteV)) :
    Calls Tryz.prog 196 #[.slice A n c] w fun e w' => e = .returned (.int .u32 (rd bs)) ∧ w = w' := by
  have HR := Lib.hid h
  have HN := Lib.hid hn
  have hn4 : n ≤ 4 := by omega
  clear h hn
  go_enter Tryz.func196, Tryz.ntmps196
  go_wp2
  go_loop [3, 8] (fun v i => ∃ k : Nat, k ≤ n ∧ i = .int .i64 k ∧ v = .int .u32 (rd (bs.take k))) (fun _ i => n - (intOf i).toNat)
  case atStart => exact ⟨0, by omega, rfl, rfl⟩
  case round =>
    obtain ⟨k, hk, rfl, rfl⟩ := hrel
    by_cases hlt : k < n
    · obtain ⟨b, o, rfl, hb, hc⟩ := HR.out.open_ (by rw [List.length_map, ← HN.out]; omega)
      have hkr : k < bs.length := by rw [← HN.out]; exact hlt
      have hck := hc k (by rw [List.length_map]; exact hkr)
      rw [byteV_list bs k hkr] at hck
      clear hc hb
      go_wp2
      go_round
      case rel => exact ⟨k + 1, by omega, by go_num, by rw [shl_or32 _ _ (rd_nonneg _) (rd_small4 _ _ hkr h4), rd_snoc bs k hkr]⟩
      case measure => simp [intOf]; omega
    · have HT : Hid (bs.take k = bs) := Lib.hid (List.take_of_length_le (by rw [← HN.out]; omega))
      go_wp2
      go_ret
      rw [HT.out]
      exact ⟨rfl, rfl⟩
end Go.Proofs.YtkdpfjenjcpcfaaGreatDoor
