/- MsB: Package msgs: Has, Back; the document's Back. -/
import Derived.Test.YtkdpfjenjcpcfaaGreatDoorMsA
import Derived.BigQuiet
namespace Go.Proofs.YtkdpfjenjcpcfaaGreatDoor
open Go.RowKit Mem Be Rg
set_option maxRecDepth 100000
set_option maxHeartbeats 4000000
set_option linter.unusedVariables false
/-- A message's cells. -/
abbrev msgC (kind fr dst ep op n : Int) (flag : Bool) (key : ByteArray) (s u o : Int) (has : Bool) (A : Option Addr) (m c : Nat) (lA : Option Addr) (ln lc : Nat) (rA : Option Addr) (rn rc : Nat) (each keep : Int) : Array Value := #[.int .i64 kind, .int .i64 fr, .int .i64 dst, .int .i64 ep, .int .i64 op, .int .i64 n, .bool flag, .string key, .int .i64 s, .int .i64 u, .int .i64 o, .bool has, .slice A m c, .slice lA ln lc, .slice rA rn rc, .int .i64 each, .int .i64 keep]
abbrev zeroM : Array Value := #[.int .i64 0, .int .i64 0, .int .i64 0, .int .i64 0, .int .i64 0, .int .i64 0, .bool false, .string ⟨#[]⟩, .int .i64 0, .int .i64 0, .int .i64 0, .bool false, .slice none 0 0, .slice none 0 0, .slice none 0 0, .int .i64 0, .int .i64 0]
theorem idxb_0 (x0 x1 x2 x3 x4 : Bool) (w : World) : (Instr.index 143 (.agg #[.bool x0, .bool x1, .bool x2, .bool x3, .bool x4]) (.int .i64 0)).run Tryz.prog w = .ok (.bool x0) w := by kernel_rfl
theorem idxb_1 (x0 x1 x2 x3 x4 : Bool) (w : World) : (Instr.index 143 (.agg #[.bool x0, .bool x1, .bool x2, .bool x3, .bool x4]) (.int .i64 1)).run Tryz.prog w = .ok (.bool x1) w := by kernel_rfl
theorem idxb_2 (x0 x1 x2 x3 x4 : Bool) (w : World) : (Instr.index 143 (.agg #[.bool x0, .bool x1, .bool x2, .bool x3, .bool x4]) (.int .i64 2)).run Tryz.prog w = .ok (.bool x2) w := by kernel_rfl
theorem idxb_3 (x0 x1 x2 x3 x4 : Bool) (w : World) : (Instr.index 143 (.agg #[.bool x0, .bool x1, .bool x2, .bool x3, .bool x4]) (.int .i64 3)).run Tryz.prog w = .ok (.bool x3) w := by kernel_rfl
theorem idxb_4 (x0 x1 x2 x3 x4 : Bool) (w : World) : (Instr.index 143 (.agg #[.bool x0, .bool x1, .bool x2, .bool x3, .bool x4]) (.int .i64 4)).run Tryz.prog w = .ok (.bool x4) w := by kernel_rfl
def HasP (k : Int) (w : World) (e : Ending) (w' : World) : Prop := e = .returned (.tuple #[.bool (hasN k), .bool (hasF k), .bool (hasE k), .bool (hasL k), .bool (hasR k)]) ∧ Below w.heap.size w w'
def strK : Nat → List UInt8
  | 1 => [101] | 2 => [110, 102, 101] | 3 => [101] | 4 => [101] | 5 => [101] | 6 => [110] | 7 => [101] | 8 => [101] | 9 => [110, 101] | 10 => [101] | 11 => [101] | 12 => [110] | 13 => [110, 102, 108] | 14 => [110, 102, 108] | 16 => [114] | _ => []
theorem cut_str (l : List UInt8) (k : Nat) (h : k < l.length) (h2 : l.length ≤ 1000) (w : World) : (Instr.slice 9 (.string ⟨l.toArray⟩) (some (.int .i64 (k : Int))) (some (.int .i64 ((k : Int) + 1))) none).run Tryz.prog w = .ok (.string ⟨#[l[k]]⟩) w := by
  have hs : (({ data := l.toArray } : ByteArray).size : Int) = (l.length : Int) := by show ((l.toArray.size : Nat) : Int) = _; simp
  have he : ({ data := l.toArray } : ByteArray).extract k (k + 1) = ⟨#[l[k]]⟩ := by
    apply ByteArray.ext
    rw [ByteArray.data_extract]
    apply Array.ext
    · simp; omega
    · intro i h1 h2
      have : i = 0 := by simp at h2; omega
      subst this
      simp
  simp [Instr.slice, run_underlying Tryz.underlying9, Instr.sliceBounds, Instr.sliceBound, asIntOf]
  rw [if_pos ⟨by omega, by rw [hs]; omega⟩, he]
theorem str_len (l : List UInt8) : (⟨l.toArray⟩ : ByteArray).size = l.length := by show l.toArray.size = _; simp
abbrev kStrs : List Value := [.string ⟨#[]⟩, .string ⟨#[101]⟩, .string ⟨#[110, 102, 101]⟩, .string ⟨#[101]⟩, .string ⟨#[101]⟩, .string ⟨#[101]⟩, .string ⟨#[110]⟩, .string ⟨#[101]⟩, .string ⟨#[101]⟩, .string ⟨#[110, 101]⟩, .string ⟨#[101]⟩, .string ⟨#[101]⟩, .string ⟨#[110]⟩, .string ⟨#[110, 102, 108]⟩, .string ⟨#[110, 102, 108]⟩, .string ⟨#[]⟩, .string ⟨#[114]⟩, .string ⟨#[]⟩]
theorem strK_len (j : Nat) : (strK j).length ≤ 3 := by unfold strK; split <;> decide
theorem refhas_at (j : Nat) (hj : 1 ≤ j) (hj2 : j ≤ 17) (x : UInt8) (w : World) : Calls Tryz.prog 47 #[.int .i64 (j : Int), .string ⟨#[x]⟩] w fun e w' => e = .returned (.bool ((strK j).contains x)) ∧ Below w.heap.size w w' := by
  have h1 : (1 : Int) ≤ (j : Int) := by omega
  have h2 : (j : Int) ≤ 17 := by omega
  have hb : Below w.heap.size w (w.alloc (.cells ⟨kStrs⟩ 9)) := (Below.refl _ _).alloc (Nat.le_refl _) _
  have HB := Lib.hid hb
  have hk := Blk.new w 9 ⟨kStrs⟩
  have hc : (w.alloc (.cells ⟨kStrs⟩ 9)).cell? ⟨w.heap.size, j, none⟩ = some (.string ⟨(strK j).toArray⟩) := by
    have hh : j = 1 ∨ j = 2 ∨ j = 3 ∨ j = 4 ∨ j = 5 ∨ j = 6 ∨ j = 7 ∨ j = 8 ∨ j = 9 ∨ j = 10 ∨ j = 11 ∨ j = 12 ∨ j = 13 ∨ j = 14 ∨ j = 15 ∨ j = 16 ∨ j = 17 := by omega
    rcases hh with rfl | rfl | rfl | rfl | rfl | rfl | rfl | rfl | rfl | rfl | rfl | rfl | rfl | rfl | rfl | rfl | rfl <;> exact hk.cell _
  have hl3 := strK_len j
  obtain ⟨S, hS⟩ : ∃ S, strK j = S := ⟨_, rfl⟩
  rw [hS] at hc hl3 ⊢
  have hsz := str_len S
  have hl3i : (S.length : Int) ≤ 3 := by omega
  have HS := Lib.hid hl3
  obtain ⟨R, hR⟩ : ∃ R, S.contains x = R := ⟨_, rfl⟩
  rw [hR]
  have HR := Lib.hid hR
  clear hR
  clear hk hb hS hl3 hj hj2
  go_enter Tryz.func47, Tryz.ntmps47
  go_wp2
  go_loop [7] (fun i => ∃ k : Nat, k ≤ S.length ∧ i = .int .i64 k ∧ Hid (x ∉ S.take k)) (fun i => S.length - (intOf i).toNat)
  case atStart => exact ⟨0, by omega, rfl, Lib.hid (by simp)⟩
  case round =>
    obtain ⟨k, hk, rfl, HX⟩ := hrel
    by_cases hlt : k < S.length
    · have hcut := fun W => cut_str S k hlt (by have := HS.out; omega) W
      have HN : Hid (S[k] ≠ x → x ∉ S.take (k + 1)) := Lib.hid fun hn hm => by
        rw [List.take_succ_eq_append_getElem hlt] at hm
        rcases List.mem_append.1 hm with hm | hm
        · exact HX.out hm
        · exact hn (by simpa using (List.mem_singleton.1 hm).symm)
      have HY : Hid (S[k] = x → R = true) := Lib.hid fun he => by
        rw [← HR.out, List.contains_iff_mem]; exact he ▸ List.getElem_mem hlt
      obtain ⟨y, hy⟩ : ∃ y, S[k] = y := ⟨_, rfl⟩
      rw [hy] at HN HY
      simp only [hy] at hcut
      clear hy
      by_cases hyx : y = x
      · subst hyx
        have HYY := Lib.hid (HY.out rfl)
        go_wp2
        go_ret
        exact ⟨by rw [HYY.out]; rfl, HB.out⟩
      · have hne : ¬ (⟨#[y]⟩ : ByteArray) = ⟨#[x]⟩ := fun e => hyx (by injection e with e; simpa using e)
        have hne2 := list_ne hne
        have HNN := Lib.hid (HN.out hyx)
        have hyb : (y == x) = false := by simpa using hyx
        go_wp2
        go_round
        case rel => exact ⟨k + 1, by omega, by go_num, HNN⟩
        case measure => simp [intOf]; omega
    · obtain rfl : k = S.length := by omega
      have HNO : Hid (R = false) := Lib.hid (by
        rw [← HR.out]
        have := HX.out
        rw [List.take_length] at this
        cases h : S.contains x
        · rfl
        · exact absurd (List.contains_iff_mem.1 h) this)
      go_wp2
      go_ret
      exact ⟨by rw [HNO.out]; rfl, HB.out⟩
theorem refhas_any (k : Int) (x : UInt8) (w : World) : Calls Tryz.prog 47 #[.int .i64 k, .string ⟨#[x]⟩] w fun e w' => e = .returned (.bool (exK k && (strK k.toNat).contains x)) ∧ Below w.heap.size w w' := by
  cases h : exK k
  · rcases exK_no h with h1 | h1
    · clear h
      go_enter Tryz.func47, Tryz.ntmps47
      go_wp2
      go_ret
      exact ⟨rfl, Below.refl _ _⟩
    · have h2 : 1 ≤ k := by omega
      clear h
      go_enter Tryz.func47, Tryz.ntmps47
      go_wp2
      go_ret
      exact ⟨rfl, Below.refl _ _⟩
  · obtain ⟨h1, h2⟩ := exK_yes h
    obtain ⟨j, rfl⟩ : ∃ j : Nat, k = (j : Int) := ⟨k.toNat, by omega⟩
    rw [Int.toNat_natCast, Bool.true_and]
    exact refhas_at j (by omega) (by omega) x w
theorem inN_eq (k : Int) : (exK k && (strK k.toNat).contains 110) = hasN k := by
  cases h : exK k
  · obtain ⟨e1, e2, e3, e4, e5⟩ := has_none (exK_no h)
    rw [Bool.false_and]; exact Eq.symm (by assumption)
  · obtain ⟨h1, h2⟩ := exK_yes h
    have hc : k = 1 ∨ k = 2 ∨ k = 3 ∨ k = 4 ∨ k = 5 ∨ k = 6 ∨ k = 7 ∨ k = 8 ∨ k = 9 ∨ k = 10 ∨ k = 11 ∨ k = 12 ∨ k = 13 ∨ k = 14 ∨ k = 15 ∨ k = 16 ∨ k = 17 := by omega
    rcases hc with rfl | rfl | rfl | rfl | rfl | rfl | rfl | rfl | rfl | rfl | rfl | rfl | rfl | rfl | rfl | rfl | rfl <;> rfl
theorem rhasN_any (k : Int) (w : World) : Calls Tryz.prog 47 #[.int .i64 k, .string ⟨#[110]⟩] w fun e w' => e = .returned (.bool (hasN k)) ∧ Below w.heap.size w w' := by
  have := refhas_any k 110 w
  rw [inN_eq] at this; exact this
theorem inF_eq (k : Int) : (exK k && (strK k.toNat).contains 102) = hasF k := by
  cases h : exK k
  · obtain ⟨e1, e2, e3, e4, e5⟩ := has_none (exK_no h)
    rw [Bool.false_and]; exact Eq.symm (by assumption)
  · obtain ⟨h1, h2⟩ := exK_yes h
    have hc : k = 1 ∨ k = 2 ∨ k = 3 ∨ k = 4 ∨ k = 5 ∨ k = 6 ∨ k = 7 ∨ k = 8 ∨ k = 9 ∨ k = 10 ∨ k = 11 ∨ k = 12 ∨ k = 13 ∨ k = 14 ∨ k = 15 ∨ k = 16 ∨ k = 17 := by omega
    rcases hc with rfl | rfl | rfl | rfl | rfl | rfl | rfl | rfl | rfl | rfl | rfl | rfl | rfl | rfl | rfl | rfl | rfl <;> rfl
theorem rhasF_any (k : Int) (w : World) : Calls Tryz.prog 47 #[.int .i64 k, .string ⟨#[102]⟩] w fun e w' => e = .returned (.bool (hasF k)) ∧ Below w.heap.size w w' := by
  have := refhas_any k 102 w
  rw [inF_eq] at this; exact this
theorem inE_eq (k : Int) : (exK k && (strK k.toNat).contains 101) = hasE k := by
  cases h : exK k
  · obtain ⟨e1, e2, e3, e4, e5⟩ := has_none (exK_no h)
    rw [Bool.false_and]; exact Eq.symm (by assumption)
  · obtain ⟨h1, h2⟩ := exK_yes h
    have hc : k = 1 ∨ k = 2 ∨ k = 3 ∨ k = 4 ∨ k = 5 ∨ k = 6 ∨ k = 7 ∨ k = 8 ∨ k = 9 ∨ k = 10 ∨ k = 11 ∨ k = 12 ∨ k = 13 ∨ k = 14 ∨ k = 15 ∨ k = 16 ∨ k = 17 := by omega
    rcases hc with rfl | rfl | rfl | rfl | rfl | rfl | rfl | rfl | rfl | rfl | rfl | rfl | rfl | rfl | rfl | rfl | rfl <;> rfl
theorem rhasE_any (k : Int) (w : World) : Calls Tryz.prog 47 #[.int .i64 k, .string ⟨#[101]⟩] w fun e w' => e = .returned (.bool (hasE k)) ∧ Below w.heap.size w w' := by
  have := refhas_any k 101 w
  rw [inE_eq] at this; exact this
theorem inL_eq (k : Int) : (exK k && (strK k.toNat).contains 108) = hasL k := by
  cases h : exK k
  · obtain ⟨e1, e2, e3, e4, e5⟩ := has_none (exK_no h)
    rw [Bool.false_and]; exact Eq.symm (by assumption)
  · obtain ⟨h1, h2⟩ := exK_yes h
    have hc : k = 1 ∨ k = 2 ∨ k = 3 ∨ k = 4 ∨ k = 5 ∨ k = 6 ∨ k = 7 ∨ k = 8 ∨ k = 9 ∨ k = 10 ∨ k = 11 ∨ k = 12 ∨ k = 13 ∨ k = 14 ∨ k = 15 ∨ k = 16 ∨ k = 17 := by omega
    rcases hc with rfl | rfl | rfl | rfl | rfl | rfl | rfl | rfl | rfl | rfl | rfl | rfl | rfl | rfl | rfl | rfl | rfl <;> rfl
theorem rhasL_any (k : Int) (w : World) : Calls Tryz.prog 47 #[.int .i64 k, .string ⟨#[108]⟩] w fun e w' => e = .returned (.bool (hasL k)) ∧ Below w.heap.size w w' := by
  have := refhas_any k 108 w
  rw [inL_eq] at this; exact this
theorem inR_eq (k : Int) : (exK k && (strK k.toNat).contains 114) = hasR k := by
  cases h : exK k
  · obtain ⟨e1, e2, e3, e4, e5⟩ := has_none (exK_no h)
    rw [Bool.false_and]; exact Eq.symm (by assumption)
  · obtain ⟨h1, h2⟩ := exK_yes h
    have hc : k = 1 ∨ k = 2 ∨ k = 3 ∨ k = 4 ∨ k = 5 ∨ k = 6 ∨ k = 7 ∨ k = 8 ∨ k = 9 ∨ k = 10 ∨ k = 11 ∨ k = 12 ∨ k = 13 ∨ k = 14 ∨ k = 15 ∨ k = 16 ∨ k = 17 := by omega
    rcases hc with rfl | rfl | rfl | rfl | rfl | rfl | rfl | rfl | rfl | rfl | rfl | rfl | rfl | rfl | rfl | rfl | rfl <;> rfl
theorem rhasR_any (k : Int) (w : World) : Calls Tryz.prog 47 #[.int .i64 k, .string ⟨#[114]⟩] w fun e w' => e = .returned (.bool (hasR k)) ∧ Below w.heap.size w w' := by
  have := refhas_any k 114 w
  rw [inR_eq] at this; exact this
end Go.Proofs.YtkdpfjenjcpcfaaGreatDoor
