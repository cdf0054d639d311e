/- Whether values and entries of any length are the same, told by the reference. -/
import Derived.Test.YtlecbhnopokmnaaTg
namespace Go.Proofs.Ytlecbhnopokmnaa
open Go.RowKit Mem Be
set_option maxRecDepth 100000
set_option maxHeartbeats 4000000
set_option linter.unusedVariables false
structure ValB (w : World) (A : Option Addr) (xs : List UInt8) (c : Nat) : Prop where
  row : Row w w.heap.size A (xs.map byteV)
  len : (xs.length : Int) ≤ 9223372036854775807
theorem ValB.below {w w' : World} {A : Option Addr} {xs : List UInt8} {c : Nat} (h : ValB w A xs c) (hb : Below w.heap.size w w') : ValB w' A xs c := ⟨(h.row.below hb).more hb.size, h.len⟩
theorem ValOk.big {w : World} {has : Bool} {A : Option Addr} {xs : List UInt8} {c : Nat} (h : ValOk w has A xs c) : ValB w A xs c := ⟨h.row, by have := h.len; omega⟩
theorem refsameval_big (h1 h2 : Bool) (A A' : Option Addr) (xs ys : List UInt8) (c c' n n' : Nat) (hn : n = xs.length) (hn' : n' = ys.length) (w : World) (h : ValB w A xs c) (h' : ValB w A' ys c') :
    Calls Try.prog 39 #[valV h1 A n c, valV h2 A' n' c'] w (IsB (sameV h1 h2 xs ys) w) := by
  have hl := h.len
  have hl' := h'.len
  have HB : Hid (Below w.heap.size w ((w.alloc (.cells #[.bool h1, .slice A n c] 45)).alloc (.cells #[.bool h2, .slice A' n' c'] 45))) := Lib.hid (((Below.refl _ _).alloc (Nat.le_refl _) _).alloc (by simp) _)
  have HR := Lib.hid (h.row.below HB.out)
  have HR' := Lib.hid (h'.row.below HB.out)
  clear h h'
  have hnl : (n : Int) ≤ 9223372036854775807 := by omega
  have HN := Lib.hid hn
  have HN' := Lib.hid hn'
  clear hn hn' hl hl'
  cases h1 <;> cases h2
  · go_enter Try.func39, Try.ntmps39
    go_wp2
    go_ret
    exact isB_of rfl HB.out
  · go_enter Try.func39, Try.ntmps39
    go_wp2
    go_ret
    exact isB_of rfl HB.out
  · go_enter Try.func39, Try.ntmps39
    go_wp2
    go_ret
    exact isB_of rfl HB.out
  · by_cases hlen : n = n'
    · subst hlen
      go_enter Try.func39, Try.ntmps39
      go_wp2
      go_loopw [5] (fun i wr => ∃ k : Nat, k ≤ n ∧ i = .int .i64 k ∧ Hid (xs.take k = ys.take k) ∧ Hid (∃ q, wr = ((w.alloc (.cells #[.bool true, .slice A n c] 45)).alloc (.cells #[.bool true, .slice A' n c'] 45)).drewN q)) (fun i _ => n - (intOf i).toNat)
      case atStart => exact ⟨0, by omega, rfl, Lib.hid (by simp), Lib.hid ⟨0, rfl⟩⟩
      case round =>
        obtain ⟨k, hk, rfl, HT, HQ⟩ := hrel
        have HW : Hid (Below w.heap.size w wr) := Lib.hid (by obtain ⟨q, rfl⟩ := HQ.out; exact HB.out.trans ⟨rfl, rfl, rfl, Nat.le_refl _, fun _ _ => rfl⟩)
        have c0 : wr.cell? ⟨w.heap.size, 1, none⟩ = some (.slice A n c) := by obtain ⟨q, rfl⟩ := HQ.out; go_simp
        have c1 : wr.cell? ⟨w.heap.size + 1, 1, none⟩ = some (.slice A' n c') := by obtain ⟨q, rfl⟩ := HQ.out; go_simp
        by_cases hlt : k < n
        · have hk1 : k < xs.length := by rw [← HN.out]; exact hlt
          have hk2 : k < ys.length := by rw [← HN'.out]; exact hlt
          have hrx : Row wr w.heap.size A (xs.map byteV) := by obtain ⟨q, rfl⟩ := HQ.out; exact HR.out.drewN q
          have hry : Row wr w.heap.size A' (ys.map byteV) := by obtain ⟨q, rfl⟩ := HQ.out; exact HR'.out.drewN q
          obtain ⟨b, o, rfl, _, hc⟩ := hrx.open_ (by simp; omega)
          obtain ⟨b', o', rfl, _, hc'⟩ := hry.open_ (by simp; omega)
          have hcell : wr.cell? ⟨b, o + k, none⟩ = some (.int .u8 (xs[k].toNat : Int)) := (hc k (by simpa using hk1)).trans (congrArg some (by rw [List.getElem_map]; rfl))
          have hcell' : wr.cell? ⟨b', o' + k, none⟩ = some (.int .u8 (ys[k].toNat : Int)) := (hc' k (by simpa using hk2)).trans (congrArg some (by rw [List.getElem_map]; rfl))
          have hki : (0 : Int) ≤ (k : Int) := by omega
          have hki2 : (k : Int) < (n : Int) := by omega
          clear hc hc' hrx hry
          obtain ⟨p, hp⟩ : ∃ p : Int, (xs[k].toNat : Int) = p := ⟨_, rfl⟩
          obtain ⟨q, hq⟩ : ∃ q : Int, (ys[k].toNat : Int) = q := ⟨_, rfl⟩
          rw [hp] at hcell
          rw [hq] at hcell'
          have HP := Lib.hid hp
          have HQ2 := Lib.hid hq
          clear hp hq
          by_cases heq : p = q
          · subst heq
            have HT2 : Hid (xs.take (k + 1) = ys.take (k + 1)) := Lib.hid (take_next hk1 hk2 HT.out (by rw [HP.out, HQ2.out]))
            have hb : (p != p) = false := by simp
            go_wp2
            go_quiet (fail)
            go_wp2
            go_roundw
            case rel => exact ⟨k + 1, by omega, by go_num, HT2, Lib.hid (by obtain ⟨q, rfl⟩ := HQ.out; exact ⟨_, by rw [World.drewN_drewN]⟩)⟩
            case measure => simp [intOf]; omega
          · have hb : (p != q) = true := by simpa using heq
            have HV : Hid (sameV true true xs ys = false) := Lib.hid (sameV_at k hk1 hk2 (by rw [HP.out, HQ2.out]; exact heq))
            clear heq
            go_wp2
            go_quiet (fail)
            go_wp2
            go_ret
            exact isB_of HV.out.symm (HW.out.trans ⟨rfl, rfl, rfl, Nat.le_refl _, fun _ _ => rfl⟩)
        · obtain rfl : k = n := by omega
          have HV : Hid (sameV true true xs ys = true) := Lib.hid (by
            have := HT.out
            rw [List.take_of_length_le (by rw [← HN.out]; omega), List.take_of_length_le (by rw [← HN'.out]; omega)] at this
            rw [this]; simp [sameV])
          go_wp2
          go_ret
          exact isB_of HV.out.symm HW.out
    · have HV : Hid (sameV true true xs ys = false) := Lib.hid (sameV_len (by rw [← HN.out, ← HN'.out]; exact hlen))
      have hb : (n != n') = true := by simpa using hlen
      have hb' : ((n : Int) != (n' : Int)) = true := by simp; omega
      clear hlen
      go_enter Try.func39, Try.ntmps39
      go_wp2
      go_ret
      exact isB_of HV.out.symm HB.out
end Go.Proofs.Ytlecbhnopokmnaa
