/- BtF: Whether what is known of two nodes is the same, by the package and by the document; beats made of a time and bits. -/
import Derived.Test.YtkfapcigfgfeaaaBtE
namespace Go.Proofs.Ytkfapcigfgfeaaa
open Go.RowKit Flo Mem
set_option maxRecDepth 100000
set_option maxHeartbeats 1000000
set_option linter.unusedVariables false
theorem take_eq {xs ys : List Int} {k : Nat} (h : xs.take k = ys.take k) (hx : k < xs.length) (hy : k < ys.length) (he : xs[k] = ys[k]) : xs.take (k + 1) = ys.take (k + 1) := by
  rw [List.take_succ_eq_append_getElem hx, List.take_succ_eq_append_getElem hy, h, he]
theorem take_ne {xs ys : List Int} {k : Nat} (hx : k < xs.length) (hy : k < ys.length) (he : xs[k] ≠ ys[k]) : xs ≠ ys := by
  intro e; subst e; exact he rfl
theorem eqf_any (n n' c c' : Nat) (A A' : Option Addr) (xs ys : List Int) (hn : n = xs.length) (hn' : n' = ys.length) (hl : xs.length ≤ 200) (hl' : ys.length ≤ 200) (hw : ∀ x ∈ xs, Word x) (hw' : ∀ x ∈ ys, Word x) (w : World) (h : Row w w.heap.size A (xs.map fv)) (h' : Row w w.heap.size A' (ys.map fv)) :
    Calls Try.prog 44 #[.slice A n c, .slice A' n' c', .func (.func 45) #[] #[]] w fun e w' => e = .returned (.bool (decide (xs = ys))) ∧ w = w' := by
  subst hn; subst hn'
  have HR := Lib.hid h
  have HR' := Lib.hid h'
  have HW := Lib.hid hw
  have HW' := Lib.hid hw'
  have hnl : (xs.length : Int) ≤ 200 := by omega
  have hnl' : (ys.length : Int) ≤ 200 := by omega
  clear h h' hw hw'
  by_cases he : xs.length = ys.length
  rotate_left
  · have hd : ((xs.length : Int) != (ys.length : Int)) = true := bne_iff_ne.2 (by omega)
    have hd2 : ((xs.length : Int) == (ys.length : Int)) = false := beq_false_of_ne (by omega)
    have HV : Hid (decide (xs = ys) = false) := Lib.hid (decide_eq_false fun e => he (by rw [e]))
    clear he
    go_enter Try.func44, Try.ntmps44
    go_wp2
    go_ret
    exact ⟨ret_bool HV.out.symm, rfl⟩
  have hd : ((xs.length : Int) != (ys.length : Int)) = false := by rw [show (xs.length : Int) = (ys.length : Int) by omega]; simp
  have HE := Lib.hid he
  have hdd : (xs.length : Int) = (ys.length : Int) := by omega
  clear he
  go_enter Try.func44, Try.ntmps44
  go_wp2
  go_loop [17] (fun i => ∃ k : Nat, k ≤ xs.length ∧ i = .int .i64 k ∧ Hid (xs.take k = ys.take k)) (fun i => xs.length - (intOf i).toNat)
  case atStart => exact ⟨0, by omega, rfl, Lib.hid rfl⟩
  case round =>
    obtain ⟨k, hk, rfl, HT⟩ := hrel
    by_cases hlt : k < xs.length
    · have hlt' : k < ys.length := by omega
      obtain ⟨b, o, rfl, _, hc⟩ := HR.out.open_ (by simp; omega)
      obtain ⟨b', o', rfl, _, hc'⟩ := HR'.out.open_ (by simp; omega)
      obtain ⟨x, hx⟩ : ∃ x, xs[k] = x := ⟨_, rfl⟩
      obtain ⟨y, hy⟩ : ∃ y, ys[k] = y := ⟨_, rfl⟩
      have hcell : w.cell? ⟨b, o + k, none⟩ = some (.float .f64 (fnat x)) := (hc k (by simpa using hlt)).trans (by rw [← hx]; exact congrArg some (List.getElem_map (f := fv) (h := by simpa using hlt)))
      have hcell' : w.cell? ⟨b', o' + k, none⟩ = some (.float .f64 (fnat y)) := (hc' k (by simpa using hlt')).trans (by rw [← hy]; exact congrArg some (List.getElem_map (f := fv) (h := by simpa using hlt')))
      have HWX : Hid (Word x) := Lib.hid (by rw [← hx]; exact HW.out _ (List.getElem_mem hlt))
      have HWY : Hid (Word y) := Lib.hid (by rw [← hy]; exact HW'.out _ (List.getElem_mem hlt'))
      have hki : (0 : Int) ≤ (k : Int) := by omega
      have hki2 : (k : Int) < (xs.length : Int) := by omega
      have hki3 : (k : Int) < (ys.length : Int) := by omega
      by_cases hxy : x = y
      · have HT2 : Hid (xs.take (k + 1) = ys.take (k + 1)) := Lib.hid (take_eq HT.out hlt hlt' (by rw [hx, hy, hxy]))
        have hq : (x == y) = true := beq_iff_eq.2 hxy
        clear hc hc' hx hy hxy hdd
        go_wp2_with (go_at_call 45; refine (same_any _ _ HWX.out HWY.out _).mono ?_; rintro e w' ⟨rfl, rfl⟩)
        go_round
        case rel => exact ⟨k + 1, by omega, by go_num, HT2⟩
        case measure => simp [intOf]; omega
      · have HV : Hid (decide (xs = ys) = false) := Lib.hid (decide_eq_false (take_ne hlt hlt' (by rw [hx, hy]; exact hxy)))
        have hq : (x == y) = false := beq_false_of_ne hxy
        clear hc hc' hx hy hxy hdd
        go_wp2_with (go_at_call 45; refine (same_any _ _ HWX.out HWY.out _).mono ?_; rintro e w' ⟨rfl, rfl⟩)
        go_ret
        exact ⟨ret_bool HV.out.symm, rfl⟩
    · have HV : Hid (decide (xs = ys) = true) := Lib.hid (decide_eq_true (by
        have := HT.out; rw [List.take_of_length_le (by omega), List.take_of_length_le (by have := HE.out; omega)] at this; exact this))
      have hlt2 : (ys.length : Int) ≤ (k : Int) := by have := HE.out; omega
      have hlt3 : ¬ ((k : Int) < (ys.length : Int)) := by omega
      clear hdd
      go_wp2
      go_ret
      exact ⟨ret_bool HV.out.symm, rfl⟩
def sameB (a : Int) (xs : List Int) (b : Int) (ys : List Int) : Bool := decide (a = b ∧ xs = ys)
theorem samebeats_any (a b : Int) (n n' c c' : Nat) (A A' : Option Addr) (xs ys : List Int) (hn : n = xs.length) (hn' : n' = ys.length) (hl : xs.length ≤ 200) (hl' : ys.length ≤ 200) (hw : ∀ x ∈ xs, Word x) (hw' : ∀ x ∈ ys, Word x) (w : World) (h : Row w w.heap.size A (xs.map fv)) (h' : Row w w.heap.size A' (ys.map fv)) :
    Calls Try.prog 25 #[.agg (bC a A n c), .agg (bC b A' n' c')] w (Ret (.bool (sameB a xs b ys)) w) := by
  subst hn; subst hn'
  unfold bC
  have HB0 : Hid (Below w.heap.size w ((w.alloc (.cells #[.int .i64 a, .slice A xs.length c] 27)).alloc (.cells #[.int .i64 b, .slice A' ys.length c'] 27))) := Lib.hid (((Below.refl _ _).alloc (Nat.le_refl _) _).alloc (by simp) _)
  have HC := Lib.hid fun W (hb : Below w.heap.size w W) => eqf_any xs.length ys.length c c' A A' xs ys rfl rfl hl hl' hw hw' W ((h.below hb).more hb.size) ((h'.below hb).more hb.size)
  clear h h'
  by_cases hab : a = b
  · have HV : Hid (sameB a xs b ys = decide (xs = ys)) := Lib.hid (by unfold sameB; by_cases h : xs = ys <;> simp [h, hab])
    have hd : (a == b) = true := beq_iff_eq.2 hab
    rw [HV.out]
    clear hab
    go_enter Try.func25, Try.ntmps25
    go_wp2_with (go_at_call 44; refine (HC.out _ HB0.out).mono ?_; rintro e w' ⟨rfl, rfl⟩)
    go_ret
    exact ⟨rfl, HB0.out⟩
  · have HV : Hid (sameB a xs b ys = false) := Lib.hid (decide_eq_false fun h => hab h.1)
    have hd : (a == b) = false := beq_false_of_ne hab
    rw [HV.out]
    clear hab
    go_enter Try.func25, Try.ntmps25
    go_wp2
    go_ret
    exact ⟨rfl, HB0.out⟩
theorem refsamebeats_any (a b : Int) (n n' c c' : Nat) (A A' : Option Addr) (xs ys : List Int) (hn : n = xs.length) (hn' : n' = ys.length) (hl : xs.length ≤ 200) (hl' : ys.length ≤ 200) (hw : ∀ x ∈ xs, Word x) (hw' : ∀ x ∈ ys, Word x) (w : World) (h : Row w w.heap.size A (xs.map fv)) (h' : Row w w.heap.size A' (ys.map fv)) :
    Calls Try.prog 24 #[.agg (bC a A n c), .agg (bC b A' n' c')] w (Ret (.bool (sameB a xs b ys)) w) := by
  subst hn; subst hn'
  unfold bC
  obtain ⟨W0, hW0⟩ : ∃ W0, (w.alloc (.cells #[.int .i64 a, .slice A xs.length c] 27)).alloc (.cells #[.int .i64 b, .slice A' ys.length c'] 27) = W0 := ⟨_, rfl⟩
  have hb0 : Below w.heap.size w ((w.alloc (.cells #[.int .i64 a, .slice A xs.length c] 27)).alloc (.cells #[.int .i64 b, .slice A' ys.length c'] 27)) := ((Below.refl _ _).alloc (Nat.le_refl _) _).alloc (by simp) _
  have HB0 := Lib.hid hb0
  have HR := Lib.hid (h.below hb0)
  have HR' := Lib.hid (h'.below hb0)
  have HW := Lib.hid hw
  have HW' := Lib.hid hw'
  have hnl : (xs.length : Int) ≤ 200 := by omega
  have hnl' : (ys.length : Int) ≤ 200 := by omega
  clear h h' hw hw' hb0 hW0
  by_cases hab : a = b
  rotate_left
  · have HV : Hid (sameB a xs b ys = false) := Lib.hid (decide_eq_false fun h => hab h.1)
    have hd : (a != b) = true := bne_iff_ne.2 hab
    have hd' : (a == b) = false := beq_false_of_ne hab
    rw [HV.out]
    clear hab
    go_enter Try.func24, Try.ntmps24
    go_wp2
    go_ret
    exact ⟨rfl, HB0.out⟩
  have hd : (a != b) = false := by rw [hab]; simp
  have HAB := Lib.hid hab
  clear hab
  by_cases he : xs.length = ys.length
  rotate_left
  · have hd2 : ((xs.length : Int) != (ys.length : Int)) = true := bne_iff_ne.2 (by omega)
    have hd3 : ((xs.length : Int) == (ys.length : Int)) = false := beq_false_of_ne (by omega)
    have HV : Hid (sameB a xs b ys = false) := Lib.hid (decide_eq_false fun e => he (by rw [e.2]))
    rw [HV.out]
    clear he
    go_enter Try.func24, Try.ntmps24
    go_wp2
    go_ret
    exact ⟨rfl, HB0.out⟩
  have hd2 : ((xs.length : Int) != (ys.length : Int)) = false := by rw [show (xs.length : Int) = (ys.length : Int) by omega]; simp
  have HE := Lib.hid he
  clear he
  go_enter Try.func24, Try.ntmps24
  go_wp2
  go_loopw [5] (fun i wr => ∃ k : Nat, k ≤ xs.length ∧ i = .int .i64 k ∧ Hid (xs.take k = ys.take k) ∧ Hid (∃ q, wr = ((w.alloc (.cells #[.int .i64 a, .slice A xs.length c] 27)).alloc (.cells #[.int .i64 b, .slice A' ys.length c'] 27)).drewN q)) (fun i _ => xs.length - (intOf i).toNat)
  case atStart => exact ⟨0, by omega, rfl, Lib.hid rfl, Lib.hid ⟨0, rfl⟩⟩
  case round =>
    obtain ⟨k, hk, rfl, HT, HQ⟩ := hrel
    have hk1 : Blk wr w.heap.size 27 #[.int .i64 a, .slice A xs.length c] := by obtain ⟨q, rfl⟩ := HQ.out; exact ((Blk.new w _ _).alloc _).drewN q
    have hk2 : Blk wr (w.heap.size + 1) 27 #[.int .i64 b, .slice A' ys.length c'] := by
      obtain ⟨q, rfl⟩ := HQ.out
      have := (Blk.new (w.alloc (.cells #[.int .i64 a, .slice A xs.length c] 27)) 27 #[.int .i64 b, .slice A' ys.length c']).drewN q
      simpa using this
    have HBQ : Hid (Below w.heap.size w wr) := Lib.hid (HB0.out.trans (quiet_below HQ.out))
    have c1 : wr.cell? ⟨w.heap.size, 1, none⟩ = some (.slice A xs.length c) := hk1.cell 1
    have c2 : wr.cell? ⟨w.heap.size + 1, 1, none⟩ = some (.slice A' ys.length c') := hk2.cell 1
    clear hk1 hk2
    by_cases hlt : k < xs.length
    · have hlt' : k < ys.length := by have := HE.out; omega
      obtain ⟨b1, o1, rfl, _, hc⟩ := (quiet_row HR.out HQ.out).open_ (by simp; omega)
      obtain ⟨b2, o2, rfl, _, hc'⟩ := (quiet_row HR'.out HQ.out).open_ (by simp; omega)
      obtain ⟨x, hx⟩ : ∃ x, xs[k] = x := ⟨_, rfl⟩
      obtain ⟨y, hy⟩ : ∃ y, ys[k] = y := ⟨_, rfl⟩
      have hcell : wr.cell? ⟨b1, o1 + k, none⟩ = some (.float .f64 (fnat x)) := (hc k (by simpa using hlt)).trans (by rw [← hx]; exact congrArg some (List.getElem_map (f := fv) (h := by simpa using hlt)))
      have hcell' : wr.cell? ⟨b2, o2 + k, none⟩ = some (.float .f64 (fnat y)) := (hc' k (by simpa using hlt')).trans (by rw [← hy]; exact congrArg some (List.getElem_map (f := fv) (h := by simpa using hlt')))
      have hbx := run_bits x (by rw [← hx]; exact HW.out _ (List.getElem_mem hlt))
      have hby := run_bits y (by rw [← hy]; exact HW'.out _ (List.getElem_mem hlt'))
      have hki : (0 : Int) ≤ (k : Int) := by omega
      have hki2 : (k : Int) < (xs.length : Int) := by omega
      have hki3 : (k : Int) < (ys.length : Int) := by omega
      by_cases hxy : x = y
      · have HT2 : Hid (xs.take (k + 1) = ys.take (k + 1)) := Lib.hid (take_eq HT.out hlt hlt' (by rw [hx, hy, hxy]))
        have hq : (x != y) = false := by rw [hxy]; simp
        clear hc hc' hx hy hxy
        go_wp2
        go_quiet (fail)
        go_wp2
        go_roundw
        case rel => exact ⟨k + 1, by omega, by go_num, HT2, Lib.hid (by obtain ⟨q, rfl⟩ := HQ.out; exact ⟨_, World.drewN_drewN _ _ _⟩)⟩
        case measure => simp [intOf]; omega
      · have HV : Hid (sameB a xs b ys = false) := Lib.hid (decide_eq_false fun e => take_ne hlt hlt' (by rw [hx, hy]; exact hxy) e.2)
        have hq : (x != y) = true := bne_iff_ne.2 hxy
        have hq2 : (x == y) = false := beq_false_of_ne hxy
        clear hc hc' hx hy hxy
        go_wp2
        go_quiet (fail)
        go_wp2
        go_ret
        rw [HV.out]
        exact ⟨rfl, HBQ.out.trans (quiet_below ⟨_, rfl⟩)⟩
    · have HV : Hid (sameB a xs b ys = true) := Lib.hid (decide_eq_true ⟨HAB.out, by
        have := HT.out; rw [List.take_of_length_le (by omega), List.take_of_length_le (by have := HE.out; omega)] at this; exact this⟩)
      have hlt2 : (xs.length : Int) ≤ (k : Int) := by omega
      have hlt3 : (ys.length : Int) ≤ (k : Int) := by have := HE.out; omega
      go_wp2
      go_ret
      rw [HV.out]
      exact ⟨rfl, HBQ.out⟩
end Go.Proofs.Ytkfapcigfgfeaaa
