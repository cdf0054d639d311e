/- Whether records are the same, by the program and by the document; what layer 5's example fixes is true. -/
import Derived.Test.YtkagfjjocmjeoaaRefScan5
import Derived.Deep.LoopGhost
namespace Go.Proofs.Ytkagfjjocmjeoaa
open Go.RowKit Mem Be Word Frm
set_option maxRecDepth 10000
set_option maxHeartbeats 1000000
set_option linter.unusedVariables false
instance laterNonempty5 (w : World) : Nonempty (Later w) := ⟨⟨w, Below.refl _ _⟩⟩
def IsT (v : Bool) (w : World) (e : Ending) (w' : World) : Prop := e = .returned (.bool v) ∧ Below w.heap.size w w'
theorem rc_same {k1 k2 : UInt8} {xs ys : List UInt8} (h : k1 = k2) : decide (((k1, xs) : Rc) = (k2, ys)) = (xs == ys) := by
  subst h
  by_cases hx : xs = ys
  · subst hx; simp
  · rw [decide_eq_false (fun e => hx (congrArg Prod.snd e))]
    simpa using hx
theorem same_step {rs ss : List RecV} {k : Nat} (h1 : k < rs.length) (h2 : k < ss.length) (hp : (rs.take k).map rcOf = (ss.take k).map rcOf) (he : rcOf rs[k] = rcOf ss[k]) : (rs.take (k + 1)).map rcOf = (ss.take (k + 1)).map rcOf := by
  rw [List.take_succ_eq_append_getElem h1, List.take_succ_eq_append_getElem h2, List.map_append, List.map_append, hp]
  simp [he]
theorem same_not {rs ss : List RecV} {k : Nat} (h1 : k < rs.length) (h2 : k < ss.length) (he : rcOf rs[k] ≠ rcOf ss[k]) : rs.map rcOf ≠ ss.map rcOf := fun e => he (by
  have := congrArg (fun l => l[k]?) e
  simpa [List.getElem?_eq_getElem h1, List.getElem?_eq_getElem h2] using this)
theorem refsame5_any (n m c d : Nat) (A A' : Option Addr) (rs ss : List RecV) (hn : n = rs.length) (hm : m = ss.length) (w : World) (h : Row w w.heap.size A (recsC rs)) (h' : Row w w.heap.size A' (recsC ss)) (hr : Recs_ w rs) (hs : Recs_ w ss) (hnm : n ≤ 1073741824) :
    Calls Try.prog 26 #[.slice A n c, .slice A' m d] w (IsT (decide (rs.map rcOf = ss.map rcOf)) w) := by
  by_cases hl : n ≠ m
  · rw [decide_eq_false (fun e => hl (by have := congrArg List.length e; simp at this; omega))]
    have hln : ((n : Int) != (m : Int)) = true := by simp; omega
    clear h h' hr hs hn hm hl
    go_enter Try.func26, Try.ntmps26
    go_wp2
    go_ret
    exact ⟨rfl, Below.refl _ _⟩
  obtain rfl : n = m := by omega
  obtain ⟨bb, hbb⟩ : ∃ bb, decide (rs.map rcOf = ss.map rcOf) = bb := ⟨_, rfl⟩
  have HBB := Lib.hid hbb
  rw [hbb]
  clear hbb
  have HR := Lib.hid h
  have HS := Lib.hid h'
  have HRR := Lib.hid hr
  have HSS := Lib.hid hs
  have HN := Lib.hid hn
  have HM := Lib.hid hm
  clear h h' hr hs hn hm hl
  go_enter Try.func26, Try.ntmps26
  go_wp2
  go_loopw [5] (fun i wr => ∃ k : Nat, k ≤ n ∧ i = .int .i64 k ∧ Hid ((rs.take k).map rcOf = (ss.take k).map rcOf) ∧ Hid (Below w.heap.size w wr)) (fun i _ => n - (intOf i).toNat)
  case atStart => exact ⟨0, by omega, rfl, Lib.hid (by simp), Lib.hid (Below.refl _ _)⟩
  case round =>
    obtain ⟨k, hk, rfl, HP, HB⟩ := hrel
    by_cases hlt : k < n
    · have hkr : k < rs.length := by rw [← HN.out]; exact hlt
      have hks : k < ss.length := by rw [← HM.out]; exact hlt
      obtain ⟨b, o, rfl, hb, hc⟩ := recs_open HR.out (by omega)
      obtain ⟨b', o', rfl, hb', hc'⟩ := recs_open HS.out (by omega)
      obtain ⟨d0, d1⟩ := hc k hkr
      obtain ⟨e0, e1⟩ := hc' k hks
      have hra := HRR.out rs[k] (List.getElem_mem hkr)
      have hsa := HSS.out ss[k] (List.getElem_mem hks)
      have hstep := Lib.hid (same_step hkr hks HP.out)
      have hnot := Lib.hid (same_not hkr hks)
      obtain ⟨⟨k1, A1, xs, c1⟩, hx⟩ : ∃ p, rs[k]'hkr = p := ⟨_, rfl⟩
      obtain ⟨⟨k2, A2, ys, c2⟩, hy⟩ : ∃ p, ss[k]'hks = p := ⟨_, rfl⟩
      rw [hx] at d0 d1 hra hstep hnot
      rw [hy] at e0 e1 hsa hstep hnot
      simp only [rcOf] at d0 d1 e0 e1 hra hsa hstep hnot
      rw [← HB.out.cell (p := ⟨b, o + k * 2, none⟩) hb] at d0
      rw [← HB.out.cell (p := ⟨b, o + k * 2 + 1, none⟩) hb] at d1
      rw [← HB.out.cell (p := ⟨b', o' + k * 2, none⟩) hb'] at e0
      rw [← HB.out.cell (p := ⟨b', o' + k * 2 + 1, none⟩) hb'] at e1
      have l0 := later_cell d0
      have l1 := later_cell d1
      have m0 := later_cell e0
      have m1 := later_cell e1
      have HRA := Lib.hid ((hra.below HB.out).more HB.out.size)
      have HSA := Lib.hid ((hsa.below HB.out).more HB.out.size)
      clear hx hy hra hsa hc hc' d0 d1 e0 e1
      have C := fun (p : Later wr) => same_any p.world.heap.size p.world.heap.size c1 c2 xs.length ys.length A1 A2 xs ys p.world ((HRA.out.below p.bel).more p.bel.size) ((HSA.out.below p.bel).more p.bel.size) rfl rfl
      by_cases hkk : k1 = k2
      · subst hkk
        have hkf : ((k1.toNat : Int) != (k1.toNat : Int)) = false := by simp
        by_cases hq : xs = ys
        · have HP2 := Lib.hid (hstep.out (by rw [hq]))
          rw [show (xs == ys) = true by simpa using hq] at C
          have HC := Lib.hid C
          clear C hq hstep hnot
          go_wp2_with fail
          refine wp_region_later (by kernel_rfl) (by kernel_rfl) ?_
          repeat (go_big_quiet_step (first
            | (go_at_call 21; exact later_same (HC.out _))))
          refine wpQuiet_nil ?_
          intro w' hw'
          obtain ⟨p, rfl⟩ := hw'
          go_wp2
          go_roundw
          case rel => exact ⟨k + 1, by omega, by go_num, HP2, Lib.hid (HB.out.trans (p.bel.mono HB.out.size))⟩
          case measure => simp [intOf]; omega
        · have hv : Hid (bb = false) := Lib.hid (by rw [← HBB.out]; exact decide_eq_false (hnot.out (fun e => hq (congrArg Prod.snd e))))
          rw [show (xs == ys) = false by simpa using hq] at C
          have HC := Lib.hid C
          clear C hq hstep hnot
          go_wp2_with fail
          refine wp_region_later (by kernel_rfl) (by kernel_rfl) ?_
          repeat (go_big_quiet_step (first
            | (go_at_call 21; exact later_same (HC.out _))))
          refine wpQuiet_nil ?_
          intro w' hw'
          obtain ⟨p, rfl⟩ := hw'
          go_wp2
          go_ret
          rw [hv.out]
          exact ⟨rfl, HB.out.trans (p.bel.mono HB.out.size)⟩
      · have hv : Hid (bb = false) := Lib.hid (by rw [← HBB.out]; exact decide_eq_false (hnot.out (fun e => hkk (congrArg Prod.fst e))))
        have hne : k1.toNat ≠ k2.toNat := fun e => hkk (UInt8.toNat_inj.1 e)
        have hkf : ((k1.toNat : Int) != (k2.toNat : Int)) = true := by simp; omega
        clear C hkk hne hstep hnot
        go_wp2_with fail
        refine wp_region_later (by kernel_rfl) (by kernel_rfl) ?_
        repeat (go_big_quiet_step (fail))
        refine wpQuiet_nil ?_
        intro w' hw'
        obtain ⟨p, rfl⟩ := hw'
        go_wp2
        go_ret
        rw [hv.out]
        exact ⟨rfl, HB.out.trans (p.bel.mono HB.out.size)⟩
    · have hT1 : rs.take k = rs := List.take_of_length_le (by rw [← HN.out]; omega)
      have hT2 : ss.take k = ss := List.take_of_length_le (by rw [← HM.out]; omega)
      have hp := HP.out
      rw [hT1, hT2] at hp
      have hv : Hid (bb = true) := Lib.hid (by rw [← HBB.out]; exact decide_eq_true hp)
      clear hT1 hT2 hp
      go_wp2
      go_ret
      rw [hv.out]
      exact ⟨rfl, HB.out⟩
theorem one_7 : oneS (7, []) = (frB (7, []), 0) := if_neg (by decide)
theorem fr_7 : (frB (7, [])).take 6 = [165, 7, 0, 0, 0, 0] := by decide +kernel
end Go.Proofs.Ytkagfjjocmjeoaa
