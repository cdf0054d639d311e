/- Whether records are the same, by the program and by the document; what layer 5's example fixes is true. -/
import Derived.Test.YtpccppdakmpchaaRefScan5
import Derived.Deep.LoopGhost
namespace Go.Proofs.Ytpccppdakmpchaa
open Go.RowKit Mem Be Word Frm
set_option maxRecDepth 10000
set_option maxHeartbeats 1000000
set_option linter.unusedVariables false
instance laterNonempty5 (w : World) : Nonempty (Later w) := ⟨⟨w, Below.refl _ _⟩⟩
def IsT (v : Bool) (w : World) (e : Ending) (w' : World) : Prop := e = .returned (.bool v) ∧ Below w.heap.size w w'
theorem equalb_any (B B' c c' n n' : Nat) (A A' : Option Addr) (xs ys : List UInt8) (w : World) (h : Row w B A (xs.map byteV)) (h' : Row w B' A' (ys.map byteV)) (hn : n = xs.length) (hn' : n' = ys.length) :
    Calls Try.prog 37 #[.slice A n c, .slice A' n' c'] w fun e w' => e = .returned (.bool (xs == ys)) ∧ w = w' := by
  subst hn; subst hn'
  have h1 := conv_row (P := Try.prog) c 25 9 5 Try.underlying25 Try.underlying5 Try.underlying9 h
  have h2 := conv_row (P := Try.prog) c' 25 9 5 Try.underlying25 Try.underlying5 Try.underlying9 h'
  clear h h'
  go_enter Try.func37, Try.ntmps37
  go_wp2
  go_ret
  exact ⟨rfl, rfl⟩
theorem rc_same {k1 k2 : UInt8} {xs ys : List UInt8} (h : k1 = k2) : decide (((k1, xs) : Rc) = (k2, ys)) = (xs == ys) := by
  subst h
  by_cases hx : xs = ys
  · subst hx; simp
  · rw [decide_eq_false (fun e => hx (congrArg Prod.snd e))]
    simpa using hx
theorem samerec_any (k1 k2 : UInt8) (A A' : Option Addr) (xs ys : List UInt8) (n n' c c' : Nat) (hn : n = xs.length) (hn' : n' = ys.length) (w : World) (h : Row w w.heap.size A (xs.map byteV)) (h' : Row w w.heap.size A' (ys.map byteV)) :
    Calls Try.prog 30 #[.agg #[.int .u8 (k1.toNat : Int), .slice A n c], .agg #[.int .u8 (k2.toNat : Int), .slice A' n' c']] w (IsT (decide (((k1, xs) : Rc) = (k2, ys))) w) := by
  have HB : Hid (Below w.heap.size w ((w.alloc (.cells #[.int .u8 (k1.toNat : Int), .slice A n c] 34)).alloc (.cells #[.int .u8 (k2.toNat : Int), .slice A' n' c'] 34))) := Lib.hid (((Below.refl _ _).alloc (Nat.le_refl _) _).alloc (by simp) _)
  have HR := Lib.hid (h.below HB.out)
  have HR' := Lib.hid (h'.below HB.out)
  have HN := Lib.hid hn
  have HN' := Lib.hid hn'
  clear h h' hn hn'
  by_cases hk : k1 = k2
  · rw [rc_same hk]
    subst hk
    go_enter Try.func30, Try.ntmps30
    go_wp2_with (go_at_call 37; refine (equalb_any _ _ _ _ _ _ _ _ xs ys _ HR.out HR'.out HN.out HN'.out).mono ?_; rintro e w2 ⟨rfl, rfl⟩)
    go_ret
    exact ⟨rfl, HB.out⟩
  · rw [decide_eq_false (fun e => hk (congrArg Prod.fst e))]
    have hne : k1.toNat ≠ k2.toNat := fun e => hk (UInt8.toNat_inj.1 e)
    have hb : ((k1.toNat : Int) == (k2.toNat : Int)) = false := by simp; omega
    clear hk hne
    go_enter Try.func30, Try.ntmps30
    go_wp2
    go_ret
    exact ⟨rfl, HB.out⟩
theorem same_step {rs ss : List RecV} {k : Nat} (h1 : k < rs.length) (h2 : k < ss.length) (hp : (rs.take k).map rcOf = (ss.take k).map rcOf) (he : rcOf rs[k] = rcOf ss[k]) : (rs.take (k + 1)).map rcOf = (ss.take (k + 1)).map rcOf := by
  rw [List.take_succ_eq_append_getElem h1, List.take_succ_eq_append_getElem h2, List.map_append, List.map_append, hp]
  simp [he]
theorem same_not {rs ss : List RecV} {k : Nat} (h1 : k < rs.length) (h2 : k < ss.length) (he : rcOf rs[k] ≠ rcOf ss[k]) : rs.map rcOf ≠ ss.map rcOf := fun e => he (by
  have := congrArg (fun l => l[k]?) e
  simpa [List.getElem?_eq_getElem h1, List.getElem?_eq_getElem h2] using this)
theorem equalfunc5_any (B B' n m c d : Nat) (A A' : Option Addr) (rs ss : List RecV) (hn : n = rs.length) (hm : m = ss.length) (w : World) (h : Row w w.heap.size A (recsC rs)) (h' : Row w w.heap.size A' (recsC ss)) (hr : Recs_ w rs) (hs : Recs_ w ss) (hnm : n ≤ 1073741824) :
    Calls Try.prog 29 #[.slice A n c, .slice A' m d, .func (.func 30) #[] #[]] w (IsT (decide (rs.map rcOf = ss.map rcOf)) w) := by
  by_cases hl : n ≠ m
  · rw [decide_eq_false (fun e => hl (by have := congrArg List.length e; simp at this; omega))]
    have hln : ((n : Int) != (m : Int)) = true := by simp; omega
    clear h h' hr hs hn hm hl
    go_enter Try.func29, Try.ntmps29
    go_wp2
    go_ret
    exact ⟨rfl, Below.refl _ _⟩
  obtain rfl : n = m := by omega
  obtain ⟨bb, hbb⟩ : ∃ bb, decide (rs.map rcOf = ss.map rcOf) = bb := ⟨_, rfl⟩
  have HBB := Lib.hid hbb
  rw [hbb]
  clear hbb
  have HR := Lib.hid h
  have HS := Lib.hid h'
  have HRR := Lib.hid hr
  have HSS := Lib.hid hs
  have HN := Lib.hid hn
  have HM := Lib.hid hm
  clear h h' hr hs hn hm hl
  go_enter Try.func29, Try.ntmps29
  go_wp2
  go_loopw [17] (fun i wr => ∃ k : Nat, k ≤ n ∧ i = .int .i64 k ∧ Hid ((rs.take k).map rcOf = (ss.take k).map rcOf) ∧ Hid (Below w.heap.size w wr)) (fun i _ => n - (intOf i).toNat)
  case atStart => exact ⟨0, by omega, rfl, Lib.hid (by simp), Lib.hid (Below.refl _ _)⟩
  case round =>
    obtain ⟨k, hk, rfl, HP, HB⟩ := hrel
    by_cases hlt : k < n
    · have hkr : k < rs.length := by rw [← HN.out]; exact hlt
      have hks : k < ss.length := by rw [← HM.out]; exact hlt
      obtain ⟨b, o, rfl, hb, hc⟩ := recs_open HR.out (by omega)
      obtain ⟨b', o', rfl, hb', hc'⟩ := recs_open HS.out (by omega)
      obtain ⟨d0, d1⟩ := hc k hkr
      obtain ⟨e0, e1⟩ := hc' k hks
      have hra := HRR.out rs[k] (List.getElem_mem hkr)
      have hsa := HSS.out ss[k] (List.getElem_mem hks)
      have hstep := Lib.hid (same_step hkr hks HP.out)
      have hnot := Lib.hid (same_not hkr hks)
      obtain ⟨⟨k1, A1, xs, c1⟩, hx⟩ : ∃ p, rs[k]'hkr = p := ⟨_, rfl⟩
      obtain ⟨⟨k2, A2, ys, c2⟩, hy⟩ : ∃ p, ss[k]'hks = p := ⟨_, rfl⟩
      rw [hx] at d0 d1 hra hstep hnot
      rw [hy] at e0 e1 hsa hstep hnot
      simp only [rcOf] at d0 d1 e0 e1 hra hsa hstep hnot
      rw [← HB.out.cell (p := ⟨b, o + k * 2, none⟩) hb] at d0
      rw [← HB.out.cell (p := ⟨b, o + k * 2 + 1, none⟩) hb] at d1
      rw [← HB.out.cell (p := ⟨b', o' + k * 2, none⟩) hb'] at e0
      rw [← HB.out.cell (p := ⟨b', o' + k * 2 + 1, none⟩) hb'] at e1
      have hbs : b < wr.heap.size := Nat.lt_of_lt_of_le hb HB.out.size
      have hbs' : b' < wr.heap.size := Nat.lt_of_lt_of_le hb' HB.out.size
      have HRA := Lib.hid ((hra.below HB.out).more HB.out.size)
      have HSA := Lib.hid ((hsa.below HB.out).more HB.out.size)
      clear hx hy hra hsa hc hc'
      have C := fun W (hW : Below wr.heap.size wr W) => samerec_any k1 k2 A1 A2 xs ys xs.length ys.length c1 c2 rfl rfl W ((HRA.out.below hW).more hW.size) ((HSA.out.below hW).more hW.size)
      by_cases hq : (((k1, xs) : Rc) = (k2, ys))
      · rw [decide_eq_true hq] at C
        have HC := Lib.hid C
        have HP2 := Lib.hid (hstep.out hq)
        clear C hq hstep hnot
        go_wp2_with fail
        refine (HC.out _ (((Below.refl _ _).alloc (Nat.le_refl _) _).alloc (by simp) _)).mono ?_
        rintro e w2 ⟨rfl, hb2⟩
        have HB2 : Hid (Below w.heap.size w w2) := Lib.hid (HB.out.trans ((below_after2 hb2).mono HB.out.size))
        clear hb2
        go_wp2
        go_roundw
        case rel => exact ⟨k + 1, by omega, by go_num, HP2, HB2⟩
        case measure => simp [intOf]; omega
      · have hv : Hid (bb = false) := Lib.hid (by rw [← HBB.out]; exact decide_eq_false (hnot.out hq))
        rw [decide_eq_false hq] at C
        have HC := Lib.hid C
        clear C hq hstep hnot
        go_wp2_with fail
        refine (HC.out _ (((Below.refl _ _).alloc (Nat.le_refl _) _).alloc (by simp) _)).mono ?_
        rintro e w2 ⟨rfl, hb2⟩
        have HB2 : Hid (Below w.heap.size w w2) := Lib.hid (HB.out.trans ((below_after2 hb2).mono HB.out.size))
        clear hb2
        go_wp2
        go_ret
        rw [hv.out]
        exact ⟨rfl, HB2.out⟩
    · have hT1 : rs.take k = rs := List.take_of_length_le (by rw [← HN.out]; omega)
      have hT2 : ss.take k = ss := List.take_of_length_le (by rw [← HM.out]; omega)
      have hp := HP.out
      rw [hT1, hT2] at hp
      have hv : Hid (bb = true) := Lib.hid (by rw [← HBB.out]; exact decide_eq_true hp)
      clear hT1 hT2 hp
      go_wp2
      go_ret
      rw [hv.out]
      exact ⟨rfl, HB.out⟩
theorem same5_any (n m c d : Nat) (A A' : Option Addr) (rs ss : List RecV) (hn : n = rs.length) (hm : m = ss.length) (w : World) (h : Row w w.heap.size A (recsC rs)) (h' : Row w w.heap.size A' (recsC ss)) (hr : Recs_ w rs) (hs : Recs_ w ss) (hnm : n ≤ 1073741824) :
    Calls Try.prog 17 #[.slice A n c, .slice A' m d] w (IsT (decide (rs.map rcOf = ss.map rcOf)) w) := by
  have HC := Lib.hid (equalfunc5_any 0 0 n m c d A A' rs ss hn hm w h h' hr hs hnm)
  clear h h' hr hs hn hm
  go_enter Try.func17, Try.ntmps17
  go_wp2_with fail
  refine HC.out.mono ?_
  rintro e w2 ⟨rfl, hb⟩
  have HB := Lib.hid hb
  clear hb
  go_wp2
  go_ret
  exact ⟨rfl, HB.out⟩
theorem refsame5_any (n m c d : Nat) (A A' : Option Addr) (rs ss : List RecV) (hn : n = rs.length) (hm : m = ss.length) (w : World) (h : Row w w.heap.size A (recsC rs)) (h' : Row w w.heap.size A' (recsC ss)) (hr : Recs_ w rs) (hs : Recs_ w ss) (hnm : n ≤ 1073741824) :
    Calls Try.prog 22 #[.slice A n c, .slice A' m d] w (IsT (decide (rs.map rcOf = ss.map rcOf)) w) := by
  by_cases hl : n ≠ m
  · rw [decide_eq_false (fun e => hl (by have := congrArg List.length e; simp at this; omega))]
    have hln : ((n : Int) != (m : Int)) = true := by simp; omega
    clear h h' hr hs hn hm hl
    go_enter Try.func22, Try.ntmps22
    go_wp2
    go_ret
    exact ⟨rfl, Below.refl _ _⟩
  obtain rfl : n = m := by omega
  obtain ⟨bb, hbb⟩ : ∃ bb, decide (rs.map rcOf = ss.map rcOf) = bb := ⟨_, rfl⟩
  have HBB := Lib.hid hbb
  rw [hbb]
  clear hbb
  have HR := Lib.hid h
  have HS := Lib.hid h'
  have HRR := Lib.hid hr
  have HSS := Lib.hid hs
  have HN := Lib.hid hn
  have HM := Lib.hid hm
  clear h h' hr hs hn hm hl
  go_enter Try.func22, Try.ntmps22
  go_wp2
  go_loopw [5] (fun i wr => ∃ k : Nat, k ≤ n ∧ i = .int .i64 k ∧ Hid ((rs.take k).map rcOf = (ss.take k).map rcOf) ∧ Hid (Below w.heap.size w wr)) (fun i _ => n - (intOf i).toNat)
  case atStart => exact ⟨0, by omega, rfl, Lib.hid (by simp), Lib.hid (Below.refl _ _)⟩
  case round =>
    obtain ⟨k, hk, rfl, HP, HB⟩ := hrel
    by_cases hlt : k < n
    · have hkr : k < rs.length := by rw [← HN.out]; exact hlt
      have hks : k < ss.length := by rw [← HM.out]; exact hlt
      obtain ⟨b, o, rfl, hb, hc⟩ := recs_open HR.out (by omega)
      obtain ⟨b', o', rfl, hb', hc'⟩ := recs_open HS.out (by omega)
      obtain ⟨d0, d1⟩ := hc k hkr
      obtain ⟨e0, e1⟩ := hc' k hks
      have hra := HRR.out rs[k] (List.getElem_mem hkr)
      have hsa := HSS.out ss[k] (List.getElem_mem hks)
      have hstep := Lib.hid (same_step hkr hks HP.out)
      have hnot := Lib.hid (same_not hkr hks)
      obtain ⟨⟨k1, A1, xs, c1⟩, hx⟩ : ∃ p, rs[k]'hkr = p := ⟨_, rfl⟩
      obtain ⟨⟨k2, A2, ys, c2⟩, hy⟩ : ∃ p, ss[k]'hks = p := ⟨_, rfl⟩
      rw [hx] at d0 d1 hra hstep hnot
      rw [hy] at e0 e1 hsa hstep hnot
      simp only [rcOf] at d0 d1 e0 e1 hra hsa hstep hnot
      rw [← HB.out.cell (p := ⟨b, o + k * 2, none⟩) hb] at d0
      rw [← HB.out.cell (p := ⟨b, o + k * 2 + 1, none⟩) hb] at d1
      rw [← HB.out.cell (p := ⟨b', o' + k * 2, none⟩) hb'] at e0
      rw [← HB.out.cell (p := ⟨b', o' + k * 2 + 1, none⟩) hb'] at e1
      have l0 := later_cell d0
      have l1 := later_cell d1
      have m0 := later_cell e0
      have m1 := later_cell e1
      have HRA := Lib.hid ((hra.below HB.out).more HB.out.size)
      have HSA := Lib.hid ((hsa.below HB.out).more HB.out.size)
      clear hx hy hra hsa hc hc' d0 d1 e0 e1
      have C := fun (p : Later wr) => same_any p.world.heap.size p.world.heap.size c1 c2 xs.length ys.length A1 A2 xs ys p.world ((HRA.out.below p.bel).more p.bel.size) ((HSA.out.below p.bel).more p.bel.size) rfl rfl
      by_cases hkk : k1 = k2
      · subst hkk
        have hkf : ((k1.toNat : Int) != (k1.toNat : Int)) = false := by simp
        by_cases hq : xs = ys
        · have HP2 := Lib.hid (hstep.out (by rw [hq]))
          rw [show (xs == ys) = true by simpa using hq] at C
          have HC := Lib.hid C
          clear C hq hstep hnot
          go_wp2_with fail
          refine wp_region_later (by kernel_rfl) (by kernel_rfl) ?_
          repeat (go_big_quiet_step (first
            | (go_at_call 14; exact later_same (HC.out _))))
          refine wpQuiet_nil ?_
          intro w' hw'
          obtain ⟨p, rfl⟩ := hw'
          go_wp2
          go_roundw
          case rel => exact ⟨k + 1, by omega, by go_num, HP2, Lib.hid (HB.out.trans (p.bel.mono HB.out.size))⟩
          case measure => simp [intOf]; omega
        · have hv : Hid (bb = false) := Lib.hid (by rw [← HBB.out]; exact decide_eq_false (hnot.out (fun e => hq (congrArg Prod.snd e))))
          rw [show (xs == ys) = false by simpa using hq] at C
          have HC := Lib.hid C
          clear C hq hstep hnot
          go_wp2_with fail
          refine wp_region_later (by kernel_rfl) (by kernel_rfl) ?_
          repeat (go_big_quiet_step (first
            | (go_at_call 14; exact later_same (HC.out _))))
          refine wpQuiet_nil ?_
          intro w' hw'
          obtain ⟨p, rfl⟩ := hw'
          go_wp2
          go_ret
          rw [hv.out]
          exact ⟨rfl, HB.out.trans (p.bel.mono HB.out.size)⟩
      · have hv : Hid (bb = false) := Lib.hid (by rw [← HBB.out]; exact decide_eq_false (hnot.out (fun e => hkk (congrArg Prod.fst e))))
        have hne : k1.toNat ≠ k2.toNat := fun e => hkk (UInt8.toNat_inj.1 e)
        have hkf : ((k1.toNat : Int) != (k2.toNat : Int)) = true := by simp; omega
        clear C hkk hne hstep hnot
        go_wp2_with fail
        refine wp_region_later (by kernel_rfl) (by kernel_rfl) ?_
        repeat (go_big_quiet_step (fail))
        refine wpQuiet_nil ?_
        intro w' hw'
        obtain ⟨p, rfl⟩ := hw'
        go_wp2
        go_ret
        rw [hv.out]
        exact ⟨rfl, HB.out.trans (p.bel.mono HB.out.size)⟩
    · have hT1 : rs.take k = rs := List.take_of_length_le (by rw [← HN.out]; omega)
      have hT2 : ss.take k = ss := List.take_of_length_le (by rw [← HM.out]; omega)
      have hp := HP.out
      rw [hT1, hT2] at hp
      have hv : Hid (bb = true) := Lib.hid (by rw [← HBB.out]; exact decide_eq_true hp)
      clear hT1 hT2 hp
      go_wp2
      go_ret
      rw [hv.out]
      exact ⟨rfl, HB.out⟩
theorem one_7 : oneS (7, []) = (frB (7, []), 0) := if_neg (by decide)
theorem fr_7 : (frB (7, [])).take 6 = [165, 7, 0, 0, 0, 0] := by decide +kernel
theorem known5_any (w : World) : Calls Try.prog 11 #[] w (IsT true w) := by
  have hl : (frB (7, [])).length = 10 := by rw [fr_len]; rfl
  have H1 := Lib.hid (one_any 7 w.heap.size 0 0 none [] rfl w (Row.nil _ _ _) (Nat.le_refl _))
  rw [one_7] at H1
  have u1 := fun W A c (h : 6 ≤ c) => run_cut_h (P := Try.prog) (w := W) 25 5 _ _ Try.underlying25 info_b A 10 c 6 h
  have HU := Lib.hid u1
  clear u1
  have HL := Lib.hid hl
  clear hl
  go_enter Try.func11, Try.ntmps11
  go_wp2_with fail
  refine H1.out.mono ?_
  rintro e w1 ⟨A1, c1, rfl, ho1, hb1⟩
  have hcc := own_cap ho1
  simp only [HL.out] at ho1 hcc ⊢
  have HB1 := Lib.hid hb1
  have HR1 := Lib.hid (Row.of_own ho1)
  have h6 : 6 ≤ c1 := by omega
  have hu : ∀ W, (Instr.slice 25 (.slice A1 10 c1) none (some (.int .i64 6)) none).run Try.prog W = .ok (.slice A1 6 c1) W := fun W => HU.out W A1 c1 h6
  have HN := Lib.hid (next_any w1.heap.size 0 0 none [] rfl (Nat.le_refl _) w1 (Row.nil _ _ _) (Nat.le_refl _) (by omega))
  rw [next_nil] at HN
  clear ho1 hb1 hcc HU H1 h6
  go_wp2_with fail
  refine HN.out.mono ?_
  rintro e w2 ⟨rfl, hb2⟩
  have HB2 := Lib.hid (HB1.out.trans (hb2.mono HB1.out.size))
  have HR2 := Lib.hid ((HR1.out.below hb2).more hb2.size)
  have HT : Hid (∀ o, Row (w2.alloc o) w2.heap.size A1 (([165, 7, 0, 0, 0, 0] : List UInt8).map byteV)) := Lib.hid fun o => by
    rw [← fr_7, List.map_take]
    exact (take_row HR2.out 6).alloc (Nat.le_refl _) o
  have HV : Hid (∀ o, Below w.heap.size w (w2.alloc o)) := Lib.hid fun o => HB2.out.alloc HB2.out.size o
  clear hb2 HN
  go_wp2_with fail
  refine (same_any _ _ _ _ 6 6 A1 _ [165, 7, 0, 0, 0, 0] [165, 7, 0, 0, 0, 0] _ (HT.out _) (row_cells rfl) rfl rfl).mono ?_
  rintro e w3 ⟨rfl, rfl⟩
  go_wp2
  go_ret
  exact ⟨rfl, HV.out _⟩
end Go.Proofs.Ytpccppdakmpchaa
