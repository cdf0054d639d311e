/- An entry laid among some, by the reference's call (written by tools/gen_refx8.py). -/
import Derived.Test.YtdmoogbmaodfnaaGreatRefW8
namespace Go.Proofs.YtdmoogbmaodfnaaGreat
open Go.RowKit Go.ChangeShapes Mem Be Word Frm Go.Maps
set_option maxRecDepth 100000
set_option maxHeartbeats 8000000
set_option linter.unusedVariables false
def WithP (T : List EntP) (w : World) (e : Ending) (w' : World) : Prop :=
  ∃ (vs : List EV) (A : Option Addr) (c : Nat), vs.map Prod.fst = T ∧ e = .returned (.slice A vs.length c) ∧ vs.length ≤ c ∧ EnV w' A vs ∧ Below w.heap.size w w'
theorem withP_of {us : List EV} {x : EV} {w W1 w9 : World} {A9 : Option Addr} {c9 N9 B : Nat} {j m : Nat} {T : List EntP} (hT : T = (us.map Prod.fst).take j ++ x.1 :: (us.map Prod.fst).drop m) (hb : Below w.heap.size w w9) (hu : EnV w9 none [] → True)
    (hval : ∀ y ∈ us, ValOk w9 y.1.has y.2.1 y.1.v y.2.2) (hx : ValOk w9 x.1.has x.2.1 x.1.v x.2.2) (hN : N9 = ((us.take j ++ [x]) ++ us.drop m).length) (ho : w9.ownsRow B 45 6 (.slice A9 N9 c9) N9 (entsC ((us.take j ++ [x]) ++ us.drop m))) :
    WithP T w (.returned (.slice A9 N9 c9)) w9 := by
  subst hN
  obtain ⟨_, _, e, hc, _⟩ := ownShape ho
  injection e with _ _ e
  subst e
  refine ⟨_, A9, c9, ?_, rfl, hc, ⟨ownRow ho, fun y hy => ?_⟩, hb⟩
  · rw [hT]; simp
  · rcases List.mem_append.1 hy with hy | hy
    · rcases List.mem_append.1 hy with hy | hy
      · exact hval y (List.mem_of_mem_take hy)
      · obtain rfl : y = x := by simpa using hy
        exact hx
    · exact hval y (List.mem_of_mem_drop hy)
theorem tailE (A : Option Addr) (us : List EV) (n c k : Nat) (i : Int) (hi : i = (k : Int)) (hk : k ≤ n) (hn : n = us.length) (hc : n ≤ c) :
    ∃ A9, (∀ W, (Instr.slice 33 (.slice A n c) (some (.int .i64 i)) none none).run Tryz.prog W = .ok (.slice A9 (n - k) (c - k)) W) ∧ ∀ B W, Row W B A (entsC us) → Row W B A9 (entsC (us.drop k)) := by
  subst hi
  exact ⟨_, fun W => cutE W A n c k hk, fun B W h => rowE_tail h (by omega) (by omega)⟩
theorem refwith_any (n c : Nat) (A : Option Addr) (us : List EV) (x : EV) (hn : n = us.length) (hcp : n ≤ c) (hl : n ≤ 100000000) (w : World) (h : EnV w A us) (hs : SortT kE (us.map Prod.fst)) (hv : ValOk w x.1.has x.2.1 x.1.v x.2.2) :
    Calls Tryz.prog 67 #[.slice A n c, entV ⟨x.1.k.toArray⟩ x.1.s x.1.u x.1.o x.1.has x.2.1 x.1.v.length x.2.2] w (WithP (putK kE (us.map Prod.fst) x.1) w) := by
  obtain ⟨i0, hi0, hz0, hz1, hz2⟩ := info_parts info_ent
  obtain ⟨⟨xk, xs, xu, xo, xh, xv⟩, xA, xc⟩ := x
  simp only at hv ⊢
  obtain ⟨T, hT⟩ : ∃ T, putK kE (us.map Prod.fst) ⟨xk, xs, xu, xo, xh, xv⟩ = T := ⟨_, rfl⟩
  have hwp := fun j h1 h2 h3 m h4 => (with_put (e := ⟨xk, xs, xu, xo, xh, xv⟩) (us.map Prod.fst) j hs h1 h2 h3 m h4).symm.trans hT
  rw [hT]
  have HWP := Lib.hid hwp
  have HN := Lib.hid hn
  obtain ⟨W1, hW1⟩ : ∃ W1, w.alloc (.cells #[.string ⟨xk.toArray⟩, .int .i64 xs, .int .i64 xu, .int .i64 xo, .bool xh, .slice xA xv.length xc] 45) = W1 := ⟨_, rfl⟩
  have hbw : Below w.heap.size w W1 := by rw [← hW1]; exact (Below.refl _ _).alloc (Nat.le_refl _) _
  have hblk : Blk W1 w.heap.size 45 #[.string ⟨xk.toArray⟩, .int .i64 xs, .int .i64 xu, .int .i64 xo, .bool xh, .slice xA xv.length xc] := by rw [← hW1]; exact Blk.new w _ _
  have HBW := Lib.hid hbw
  have HBLK := Lib.hid hblk
  have HE := Lib.hid (h.below hbw)
  have HV := Lib.hid (hv.below hbw)
  have HCP := Lib.hid hcp
  have hni : (n : Int) ≤ 100000000 := by omega
  have hni0 : (0 : Int) ≤ (n : Int) := by omega
  clear h hn hcp hl hs hv hT hwp hbw hblk
  unfold entV
  go_enter Tryz.func67, Tryz.ntmps67
  go_wp2_with fail
  go_loopw [5, 6] (fun v i wr => ∃ (j : Nat) (A1 : Option Addr) (c1 N1 : Nat), j ≤ n ∧ i = .int .i64 j ∧ v = .slice A1 N1 c1 ∧ Hid (N1 = (us.take j).length) ∧ Hid (wr.ownsRow W1.heap.size 45 6 (.slice A1 N1 c1) N1 (entsC (us.take j))) ∧ Hid (∀ i, ∀ hi : i < us.length, i < j → bytesBefore us[i].1.k xk = true) ∧ Hid (Below W1.heap.size W1 wr)) (fun _ i _ => n - (intOf i).toNat)
  case atStart => exact ⟨0, none, 0, 0, Nat.zero_le _, rfl, rfl, Lib.hid rfl, Lib.hid (World.ownsRow_nil _ _ _ _), Lib.hid (fun i _ h => by omega), Lib.hid (Below.refl _ _)⟩
  case round =>
    obtain ⟨j, A1, c1, N1, hj, rfl, rfl, HN1, HO, HBF, HB⟩ := hrel
    obtain rfl : j = N1 := by have := HN1.out; rw [List.length_take] at this; have := HN.out; omega
    have hone : ∀ z : EV, entsC [z] = entC z := fun z => by simp [entsC]
    have HBK := Lib.hid (HBLK.out.below HB.out HBLK.out.lt)
    have k0 : wr.cell? ⟨w.heap.size, 0, none⟩ = some (.string ⟨xk.toArray⟩) := HBK.out.cell 0
    have l0 := later_cell k0
    have hji : (0 : Int) ≤ (j : Int) := by omega
    by_cases hlt : j < n
    · have hj1 : j < us.length := by rw [← HN.out]; exact hlt
      have hji2 : (j : Int) < (n : Int) := by omega
      obtain ⟨b, o, rfl, hb, hc⟩ := ents_open (HE.out.below HB.out).row (by omega)
      obtain ⟨a0, a1, a2, a3, a4, a5⟩ := hc j hj1
      have hstep : bytesBefore us[j].1.k xk = true → ∀ i, ∀ hi : i < us.length, i < j + 1 → bytesBefore us[i].1.k xk = true := fun hne i hi h1 => by
        by_cases hij : i = j
        · subst hij; exact hne
        · exact HBF.out i hi (by omega)
      have hnx : us.take (j + 1) = us.take j ++ [us[j]] := List.take_succ_eq_append_getElem hj1
      have hkk : us[j].1.k = xk → (j + 1 = j + 1 ∧ (∃ hj : j < (us.map Prod.fst).length, (us.map Prod.fst)[j].k = xk)) := fun h => ⟨rfl, by simpa using hj1, by simpa using h⟩
      have hfst : ∀ hj9 : j < (us.map Prod.fst).length, (us.map Prod.fst)[j].k = us[j].1.k := fun _ => by simp
      obtain ⟨⟨y, yA, yc⟩, hy⟩ : ∃ p, us[j]'hj1 = p := ⟨_, rfl⟩
      have HYJ : Hid (us[j] = (y, yA, yc)) := Lib.hid hy
      rw [hy] at a0 a1 a2 a3 a4 a5 hstep hnx hkk hfst
      simp only at a0 a1 a2 a3 a4 a5 hstep hnx hkk hfst
      have HA := Lib.hid (And.intro a0 (And.intro a1 (And.intro a2 (And.intro a3 (And.intro a4 a5)))))
      have m0 := later_cell a0
      clear hc hy a1 a2 a3 a4 a5 a0 k0
      cases hbf : bytesBefore y.k xk
      · have hless : Op.bytesLess y.k xk = false := (less_before _ _).trans hbf
        have hno9 : ∀ hj9 : j < (us.map Prod.fst).length, bytesBefore (us.map Prod.fst)[j].k xk = false := fun h9 => by rw [hfst h9]; exact hbf
        by_cases hkey : y.k = xk
        · have HTT := Lib.hid (HWP.out j (by simp; omega) (fun i hi h1 => by simpa using HBF.out i (by simpa using hi) h1) hno9 (j + 1) (Or.inl ⟨rfl, (hkk hkey).2⟩))
          rw [hkey] at hless
          have m9 : j + 1 ≤ n := by omega
          clear hstep hnx hkk hfst hbf hno9
          go_wp2_with fail
          refine wp_region_later (by kernel_rfl) (by kernel_rfl) ?_
          repeat (go_big_quiet_step (fail))
          refine wpQuiet_nil ?_
          intro w' hw'
          obtain ⟨p, rfl⟩ := hw'
          have HOp := Lib.hid (ownLater HO.out p.bel)
          have HBp := Lib.hid (HB.out.trans (p.bel.mono HB.out.size))
          obtain ⟨w4, hw4⟩ : ∃ w4, p.world = w4 := ⟨_, rfl⟩
          rw [hw4] at HOp HBp ⊢
          have HBK4 := Lib.hid (HBLK.out.below HBp.out HBLK.out.lt)
          have t0 : w4.cell? ⟨w.heap.size, 0, none⟩ = some (.string ⟨xk.toArray⟩) := HBK4.out.cell 0
          have t1 : w4.cell? ⟨w.heap.size, 1, none⟩ = some (.int .i64 xs) := HBK4.out.cell 1
          have t2 : w4.cell? ⟨w.heap.size, 2, none⟩ = some (.int .i64 xu) := HBK4.out.cell 2
          have t3 : w4.cell? ⟨w.heap.size, 3, none⟩ = some (.int .i64 xo) := HBK4.out.cell 3
          have t4 : w4.cell? ⟨w.heap.size, 4, none⟩ = some (.bool xh) := HBK4.out.cell 4
          have t5 : w4.cell? ⟨w.heap.size, 5, none⟩ = some (.slice xA xv.length xc) := HBK4.out.cell 5
          have hal := (Below.refl w4.heap.size w4).alloc (Nat.le_refl _) (.cells ⟨entC (⟨xk, xs, xu, xo, xh, xv⟩, xA, xc)⟩ 45)
          have HO4 := Lib.hid (ownLater HOp.out hal)
          have HBL : Hid (Blk (w4.alloc (.cells ⟨entC (⟨xk, xs, xu, xo, xh, xv⟩, xA, xc)⟩ 45)) w4.heap.size 45 ⟨entC (⟨xk, xs, xu, xo, xh, xv⟩, xA, xc)⟩) := Lib.hid (Blk.new _ _ _)
          have HB4 := Lib.hid (HBp.out.trans (hal.mono HBp.out.size))
          clear hal hw4 l0 HBK m0 HA hless
          go_wp2_with (at_builtin; refine wpList_appS (P := Tryz.prog) (by rfl) _ _ _ (by rfl) W1.heap.size 45 i0 (evV (evN [])) 6 72 Tryz.underlying33 hi0 hz0 hz1 hz2 rfl (by decide) _ j (entsC (us.take j)) (by rfl) (by exact HO4.out) (w4.heap.size + 1) (some ⟨w4.heap.size, 0, none⟩) 1 1 (entsC [(⟨xk, xs, xu, xo, xh, xv⟩, xA, xc)]) (by rfl) (by rfl) (by exact ent_lit HBL.out (by omega)) (entsC_one _) (by unfold maxLen; omega) (by omega) (by exact HB4.out.size) ?_)
          intro v' w5 hown hgr hat
          obtain ⟨A5, c5, rfl, _, _⟩ := ownShape hown
          rw [← hone, ← entsC_app] at hown
          have HO5 := Lib.hid hown
          have HB5 : Hid (Below W1.heap.size W1 w5) := Lib.hid (HB4.out.grown hgr HB4.out.size fun g h => (HO4.out.lt g h).1)
          have HBK5 := Lib.hid (HBLK.out.below HB5.out HBLK.out.lt)
          have HE5 := Lib.hid (HE.out.below HB5.out)
          have l0 := later_cell (show w5.cell? ⟨w.heap.size, 0, none⟩ = some (.string ⟨xk.toArray⟩) from HBK5.out.cell 0)
          obtain ⟨b9, o9, e9, _, hc⟩ := ents_open HE5.out.row (by omega)
          injection e9 with e9
          injection e9 with e91 e92
          subst e91; subst e92
          have y0 := (hc j hj1).1
          rw [HYJ.out] at y0
          have m0 := later_cell y0
          clear hc y0
          clear hown hgr hat HO4 HB4 t0 t1 t2 t3 t4 t5 HBK4
          go_wp2_with fail
          refine wp_region_later (by kernel_rfl) (by kernel_rfl) ?_
          repeat (go_big_quiet_step (fail))
          refine wpQuiet_nil ?_
          intro w' hw'
          obtain ⟨p, rfl⟩ := hw'
          have HO6 := Lib.hid (ownLater HO5.out p.bel)
          have HB6 := Lib.hid (HB5.out.trans (p.bel.mono HB5.out.size))
          have HE6 := Lib.hid (HE5.out.below p.bel)
          obtain ⟨w6, hw6⟩ : ∃ w6, p.world = w6 := ⟨_, rfl⟩
          rw [hw6] at HO6 HB6 HE6 ⊢
          obtain ⟨A9, hct9, hrt9⟩ := tailE _ us n c (j + 1) ((j : Int) + 1) (by omega) (by omega) HN.out HCP.out
          have hct1 := hct9 w6
          have HRT := Lib.hid (hrt9 _ _ HE6.out.row)
          clear hct9 hrt9
          have HDL : Hid (n - (j + 1) = (us.drop (j + 1)).length) := Lib.hid (by rw [List.length_drop]; have := HN.out; omega)
          clear hw6 l0
          go_wp2_with (at_builtin; refine wpList_appS (P := Tryz.prog) (by rfl) _ _ _ (by rfl) W1.heap.size 45 i0 (evV (evN [])) 6 72 Tryz.underlying33 hi0 hz0 hz1 hz2 rfl (by decide) _ (j + 1) (entsC (us.take j ++ [(⟨xk, xs, xu, xo, xh, xv⟩, xA, xc)])) (by rfl) (by exact HO6.out) w6.heap.size A9 (n - (j + 1)) (c - (j + 1)) (entsC (us.drop (j + 1))) (by rfl) (by rw [entsC_len, HDL.out]) (by exact HRT.out) (entsC_one _) (by unfold maxLen; omega) (by omega) (by exact HB6.out.size) ?_)
          intro v' w7 hown hgr hat
          obtain ⟨A7, c7, rfl, _, _⟩ := ownShape hown
          have hown2 : w7.ownsRow W1.heap.size 45 6 (.slice A7 (n) c7) (n) (entsC ((us.take j ++ [(⟨xk, xs, xu, xo, xh, xv⟩, xA, xc)]) ++ us.drop (j + 1))) := by simpa [entsC] using hown
          have HB7 : Hid (Below W1.heap.size W1 w7) := Lib.hid (HB6.out.grown hgr HB6.out.size fun g h => (HO6.out.lt g h).1)
          have HWITH : Hid (WithP T w (.returned (.slice A7 (n) c7)) w7) := Lib.hid (withP_of (W1 := W1) (x := (⟨xk, xs, xu, xo, xh, xv⟩, xA, xc)) HTT.out.symm (HBW.out.trans (HB7.out.mono HBW.out.size)) (fun _ => trivial) (fun y hy => (HE.out.val y hy).below HB7.out) (HV.out.below HB7.out) (by rw [List.length_append, List.length_append, ← HN1.out, ← HDL.out, List.length_singleton]; omega) hown2)
          clear hown hown2 hgr hat
          go_wp2
          go_ret
          exact HWITH.out
        · have HTT := Lib.hid (HWP.out j (by simp; omega) (fun i hi h1 => by simpa using HBF.out i (by simpa using hi) h1) hno9 j (Or.inr ⟨rfl, fun h9 => by rw [hfst h9]; exact hkey⟩))
          have hb2 : ((⟨y.k.toArray⟩ : ByteArray).toList == (⟨xk.toArray⟩ : ByteArray).toList) = false := list_ne (fun e => hkey (by
            injection e with e
            have := congrArg Array.toList e
            simpa using this))
          have hb3 : (y.k == xk) = false := by simpa using hkey
          clear hstep hnx hkk hfst hbf hno9
          go_wp2_with fail
          refine wp_region_later (by kernel_rfl) (by kernel_rfl) ?_
          repeat (go_big_quiet_step (fail))
          refine wpQuiet_nil ?_
          intro w' hw'
          obtain ⟨p, rfl⟩ := hw'
          have HOp := Lib.hid (ownLater HO.out p.bel)
          have HBp := Lib.hid (HB.out.trans (p.bel.mono HB.out.size))
          obtain ⟨w4, hw4⟩ : ∃ w4, p.world = w4 := ⟨_, rfl⟩
          rw [hw4] at HOp HBp ⊢
          have HBK4 := Lib.hid (HBLK.out.below HBp.out HBLK.out.lt)
          have t0 : w4.cell? ⟨w.heap.size, 0, none⟩ = some (.string ⟨xk.toArray⟩) := HBK4.out.cell 0
          have t1 : w4.cell? ⟨w.heap.size, 1, none⟩ = some (.int .i64 xs) := HBK4.out.cell 1
          have t2 : w4.cell? ⟨w.heap.size, 2, none⟩ = some (.int .i64 xu) := HBK4.out.cell 2
          have t3 : w4.cell? ⟨w.heap.size, 3, none⟩ = some (.int .i64 xo) := HBK4.out.cell 3
          have t4 : w4.cell? ⟨w.heap.size, 4, none⟩ = some (.bool xh) := HBK4.out.cell 4
          have t5 : w4.cell? ⟨w.heap.size, 5, none⟩ = some (.slice xA xv.length xc) := HBK4.out.cell 5
          have hal := (Below.refl w4.heap.size w4).alloc (Nat.le_refl _) (.cells ⟨entC (⟨xk, xs, xu, xo, xh, xv⟩, xA, xc)⟩ 45)
          have HO4 := Lib.hid (ownLater HOp.out hal)
          have HBL : Hid (Blk (w4.alloc (.cells ⟨entC (⟨xk, xs, xu, xo, xh, xv⟩, xA, xc)⟩ 45)) w4.heap.size 45 ⟨entC (⟨xk, xs, xu, xo, xh, xv⟩, xA, xc)⟩) := Lib.hid (Blk.new _ _ _)
          have HB4 := Lib.hid (HBp.out.trans (hal.mono HBp.out.size))
          clear hal hw4 l0 HBK m0 HA hless
          go_wp2_with (at_builtin; refine wpList_appS (P := Tryz.prog) (by rfl) _ _ _ (by rfl) W1.heap.size 45 i0 (evV (evN [])) 6 72 Tryz.underlying33 hi0 hz0 hz1 hz2 rfl (by decide) _ j (entsC (us.take j)) (by rfl) (by exact HO4.out) (w4.heap.size + 1) (some ⟨w4.heap.size, 0, none⟩) 1 1 (entsC [(⟨xk, xs, xu, xo, xh, xv⟩, xA, xc)]) (by rfl) (by rfl) (by exact ent_lit HBL.out (by omega)) (entsC_one _) (by unfold maxLen; omega) (by omega) (by exact HB4.out.size) ?_)
          intro v' w5 hown hgr hat
          obtain ⟨A5, c5, rfl, _, _⟩ := ownShape hown
          rw [← hone, ← entsC_app] at hown
          have HO5 := Lib.hid hown
          have HB5 : Hid (Below W1.heap.size W1 w5) := Lib.hid (HB4.out.grown hgr HB4.out.size fun g h => (HO4.out.lt g h).1)
          have HBK5 := Lib.hid (HBLK.out.below HB5.out HBLK.out.lt)
          have HE5 := Lib.hid (HE.out.below HB5.out)
          have l0 := later_cell (show w5.cell? ⟨w.heap.size, 0, none⟩ = some (.string ⟨xk.toArray⟩) from HBK5.out.cell 0)
          obtain ⟨b9, o9, e9, _, hc⟩ := ents_open HE5.out.row (by omega)
          injection e9 with e9
          injection e9 with e91 e92
          subst e91; subst e92
          have y0 := (hc j hj1).1
          rw [HYJ.out] at y0
          have m0 := later_cell y0
          clear hc y0
          clear hown hgr hat HO4 HB4 t0 t1 t2 t3 t4 t5 HBK4
          go_wp2_with fail
          refine wp_region_later (by kernel_rfl) (by kernel_rfl) ?_
          repeat (go_big_quiet_step (fail))
          refine wpQuiet_nil ?_
          intro w' hw'
          obtain ⟨p, rfl⟩ := hw'
          have HO6 := Lib.hid (ownLater HO5.out p.bel)
          have HB6 := Lib.hid (HB5.out.trans (p.bel.mono HB5.out.size))
          have HE6 := Lib.hid (HE5.out.below p.bel)
          obtain ⟨w6, hw6⟩ : ∃ w6, p.world = w6 := ⟨_, rfl⟩
          rw [hw6] at HO6 HB6 HE6 ⊢
          obtain ⟨A9, hct9, hrt9⟩ := tailE _ us n c (j) (j : Int) (by omega) (by omega) HN.out HCP.out
          have hct1 := hct9 w6
          have HRT := Lib.hid (hrt9 _ _ HE6.out.row)
          clear hct9 hrt9
          have HDL : Hid (n - j = (us.drop (j)).length) := Lib.hid (by rw [List.length_drop]; have := HN.out; omega)
          clear hw6 l0
          go_wp2_with (at_builtin; refine wpList_appS (P := Tryz.prog) (by rfl) _ _ _ (by rfl) W1.heap.size 45 i0 (evV (evN [])) 6 72 Tryz.underlying33 hi0 hz0 hz1 hz2 rfl (by decide) _ (j + 1) (entsC (us.take j ++ [(⟨xk, xs, xu, xo, xh, xv⟩, xA, xc)])) (by rfl) (by exact HO6.out) w6.heap.size A9 (n - j) (c - (j)) (entsC (us.drop (j))) (by rfl) (by rw [entsC_len, HDL.out]) (by exact HRT.out) (entsC_one _) (by unfold maxLen; omega) (by omega) (by exact HB6.out.size) ?_)
          intro v' w7 hown hgr hat
          obtain ⟨A7, c7, rfl, _, _⟩ := ownShape hown
          have hown2 : w7.ownsRow W1.heap.size 45 6 (.slice A7 (j + 1 + (n - j)) c7) (j + 1 + (n - j)) (entsC ((us.take j ++ [(⟨xk, xs, xu, xo, xh, xv⟩, xA, xc)]) ++ us.drop (j))) := by simpa [entsC] using hown
          have HB7 : Hid (Below W1.heap.size W1 w7) := Lib.hid (HB6.out.grown hgr HB6.out.size fun g h => (HO6.out.lt g h).1)
          have HWITH : Hid (WithP T w (.returned (.slice A7 (j + 1 + (n - j)) c7)) w7) := Lib.hid (withP_of (W1 := W1) (x := (⟨xk, xs, xu, xo, xh, xv⟩, xA, xc)) HTT.out.symm (HBW.out.trans (HB7.out.mono HBW.out.size)) (fun _ => trivial) (fun y hy => (HE.out.val y hy).below HB7.out) (HV.out.below HB7.out) (by rw [List.length_append, List.length_append, ← HN1.out, ← HDL.out, List.length_singleton]) hown2)
          clear hown hown2 hgr hat
          go_wp2
          go_ret
          exact HWITH.out
      · have hless : Op.bytesLess y.k xk = true := (less_before _ _).trans hbf
        have HST := Lib.hid (hstep hbf)
        have HNX := Lib.hid hnx
        clear hstep hnx hkk hfst hbf
        go_wp2_with fail
        refine wp_region_later (by kernel_rfl) (by kernel_rfl) ?_
        repeat (go_big_quiet_step (fail))
        refine wpQuiet_nil ?_
        intro w' hw'
        obtain ⟨p, rfl⟩ := hw'
        have hca := fun (q : Nat) (v : Value) (hv : wr.cell? ⟨b, q, none⟩ = some v) => later_cell hv p
        have a0 := hca _ _ HA.out.1
        have a1 := hca _ _ HA.out.2.1
        have a2 := hca _ _ HA.out.2.2.1
        have a3 := hca _ _ HA.out.2.2.2.1
        have a4 := hca _ _ HA.out.2.2.2.2.1
        have a5 := hca _ _ HA.out.2.2.2.2.2
        have HOp := Lib.hid (ownLater HO.out p.bel)
        have HBp := Lib.hid (HB.out.trans (p.bel.mono HB.out.size))
        obtain ⟨w4, hw4⟩ : ∃ w4, p.world = w4 := ⟨_, rfl⟩
        rw [hw4] at a0 a1 a2 a3 a4 a5 HOp HBp ⊢
        have hal := (Below.refl w4.heap.size w4).alloc (Nat.le_refl _) (.cells ⟨entC (y, yA, yc)⟩ 45)
        have HO4 := Lib.hid (ownLater HOp.out hal)
        have HBL : Hid (Blk (w4.alloc (.cells ⟨entC (y, yA, yc)⟩ 45)) w4.heap.size 45 ⟨entC (y, yA, yc)⟩) := Lib.hid (Blk.new _ _ _)
        have HB4 := Lib.hid (HBp.out.trans (hal.mono HBp.out.size))
        clear hca hal hw4 l0 m0 hless HA HBK
        go_wp2_with (at_builtin; refine wpList_appS (P := Tryz.prog) (by rfl) _ _ _ (by rfl) W1.heap.size 45 i0 (evV (evN [])) 6 72 Tryz.underlying33 hi0 hz0 hz1 hz2 rfl (by decide) _ j (entsC (us.take j)) (by rfl) (by exact HO4.out) (w4.heap.size + 1) (some ⟨w4.heap.size, 0, none⟩) 1 1 (entsC [(y, yA, yc)]) (by rfl) (by rfl) (by exact ent_lit HBL.out (by omega)) (entsC_one _) (by unfold maxLen; omega) (by omega) (by exact HB4.out.size) ?_)
        intro v' w5 hown hgr hat
        obtain ⟨A5, c5, rfl, _, _⟩ := ownShape hown
        have HO5 : Hid (w5.ownsRow W1.heap.size 45 6 (.slice A5 (j + 1) c5) (j + 1) (entsC (us.take (j + 1)))) := Lib.hid (by rw [HNX.out, entsC_app, hone]; exact hown)
        have HN5 : Hid (j + 1 = (us.take (j + 1)).length) := Lib.hid (by rw [HNX.out, List.length_append, ← HN1.out]; rfl)
        have HB5 : Hid (Below W1.heap.size W1 w5) := Lib.hid (HB4.out.grown hgr HB4.out.size fun g h => (HO4.out.lt g h).1)
        clear hown hgr hat HO4 HB4
        go_wp2
        go_roundw
        case rel => exact ⟨j + 1, A5, c5, j + 1, by omega, by go_num, rfl, HN5, HO5, HST, HB5⟩
        case measure => simp [intOf]; omega
    · obtain rfl : j = n := by omega
      have HTT := Lib.hid (HWP.out j (by simp; have := HN.out; omega) (fun i hi h1 => by simpa using HBF.out i (by simpa using hi) h1) (fun h9 => by exfalso; have := HN.out; simp at h9; omega) j (Or.inr ⟨rfl, fun h9 => by exfalso; have := HN.out; simp at h9; omega⟩))
      clear k0
      go_wp2_with fail
      refine wp_region_later (by kernel_rfl) (by kernel_rfl) ?_
      repeat (go_big_quiet_step (fail))
      refine wpQuiet_nil ?_
      intro w' hw'
      obtain ⟨p, rfl⟩ := hw'
      have HOp := Lib.hid (ownLater HO.out p.bel)
      have HBp := Lib.hid (HB.out.trans (p.bel.mono HB.out.size))
      obtain ⟨w4, hw4⟩ : ∃ w4, p.world = w4 := ⟨_, rfl⟩
      rw [hw4] at HOp HBp ⊢
      have HBK4 := Lib.hid (HBLK.out.below HBp.out HBLK.out.lt)
      have t0 : w4.cell? ⟨w.heap.size, 0, none⟩ = some (.string ⟨xk.toArray⟩) := HBK4.out.cell 0
      have t1 : w4.cell? ⟨w.heap.size, 1, none⟩ = some (.int .i64 xs) := HBK4.out.cell 1
      have t2 : w4.cell? ⟨w.heap.size, 2, none⟩ = some (.int .i64 xu) := HBK4.out.cell 2
      have t3 : w4.cell? ⟨w.heap.size, 3, none⟩ = some (.int .i64 xo) := HBK4.out.cell 3
      have t4 : w4.cell? ⟨w.heap.size, 4, none⟩ = some (.bool xh) := HBK4.out.cell 4
      have t5 : w4.cell? ⟨w.heap.size, 5, none⟩ = some (.slice xA xv.length xc) := HBK4.out.cell 5
      have hal := (Below.refl w4.heap.size w4).alloc (Nat.le_refl _) (.cells ⟨entC (⟨xk, xs, xu, xo, xh, xv⟩, xA, xc)⟩ 45)
      have HO4 := Lib.hid (ownLater HOp.out hal)
      have HBL : Hid (Blk (w4.alloc (.cells ⟨entC (⟨xk, xs, xu, xo, xh, xv⟩, xA, xc)⟩ 45)) w4.heap.size 45 ⟨entC (⟨xk, xs, xu, xo, xh, xv⟩, xA, xc)⟩) := Lib.hid (Blk.new _ _ _)
      have HB4 := Lib.hid (HBp.out.trans (hal.mono HBp.out.size))
      clear hal hw4 l0 HBK
      go_wp2_with (at_builtin; refine wpList_appS (P := Tryz.prog) (by rfl) _ _ _ (by rfl) W1.heap.size 45 i0 (evV (evN [])) 6 72 Tryz.underlying33 hi0 hz0 hz1 hz2 rfl (by decide) _ j (entsC (us.take j)) (by rfl) (by exact HO4.out) (w4.heap.size + 1) (some ⟨w4.heap.size, 0, none⟩) 1 1 (entsC [(⟨xk, xs, xu, xo, xh, xv⟩, xA, xc)]) (by rfl) (by rfl) (by exact ent_lit HBL.out (by omega)) (entsC_one _) (by unfold maxLen; omega) (by omega) (by exact HB4.out.size) ?_)
      intro v' w5 hown hgr hat
      obtain ⟨A5, c5, rfl, _, _⟩ := ownShape hown
      rw [← hone, ← entsC_app] at hown
      have HO5 := Lib.hid hown
      have HB5 : Hid (Below W1.heap.size W1 w5) := Lib.hid (HB4.out.grown hgr HB4.out.size fun g h => (HO4.out.lt g h).1)
      have HBK5 := Lib.hid (HBLK.out.below HB5.out HBLK.out.lt)
      have HE5 := Lib.hid (HE.out.below HB5.out)
      have l0 := later_cell (show w5.cell? ⟨w.heap.size, 0, none⟩ = some (.string ⟨xk.toArray⟩) from HBK5.out.cell 0)
      have hq : True := trivial
      clear hown hgr hat HO4 HB4 t0 t1 t2 t3 t4 t5 HBK4
      go_wp2_with fail
      refine wp_region_later (by kernel_rfl) (by kernel_rfl) ?_
      repeat (go_big_quiet_step (fail))
      refine wpQuiet_nil ?_
      intro w' hw'
      obtain ⟨p, rfl⟩ := hw'
      have HO6 := Lib.hid (ownLater HO5.out p.bel)
      have HB6 := Lib.hid (HB5.out.trans (p.bel.mono HB5.out.size))
      have HE6 := Lib.hid (HE5.out.below p.bel)
      obtain ⟨w6, hw6⟩ : ∃ w6, p.world = w6 := ⟨_, rfl⟩
      rw [hw6] at HO6 HB6 HE6 ⊢
      obtain ⟨A9, hct9, hrt9⟩ := tailE _ us j c (j) (j : Int) (by omega) (by omega) HN.out HCP.out
      have hct1 := hct9 w6
      have HRT := Lib.hid (hrt9 _ _ HE6.out.row)
      clear hct9 hrt9
      have HDL : Hid (0 = (us.drop (j)).length) := Lib.hid (by rw [List.length_drop]; have := HN.out; omega)
      clear hw6 l0
      go_wp2_with (at_builtin; refine wpList_appS (P := Tryz.prog) (by rfl) _ _ _ (by rfl) W1.heap.size 45 i0 (evV (evN [])) 6 72 Tryz.underlying33 hi0 hz0 hz1 hz2 rfl (by decide) _ (j + 1) (entsC (us.take j ++ [(⟨xk, xs, xu, xo, xh, xv⟩, xA, xc)])) (by rfl) (by exact HO6.out) w6.heap.size A9 (0) (c - (j)) (entsC (us.drop (j))) (by rfl) (by rw [entsC_len, HDL.out]) (by exact HRT.out) (entsC_one _) (by unfold maxLen; omega) (by omega) (by exact HB6.out.size) ?_)
      intro v' w7 hown hgr hat
      obtain ⟨A7, c7, rfl, _, _⟩ := ownShape hown
      have hown2 : w7.ownsRow W1.heap.size 45 6 (.slice A7 (j + 1) c7) (j + 1) (entsC ((us.take j ++ [(⟨xk, xs, xu, xo, xh, xv⟩, xA, xc)]) ++ us.drop (j))) := by simpa [entsC] using hown
      have HB7 : Hid (Below W1.heap.size W1 w7) := Lib.hid (HB6.out.grown hgr HB6.out.size fun g h => (HO6.out.lt g h).1)
      have HWITH : Hid (WithP T w (.returned (.slice A7 (j + 1) c7)) w7) := Lib.hid (withP_of (W1 := W1) (x := (⟨xk, xs, xu, xo, xh, xv⟩, xA, xc)) HTT.out.symm (HBW.out.trans (HB7.out.mono HBW.out.size)) (fun _ => trivial) (fun y hy => (HE.out.val y hy).below HB7.out) (HV.out.below HB7.out) (by rw [List.length_append, List.length_append, ← HN1.out, ← HDL.out, List.length_singleton]) hown2)
      clear hown hown2 hgr hat
      go_wp2
      go_ret
      exact HWITH.out
end Go.Proofs.YtdmoogbmaodfnaaGreat
