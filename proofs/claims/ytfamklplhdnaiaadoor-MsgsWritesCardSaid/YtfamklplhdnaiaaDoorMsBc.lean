/- MsBc: The reference's Bytes of a message, by the fields that its kind has: nflT, nflF. -/
import Derived.Test.YtfamklplhdnaiaaDoorMsB0
namespace Go.Proofs.YtfamklplhdnaiaaDoor
open Go.RowKit Mem Be Rg
set_option maxRecDepth 100000
set_option maxHeartbeats 16000000
set_option linter.unusedVariables false
set_option linter.unusedSimpArgs false
theorem refbytes12_nflT (x : MV) (h0 : okM (mP x) = true) (hn : hasN x.kind = true) (hf : hasF x.kind = true) (he : hasE x.kind = false) (hl : hasL x.kind = true) (hr : hasR x.kind = false) (hfl : x.flag = true) (w : World) (h : MsgM w x) : Calls Tryd.prog 13 #[.agg #[.int .i64 x.kind, .int .i64 x.fr, .int .i64 x.dst, .int .i64 x.ep, .int .i64 x.op, .int .i64 x.n, .bool x.flag, .string ⟨x.e.1.k.toArray⟩, .int .i64 x.e.1.s, .int .i64 x.e.1.u, .int .i64 x.e.1.o, .bool x.e.1.has, .slice x.e.2.1 x.e.1.v.length x.e.2.2, .slice x.lA x.l.length x.lc, .slice x.rA x.ns.length x.rc, .int .i64 x.each, .int .i64 x.keep]] w (Made2 w.heap.size (putM (mP x)) 0 w) := by
  obtain ⟨i0, hi0, hz0, hz1, hz2⟩ := info_parts info_b
  obtain ⟨j0, hj0, hy0, hy1, hy2⟩ := info_parts info_i
  have hb : Below w.heap.size w (w.alloc (.cells #[.int .i64 x.kind, .int .i64 x.fr, .int .i64 x.dst, .int .i64 x.ep, .int .i64 x.op, .int .i64 x.n, .bool x.flag, .string ⟨x.e.1.k.toArray⟩, .int .i64 x.e.1.s, .int .i64 x.e.1.u, .int .i64 x.e.1.o, .bool x.e.1.has, .slice x.e.2.1 x.e.1.v.length x.e.2.2, .slice x.lA x.l.length x.lc, .slice x.rA x.ns.length x.rc, .int .i64 x.each, .int .i64 x.keep] 34)) := (Below.refl _ _).alloc (Nat.le_refl _) _
  have HX := Lib.hid (Blk.new w 34 #[.int .i64 x.kind, .int .i64 x.fr, .int .i64 x.dst, .int .i64 x.ep, .int .i64 x.op, .int .i64 x.n, .bool x.flag, .string ⟨x.e.1.k.toArray⟩, .int .i64 x.e.1.s, .int .i64 x.e.1.u, .int .i64 x.e.1.o, .bool x.e.1.has, .slice x.e.2.1 x.e.1.v.length x.e.2.2, .slice x.lA x.l.length x.lc, .slice x.rA x.ns.length x.rc, .int .i64 x.each, .int .i64 x.keep])
  have HM := Lib.hid (h.below hb)
  have HB := Lib.hid hb
  have hsz : (w.alloc (.cells #[.int .i64 x.kind, .int .i64 x.fr, .int .i64 x.dst, .int .i64 x.ep, .int .i64 x.op, .int .i64 x.n, .bool x.flag, .string ⟨x.e.1.k.toArray⟩, .int .i64 x.e.1.s, .int .i64 x.e.1.u, .int .i64 x.e.1.o, .bool x.e.1.has, .slice x.e.2.1 x.e.1.v.length x.e.2.2, .slice x.lA x.l.length x.lc, .slice x.rA x.ns.length x.rc, .int .i64 x.each, .int .i64 x.keep] 34)).heap.size = w.heap.size + 1 := World.size_alloc _ _
  obtain ⟨W, hW⟩ : ∃ W, w.alloc (.cells #[.int .i64 x.kind, .int .i64 x.fr, .int .i64 x.dst, .int .i64 x.ep, .int .i64 x.op, .int .i64 x.n, .bool x.flag, .string ⟨x.e.1.k.toArray⟩, .int .i64 x.e.1.s, .int .i64 x.e.1.u, .int .i64 x.e.1.o, .bool x.e.1.has, .slice x.e.2.1 x.e.1.v.length x.e.2.2, .slice x.lA x.l.length x.lc, .slice x.rA x.ns.length x.rc, .int .i64 x.each, .int .i64 x.keep] 34) = W := ⟨_, rfl⟩
  rw [hW] at HX HM HB hsz
  have HSZ := Lib.hid hsz
  have HCK := Lib.hid (refcheck12 x W HM.out)
  rw [show checkM (mP x) = 0 by unfold checkM; rw [h0]; rfl] at HCK
  have hput : putM (mP x) = ([x.kind, x.fr, x.dst, x.ep, x.op, x.n] : List Int).flatMap numB ++ truthB true ++ (numB (x.l.length : Int) ++ (x.l.map Prod.fst).flatMap putE) := by
    obtain ⟨f, hf'⟩ : ∃ f, numB = f := ⟨_, rfl⟩
    obtain ⟨P, hP⟩ : ∃ f, putE = f := ⟨_, rfl⟩
    obtain ⟨t, ht⟩ : ∃ f, truthB = f := ⟨_, rfl⟩
    rw [putM_gen f P t (mP x) hf' hP ht]
    simp only [hf', hP, ht]
    show f x.kind ++ (f x.fr ++ (f x.dst ++ (f x.ep ++ (f x.op ++ ((if hasN x.kind = true then f x.n else []) ++ ((if hasF x.kind = true then t x.flag else []) ++ ((if hasE x.kind = true then P x.e.1 else []) ++ ((if hasL x.kind = true then f ((x.l.map Prod.fst).length : Int) ++ (x.l.map Prod.fst).flatMap P else []) ++ (if hasR x.kind = true then f x.each ++ (f x.keep ++ (f (x.ns.length : Int) ++ x.ns.flatMap f)) else []))))))))) = _
    rw [hn, hf, he, hl, hr, hfl]
    simp [List.flatMap_cons, List.flatMap_append]
  have HPUT := Lib.hid hput
  have HPL := Lib.hid (putM_le h0)
  have HOL : Hid (x.l.length ≤ 1000 ∧ ∀ y ∈ x.l, okE y.1) := Lib.hid (by
    have h5 := (okM_parts h0).2.2.2.2.1
    unfold fldB rL at h5
    rw [if_pos (show hasL (mP x).kind = true from hl), Bool.and_eq_true, decide_eq_true_eq, allE_iff] at h5
    have h6 := h5.1
    have h7 := h5.2
    unfold mP at h6 h7
    simp only [List.length_map] at h6
    exact ⟨h6, fun y hy => h7 _ (List.mem_map_of_mem hy)⟩)
  have hll : x.l.length ≤ 1000 := HOL.out.1
  have HCn := Lib.hid fun W' => rhasN_any x.kind W'
  rw [hn] at HCn
  have HCf := Lib.hid fun W' => rhasF_any x.kind W'
  rw [hf] at HCf
  have HCe := Lib.hid fun W' => rhasE_any x.kind W'
  rw [he] at HCe
  have HCl := Lib.hid fun W' => rhasL_any x.kind W'
  rw [hl] at HCl
  have HCr := Lib.hid fun W' => rhasR_any x.kind W'
  rw [hr] at HCr
  have HFL := Lib.hid hfl
  have HW0 := Lib.hid (Below.refl W.heap.size W)
  clear h hb h0 hput hsz hn hf he hl hr hfl
  go_enter Tryd.func13, Tryd.ntmps13
  go_wp2_with (refine wpList_load_row rfl 34 _ rfl _ rfl _ _ _ _ (show _ = _ from HX.out) Tryd.underlying34 rfl (by kernel_rfl) ?_)
  refine HCK.out.mono ?_
  rintro e w1 ⟨rfl, hb1⟩
  have HW1 := Lib.hid (HW0.out.trans (hb1.mono HW0.out.size))
  clear hb1 HW0 HCK
  have hxc := HX.out.below HW1.out HX.out.lt
  have d0 : w1.cell? ⟨w.heap.size, 0, none⟩ = some (.int .i64 x.kind) := hxc.cell 0
  have d1 : w1.cell? ⟨w.heap.size, 1, none⟩ = some (.int .i64 x.fr) := hxc.cell 1
  have d2 : w1.cell? ⟨w.heap.size, 2, none⟩ = some (.int .i64 x.dst) := hxc.cell 2
  have d3 : w1.cell? ⟨w.heap.size, 3, none⟩ = some (.int .i64 x.ep) := hxc.cell 3
  have d4 : w1.cell? ⟨w.heap.size, 4, none⟩ = some (.int .i64 x.op) := hxc.cell 4
  clear hxc
  obtain ⟨V1, hV1⟩ : ∃ V, w1.alloc (.cells #[.int .i64 x.kind, .int .i64 x.fr, .int .i64 x.dst, .int .i64 x.ep, .int .i64 x.op] 3) = V := ⟨_, rfl⟩
  obtain ⟨P1, hP1⟩ : ∃ p, w1.heap.size = p := ⟨_, rfl⟩
  have hal : Below w1.heap.size w1 V1 := by rw [← hV1]; exact (Below.refl _ _).alloc (Nat.le_refl _) _
  have HN1 : Hid (V1.ownsRow W.heap.size 3 1 (.slice (some ⟨P1, 0, none⟩) 5 5) 5 ([x.kind, x.fr, x.dst, x.ep, x.op].map iV)) := Lib.hid (by rw [← hV1, ← hP1]; exact own_ints12 W.heap.size HW1.out.size [x.kind, x.fr, x.dst, x.ep, x.op] _ rfl (by simp))
  have HV1 := Lib.hid (HW1.out.trans (hal.mono HW1.out.size))
  have hxc := HX.out.below HV1.out HX.out.lt
  have e0 : V1.cell? ⟨w.heap.size, 0, none⟩ = some (.int .i64 x.kind) := hxc.cell 0
  clear hxc hal
  go_wp2_with fail
  refine (HCn.out _).mono ?_
  rintro e w2 ⟨rfl, hb2⟩
  have HW2 := Lib.hid (HV1.out.trans (hb2.mono HV1.out.size))
  have HN2 := Lib.hid (own_later HN1.out hb2)
  clear hb2 HW1 HV1 HN1 d0 d1 d2 d3 d4 e0 hV1 hP1
  have hxc := HX.out.below HW2.out HX.out.lt
  have d5 : w2.cell? ⟨w.heap.size, 5, none⟩ = some (.int .i64 x.n) := hxc.cell 5
  clear hxc
  have HAL : Hid (∀ o, Below w2.heap.size w2 (w2.alloc o)) := Lib.hid fun o => (Below.refl _ _).alloc (Nat.le_refl _) o
  have HN2' : Hid (∀ o, (w2.alloc o).ownsRow W.heap.size 3 1 (.slice (some ⟨P1, 0, none⟩) 5 5) 5 ([x.kind, x.fr, x.dst, x.ep, x.op].map iV)) := Lib.hid fun o => own_later HN2.out (HAL.out o)
  go_wp2_with (at_builtin; refine wpList_app _ rfl _ _ 30 rfl W.heap.size 3 j0 _ 8 Tryd.underlying30 hj0 hy0 hy1 hy2 rfl _ 5 ([x.kind, x.fr, x.dst, x.ep, x.op].map iV) rfl (HN2'.out _) (w2.heap.size + 1) (some ⟨w2.heap.size, 0, none⟩) 1 1 ([x.n].map iV) rfl rfl (int_row w2 x.n) (iV_one _) (by unfold maxLen; omega) (by omega) (by have := HW2.out.size; simp; omega) ?_)
  intro v' w3 hown hgr hat
  obtain ⟨A3, c3, rfl, _, _⟩ := ownShape hown
  have HW3 : Hid (Below W.heap.size W w3) := Lib.hid ((HW2.out.trans ((HAL.out _).mono HW2.out.size)).grown hgr (by have := HW2.out.size; simp; omega) fun g hg => ((HN2'.out (.cells #[.int .i64 x.n] 3)).lt g hg).1)
  have HN3 : Hid (w3.ownsRow W.heap.size 3 1 (.slice A3 6 c3) 6 ([x.kind, x.fr, x.dst, x.ep, x.op, x.n].map iV)) := Lib.hid hown
  clear hown hgr hat HAL HN2' HN2 HW2 d5
  obtain ⟨NS, hNS⟩ : ∃ l : List Int, [x.kind, x.fr, x.dst, x.ep, x.op, x.n] = l := ⟨_, rfl⟩
  have hNL : NS.length = 6 := by rw [← hNS]; rfl
  rw [hNS] at HN3 HPUT
  clear hNS
  obtain ⟨O0, hO0⟩ : ∃ b : List UInt8, [] = b := ⟨_, rfl⟩
  have hl0 : O0.length = 0 := by rw [← hO0]; rfl
  have HO3 : Hid (w3.ownsRow W.heap.size 5 1 (.slice none O0.length 0) O0.length (O0.map byteV)) := Lib.hid (by rw [← hO0]; exact World.ownsRow_nil _ _ _ _)
  have HE0 := Lib.hid hO0
  clear hO0
  obtain ⟨OO1, hOO1⟩ : ∃ f : Nat → List UInt8, ∀ k, O0 ++ ((NS).take k).flatMap numB = f k := ⟨_, fun _ => rfl⟩
  have HOO1 := Lib.hid hOO1
  have hz1 : OO1 0 = O0 := by rw [← hOO1]; simp
  have hle1 : ∀ k, (OO1 k).length ≤ O0.length + 9 * 6 := fun k => by
    rw [← hOO1, List.length_append]
    have := flatB_le ((NS).take k)
    rw [List.length_take] at this
    omega
  have hst1 : ∀ k (h : k < (NS).length), OO1 (k + 1) = OO1 k ++ numB (NS)[k] := fun k h => by rw [← hOO1, ← hOO1, flatB_take _ k h, List.append_assoc]
  have HLE1 := Lib.hid hle1
  have HST1 := Lib.hid hst1
  have HO3' : Hid (w3.ownsRow W.heap.size 5 1 (.slice none (OO1 0).length 0) (OO1 0).length ((OO1 0).map byteV)) := Lib.hid (by rw [hz1]; exact HO3.out)
  have hzl1 : O0.length = (OO1 0).length := by rw [hz1]
  have HZL1 := Lib.hid hzl1
  clear hOO1 hz1 hle1 hst1 hzl1 HO3
  go_wp2
  go_loopw [5, 6] (fun v i wr => ∃ (k : Nat) (A : Option Addr) (c : Nat), k ≤ 6 ∧ i = .int .i64 k ∧ v = .slice A (OO1 k).length c ∧ Hid (Below W.heap.size W wr) ∧ Hid (wr.ownsRow W.heap.size 5 1 (.slice A (OO1 k).length c) (OO1 k).length ((OO1 k).map byteV)) ∧ Hid (wr.ownsRow W.heap.size 3 1 (.slice A3 6 c3) 6 ((NS).map iV))) (fun _ i _ => 6 - (intOf i).toNat)
  case atStart => exact ⟨0, none, 0, by omega, rfl, by rw [← HZL1.out, hl0], HW3, HO3', HN3⟩
  case round =>
    obtain ⟨k, A, c, hk, rfl, rfl, HWr, HOr, HNr⟩ := hrel
    have hfl : (OO1 k).length ≤ 100 := by have := HLE1.out k; omega
    by_cases hlt : k < 6
    · as_aux_lemma =>
      have hlt2 : k < (NS).length := by omega
      obtain ⟨bb, oo, hAA, _, hcc⟩ := int_cell (Row.of_own HNr.out) (by omega)
      have hcel := hcc k hlt2
      have HTK := Lib.hid (HST1.out k hlt2)
      obtain ⟨y, hy⟩ : ∃ y, (NS)[k]'hlt2 = y := ⟨_, rfl⟩
      rw [hy] at hcel HTK
      have hki : (0 : Int) ≤ (k : Int) := by omega
      have hki2 : (k : Int) < (6 : Int) := by omega
      clear hcc hy
      obtain ⟨CU, hCU⟩ : ∃ b, OO1 k = b := ⟨_, rfl⟩
      obtain ⟨CN, hCN⟩ : ∃ b, OO1 (k + 1) = b := ⟨_, rfl⟩
      rw [hCU] at hfl HOr HTK
      rw [hCN] at HTK
      have HCN := Lib.hid hCN
      simp only [hCU]
      subst hAA
      clear hCU hCN
      go_wp2_with fail
      refine (refnum_any y wr).mono ?_
      rintro e w5 ⟨A5, c5, rfl, ho5, hb5⟩
      have hnb := numB_le y
      obtain ⟨N5, hN5⟩ : ∃ b, numB y = b := ⟨_, rfl⟩
      rw [hN5] at ho5 hnb HTK
      simp only [hN5]
      have HW5 := Lib.hid (HWr.out.trans (hb5.mono HWr.out.size))
      have HO5 := Lib.hid (own_later HOr.out hb5)
      have HN5 := Lib.hid (own_later HNr.out hb5)
      have HS5 := Lib.hid (Row.of_own ho5)
      clear hb5 ho5 HWr HOr HNr hN5
      go_wp2_with (at_builtin; refine wpList_app _ rfl _ _ 24 rfl W.heap.size 5 i0 (.int .u8 0) 1 Tryd.underlying24 hi0 hz0 hz1 hz2 rfl _ CU.length (CU.map byteV) rfl HO5.out _ A5 N5.length c5 (N5.map byteV) rfl (by rw [List.length_map]) HS5.out (byte_one _) (by unfold maxLen; omega) (by omega) (by have := HW5.out.size; omega) ?_)
      intro v' w6 hown hgr hat
      obtain ⟨hw6, A6, c6, rfl, ho6⟩ := out_more12 HTK.out.symm HW5.out HO5.out hown hgr
      have HN6 := Lib.hid (own_ne_grown HN5.out HO5.out (by decide) hgr)
      have HW6 := Lib.hid hw6
      have HO6 := Lib.hid ho6
      clear hown hgr hat hw6 ho6 HW5 HO5 HN5 HS5
      go_wp2
      go_roundw
      case rel => exact ⟨k + 1, A6, c6, by omega, by go_num, by rw [HCN.out], HW6, by rw [HCN.out]; exact HO6, HN6⟩
      case measure => simp [intOf]; omega
    · obtain rfl : 6 = k := by omega
      as_aux_lemma =>
      have hall : OO1 6 = O0 ++ (NS).flatMap numB := by rw [← HOO1.out, List.take_of_length_le (by omega)]
      obtain ⟨P1, hP1⟩ : ∃ b, OO1 6 = b := ⟨_, rfl⟩
      rw [hP1] at HOr hall hfl
      simp only [hP1]
      have HALL1 := Lib.hid hall
      clear hall hP1 hlt hk HW3 HO3' HN3 HLE1 HST1 HZL1 HOO1
      have HW91 := HWr
      have HO91 := HOr
      clear HWr HOr HNr
      have HP0 : Hid (P1 = NS.flatMap numB) := Lib.hid (by rw [HALL1.out, ← HE0.out]; rfl)
      have hxc := HX.out.below HW91.out HX.out.lt
      have d0 : wr.cell? ⟨w.heap.size, 0, none⟩ = some (.int .i64 x.kind) := hxc.cell 0
      clear hxc
      go_wp2_with fail
      refine (HCf.out _).mono ?_
      rintro e w92 ⟨rfl, hb92⟩
      have HW92 := Lib.hid (HW91.out.trans (hb92.mono HW91.out.size))
      have HO92 := Lib.hid (own_later HO91.out hb92)
      clear hb92 HW91 HO91 d0
      have hxc := HX.out.below HW92.out HX.out.lt
      have d6 : w92.cell? ⟨w.heap.size, 6, none⟩ = some (.bool x.flag) := hxc.cell 6
      clear hxc
      rw [HFL.out] at d6
      have HAL : Hid (∀ o, Below w92.heap.size w92 (w92.alloc o)) := Lib.hid fun o => (Below.refl _ _).alloc (Nat.le_refl _) o
      have HWA : Hid (∀ o, Below W.heap.size W (w92.alloc o)) := Lib.hid fun o => HW92.out.trans ((HAL.out o).mono HW92.out.size)
      have HOA : Hid (∀ o, (w92.alloc o).ownsRow W.heap.size 5 1 (.slice A P1.length c) P1.length (P1.map byteV)) := Lib.hid fun o => own_later HO92.out (HAL.out o)
      have hlit : ([1] : List UInt8).length = 1 := rfl
      have HRF : Hid (Row (w92.alloc (.cells #[.int .u8 1] 5)) (w92.heap.size + 1) (some ⟨w92.heap.size, 0, none⟩) (([1] : List UInt8).map byteV)) := Lib.hid (row_cells (xs := ([1] : List UInt8).map byteV) rfl)
      obtain ⟨O2, hO2⟩ : ∃ b, P1 ++ ([1] : List UInt8) = b := ⟨_, rfl⟩
      have HLO2 := Lib.hid hO2
      clear hO2
      go_wp2_with (at_builtin; (refine wpList_app _ rfl _ _ 24 rfl W.heap.size 5 i0 (.int .u8 0) 1 Tryd.underlying24 hi0 hz0 hz1 hz2 rfl _ P1.length (P1.map byteV) rfl (HOA.out _) _ (some ⟨w92.heap.size, 0, none⟩) (([1] : List UInt8)).length 1 ((([1] : List UInt8)).map byteV) rfl (by rw [List.length_map]) (HRF.out) (byte_one _) (by unfold maxLen; omega) (by omega) (by have := HW92.out.size; simp; omega) ?_))
      intro v' w93 hown hgr hat
      obtain ⟨hw93, A93, c93, rfl, ho93⟩ := out_more12 HLO2.out (HWA.out _) (HOA.out _) hown hgr
      have HW93 := Lib.hid hw93
      have HO93 := Lib.hid ho93
      have hlO : O2.length = P1.length + (([1] : List UInt8)).length := by rw [← HLO2.out, List.length_append]
      clear hown hgr hat hw93 ho93 HAL HWA HOA HRF HW92 HO92 d6
      have hbO2 : O2.length ≤ 110 := by simp at hlO; omega
      clear hlO
      have hxc := HX.out.below HW93.out HX.out.lt
      have d0 : w93.cell? ⟨w.heap.size, 0, none⟩ = some (.int .i64 x.kind) := hxc.cell 0
      clear hxc
      go_wp2_with fail
      refine (HCe.out _).mono ?_
      rintro e w94 ⟨rfl, hb94⟩
      have HW94 := Lib.hid (HW93.out.trans (hb94.mono HW93.out.size))
      have HO94 := Lib.hid (own_later HO93.out hb94)
      clear hb94 HW93 HO93 d0
      have hxc := HX.out.below HW94.out HX.out.lt
      have d0 : w94.cell? ⟨w.heap.size, 0, none⟩ = some (.int .i64 x.kind) := hxc.cell 0
      clear hxc
      go_wp2_with fail
      refine (HCl.out _).mono ?_
      rintro e w95 ⟨rfl, hb95⟩
      have HW95 := Lib.hid (HW94.out.trans (hb95.mono HW94.out.size))
      have HO95 := Lib.hid (own_later HO94.out hb95)
      clear hb95 HW94 HO94 d0
      have hxc := HX.out.below HW95.out HX.out.lt
      have d13 : w95.cell? ⟨w.heap.size, 13, none⟩ = some (.slice x.lA x.l.length x.lc) := hxc.cell 13
      clear hxc
      obtain ⟨N3, hN3⟩ : ∃ b, numB (x.l.length : Int) = b := ⟨_, rfl⟩
      have HCN3 := Lib.hid (refnum_any (x.l.length : Int) w95)
      rw [hN3] at HCN3
      have hBN3 : N3.length ≤ 9 := by rw [← hN3]; exact numB_le _
      have HEN3 := Lib.hid hN3
      clear hN3
      go_wp2_with fail
      refine HCN3.out.mono ?_
      rintro e w96 ⟨A96, c96, rfl, ho96, hb96⟩
      have HW96 := Lib.hid (HW95.out.trans (hb96.mono HW95.out.size))
      have HO96 := Lib.hid (own_later HO95.out hb96)
      have HSN3 := Lib.hid (Row.of_own ho96)
      clear ho96 hb96 HCN3 HW95 HO95
      obtain ⟨O4, hO4⟩ : ∃ b, O2 ++ N3 = b := ⟨_, rfl⟩
      have HLO4 := Lib.hid hO4
      clear hO4
      go_wp2_with (at_builtin; (refine wpList_app _ rfl _ _ 24 rfl W.heap.size 5 i0 (.int .u8 0) 1 Tryd.underlying24 hi0 hz0 hz1 hz2 rfl _ O2.length (O2.map byteV) rfl (HO96.out) _ A96 (N3).length c96 ((N3).map byteV) rfl (by rw [List.length_map]) (HSN3.out) (byte_one _) (by unfold maxLen; omega) (by omega) (by have := (HW96.out).size; omega) ?_))
      intro v' w97 hown hgr hat
      obtain ⟨hw97, A97, c97, rfl, ho97⟩ := out_more12 HLO4.out (HW96.out) (HO96.out) hown hgr
      have HW97 := Lib.hid hw97
      have HO97 := Lib.hid ho97
      have hlO : O4.length = O2.length + (N3).length := by rw [← HLO4.out, List.length_append]
      clear hown hgr hat hw97 ho97 HSN3 HW96 HO96 d13
      have hbO4 : O4.length ≤ 200 := by omega
      clear hlO
      obtain ⟨es, hes⟩ : ∃ l, x.l.map Prod.fst = l := ⟨_, rfl⟩
      have hel : es.length = x.l.length := by rw [← hes, List.length_map]
      have hee : ∀ y ∈ es, okE y := fun y hy => by
        rw [← hes] at hy
        obtain ⟨z, hz, rfl⟩ := List.mem_map.1 hy
        exact HOL.out.2 z hz
      rw [hes] at HPUT
      have HES := Lib.hid hes
      obtain ⟨QQ, hQQ⟩ : ∃ f : Nat → List UInt8, ∀ k, O4 ++ (es.take k).flatMap putE = f k := ⟨_, fun _ => rfl⟩
      have HQQ := Lib.hid hQQ
      have hqz : QQ 0 = O4 := by rw [← hQQ]; simp
      have HQL : Hid (∀ k, (QQ k).length ≤ 60301000) := Lib.hid fun k => by
        rw [← hQQ, List.length_append]
        have h1 := flatE_le (es.take k) (fun y hy => hee y (List.mem_of_mem_take hy))
        rw [List.length_take] at h1
        have h2 : min k es.length ≤ 1000 := by omega
        omega
      have HQS : Hid (∀ k (h : k < es.length), QQ (k + 1) = QQ k ++ putE es[k]) := Lib.hid fun k h => by
        rw [← hQQ, ← hQQ, List.take_succ_eq_append_getElem h, List.flatMap_append, List.append_assoc]; simp
      have HEE := Lib.hid hee
      have HO97' : Hid (w97.ownsRow W.heap.size 5 1 (.slice A97 (QQ 0).length c97) (QQ 0).length ((QQ 0).map byteV)) := Lib.hid (by rw [hqz]; exact HO97.out)
      have HQZ : Hid (O4.length = (QQ 0).length) := Lib.hid (by rw [hqz])
      clear hQQ hqz hee hes HO97
      have hli0 : (0 : Int) ≤ (x.l.length : Int) := by omega
      have hli1 : (x.l.length : Int) ≤ 1000 := by omega
      go_wp2
      go_loopw [5, 10] (fun v i wr => ∃ (k : Nat) (A : Option Addr) (c : Nat), k ≤ x.l.length ∧ i = .int .i64 k ∧ v = .slice A (QQ k).length c ∧ Hid (Below W.heap.size W wr) ∧ Hid (wr.ownsRow W.heap.size 5 1 (.slice A (QQ k).length c) (QQ k).length ((QQ k).map byteV))) (fun _ i _ => x.l.length - (intOf i).toNat)
      case atStart => exact ⟨0, A97, c97, by omega, rfl, by rw [HQZ.out], HW97, HO97'⟩
      case round =>
        obtain ⟨k, A, c, hk, rfl, rfl, HWr, HOr⟩ := hrel
        have hfl : (QQ k).length ≤ 60301000 := HQL.out k
        have hxc := HX.out.below HWr.out HX.out.lt
        have d13 : wr.cell? ⟨w.heap.size, 13, none⟩ = some (.slice x.lA x.l.length x.lc) := hxc.cell 13
        have d0 : wr.cell? ⟨w.heap.size, 0, none⟩ = some (.int .i64 x.kind) := hxc.cell 0
        clear hxc
        by_cases hlt : k < x.l.length
        · as_aux_lemma =>
          have hlt2 : k < es.length := by omega
          obtain ⟨b, o, hA, hbl, hc⟩ := ents_open (HM.out.below HWr.out).en.row (by omega)
          obtain ⟨a0, a1, a2, a3, a4, a5⟩ := hc k hlt
          have v1 := (HM.out.below HWr.out).en.val x.l[k] (List.getElem_mem hlt)
          have ho1 := HOL.out.2 _ (List.getElem_mem hlt)
          have hv1 : x.l[k].1.v.length ≤ 60000 := (rightE_yes ho1).2.2.1
          have HC := Lib.hid (refbytes_put12 x.l[k].1 ho1 x.l[k].2.1 x.l[k].2.2 wr (v1.ok (by omega)))
          have hPE := putE_le _ ho1
          have HTK : Hid (QQ (k + 1) = QQ k ++ putE x.l[k].1) := Lib.hid (by
            rw [HQS.out k hlt2]
            have : es[k] = x.l[k].1 := by
              have := List.getElem_of_eq HES.out.symm hlt2
              rw [this, List.getElem_map]
            rw [this])
          obtain ⟨⟨y, A1, c1⟩, hy⟩ : ∃ p, x.l[k]'hlt = p := ⟨_, rfl⟩
          rw [hy] at a0 a1 a2 a3 a4 a5 HC HTK hPE
          simp only at a0 a1 a2 a3 a4 a5 HC HTK hPE
          have hki : (0 : Int) ≤ (k : Int) := by omega
          have hki2 : (k : Int) < (x.l.length : Int) := by omega
          rw [hA] at d13
          clear hA hc v1 ho1 hv1 hy hbl
          obtain ⟨N5, hN5⟩ : ∃ b, putE y = b := ⟨_, rfl⟩
          rw [hN5] at HC HTK hPE
          obtain ⟨CU, hCU⟩ : ∃ b, QQ k = b := ⟨_, rfl⟩
          obtain ⟨CN, hCN⟩ : ∃ b, QQ (k + 1) = b := ⟨_, rfl⟩
          rw [hCU] at hfl HOr HTK
          rw [hCN] at HTK
          have HCN := Lib.hid hCN
          simp only [hCU]
          clear hCU hCN hN5
          go_wp2_with fail
          refine HC.out.mono ?_
          rintro e w5 ⟨A5, c5, rfl, ho5, hb5⟩
          have HW5 := Lib.hid (HWr.out.trans (hb5.mono HWr.out.size))
          have HO5 := Lib.hid (own_later HOr.out hb5)
          have HS5 := Lib.hid (Row.of_own ho5)
          clear hb5 ho5 HWr HOr
          go_wp2_with (at_builtin; refine wpList_app _ rfl _ _ 24 rfl W.heap.size 5 i0 (.int .u8 0) 1 Tryd.underlying24 hi0 hz0 hz1 hz2 rfl _ CU.length (CU.map byteV) rfl HO5.out _ A5 N5.length c5 (N5.map byteV) rfl (by rw [List.length_map]) HS5.out (byte_one _) (by unfold maxLen; omega) (by omega) (by have := HW5.out.size; omega) ?_)
          intro v' w6 hown hgr hat
          obtain ⟨hw6, A6, c6, rfl, ho6⟩ := out_more12 HTK.out.symm HW5.out HO5.out hown hgr
          have HW6 := Lib.hid hw6
          have HO6 := Lib.hid ho6
          clear hown hgr hat hw6 ho6 HW5 HO5 HS5
          go_wp2
          go_roundw
          case rel => exact ⟨k + 1, A6, c6, by omega, by go_num, by rw [HCN.out], HW6, by rw [HCN.out]; exact HO6⟩
          case measure => simp [intOf]; omega
        · obtain rfl : k = x.l.length := by omega
          as_aux_lemma =>
          have hall : QQ x.l.length = O4 ++ es.flatMap putE := by rw [← HQQ.out, List.take_of_length_le (by omega)]
          obtain ⟨PL, hPL⟩ : ∃ b, QQ x.l.length = b := ⟨_, rfl⟩
          rw [hPL] at HOr hall hfl
          simp only [hPL]
          have HALLL := Lib.hid hall
          clear hall hPL hlt hk HW97 HO97' HQQ HQL HQS HEE HQZ d0
          have HW95 := HWr
          have HO95 := HOr
          clear HWr HOr
          have hxc := HX.out.below HW95.out HX.out.lt
          have d0 : wr.cell? ⟨w.heap.size, 0, none⟩ = some (.int .i64 x.kind) := hxc.cell 0
          clear hxc
          go_wp2_with fail
          refine (HCr.out _).mono ?_
          rintro e w96 ⟨rfl, hb96⟩
          have HW96 := Lib.hid (HW95.out.trans (hb96.mono HW95.out.size))
          have HO96 := Lib.hid (own_later HO95.out hb96)
          clear hb96 HW95 HO95 d0
          have HFIN : Hid (PL = putM (mP x)) := Lib.hid (by simp only [HPUT.out, HP0.out, ← HLO2.out, ← HLO4.out, ← HEN3.out, HALLL.out, show truthB true = ([1] : List UInt8) from rfl, List.append_assoc])
          have HWF := HW96
          have HOF := HO96
          go_wp2
          exact bodyPost_ret (v := .tuple #[.slice A PL.length c, .int .i64 0]) (by simp [results, Tryd.results13, go_sem]) rfl ⟨A, c, by rw [← HFIN.out], by rw [← HFIN.out]; exact own_base HOF.out (by have := HSZ.out; omega), HB.out.trans (HWF.out.mono HB.out.size)⟩
theorem refbytes12_nflF (x : MV) (h0 : okM (mP x) = true) (hn : hasN x.kind = true) (hf : hasF x.kind = true) (he : hasE x.kind = false) (hl : hasL x.kind = true) (hr : hasR x.kind = false) (hfl : x.flag = false) (w : World) (h : MsgM w x) : Calls Tryd.prog 13 #[.agg #[.int .i64 x.kind, .int .i64 x.fr, .int .i64 x.dst, .int .i64 x.ep, .int .i64 x.op, .int .i64 x.n, .bool x.flag, .string ⟨x.e.1.k.toArray⟩, .int .i64 x.e.1.s, .int .i64 x.e.1.u, .int .i64 x.e.1.o, .bool x.e.1.has, .slice x.e.2.1 x.e.1.v.length x.e.2.2, .slice x.lA x.l.length x.lc, .slice x.rA x.ns.length x.rc, .int .i64 x.each, .int .i64 x.keep]] w (Made2 w.heap.size (putM (mP x)) 0 w) := by
  obtain ⟨i0, hi0, hz0, hz1, hz2⟩ := info_parts info_b
  obtain ⟨j0, hj0, hy0, hy1, hy2⟩ := info_parts info_i
  have hb : Below w.heap.size w (w.alloc (.cells #[.int .i64 x.kind, .int .i64 x.fr, .int .i64 x.dst, .int .i64 x.ep, .int .i64 x.op, .int .i64 x.n, .bool x.flag, .string ⟨x.e.1.k.toArray⟩, .int .i64 x.e.1.s, .int .i64 x.e.1.u, .int .i64 x.e.1.o, .bool x.e.1.has, .slice x.e.2.1 x.e.1.v.length x.e.2.2, .slice x.lA x.l.length x.lc, .slice x.rA x.ns.length x.rc, .int .i64 x.each, .int .i64 x.keep] 34)) := (Below.refl _ _).alloc (Nat.le_refl _) _
  have HX := Lib.hid (Blk.new w 34 #[.int .i64 x.kind, .int .i64 x.fr, .int .i64 x.dst, .int .i64 x.ep, .int .i64 x.op, .int .i64 x.n, .bool x.flag, .string ⟨x.e.1.k.toArray⟩, .int .i64 x.e.1.s, .int .i64 x.e.1.u, .int .i64 x.e.1.o, .bool x.e.1.has, .slice x.e.2.1 x.e.1.v.length x.e.2.2, .slice x.lA x.l.length x.lc, .slice x.rA x.ns.length x.rc, .int .i64 x.each, .int .i64 x.keep])
  have HM := Lib.hid (h.below hb)
  have HB := Lib.hid hb
  have hsz : (w.alloc (.cells #[.int .i64 x.kind, .int .i64 x.fr, .int .i64 x.dst, .int .i64 x.ep, .int .i64 x.op, .int .i64 x.n, .bool x.flag, .string ⟨x.e.1.k.toArray⟩, .int .i64 x.e.1.s, .int .i64 x.e.1.u, .int .i64 x.e.1.o, .bool x.e.1.has, .slice x.e.2.1 x.e.1.v.length x.e.2.2, .slice x.lA x.l.length x.lc, .slice x.rA x.ns.length x.rc, .int .i64 x.each, .int .i64 x.keep] 34)).heap.size = w.heap.size + 1 := World.size_alloc _ _
  obtain ⟨W, hW⟩ : ∃ W, w.alloc (.cells #[.int .i64 x.kind, .int .i64 x.fr, .int .i64 x.dst, .int .i64 x.ep, .int .i64 x.op, .int .i64 x.n, .bool x.flag, .string ⟨x.e.1.k.toArray⟩, .int .i64 x.e.1.s, .int .i64 x.e.1.u, .int .i64 x.e.1.o, .bool x.e.1.has, .slice x.e.2.1 x.e.1.v.length x.e.2.2, .slice x.lA x.l.length x.lc, .slice x.rA x.ns.length x.rc, .int .i64 x.each, .int .i64 x.keep] 34) = W := ⟨_, rfl⟩
  rw [hW] at HX HM HB hsz
  have HSZ := Lib.hid hsz
  have HCK := Lib.hid (refcheck12 x W HM.out)
  rw [show checkM (mP x) = 0 by unfold checkM; rw [h0]; rfl] at HCK
  have hput : putM (mP x) = ([x.kind, x.fr, x.dst, x.ep, x.op, x.n] : List Int).flatMap numB ++ truthB false ++ (numB (x.l.length : Int) ++ (x.l.map Prod.fst).flatMap putE) := by
    obtain ⟨f, hf'⟩ : ∃ f, numB = f := ⟨_, rfl⟩
    obtain ⟨P, hP⟩ : ∃ f, putE = f := ⟨_, rfl⟩
    obtain ⟨t, ht⟩ : ∃ f, truthB = f := ⟨_, rfl⟩
    rw [putM_gen f P t (mP x) hf' hP ht]
    simp only [hf', hP, ht]
    show f x.kind ++ (f x.fr ++ (f x.dst ++ (f x.ep ++ (f x.op ++ ((if hasN x.kind = true then f x.n else []) ++ ((if hasF x.kind = true then t x.flag else []) ++ ((if hasE x.kind = true then P x.e.1 else []) ++ ((if hasL x.kind = true then f ((x.l.map Prod.fst).length : Int) ++ (x.l.map Prod.fst).flatMap P else []) ++ (if hasR x.kind = true then f x.each ++ (f x.keep ++ (f (x.ns.length : Int) ++ x.ns.flatMap f)) else []))))))))) = _
    rw [hn, hf, he, hl, hr, hfl]
    simp [List.flatMap_cons, List.flatMap_append]
  have HPUT := Lib.hid hput
  have HPL := Lib.hid (putM_le h0)
  have HOL : Hid (x.l.length ≤ 1000 ∧ ∀ y ∈ x.l, okE y.1) := Lib.hid (by
    have h5 := (okM_parts h0).2.2.2.2.1
    unfold fldB rL at h5
    rw [if_pos (show hasL (mP x).kind = true from hl), Bool.and_eq_true, decide_eq_true_eq, allE_iff] at h5
    have h6 := h5.1
    have h7 := h5.2
    unfold mP at h6 h7
    simp only [List.length_map] at h6
    exact ⟨h6, fun y hy => h7 _ (List.mem_map_of_mem hy)⟩)
  have hll : x.l.length ≤ 1000 := HOL.out.1
  have HCn := Lib.hid fun W' => rhasN_any x.kind W'
  rw [hn] at HCn
  have HCf := Lib.hid fun W' => rhasF_any x.kind W'
  rw [hf] at HCf
  have HCe := Lib.hid fun W' => rhasE_any x.kind W'
  rw [he] at HCe
  have HCl := Lib.hid fun W' => rhasL_any x.kind W'
  rw [hl] at HCl
  have HCr := Lib.hid fun W' => rhasR_any x.kind W'
  rw [hr] at HCr
  have HFL := Lib.hid hfl
  have HW0 := Lib.hid (Below.refl W.heap.size W)
  clear h hb h0 hput hsz hn hf he hl hr hfl
  go_enter Tryd.func13, Tryd.ntmps13
  go_wp2_with (refine wpList_load_row rfl 34 _ rfl _ rfl _ _ _ _ (show _ = _ from HX.out) Tryd.underlying34 rfl (by kernel_rfl) ?_)
  refine HCK.out.mono ?_
  rintro e w1 ⟨rfl, hb1⟩
  have HW1 := Lib.hid (HW0.out.trans (hb1.mono HW0.out.size))
  clear hb1 HW0 HCK
  have hxc := HX.out.below HW1.out HX.out.lt
  have d0 : w1.cell? ⟨w.heap.size, 0, none⟩ = some (.int .i64 x.kind) := hxc.cell 0
  have d1 : w1.cell? ⟨w.heap.size, 1, none⟩ = some (.int .i64 x.fr) := hxc.cell 1
  have d2 : w1.cell? ⟨w.heap.size, 2, none⟩ = some (.int .i64 x.dst) := hxc.cell 2
  have d3 : w1.cell? ⟨w.heap.size, 3, none⟩ = some (.int .i64 x.ep) := hxc.cell 3
  have d4 : w1.cell? ⟨w.heap.size, 4, none⟩ = some (.int .i64 x.op) := hxc.cell 4
  clear hxc
  obtain ⟨V1, hV1⟩ : ∃ V, w1.alloc (.cells #[.int .i64 x.kind, .int .i64 x.fr, .int .i64 x.dst, .int .i64 x.ep, .int .i64 x.op] 3) = V := ⟨_, rfl⟩
  obtain ⟨P1, hP1⟩ : ∃ p, w1.heap.size = p := ⟨_, rfl⟩
  have hal : Below w1.heap.size w1 V1 := by rw [← hV1]; exact (Below.refl _ _).alloc (Nat.le_refl _) _
  have HN1 : Hid (V1.ownsRow W.heap.size 3 1 (.slice (some ⟨P1, 0, none⟩) 5 5) 5 ([x.kind, x.fr, x.dst, x.ep, x.op].map iV)) := Lib.hid (by rw [← hV1, ← hP1]; exact own_ints12 W.heap.size HW1.out.size [x.kind, x.fr, x.dst, x.ep, x.op] _ rfl (by simp))
  have HV1 := Lib.hid (HW1.out.trans (hal.mono HW1.out.size))
  have hxc := HX.out.below HV1.out HX.out.lt
  have e0 : V1.cell? ⟨w.heap.size, 0, none⟩ = some (.int .i64 x.kind) := hxc.cell 0
  clear hxc hal
  go_wp2_with fail
  refine (HCn.out _).mono ?_
  rintro e w2 ⟨rfl, hb2⟩
  have HW2 := Lib.hid (HV1.out.trans (hb2.mono HV1.out.size))
  have HN2 := Lib.hid (own_later HN1.out hb2)
  clear hb2 HW1 HV1 HN1 d0 d1 d2 d3 d4 e0 hV1 hP1
  have hxc := HX.out.below HW2.out HX.out.lt
  have d5 : w2.cell? ⟨w.heap.size, 5, none⟩ = some (.int .i64 x.n) := hxc.cell 5
  clear hxc
  have HAL : Hid (∀ o, Below w2.heap.size w2 (w2.alloc o)) := Lib.hid fun o => (Below.refl _ _).alloc (Nat.le_refl _) o
  have HN2' : Hid (∀ o, (w2.alloc o).ownsRow W.heap.size 3 1 (.slice (some ⟨P1, 0, none⟩) 5 5) 5 ([x.kind, x.fr, x.dst, x.ep, x.op].map iV)) := Lib.hid fun o => own_later HN2.out (HAL.out o)
  go_wp2_with (at_builtin; refine wpList_app _ rfl _ _ 30 rfl W.heap.size 3 j0 _ 8 Tryd.underlying30 hj0 hy0 hy1 hy2 rfl _ 5 ([x.kind, x.fr, x.dst, x.ep, x.op].map iV) rfl (HN2'.out _) (w2.heap.size + 1) (some ⟨w2.heap.size, 0, none⟩) 1 1 ([x.n].map iV) rfl rfl (int_row w2 x.n) (iV_one _) (by unfold maxLen; omega) (by omega) (by have := HW2.out.size; simp; omega) ?_)
  intro v' w3 hown hgr hat
  obtain ⟨A3, c3, rfl, _, _⟩ := ownShape hown
  have HW3 : Hid (Below W.heap.size W w3) := Lib.hid ((HW2.out.trans ((HAL.out _).mono HW2.out.size)).grown hgr (by have := HW2.out.size; simp; omega) fun g hg => ((HN2'.out (.cells #[.int .i64 x.n] 3)).lt g hg).1)
  have HN3 : Hid (w3.ownsRow W.heap.size 3 1 (.slice A3 6 c3) 6 ([x.kind, x.fr, x.dst, x.ep, x.op, x.n].map iV)) := Lib.hid hown
  clear hown hgr hat HAL HN2' HN2 HW2 d5
  obtain ⟨NS, hNS⟩ : ∃ l : List Int, [x.kind, x.fr, x.dst, x.ep, x.op, x.n] = l := ⟨_, rfl⟩
  have hNL : NS.length = 6 := by rw [← hNS]; rfl
  rw [hNS] at HN3 HPUT
  clear hNS
  obtain ⟨O0, hO0⟩ : ∃ b : List UInt8, [] = b := ⟨_, rfl⟩
  have hl0 : O0.length = 0 := by rw [← hO0]; rfl
  have HO3 : Hid (w3.ownsRow W.heap.size 5 1 (.slice none O0.length 0) O0.length (O0.map byteV)) := Lib.hid (by rw [← hO0]; exact World.ownsRow_nil _ _ _ _)
  have HE0 := Lib.hid hO0
  clear hO0
  obtain ⟨OO1, hOO1⟩ : ∃ f : Nat → List UInt8, ∀ k, O0 ++ ((NS).take k).flatMap numB = f k := ⟨_, fun _ => rfl⟩
  have HOO1 := Lib.hid hOO1
  have hz1 : OO1 0 = O0 := by rw [← hOO1]; simp
  have hle1 : ∀ k, (OO1 k).length ≤ O0.length + 9 * 6 := fun k => by
    rw [← hOO1, List.length_append]
    have := flatB_le ((NS).take k)
    rw [List.length_take] at this
    omega
  have hst1 : ∀ k (h : k < (NS).length), OO1 (k + 1) = OO1 k ++ numB (NS)[k] := fun k h => by rw [← hOO1, ← hOO1, flatB_take _ k h, List.append_assoc]
  have HLE1 := Lib.hid hle1
  have HST1 := Lib.hid hst1
  have HO3' : Hid (w3.ownsRow W.heap.size 5 1 (.slice none (OO1 0).length 0) (OO1 0).length ((OO1 0).map byteV)) := Lib.hid (by rw [hz1]; exact HO3.out)
  have hzl1 : O0.length = (OO1 0).length := by rw [hz1]
  have HZL1 := Lib.hid hzl1
  clear hOO1 hz1 hle1 hst1 hzl1 HO3
  go_wp2
  go_loopw [5, 6] (fun v i wr => ∃ (k : Nat) (A : Option Addr) (c : Nat), k ≤ 6 ∧ i = .int .i64 k ∧ v = .slice A (OO1 k).length c ∧ Hid (Below W.heap.size W wr) ∧ Hid (wr.ownsRow W.heap.size 5 1 (.slice A (OO1 k).length c) (OO1 k).length ((OO1 k).map byteV)) ∧ Hid (wr.ownsRow W.heap.size 3 1 (.slice A3 6 c3) 6 ((NS).map iV))) (fun _ i _ => 6 - (intOf i).toNat)
  case atStart => exact ⟨0, none, 0, by omega, rfl, by rw [← HZL1.out, hl0], HW3, HO3', HN3⟩
  case round =>
    obtain ⟨k, A, c, hk, rfl, rfl, HWr, HOr, HNr⟩ := hrel
    have hfl : (OO1 k).length ≤ 100 := by have := HLE1.out k; omega
    by_cases hlt : k < 6
    · as_aux_lemma =>
      have hlt2 : k < (NS).length := by omega
      obtain ⟨bb, oo, hAA, _, hcc⟩ := int_cell (Row.of_own HNr.out) (by omega)
      have hcel := hcc k hlt2
      have HTK := Lib.hid (HST1.out k hlt2)
      obtain ⟨y, hy⟩ : ∃ y, (NS)[k]'hlt2 = y := ⟨_, rfl⟩
      rw [hy] at hcel HTK
      have hki : (0 : Int) ≤ (k : Int) := by omega
      have hki2 : (k : Int) < (6 : Int) := by omega
      clear hcc hy
      obtain ⟨CU, hCU⟩ : ∃ b, OO1 k = b := ⟨_, rfl⟩
      obtain ⟨CN, hCN⟩ : ∃ b, OO1 (k + 1) = b := ⟨_, rfl⟩
      rw [hCU] at hfl HOr HTK
      rw [hCN] at HTK
      have HCN := Lib.hid hCN
      simp only [hCU]
      subst hAA
      clear hCU hCN
      go_wp2_with fail
      refine (refnum_any y wr).mono ?_
      rintro e w5 ⟨A5, c5, rfl, ho5, hb5⟩
      have hnb := numB_le y
      obtain ⟨N5, hN5⟩ : ∃ b, numB y = b := ⟨_, rfl⟩
      rw [hN5] at ho5 hnb HTK
      simp only [hN5]
      have HW5 := Lib.hid (HWr.out.trans (hb5.mono HWr.out.size))
      have HO5 := Lib.hid (own_later HOr.out hb5)
      have HN5 := Lib.hid (own_later HNr.out hb5)
      have HS5 := Lib.hid (Row.of_own ho5)
      clear hb5 ho5 HWr HOr HNr hN5
      go_wp2_with (at_builtin; refine wpList_app _ rfl _ _ 24 rfl W.heap.size 5 i0 (.int .u8 0) 1 Tryd.underlying24 hi0 hz0 hz1 hz2 rfl _ CU.length (CU.map byteV) rfl HO5.out _ A5 N5.length c5 (N5.map byteV) rfl (by rw [List.length_map]) HS5.out (byte_one _) (by unfold maxLen; omega) (by omega) (by have := HW5.out.size; omega) ?_)
      intro v' w6 hown hgr hat
      obtain ⟨hw6, A6, c6, rfl, ho6⟩ := out_more12 HTK.out.symm HW5.out HO5.out hown hgr
      have HN6 := Lib.hid (own_ne_grown HN5.out HO5.out (by decide) hgr)
      have HW6 := Lib.hid hw6
      have HO6 := Lib.hid ho6
      clear hown hgr hat hw6 ho6 HW5 HO5 HN5 HS5
      go_wp2
      go_roundw
      case rel => exact ⟨k + 1, A6, c6, by omega, by go_num, by rw [HCN.out], HW6, by rw [HCN.out]; exact HO6, HN6⟩
      case measure => simp [intOf]; omega
    · obtain rfl : 6 = k := by omega
      as_aux_lemma =>
      have hall : OO1 6 = O0 ++ (NS).flatMap numB := by rw [← HOO1.out, List.take_of_length_le (by omega)]
      obtain ⟨P1, hP1⟩ : ∃ b, OO1 6 = b := ⟨_, rfl⟩
      rw [hP1] at HOr hall hfl
      simp only [hP1]
      have HALL1 := Lib.hid hall
      clear hall hP1 hlt hk HW3 HO3' HN3 HLE1 HST1 HZL1 HOO1
      have HW91 := HWr
      have HO91 := HOr
      clear HWr HOr HNr
      have HP0 : Hid (P1 = NS.flatMap numB) := Lib.hid (by rw [HALL1.out, ← HE0.out]; rfl)
      have hxc := HX.out.below HW91.out HX.out.lt
      have d0 : wr.cell? ⟨w.heap.size, 0, none⟩ = some (.int .i64 x.kind) := hxc.cell 0
      clear hxc
      go_wp2_with fail
      refine (HCf.out _).mono ?_
      rintro e w92 ⟨rfl, hb92⟩
      have HW92 := Lib.hid (HW91.out.trans (hb92.mono HW91.out.size))
      have HO92 := Lib.hid (own_later HO91.out hb92)
      clear hb92 HW91 HO91 d0
      have hxc := HX.out.below HW92.out HX.out.lt
      have d6 : w92.cell? ⟨w.heap.size, 6, none⟩ = some (.bool x.flag) := hxc.cell 6
      clear hxc
      rw [HFL.out] at d6
      have HAL : Hid (∀ o, Below w92.heap.size w92 (w92.alloc o)) := Lib.hid fun o => (Below.refl _ _).alloc (Nat.le_refl _) o
      have HWA : Hid (∀ o, Below W.heap.size W (w92.alloc o)) := Lib.hid fun o => HW92.out.trans ((HAL.out o).mono HW92.out.size)
      have HOA : Hid (∀ o, (w92.alloc o).ownsRow W.heap.size 5 1 (.slice A P1.length c) P1.length (P1.map byteV)) := Lib.hid fun o => own_later HO92.out (HAL.out o)
      have hlit : ([0] : List UInt8).length = 1 := rfl
      have HRF : Hid (Row (w92.alloc (.cells #[.int .u8 0] 5)) (w92.heap.size + 1) (some ⟨w92.heap.size, 0, none⟩) (([0] : List UInt8).map byteV)) := Lib.hid (row_cells (xs := ([0] : List UInt8).map byteV) rfl)
      obtain ⟨O2, hO2⟩ : ∃ b, P1 ++ ([0] : List UInt8) = b := ⟨_, rfl⟩
      have HLO2 := Lib.hid hO2
      clear hO2
      go_wp2_with (at_builtin; (refine wpList_app _ rfl _ _ 24 rfl W.heap.size 5 i0 (.int .u8 0) 1 Tryd.underlying24 hi0 hz0 hz1 hz2 rfl _ P1.length (P1.map byteV) rfl (HOA.out _) _ (some ⟨w92.heap.size, 0, none⟩) (([0] : List UInt8)).length 1 ((([0] : List UInt8)).map byteV) rfl (by rw [List.length_map]) (HRF.out) (byte_one _) (by unfold maxLen; omega) (by omega) (by have := HW92.out.size; simp; omega) ?_))
      intro v' w93 hown hgr hat
      obtain ⟨hw93, A93, c93, rfl, ho93⟩ := out_more12 HLO2.out (HWA.out _) (HOA.out _) hown hgr
      have HW93 := Lib.hid hw93
      have HO93 := Lib.hid ho93
      have hlO : O2.length = P1.length + (([0] : List UInt8)).length := by rw [← HLO2.out, List.length_append]
      clear hown hgr hat hw93 ho93 HAL HWA HOA HRF HW92 HO92 d6
      have hbO2 : O2.length ≤ 110 := by simp at hlO; omega
      clear hlO
      have hxc := HX.out.below HW93.out HX.out.lt
      have d0 : w93.cell? ⟨w.heap.size, 0, none⟩ = some (.int .i64 x.kind) := hxc.cell 0
      clear hxc
      go_wp2_with fail
      refine (HCe.out _).mono ?_
      rintro e w94 ⟨rfl, hb94⟩
      have HW94 := Lib.hid (HW93.out.trans (hb94.mono HW93.out.size))
      have HO94 := Lib.hid (own_later HO93.out hb94)
      clear hb94 HW93 HO93 d0
      have hxc := HX.out.below HW94.out HX.out.lt
      have d0 : w94.cell? ⟨w.heap.size, 0, none⟩ = some (.int .i64 x.kind) := hxc.cell 0
      clear hxc
      go_wp2_with fail
      refine (HCl.out _).mono ?_
      rintro e w95 ⟨rfl, hb95⟩
      have HW95 := Lib.hid (HW94.out.trans (hb95.mono HW94.out.size))
      have HO95 := Lib.hid (own_later HO94.out hb95)
      clear hb95 HW94 HO94 d0
      have hxc := HX.out.below HW95.out HX.out.lt
      have d13 : w95.cell? ⟨w.heap.size, 13, none⟩ = some (.slice x.lA x.l.length x.lc) := hxc.cell 13
      clear hxc
      obtain ⟨N3, hN3⟩ : ∃ b, numB (x.l.length : Int) = b := ⟨_, rfl⟩
      have HCN3 := Lib.hid (refnum_any (x.l.length : Int) w95)
      rw [hN3] at HCN3
      have hBN3 : N3.length ≤ 9 := by rw [← hN3]; exact numB_le _
      have HEN3 := Lib.hid hN3
      clear hN3
      go_wp2_with fail
      refine HCN3.out.mono ?_
      rintro e w96 ⟨A96, c96, rfl, ho96, hb96⟩
      have HW96 := Lib.hid (HW95.out.trans (hb96.mono HW95.out.size))
      have HO96 := Lib.hid (own_later HO95.out hb96)
      have HSN3 := Lib.hid (Row.of_own ho96)
      clear ho96 hb96 HCN3 HW95 HO95
      obtain ⟨O4, hO4⟩ : ∃ b, O2 ++ N3 = b := ⟨_, rfl⟩
      have HLO4 := Lib.hid hO4
      clear hO4
      go_wp2_with (at_builtin; (refine wpList_app _ rfl _ _ 24 rfl W.heap.size 5 i0 (.int .u8 0) 1 Tryd.underlying24 hi0 hz0 hz1 hz2 rfl _ O2.length (O2.map byteV) rfl (HO96.out) _ A96 (N3).length c96 ((N3).map byteV) rfl (by rw [List.length_map]) (HSN3.out) (byte_one _) (by unfold maxLen; omega) (by omega) (by have := (HW96.out).size; omega) ?_))
      intro v' w97 hown hgr hat
      obtain ⟨hw97, A97, c97, rfl, ho97⟩ := out_more12 HLO4.out (HW96.out) (HO96.out) hown hgr
      have HW97 := Lib.hid hw97
      have HO97 := Lib.hid ho97
      have hlO : O4.length = O2.length + (N3).length := by rw [← HLO4.out, List.length_append]
      clear hown hgr hat hw97 ho97 HSN3 HW96 HO96 d13
      have hbO4 : O4.length ≤ 200 := by omega
      clear hlO
      obtain ⟨es, hes⟩ : ∃ l, x.l.map Prod.fst = l := ⟨_, rfl⟩
      have hel : es.length = x.l.length := by rw [← hes, List.length_map]
      have hee : ∀ y ∈ es, okE y := fun y hy => by
        rw [← hes] at hy
        obtain ⟨z, hz, rfl⟩ := List.mem_map.1 hy
        exact HOL.out.2 z hz
      rw [hes] at HPUT
      have HES := Lib.hid hes
      obtain ⟨QQ, hQQ⟩ : ∃ f : Nat → List UInt8, ∀ k, O4 ++ (es.take k).flatMap putE = f k := ⟨_, fun _ => rfl⟩
      have HQQ := Lib.hid hQQ
      have hqz : QQ 0 = O4 := by rw [← hQQ]; simp
      have HQL : Hid (∀ k, (QQ k).length ≤ 60301000) := Lib.hid fun k => by
        rw [← hQQ, List.length_append]
        have h1 := flatE_le (es.take k) (fun y hy => hee y (List.mem_of_mem_take hy))
        rw [List.length_take] at h1
        have h2 : min k es.length ≤ 1000 := by omega
        omega
      have HQS : Hid (∀ k (h : k < es.length), QQ (k + 1) = QQ k ++ putE es[k]) := Lib.hid fun k h => by
        rw [← hQQ, ← hQQ, List.take_succ_eq_append_getElem h, List.flatMap_append, List.append_assoc]; simp
      have HEE := Lib.hid hee
      have HO97' : Hid (w97.ownsRow W.heap.size 5 1 (.slice A97 (QQ 0).length c97) (QQ 0).length ((QQ 0).map byteV)) := Lib.hid (by rw [hqz]; exact HO97.out)
      have HQZ : Hid (O4.length = (QQ 0).length) := Lib.hid (by rw [hqz])
      clear hQQ hqz hee hes HO97
      have hli0 : (0 : Int) ≤ (x.l.length : Int) := by omega
      have hli1 : (x.l.length : Int) ≤ 1000 := by omega
      go_wp2
      go_loopw [5, 10] (fun v i wr => ∃ (k : Nat) (A : Option Addr) (c : Nat), k ≤ x.l.length ∧ i = .int .i64 k ∧ v = .slice A (QQ k).length c ∧ Hid (Below W.heap.size W wr) ∧ Hid (wr.ownsRow W.heap.size 5 1 (.slice A (QQ k).length c) (QQ k).length ((QQ k).map byteV))) (fun _ i _ => x.l.length - (intOf i).toNat)
      case atStart => exact ⟨0, A97, c97, by omega, rfl, by rw [HQZ.out], HW97, HO97'⟩
      case round =>
        obtain ⟨k, A, c, hk, rfl, rfl, HWr, HOr⟩ := hrel
        have hfl : (QQ k).length ≤ 60301000 := HQL.out k
        have hxc := HX.out.below HWr.out HX.out.lt
        have d13 : wr.cell? ⟨w.heap.size, 13, none⟩ = some (.slice x.lA x.l.length x.lc) := hxc.cell 13
        have d0 : wr.cell? ⟨w.heap.size, 0, none⟩ = some (.int .i64 x.kind) := hxc.cell 0
        clear hxc
        by_cases hlt : k < x.l.length
        · as_aux_lemma =>
          have hlt2 : k < es.length := by omega
          obtain ⟨b, o, hA, hbl, hc⟩ := ents_open (HM.out.below HWr.out).en.row (by omega)
          obtain ⟨a0, a1, a2, a3, a4, a5⟩ := hc k hlt
          have v1 := (HM.out.below HWr.out).en.val x.l[k] (List.getElem_mem hlt)
          have ho1 := HOL.out.2 _ (List.getElem_mem hlt)
          have hv1 : x.l[k].1.v.length ≤ 60000 := (rightE_yes ho1).2.2.1
          have HC := Lib.hid (refbytes_put12 x.l[k].1 ho1 x.l[k].2.1 x.l[k].2.2 wr (v1.ok (by omega)))
          have hPE := putE_le _ ho1
          have HTK : Hid (QQ (k + 1) = QQ k ++ putE x.l[k].1) := Lib.hid (by
            rw [HQS.out k hlt2]
            have : es[k] = x.l[k].1 := by
              have := List.getElem_of_eq HES.out.symm hlt2
              rw [this, List.getElem_map]
            rw [this])
          obtain ⟨⟨y, A1, c1⟩, hy⟩ : ∃ p, x.l[k]'hlt = p := ⟨_, rfl⟩
          rw [hy] at a0 a1 a2 a3 a4 a5 HC HTK hPE
          simp only at a0 a1 a2 a3 a4 a5 HC HTK hPE
          have hki : (0 : Int) ≤ (k : Int) := by omega
          have hki2 : (k : Int) < (x.l.length : Int) := by omega
          rw [hA] at d13
          clear hA hc v1 ho1 hv1 hy hbl
          obtain ⟨N5, hN5⟩ : ∃ b, putE y = b := ⟨_, rfl⟩
          rw [hN5] at HC HTK hPE
          obtain ⟨CU, hCU⟩ : ∃ b, QQ k = b := ⟨_, rfl⟩
          obtain ⟨CN, hCN⟩ : ∃ b, QQ (k + 1) = b := ⟨_, rfl⟩
          rw [hCU] at hfl HOr HTK
          rw [hCN] at HTK
          have HCN := Lib.hid hCN
          simp only [hCU]
          clear hCU hCN hN5
          go_wp2_with fail
          refine HC.out.mono ?_
          rintro e w5 ⟨A5, c5, rfl, ho5, hb5⟩
          have HW5 := Lib.hid (HWr.out.trans (hb5.mono HWr.out.size))
          have HO5 := Lib.hid (own_later HOr.out hb5)
          have HS5 := Lib.hid (Row.of_own ho5)
          clear hb5 ho5 HWr HOr
          go_wp2_with (at_builtin; refine wpList_app _ rfl _ _ 24 rfl W.heap.size 5 i0 (.int .u8 0) 1 Tryd.underlying24 hi0 hz0 hz1 hz2 rfl _ CU.length (CU.map byteV) rfl HO5.out _ A5 N5.length c5 (N5.map byteV) rfl (by rw [List.length_map]) HS5.out (byte_one _) (by unfold maxLen; omega) (by omega) (by have := HW5.out.size; omega) ?_)
          intro v' w6 hown hgr hat
          obtain ⟨hw6, A6, c6, rfl, ho6⟩ := out_more12 HTK.out.symm HW5.out HO5.out hown hgr
          have HW6 := Lib.hid hw6
          have HO6 := Lib.hid ho6
          clear hown hgr hat hw6 ho6 HW5 HO5 HS5
          go_wp2
          go_roundw
          case rel => exact ⟨k + 1, A6, c6, by omega, by go_num, by rw [HCN.out], HW6, by rw [HCN.out]; exact HO6⟩
          case measure => simp [intOf]; omega
        · obtain rfl : k = x.l.length := by omega
          as_aux_lemma =>
          have hall : QQ x.l.length = O4 ++ es.flatMap putE := by rw [← HQQ.out, List.take_of_length_le (by omega)]
          obtain ⟨PL, hPL⟩ : ∃ b, QQ x.l.length = b := ⟨_, rfl⟩
          rw [hPL] at HOr hall hfl
          simp only [hPL]
          have HALLL := Lib.hid hall
          clear hall hPL hlt hk HW97 HO97' HQQ HQL HQS HEE HQZ d0
          have HW95 := HWr
          have HO95 := HOr
          clear HWr HOr
          have hxc := HX.out.below HW95.out HX.out.lt
          have d0 : wr.cell? ⟨w.heap.size, 0, none⟩ = some (.int .i64 x.kind) := hxc.cell 0
          clear hxc
          go_wp2_with fail
          refine (HCr.out _).mono ?_
          rintro e w96 ⟨rfl, hb96⟩
          have HW96 := Lib.hid (HW95.out.trans (hb96.mono HW95.out.size))
          have HO96 := Lib.hid (own_later HO95.out hb96)
          clear hb96 HW95 HO95 d0
          have HFIN : Hid (PL = putM (mP x)) := Lib.hid (by simp only [HPUT.out, HP0.out, ← HLO2.out, ← HLO4.out, ← HEN3.out, HALLL.out, show truthB false = ([0] : List UInt8) from rfl, List.append_assoc])
          have HWF := HW96
          have HOF := HO96
          go_wp2
          exact bodyPost_ret (v := .tuple #[.slice A PL.length c, .int .i64 0]) (by simp [results, Tryd.results13, go_sem]) rfl ⟨A, c, by rw [← HFIN.out], by rw [← HFIN.out]; exact own_base HOF.out (by have := HSZ.out; omega), HB.out.trans (HWF.out.mono HB.out.size)⟩
end Go.Proofs.YtfamklplhdnaiaaDoor
