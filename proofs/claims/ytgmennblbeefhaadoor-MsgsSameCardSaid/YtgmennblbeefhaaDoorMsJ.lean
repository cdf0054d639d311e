/- MsJ: Package msgs: head, Bytes. -/
import Derived.Test.YtgmennblbeefhaaDoorMsI
import Derived.Test.YtgmennblbeefhaaDoorMsF
import Derived.Laws.EntriesVeiled
namespace Go.Proofs.YtgmennblbeefhaaDoor
open Go.RowKit Mem Be Rg
set_option maxRecDepth 100000
set_option maxHeartbeats 8000000
set_option linter.unusedVariables false
theorem heads_any (x : MV) (w : World) : Calls Tryd.prog 30 #[.agg #[.int .i64 x.kind, .int .i64 x.fr, .int .i64 x.dst, .int .i64 x.ep, .int .i64 x.op, .int .i64 x.n, .bool x.flag, .string ⟨x.e.1.k.toArray⟩, .int .i64 x.e.1.s, .int .i64 x.e.1.u, .int .i64 x.e.1.o, .bool x.e.1.has, .slice x.e.2.1 x.e.1.v.length x.e.2.2, .slice x.lA x.l.length x.lc, .slice x.rA x.ns.length x.rc, .int .i64 x.each, .int .i64 x.keep]] w fun e w' => e = .returned (.agg #[.int .i64 x.kind, .int .i64 x.fr, .int .i64 x.dst, .int .i64 x.ep, .int .i64 x.op]) ∧ Below w.heap.size w w' := by
  go_enter Tryd.func30, Tryd.ntmps30
  go_wp2
  exact bodyPost_ret (v := .agg #[.int .i64 x.kind, .int .i64 x.fr, .int .i64 x.dst, .int .i64 x.ep, .int .i64 x.op]) (by simp [results, Tryd.results30, go_sem]) rfl ⟨rfl, ((Below.refl _ _).alloc (Nat.le_refl _) _).alloc (by simp) _⟩
/-- What is answered: bytes of the call's own, or why there are none. -/
def BytE (m : MsgP) (w : World) (e : Ending) (w' : World) : Prop := Made2 w.heap.size (bytesM m).1 (bytesM m).2 w e w'
theorem bytes_no12 (x : MV) (h0 : okM (mP x) = false) (w : World) (ht : KT w) (h : MsgM w x) : Calls Tryd.prog 12 #[.agg #[.int .i64 x.kind, .int .i64 x.fr, .int .i64 x.dst, .int .i64 x.ep, .int .i64 x.op, .int .i64 x.n, .bool x.flag, .string ⟨x.e.1.k.toArray⟩, .int .i64 x.e.1.s, .int .i64 x.e.1.u, .int .i64 x.e.1.o, .bool x.e.1.has, .slice x.e.2.1 x.e.1.v.length x.e.2.2, .slice x.lA x.l.length x.lc, .slice x.rA x.ns.length x.rc, .int .i64 x.each, .int .i64 x.keep]] w (BytE (mP x) w) := by
  have hb : Below w.heap.size w (w.alloc (.cells #[.int .i64 x.kind, .int .i64 x.fr, .int .i64 x.dst, .int .i64 x.ep, .int .i64 x.op, .int .i64 x.n, .bool x.flag, .string ⟨x.e.1.k.toArray⟩, .int .i64 x.e.1.s, .int .i64 x.e.1.u, .int .i64 x.e.1.o, .bool x.e.1.has, .slice x.e.2.1 x.e.1.v.length x.e.2.2, .slice x.lA x.l.length x.lc, .slice x.rA x.ns.length x.rc, .int .i64 x.each, .int .i64 x.keep] 34)) := (Below.refl _ _).alloc (Nat.le_refl _) _
  have HC := Lib.hid (checkm_any x _ (ht.below hb) (h.below hb))
  have HB := Lib.hid hb
  have HKB := Lib.hid (Blk.new w 34 #[.int .i64 x.kind, .int .i64 x.fr, .int .i64 x.dst, .int .i64 x.ep, .int .i64 x.op, .int .i64 x.n, .bool x.flag, .string ⟨x.e.1.k.toArray⟩, .int .i64 x.e.1.s, .int .i64 x.e.1.u, .int .i64 x.e.1.o, .bool x.e.1.has, .slice x.e.2.1 x.e.1.v.length x.e.2.2, .slice x.lA x.l.length x.lc, .slice x.rA x.ns.length x.rc, .int .i64 x.each, .int .i64 x.keep])
  have hc : checkM (mP x) = 2 := checkM_no h0
  rw [hc] at HC
  have HV : Hid (∀ W, Below w.heap.size w W → BytE (mP x) w (.returned (.tuple #[.slice none 0 0, .int .i64 2])) W) := Lib.hid fun W hW => by
    unfold BytE bytesM
    rw [if_neg (by rw [h0]; simp)]
    exact ⟨none, 0, rfl, World.ownsRow_nil _ _ _ _, hW⟩
  clear hb ht h h0 hc
  go_enter Tryd.func12, Tryd.ntmps12
  go_wp2_with (refine wpList_load_row rfl 34 _ rfl _ rfl _ _ _ _ (show _ = _ from HKB.out) Tryd.underlying34 rfl (by kernel_rfl) ?_)
  refine HC.out.mono ?_
  rintro e w1 ⟨rfl, hb1⟩
  have HB1 := Lib.hid (HB.out.trans (hb1.mono HB.out.size))
  clear hb1
  go_wp2
  go_ret2
  exact HV.out _ HB1.out
theorem heads_le (ns : List Int) : (ns.flatMap numB).length ≤ 9 * ns.length := flatB_le ns
set_option maxHeartbeats 8000000 in
theorem bytes_yes12 (x : MV) (h0 : okM (mP x) = true) (w : World) (ht : KT w) (h : MsgM w x) : Calls Tryd.prog 12 #[.agg #[.int .i64 x.kind, .int .i64 x.fr, .int .i64 x.dst, .int .i64 x.ep, .int .i64 x.op, .int .i64 x.n, .bool x.flag, .string ⟨x.e.1.k.toArray⟩, .int .i64 x.e.1.s, .int .i64 x.e.1.u, .int .i64 x.e.1.o, .bool x.e.1.has, .slice x.e.2.1 x.e.1.v.length x.e.2.2, .slice x.lA x.l.length x.lc, .slice x.rA x.ns.length x.rc, .int .i64 x.each, .int .i64 x.keep]] w (BytE (mP x) w) := by
  have hb : Below w.heap.size w (w.alloc (.cells #[.int .i64 x.kind, .int .i64 x.fr, .int .i64 x.dst, .int .i64 x.ep, .int .i64 x.op, .int .i64 x.n, .bool x.flag, .string ⟨x.e.1.k.toArray⟩, .int .i64 x.e.1.s, .int .i64 x.e.1.u, .int .i64 x.e.1.o, .bool x.e.1.has, .slice x.e.2.1 x.e.1.v.length x.e.2.2, .slice x.lA x.l.length x.lc, .slice x.rA x.ns.length x.rc, .int .i64 x.each, .int .i64 x.keep] 34)) := (Below.refl _ _).alloc (Nat.le_refl _) _
  have HC := Lib.hid (checkm_any x _ (ht.below hb) (h.below hb))
  have HB := Lib.hid hb
  have HKB := Lib.hid (Blk.new w 34 #[.int .i64 x.kind, .int .i64 x.fr, .int .i64 x.dst, .int .i64 x.ep, .int .i64 x.op, .int .i64 x.n, .bool x.flag, .string ⟨x.e.1.k.toArray⟩, .int .i64 x.e.1.s, .int .i64 x.e.1.u, .int .i64 x.e.1.o, .bool x.e.1.has, .slice x.e.2.1 x.e.1.v.length x.e.2.2, .slice x.lA x.l.length x.lc, .slice x.rA x.ns.length x.rc, .int .i64 x.each, .int .i64 x.keep])
  have hc : checkM (mP x) = 0 := by unfold checkM; rw [h0]; rfl
  rw [hc] at HC
  have HT := Lib.hid ht
  have HMM := Lib.hid h
  have HOK := Lib.hid (okM_parts h0)
  have HBV : Hid (bytesM (mP x) = (putM (mP x), 0)) := Lib.hid (by unfold bytesM; rw [if_pos h0])
  clear hb ht h h0 hc
  go_enter Tryd.func12, Tryd.ntmps12
  go_wp2_with (refine wpList_load_row rfl 34 _ rfl _ rfl _ _ _ _ (show _ = _ from HKB.out) Tryd.underlying34 rfl (by kernel_rfl) ?_)
  refine HC.out.mono ?_
  rintro e w1 ⟨rfl, hb1⟩
  have HB1 := Lib.hid (HB.out.trans (hb1.mono HB.out.size))
  have HK1 := Lib.hid (HKB.out.below hb1 HKB.out.lt)
  have hbg : w.heap.size < w1.heap.size := HK1.out.lt
  clear hb1 HC
  obtain ⟨W2, hW2⟩ : ∃ W2, (w1.alloc (.cells #[.slice none 0 0] 24)).alloc (.cells #[.func (.func 28) #[] #[.pointer (some ⟨w1.heap.size, 0, none⟩)]] 64) = W2 := ⟨_, rfl⟩
  have hal : Below w1.heap.size w1 W2 := by rw [← hW2]; exact ((Below.refl _ _).alloc (Nat.le_refl _) _).alloc (by simp) _
  have hkg : Blk W2 w1.heap.size 24 #[.slice none 0 0] := by rw [← hW2]; exact (Blk.new w1 _ _).alloc _
  have hkq : Blk W2 (w1.heap.size + 1) 64 #[.func (.func 28) #[] #[.pointer (some ⟨w1.heap.size, 0, none⟩)]] := by
    rw [← hW2]; have := Blk.new (w1.alloc (.cells #[.slice none 0 0] 24)) 64 #[.func (.func 28) #[] #[.pointer (some ⟨w1.heap.size, 0, none⟩)]]; rw [World.size_alloc] at this; exact this
  have HO2 : Hid (OutB W2 w1.heap.size []) := Lib.hid ⟨none, 0, hkg, World.ownsRow_nil _ _ _ _⟩
  have HK2 := Lib.hid (HK1.out.below hal HK1.out.lt)
  have HQ2 := Lib.hid hkq
  have HB2 := Lib.hid (HB1.out.trans (hal.mono HB1.out.size))
  have HHD := Lib.hid (heads_any x W2)
  clear hal hkg hkq
  go_wp2_with (refine wpList_load_row rfl 34 _ rfl _ rfl _ _ _ _ (show _ = _ from HK2.out) Tryd.underlying34 rfl (by kernel_rfl) ?_)
  refine HHD.out.mono ?_
  rintro e w3 ⟨rfl, hb3⟩
  clear hW2
  have HO3 := Lib.hid (HO2.out.below hb3)
  have HK3 := Lib.hid (HK2.out.below hb3 HK2.out.lt)
  have HQ3 := Lib.hid (HQ2.out.below hb3 HQ2.out.lt)
  have HB3 := Lib.hid (HB2.out.trans (hb3.mono HB2.out.size))
  clear hb3 HHD HO2 HK2 HQ2
  obtain ⟨g, hg⟩ : ∃ g, w1.heap.size = g := ⟨_, rfl⟩
  rw [hg] at HO3 HQ3 hbg
  simp only [hg]
  clear hg
  have HLK : Hid ((numB x.kind).length ≤ 9 ∧ (numB x.fr).length ≤ 9 ∧ (numB x.dst).length ≤ 9 ∧ (numB x.ep).length ≤ 9 ∧ (numB x.op).length ≤ 9 ∧ (numB x.n).length ≤ 9) := Lib.hid ⟨numB_le _, numB_le _, numB_le _, numB_le _, numB_le _, numB_le _⟩
  have HNQ : Hid (∀ wr, OutTo g w3 wr → NumF wr g (g + 1)) := Lib.hid fun wr ht => (ht.typ (g + 1) 64 _ (Nat.lt_succ_self g) (by decide) HQ3.out).cell 0
  have ix0 := fun W => idxi_0 x.kind x.fr x.dst x.ep x.op W
  have ix1 := fun W => idxi_1 x.kind x.fr x.dst x.ep x.op W
  have ix2 := fun W => idxi_2 x.kind x.fr x.dst x.ep x.op W
  have ix3 := fun W => idxi_3 x.kind x.fr x.dst x.ep x.op W
  have ix4 := fun W => idxi_4 x.kind x.fr x.dst x.ep x.op W
  go_wp2
  go_loopw [20] (fun i wr => ∃ j : Nat, j ≤ 5 ∧ i = .int .i64 j ∧ Hid (OutB wr g (([numB x.kind, numB x.fr, numB x.dst, numB x.ep, numB x.op].take j).flatten)) ∧ Hid (OutTo g w3 wr)) (fun i _ => 5 - (intOf i).toNat)
  case atStart => exact ⟨0, by omega, rfl, HO3, Lib.hid (OutTo.refl _ _)⟩
  case round =>
    obtain ⟨j, hj, rfl, HO, HT4⟩ := hrel
    have hq : wr.cell? ⟨g + 1, 0, none⟩ = some (.func (.func 28) #[] #[.pointer (some ⟨g, 0, none⟩)]) := HNQ.out wr HT4.out
    match j, hj, HO with
    | 0, _, HO =>
      as_aux_lemma =>
      go_wp2_with fail
      refine (putnum_any x.kind g _ (by have := HLK.out; simp <;> omega) _ HO.out).mono ?_
      rintro e4 w4 ⟨rfl, ho4, ht4⟩
      have HO4 : Hid (OutB w4 g (([numB x.kind, numB x.fr, numB x.dst, numB x.ep, numB x.op].take 1).flatten)) := Lib.hid (by simpa using ho4)
      have HT5 := Lib.hid (HT4.out.trans ht4)
      clear ho4 ht4
      go_wp2
      go_roundw
      case rel => exact ⟨1, by omega, rfl, HO4, HT5⟩
      case measure => simp [intOf]
    | 1, _, HO =>
      as_aux_lemma =>
      go_wp2_with fail
      refine (putnum_any x.fr g _ (by have := HLK.out; simp <;> omega) _ HO.out).mono ?_
      rintro e4 w4 ⟨rfl, ho4, ht4⟩
      have HO4 : Hid (OutB w4 g (([numB x.kind, numB x.fr, numB x.dst, numB x.ep, numB x.op].take 2).flatten)) := Lib.hid (by simpa using ho4)
      have HT5 := Lib.hid (HT4.out.trans ht4)
      clear ho4 ht4
      go_wp2
      go_roundw
      case rel => exact ⟨2, by omega, rfl, HO4, HT5⟩
      case measure => simp [intOf]
    | 2, _, HO =>
      as_aux_lemma =>
      go_wp2_with fail
      refine (putnum_any x.dst g _ (by have := HLK.out; simp <;> omega) _ HO.out).mono ?_
      rintro e4 w4 ⟨rfl, ho4, ht4⟩
      have HO4 : Hid (OutB w4 g (([numB x.kind, numB x.fr, numB x.dst, numB x.ep, numB x.op].take 3).flatten)) := Lib.hid (by simpa using ho4)
      have HT5 := Lib.hid (HT4.out.trans ht4)
      clear ho4 ht4
      go_wp2
      go_roundw
      case rel => exact ⟨3, by omega, rfl, HO4, HT5⟩
      case measure => simp [intOf]
    | 3, _, HO =>
      as_aux_lemma =>
      go_wp2_with fail
      refine (putnum_any x.ep g _ (by have := HLK.out; simp <;> omega) _ HO.out).mono ?_
      rintro e4 w4 ⟨rfl, ho4, ht4⟩
      have HO4 : Hid (OutB w4 g (([numB x.kind, numB x.fr, numB x.dst, numB x.ep, numB x.op].take 4).flatten)) := Lib.hid (by simpa using ho4)
      have HT5 := Lib.hid (HT4.out.trans ht4)
      clear ho4 ht4
      go_wp2
      go_roundw
      case rel => exact ⟨4, by omega, rfl, HO4, HT5⟩
      case measure => simp [intOf]
    | 4, _, HO =>
      as_aux_lemma =>
      go_wp2_with fail
      refine (putnum_any x.op g _ (by have := HLK.out; simp <;> omega) _ HO.out).mono ?_
      rintro e4 w4 ⟨rfl, ho4, ht4⟩
      have HO4 : Hid (OutB w4 g (([numB x.kind, numB x.fr, numB x.dst, numB x.ep, numB x.op].take 5).flatten)) := Lib.hid (by simpa using ho4)
      have HT5 := Lib.hid (HT4.out.trans ht4)
      clear ho4 ht4
      go_wp2
      go_roundw
      case rel => exact ⟨5, by omega, rfl, HO4, HT5⟩
      case measure => simp [intOf]
    | 5, _, HO =>
      obtain ⟨F0, hF0⟩ : ∃ F, (if hasN x.kind = true then numB x.n else []) = F := ⟨_, rfl⟩
      obtain ⟨F1, hF1⟩ : ∃ F, (if hasF x.kind = true then truthB x.flag else []) = F := ⟨_, rfl⟩
      obtain ⟨F2, hF2⟩ : ∃ F, (if hasE x.kind = true then putE x.e.1 else []) = F := ⟨_, rfl⟩
      obtain ⟨F3, hF3⟩ : ∃ F, (if hasL x.kind = true then listB (x.l.map Prod.fst) else []) = F := ⟨_, rfl⟩
      obtain ⟨F4, hF4⟩ : ∃ F, (if hasR x.kind = true then ringB x.ns x.each x.keep else []) = F := ⟨_, rfl⟩
      have HPM : Hid (([numB x.kind, numB x.fr, numB x.dst, numB x.ep, numB x.op, F0, F1, F2, F3, F4]).flatten = putM (mP x)) := Lib.hid (by
        rw [← hF0, ← hF1, ← hF2, ← hF3, ← hF4]
        unfold putM
        simp only [List.flatten_cons, List.flatten_nil, List.append_nil]
        rfl)
      have HFV : Hid ((hasN x.kind = true → F0 = numB x.n) ∧ (hasN x.kind = false → F0 = []) ∧ (hasF x.kind = true → F1 = truthB x.flag) ∧ (hasF x.kind = false → F1 = []) ∧ (hasE x.kind = true → F2 = putE x.e.1) ∧ (hasE x.kind = false → F2 = []) ∧ (hasL x.kind = true → F3 = listB (x.l.map Prod.fst)) ∧ (hasL x.kind = false → F3 = []) ∧ (hasR x.kind = true → F4 = ringB x.ns x.each x.keep) ∧ (hasR x.kind = false → F4 = [])) := Lib.hid (by
        refine ⟨fun h => ?_, fun h => ?_, fun h => ?_, fun h => ?_, fun h => ?_, fun h => ?_, fun h => ?_, fun h => ?_, fun h => ?_, fun h => ?_⟩
        · rw [← hF0, if_pos h]
        · rw [← hF0, if_neg (by rw [h]; simp)]
        · rw [← hF1, if_pos h]
        · rw [← hF1, if_neg (by rw [h]; simp)]
        · rw [← hF2, if_pos h]
        · rw [← hF2, if_neg (by rw [h]; simp)]
        · rw [← hF3, if_pos h]
        · rw [← hF3, if_neg (by rw [h]; simp)]
        · rw [← hF4, if_pos h]
        · rw [← hF4, if_neg (by rw [h]; simp)])
      have HEE : Hid (hasE x.kind = true → okE x.e.1) := Lib.hid fun h => by
        have h1 : fldB (hasE x.kind) (decide (okE x.e.1)) (bE (mP x)) = true := HOK.out.2.2.2.1
        rw [h] at h1
        exact of_decide_eq_true h1
      have HEL : Hid (hasL x.kind = true → x.l.length ≤ 1000 ∧ ∀ y ∈ x.l, okE y.1) := Lib.hid fun h => by
        have h1 : fldB (hasL x.kind) (decide ((x.l.map Prod.fst).length ≤ 1000) && allE (x.l.map Prod.fst)) (bL (mP x)) = true := HOK.out.2.2.2.2.1
        rw [h] at h1
        have h2 : (decide ((x.l.map Prod.fst).length ≤ 1000) && allE (x.l.map Prod.fst)) = true := h1
        rw [Bool.and_eq_true, decide_eq_true_eq, List.length_map] at h2
        exact ⟨h2.1, fun y hy => allE_iff.1 h2.2 y.1 (List.mem_map.2 ⟨y, hy, rfl⟩)⟩
      have HER : Hid (hasR x.kind = true → x.ns.length ≤ 64) := Lib.hid fun h => by
        have h1 : fldB (hasR x.kind) (decide (OkR x.ns x.each x.keep)) (bR (mP x)) = true := HOK.out.2.2.2.2.2
        rw [h] at h1
        have h2 : OkR x.ns x.each x.keep := of_decide_eq_true h1
        exact h2.2.1
      have HFL : Hid (F0.length ≤ 9 ∧ F1.length ≤ 1 ∧ F2.length ≤ 60300 ∧ F3.length ≤ 60300009) := Lib.hid (by
        refine ⟨?_, ?_, ?_, ?_⟩
        · rw [← hF0]; split
          · exact numB_le _
          · simp
        · rw [← hF1]; split
          · exact Nat.le_refl _
          · simp
        · rw [← hF2]; split
          · rename_i h; exact putE_le _ (HEE.out h)
          · simp
        · rw [← hF3]; split
          · rename_i h
            have h1 := HEL.out h
            have h2 := putEs_le x.l h1.2
            have h3 := numB_le ((x.l.map Prod.fst).length : Int)
            unfold listB
            rw [← putEs_map, List.length_append]
            omega
          · simp)
      have HO5 : Hid (OutB wr g (([numB x.kind, numB x.fr, numB x.dst, numB x.ep, numB x.op, F0, F1, F2, F3, F4].take 5).flatten)) := Lib.hid (by simpa using HO.out)
      clear hF0 ix0 hF1 ix1 hF2 ix2 hF3 ix3 hF4 ix4 hq
      obtain ⟨z, hz⟩ : ∃ z, wr.heap.size = z := ⟨_, rfl⟩
      have hgz : g < z := by rw [← hz]; exact HO5.out.lt
      have hal : Below wr.heap.size wr (wr.alloc (.cells #[.func (.func 31) #[] #[.pointer (some ⟨g + 1, 0, none⟩), .pointer (some ⟨w.heap.size, 0, none⟩)], .func (.func 32) #[] #[.pointer (some ⟨g, 0, none⟩), .pointer (some ⟨w.heap.size, 0, none⟩)], .func (.func 34) #[] #[.pointer (some ⟨g, 0, none⟩), .pointer (some ⟨w.heap.size, 0, none⟩)], .func (.func 36) #[] #[.pointer (some ⟨g + 1, 0, none⟩), .pointer (some ⟨w.heap.size, 0, none⟩), .pointer (some ⟨g, 0, none⟩)], .func (.func 37) #[] #[.pointer (some ⟨w.heap.size, 0, none⟩), .pointer (some ⟨g + 1, 0, none⟩)]] 70)) := (Below.refl _ _).alloc (Nat.le_refl _) _
      have hkz := Blk.new wr 70 #[.func (.func 31) #[] #[.pointer (some ⟨g + 1, 0, none⟩), .pointer (some ⟨w.heap.size, 0, none⟩)], .func (.func 32) #[] #[.pointer (some ⟨g, 0, none⟩), .pointer (some ⟨w.heap.size, 0, none⟩)], .func (.func 34) #[] #[.pointer (some ⟨g, 0, none⟩), .pointer (some ⟨w.heap.size, 0, none⟩)], .func (.func 36) #[] #[.pointer (some ⟨g + 1, 0, none⟩), .pointer (some ⟨w.heap.size, 0, none⟩), .pointer (some ⟨g, 0, none⟩)], .func (.func 37) #[] #[.pointer (some ⟨w.heap.size, 0, none⟩), .pointer (some ⟨g + 1, 0, none⟩)]]
      have HT6 := Lib.hid (HT4.out.trans (OutTo.of hal (Nat.le_of_lt HO5.out.lt)))
      have HO6 := Lib.hid (HO5.out.below hal)
      have HBX : Hid (∀ W, OutTo g w3 W → Below w.heap.size w W) := Lib.hid fun W h => HB3.out.trans (h.low.mono (by omega))
      have HFX := Lib.hid (fields_any x.kind _ (HT.out.low (HBX.out _ HT6.out) HT.out.pos))
      have mk : (wr.alloc (.cells #[.func (.func 31) #[] #[.pointer (some ⟨g + 1, 0, none⟩), .pointer (some ⟨w.heap.size, 0, none⟩)], .func (.func 32) #[] #[.pointer (some ⟨g, 0, none⟩), .pointer (some ⟨w.heap.size, 0, none⟩)], .func (.func 34) #[] #[.pointer (some ⟨g, 0, none⟩), .pointer (some ⟨w.heap.size, 0, none⟩)], .func (.func 36) #[] #[.pointer (some ⟨g + 1, 0, none⟩), .pointer (some ⟨w.heap.size, 0, none⟩), .pointer (some ⟨g, 0, none⟩)], .func (.func 37) #[] #[.pointer (some ⟨w.heap.size, 0, none⟩), .pointer (some ⟨g + 1, 0, none⟩)]] 70)).cell? ⟨w.heap.size, 0, none⟩ = some (.int .i64 x.kind) := (HT6.out.low.cell (p := ⟨w.heap.size, 0, none⟩) hbg).trans (HK3.out.cell 0)
      have HKZ := Lib.hid hkz
      unfold FldE fldV b5 at HFX
      clear hal hkz HO HO5 HO3
      go_wp2_with fail
      refine HFX.out.mono ?_
      rintro e w5 ⟨rfl, hb5⟩
      have HT7 := Lib.hid (HT6.out.trans (OutTo.of hb5 (Nat.le_of_lt HO6.out.lt)))
      have HO7 := Lib.hid (HO6.out.below hb5)
      have HK7 := Lib.hid (HKZ.out.below hb5 HKZ.out.lt)
      clear hb5 mk HFX HT6 HO6 HKZ
      rw [hz] at HK7
      clear hz
      have HZC : Hid (∀ W, OutTo g w5 W → Blk W z 70 #[.func (.func 31) #[] #[.pointer (some ⟨g + 1, 0, none⟩), .pointer (some ⟨w.heap.size, 0, none⟩)], .func (.func 32) #[] #[.pointer (some ⟨g, 0, none⟩), .pointer (some ⟨w.heap.size, 0, none⟩)], .func (.func 34) #[] #[.pointer (some ⟨g, 0, none⟩), .pointer (some ⟨w.heap.size, 0, none⟩)], .func (.func 36) #[] #[.pointer (some ⟨g + 1, 0, none⟩), .pointer (some ⟨w.heap.size, 0, none⟩), .pointer (some ⟨g, 0, none⟩)], .func (.func 37) #[] #[.pointer (some ⟨w.heap.size, 0, none⟩), .pointer (some ⟨g + 1, 0, none⟩)]]) := Lib.hid fun W h => h.typ z 70 _ hgz (by decide) HK7.out
      have HYS0 : Hid (hasN x.kind = true → F0 = numB x.n) := Lib.hid HFV.out.1
      have HNO0 : Hid (hasN x.kind = false → F0 = []) := Lib.hid HFV.out.2.1
      have HYS1 : Hid (hasF x.kind = true → F1 = truthB x.flag) := Lib.hid HFV.out.2.2.1
      have HNO1 : Hid (hasF x.kind = false → F1 = []) := Lib.hid HFV.out.2.2.2.1
      have HYS2 : Hid (hasE x.kind = true → F2 = putE x.e.1) := Lib.hid HFV.out.2.2.2.2.1
      have HNO2 : Hid (hasE x.kind = false → F2 = []) := Lib.hid HFV.out.2.2.2.2.2.1
      have HYS3 : Hid (hasL x.kind = true → F3 = listB (x.l.map Prod.fst)) := Lib.hid HFV.out.2.2.2.2.2.2.1
      have HNO3 : Hid (hasL x.kind = false → F3 = []) := Lib.hid HFV.out.2.2.2.2.2.2.2.1
      have HYS4 : Hid (hasR x.kind = true → F4 = ringB x.ns x.each x.keep) := Lib.hid HFV.out.2.2.2.2.2.2.2.2.1
      have HNO4 : Hid (hasR x.kind = false → F4 = []) := Lib.hid HFV.out.2.2.2.2.2.2.2.2.2
      clear HFV
      generalize hasN x.kind = h0 at HYS0 HNO0 ⊢
      generalize hasF x.kind = h1 at HYS1 HNO1 ⊢
      generalize hasE x.kind = h2 at HYS2 HNO2 HEE ⊢
      generalize hasL x.kind = h3 at HYS3 HNO3 HEL ⊢
      generalize hasR x.kind = h4 at HYS4 HNO4 HER ⊢
      have ix0 := fun W => idxb_0 h0 h1 h2 h3 h4 W
      have ix1 := fun W => idxb_1 h0 h1 h2 h3 h4 W
      have ix2 := fun W => idxb_2 h0 h1 h2 h3 h4 W
      have ix3 := fun W => idxb_3 h0 h1 h2 h3 h4 W
      have ix4 := fun W => idxb_4 h0 h1 h2 h3 h4 W
      have HVR : Hid (∀ W, OutTo g w3 W → Row W g x.e.2.1 (x.e.1.v.map byteV) ∧ Row W g x.lA (entsC x.l) ∧ (∀ y ∈ x.l, Row W g y.2.1 (y.1.v.map byteV)) ∧ Row W g x.rA (x.ns.map iV)) := Lib.hid fun W h => by
        have hb := HBX.out W h
        exact ⟨(HMM.out.ev.row.below hb).more (by omega), (HMM.out.en.row.below hb).more (by omega), fun y hy => ((HMM.out.en.val y hy).row.below hb).more (by omega), (HMM.out.rn.below hb).more (by omega)⟩
      go_wp2
      go_loopw [36] (fun i wr => ∃ j : Nat, j ≤ 5 ∧ i = .int .i64 j ∧ Hid (OutB wr g (([numB x.kind, numB x.fr, numB x.dst, numB x.ep, numB x.op, F0, F1, F2, F3, F4].take (5 + j)).flatten)) ∧ Hid (OutTo g w5 wr)) (fun i _ => 5 - (intOf i).toNat)
      case atStart => exact ⟨0, by omega, rfl, HO7, Lib.hid (OutTo.refl _ _)⟩
      case round =>
        obtain ⟨j, hj, rfl, HO, HT8⟩ := hrel
        have HTA := Lib.hid (HT7.out.trans HT8.out)
        have HKM : Hid (Blk wr w.heap.size 34 #[.int .i64 x.kind, .int .i64 x.fr, .int .i64 x.dst, .int .i64 x.ep, .int .i64 x.op, .int .i64 x.n, .bool x.flag, .string ⟨x.e.1.k.toArray⟩, .int .i64 x.e.1.s, .int .i64 x.e.1.u, .int .i64 x.e.1.o, .bool x.e.1.has, .slice x.e.2.1 x.e.1.v.length x.e.2.2, .slice x.lA x.l.length x.lc, .slice x.rA x.ns.length x.rc, .int .i64 x.each, .int .i64 x.keep]) := Lib.hid ((HTA.out.low.block w.heap.size hbg).trans HK3.out)
        have HZZ := Lib.hid (HZC.out wr HT8.out)
        have HRR := Lib.hid (HVR.out wr HTA.out)
        match j, hj, HO with
        | 0, _, HO =>
          as_aux_lemma =>
          have zc : wr.cell? ⟨z, 0, none⟩ = some (.func (.func 31) #[] #[.pointer (some ⟨g + 1, 0, none⟩), .pointer (some ⟨w.heap.size, 0, none⟩)]) := HZZ.out.cell 0
          rcases Bool.eq_false_or_eq_true h0 with gg | gg
          · subst gg
            have HFE := Lib.hid (HYS0.out rfl)
            go_wp2_with fail
            refine (putn_any x.n g (g + 1) w.heap.size _ (by have := HLK.out; have := HFL.out; simp only [List.take_succ_cons, List.take_zero, List.flatten_cons, List.flatten_nil, List.length_append, List.length_nil]; omega) wr HO.out (HNQ.out wr HTA.out) (HKM.out.cell 5)).mono ?_
            rintro e6 w6 ⟨rfl, ho6, ht6⟩
            have HO9 : Hid (OutB w6 g (([numB x.kind, numB x.fr, numB x.dst, numB x.ep, numB x.op, F0, F1, F2, F3, F4].take (5 + 1)).flatten)) := Lib.hid (by
              rw [← HFE.out] at ho6
              have e : ([numB x.kind, numB x.fr, numB x.dst, numB x.ep, numB x.op, F0, F1, F2, F3, F4].take (5 + 1)).flatten = ([numB x.kind, numB x.fr, numB x.dst, numB x.ep, numB x.op, F0, F1, F2, F3, F4].take (5 + 0)).flatten ++ F0 := by simp only [List.take_succ_cons, List.take_zero, List.flatten_cons, List.flatten_nil, List.append_nil, List.append_assoc]
              rw [e]; exact ho6)
            have HT9 := Lib.hid (HT8.out.trans ht6)
            clear ho6 ht6 zc
            go_wp2
            go_roundw
            case rel => exact ⟨1, by omega, rfl, HO9, HT9⟩
            case measure => simp [intOf]
          · subst gg
            have HFE := Lib.hid (HNO0.out rfl)
            have HO9 : Hid (OutB wr g (([numB x.kind, numB x.fr, numB x.dst, numB x.ep, numB x.op, F0, F1, F2, F3, F4].take (5 + 1)).flatten)) := Lib.hid (by
              have e : ([numB x.kind, numB x.fr, numB x.dst, numB x.ep, numB x.op, F0, F1, F2, F3, F4].take (5 + 1)).flatten = ([numB x.kind, numB x.fr, numB x.dst, numB x.ep, numB x.op, F0, F1, F2, F3, F4].take (5 + 0)).flatten := by
                rw [HFE.out]
                simp
              rw [e]; exact HO.out)
            clear zc
            go_wp2
            go_roundw
            case rel => exact ⟨1, by omega, rfl, HO9, HT8⟩
            case measure => simp [intOf]
        | 1, _, HO =>
          as_aux_lemma =>
          have zc : wr.cell? ⟨z, 1, none⟩ = some (.func (.func 32) #[] #[.pointer (some ⟨g, 0, none⟩), .pointer (some ⟨w.heap.size, 0, none⟩)]) := HZZ.out.cell 1
          rcases Bool.eq_false_or_eq_true h1 with gg | gg
          · subst gg
            have HFE := Lib.hid (HYS1.out rfl)
            go_wp2_with fail
            refine (puttr_any x.flag g w.heap.size _ (by have := HLK.out; have := HFL.out; simp only [List.take_succ_cons, List.take_zero, List.flatten_cons, List.flatten_nil, List.length_append, List.length_nil]; omega) wr HO.out (HKM.out.cell 6)).mono ?_
            rintro e6 w6 ⟨rfl, ho6, ht6⟩
            have HO9 : Hid (OutB w6 g (([numB x.kind, numB x.fr, numB x.dst, numB x.ep, numB x.op, F0, F1, F2, F3, F4].take (5 + 2)).flatten)) := Lib.hid (by
              rw [← HFE.out] at ho6
              have e : ([numB x.kind, numB x.fr, numB x.dst, numB x.ep, numB x.op, F0, F1, F2, F3, F4].take (5 + 2)).flatten = ([numB x.kind, numB x.fr, numB x.dst, numB x.ep, numB x.op, F0, F1, F2, F3, F4].take (5 + 1)).flatten ++ F1 := by simp only [List.take_succ_cons, List.take_zero, List.flatten_cons, List.flatten_nil, List.append_nil, List.append_assoc]
              rw [e]; exact ho6)
            have HT9 := Lib.hid (HT8.out.trans ht6)
            clear ho6 ht6 zc
            go_wp2
            go_roundw
            case rel => exact ⟨2, by omega, rfl, HO9, HT9⟩
            case measure => simp [intOf]
          · subst gg
            have HFE := Lib.hid (HNO1.out rfl)
            have HO9 : Hid (OutB wr g (([numB x.kind, numB x.fr, numB x.dst, numB x.ep, numB x.op, F0, F1, F2, F3, F4].take (5 + 2)).flatten)) := Lib.hid (by
              have e : ([numB x.kind, numB x.fr, numB x.dst, numB x.ep, numB x.op, F0, F1, F2, F3, F4].take (5 + 2)).flatten = ([numB x.kind, numB x.fr, numB x.dst, numB x.ep, numB x.op, F0, F1, F2, F3, F4].take (5 + 1)).flatten := by
                rw [HFE.out]
                simp
              rw [e]; exact HO.out)
            clear zc
            go_wp2
            go_roundw
            case rel => exact ⟨2, by omega, rfl, HO9, HT8⟩
            case measure => simp [intOf]
        | 2, _, HO =>
          as_aux_lemma =>
          have zc : wr.cell? ⟨z, 2, none⟩ = some (.func (.func 34) #[] #[.pointer (some ⟨g, 0, none⟩), .pointer (some ⟨w.heap.size, 0, none⟩)]) := HZZ.out.cell 2
          rcases Bool.eq_false_or_eq_true h2 with gg | gg
          · subst gg
            have HFE := Lib.hid (HYS2.out rfl)
            go_wp2_with fail
            refine (putent_any x.e g w.heap.size _ (by have := HLK.out; have := HFL.out; simp only [List.take_succ_cons, List.take_zero, List.flatten_cons, List.flatten_nil, List.length_append, List.length_nil]; omega) wr HO.out (HEE.out (by trivial)) HRR.out.1 HMM.out.ev.cap (HKM.out.cell 7) (HKM.out.cell 8) (HKM.out.cell 9) (HKM.out.cell 10) (HKM.out.cell 11) (HKM.out.cell 12)).mono ?_
            rintro e6 w6 ⟨rfl, ho6, ht6⟩
            have HO9 : Hid (OutB w6 g (([numB x.kind, numB x.fr, numB x.dst, numB x.ep, numB x.op, F0, F1, F2, F3, F4].take (5 + 3)).flatten)) := Lib.hid (by
              rw [← HFE.out] at ho6
              have e : ([numB x.kind, numB x.fr, numB x.dst, numB x.ep, numB x.op, F0, F1, F2, F3, F4].take (5 + 3)).flatten = ([numB x.kind, numB x.fr, numB x.dst, numB x.ep, numB x.op, F0, F1, F2, F3, F4].take (5 + 2)).flatten ++ F2 := by simp only [List.take_succ_cons, List.take_zero, List.flatten_cons, List.flatten_nil, List.append_nil, List.append_assoc]
              rw [e]; exact ho6)
            have HT9 := Lib.hid (HT8.out.trans ht6)
            clear ho6 ht6 zc
            go_wp2
            go_roundw
            case rel => exact ⟨3, by omega, rfl, HO9, HT9⟩
            case measure => simp [intOf]
          · subst gg
            have HFE := Lib.hid (HNO2.out rfl)
            have HO9 : Hid (OutB wr g (([numB x.kind, numB x.fr, numB x.dst, numB x.ep, numB x.op, F0, F1, F2, F3, F4].take (5 + 3)).flatten)) := Lib.hid (by
              have e : ([numB x.kind, numB x.fr, numB x.dst, numB x.ep, numB x.op, F0, F1, F2, F3, F4].take (5 + 3)).flatten = ([numB x.kind, numB x.fr, numB x.dst, numB x.ep, numB x.op, F0, F1, F2, F3, F4].take (5 + 2)).flatten := by
                rw [HFE.out]
                simp
              rw [e]; exact HO.out)
            clear zc
            go_wp2
            go_roundw
            case rel => exact ⟨3, by omega, rfl, HO9, HT8⟩
            case measure => simp [intOf]
        | 3, _, HO =>
          as_aux_lemma =>
          have zc : wr.cell? ⟨z, 3, none⟩ = some (.func (.func 36) #[] #[.pointer (some ⟨g + 1, 0, none⟩), .pointer (some ⟨w.heap.size, 0, none⟩), .pointer (some ⟨g, 0, none⟩)]) := HZZ.out.cell 3
          rcases Bool.eq_false_or_eq_true h3 with gg | gg
          · subst gg
            have HFE := Lib.hid (HYS3.out rfl)
            go_wp2_with fail
            refine (putlist_any x.lA x.lc x.l (HEL.out (by trivial)).1 g (g + 1) w.heap.size _ (by have := HLK.out; have := HFL.out; simp only [List.take_succ_cons, List.take_zero, List.flatten_cons, List.flatten_nil, List.length_append, List.length_nil]; omega) wr HO.out (HNQ.out wr HTA.out) (Nat.lt_succ_self g) ⟨_, HTA.out.typ (g + 1) 64 _ (Nat.lt_succ_self g) (by decide) HQ3.out⟩ hbg (HKM.out.cell 13) HRR.out.2.1 (fun y hy => ⟨HRR.out.2.2.1 y hy, (HEL.out (by trivial)).2 y hy, (HMM.out.en.val y hy).cap⟩)).mono ?_
            rintro e6 w6 ⟨rfl, ho6, ht6⟩
            have HO9 : Hid (OutB w6 g (([numB x.kind, numB x.fr, numB x.dst, numB x.ep, numB x.op, F0, F1, F2, F3, F4].take (5 + 4)).flatten)) := Lib.hid (by
              rw [← HFE.out] at ho6
              have e : ([numB x.kind, numB x.fr, numB x.dst, numB x.ep, numB x.op, F0, F1, F2, F3, F4].take (5 + 4)).flatten = ([numB x.kind, numB x.fr, numB x.dst, numB x.ep, numB x.op, F0, F1, F2, F3, F4].take (5 + 3)).flatten ++ F3 := by simp only [List.take_succ_cons, List.take_zero, List.flatten_cons, List.flatten_nil, List.append_nil, List.append_assoc]
              rw [e]; exact ho6)
            have HT9 := Lib.hid (HT8.out.trans ht6)
            clear ho6 ht6 zc
            go_wp2
            go_roundw
            case rel => exact ⟨4, by omega, rfl, HO9, HT9⟩
            case measure => simp [intOf]
          · subst gg
            have HFE := Lib.hid (HNO3.out rfl)
            have HO9 : Hid (OutB wr g (([numB x.kind, numB x.fr, numB x.dst, numB x.ep, numB x.op, F0, F1, F2, F3, F4].take (5 + 4)).flatten)) := Lib.hid (by
              have e : ([numB x.kind, numB x.fr, numB x.dst, numB x.ep, numB x.op, F0, F1, F2, F3, F4].take (5 + 4)).flatten = ([numB x.kind, numB x.fr, numB x.dst, numB x.ep, numB x.op, F0, F1, F2, F3, F4].take (5 + 3)).flatten := by
                rw [HFE.out]
                simp
              rw [e]; exact HO.out)
            clear zc
            go_wp2
            go_roundw
            case rel => exact ⟨4, by omega, rfl, HO9, HT8⟩
            case measure => simp [intOf]
        | 4, _, HO =>
          as_aux_lemma =>
          have zc : wr.cell? ⟨z, 4, none⟩ = some (.func (.func 37) #[] #[.pointer (some ⟨w.heap.size, 0, none⟩), .pointer (some ⟨g + 1, 0, none⟩)]) := HZZ.out.cell 4
          rcases Bool.eq_false_or_eq_true h4 with gg | gg
          · subst gg
            have HFE := Lib.hid (HYS4.out rfl)
            go_wp2_with fail
            refine (putring_any x.rA x.rc x.ns x.each x.keep (by have := HER.out (by trivial); omega) g (g + 1) w.heap.size _ (by have := HLK.out; have := HFL.out; simp only [List.take_succ_cons, List.take_zero, List.flatten_cons, List.flatten_nil, List.length_append, List.length_nil]; omega) wr HO.out HRR.out.2.2.2 (HNQ.out wr HTA.out) (HKM.out.cell 14) (HKM.out.cell 15) (HKM.out.cell 16)).mono ?_
            rintro e6 w6 ⟨rfl, ho6, ht6⟩
            have HO9 : Hid (OutB w6 g (([numB x.kind, numB x.fr, numB x.dst, numB x.ep, numB x.op, F0, F1, F2, F3, F4].take (5 + 5)).flatten)) := Lib.hid (by
              rw [← HFE.out] at ho6
              have e : ([numB x.kind, numB x.fr, numB x.dst, numB x.ep, numB x.op, F0, F1, F2, F3, F4].take (5 + 5)).flatten = ([numB x.kind, numB x.fr, numB x.dst, numB x.ep, numB x.op, F0, F1, F2, F3, F4].take (5 + 4)).flatten ++ F4 := by simp only [List.take_succ_cons, List.take_zero, List.flatten_cons, List.flatten_nil, List.append_nil, List.append_assoc]
              rw [e]; exact ho6)
            have HT9 := Lib.hid (HT8.out.trans ht6)
            clear ho6 ht6 zc
            go_wp2
            go_roundw
            case rel => exact ⟨5, by omega, rfl, HO9, HT9⟩
            case measure => simp [intOf]
          · subst gg
            have HFE := Lib.hid (HNO4.out rfl)
            have HO9 : Hid (OutB wr g (([numB x.kind, numB x.fr, numB x.dst, numB x.ep, numB x.op, F0, F1, F2, F3, F4].take (5 + 5)).flatten)) := Lib.hid (by
              have e : ([numB x.kind, numB x.fr, numB x.dst, numB x.ep, numB x.op, F0, F1, F2, F3, F4].take (5 + 5)).flatten = ([numB x.kind, numB x.fr, numB x.dst, numB x.ep, numB x.op, F0, F1, F2, F3, F4].take (5 + 4)).flatten := by
                rw [HFE.out]
                simp
              rw [e]; exact HO.out)
            clear zc
            go_wp2
            go_roundw
            case rel => exact ⟨5, by omega, rfl, HO9, HT8⟩
            case measure => simp [intOf]
        | 5, _, HO =>
          have HO9 : Hid (OutB wr g (putM (mP x))) := Lib.hid (by rw [← HPM.out]; simpa using HO.out)
          obtain ⟨A, c, hk, ho⟩ := HO9.out
          have d0 : wr.cell? ⟨g, 0, none⟩ = some (.slice A (putM (mP x)).length c) := hk.cell 0
          have HFIN : Hid (BytE (mP x) w (.returned (.tuple #[.slice A (putM (mP x)).length c, .int .i64 0])) wr) := Lib.hid (by
            unfold BytE
            rw [HBV.out]
            exact ⟨A, c, rfl, ownBase ho (by omega), HBX.out _ HTA.out⟩)
          generalize (putM (mP x)).length = PL at d0 HFIN
          clear hk ho
          go_wp2
          go_ret2
          exact HFIN.out
theorem bytes_any12 (x : MV) (w : World) (ht : KT w) (h : MsgM w x) : Calls Tryd.prog 12 #[.agg #[.int .i64 x.kind, .int .i64 x.fr, .int .i64 x.dst, .int .i64 x.ep, .int .i64 x.op, .int .i64 x.n, .bool x.flag, .string ⟨x.e.1.k.toArray⟩, .int .i64 x.e.1.s, .int .i64 x.e.1.u, .int .i64 x.e.1.o, .bool x.e.1.has, .slice x.e.2.1 x.e.1.v.length x.e.2.2, .slice x.lA x.l.length x.lc, .slice x.rA x.ns.length x.rc, .int .i64 x.each, .int .i64 x.keep]] w (BytE (mP x) w) := by
  cases h0 : okM (mP x)
  · exact bytes_no12 x h0 w ht h
  · exact bytes_yes12 x h0 w ht h
end Go.Proofs.YtgmennblbeefhaaDoor
