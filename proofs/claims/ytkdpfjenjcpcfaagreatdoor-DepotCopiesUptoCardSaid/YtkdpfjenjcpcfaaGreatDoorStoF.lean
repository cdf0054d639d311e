/- StoF: Package store: Put, walked.
   StoG: Package store: Put, of an entry that may be put.
   StoH: Package store: settle.
   StoI: Package store: Tick, rowsOf.
   StoJ: Package store: Compact. -/
import Derived.Test.YtkdpfjenjcpcfaaGreatDoorSto
import Derived.Test.YtkdpfjenjcpcfaaGreatDoorRgt8
import Derived.Deep.RegionHeld3
namespace Go.Proofs.YtkdpfjenjcpcfaaGreatDoor
open Go.RowKit Mem Be Word Frm Go.Maps
set_option maxRecDepth 10000
set_option maxHeartbeats 4000000
set_option linter.unusedVariables false
variable {KS KS' : StK}
/-- A Put's end: the ack is laid. -/
theorem stTo_ack {F F1 : Nat → Prop} {g q : Nat} {S1 : St8} {a : AckP} {w W w4 w5 : World} {FL FS : Nat → Prop} {lm fm : Option Nat} {TL TF : List EV} {A A' : Option Addr} {c c' : Nat}
    (hF : ∀ k, F1 k → F k ∨ w.heap.size ≤ k) (hto : Touch F w W) (hok : Ok8 S1) (h1 : entT TL = S1.L) (h2 : mergeT kE S1.L (entT TF) = S1.N) (h3 : TF.length ≤ S1.rs.length)
    (h : StB KS W F1 FL FS g S1.rs S1.m q lm fm TL TF A c S1.acks) (hb : Below W.heap.size W w4)
    (hown : w5.ownsRow 0 130 5 (.slice A' (S1.acks.length + 1) c') (S1.acks.length + 1) (acksC (S1.acks ++ [a]))) (hgr : w4.grownBy w5 (Value.slice A S1.acks.length c).ownBlock)
    (hat : (Value.slice A' (S1.acks.length + 1) c').ownBlock = (Value.slice A S1.acks.length c).ownBlock ∨ (Value.slice A' (S1.acks.length + 1) c').ownBlock = some w4.heap.size) :
    StTo KS (.int .i64 0) F g (pushS S1 a) q w (.returned (.int .i64 0)) (w5.setCell ⟨g, 7, none⟩ (.slice A' (S1.acks.length + 1) c')) := by
  obtain ⟨h4, h5, _, _⟩ := st_ack h hb hown hgr hat
  refine ⟨rfl, _, fun k hk => ?_, ⟨⟨hok.le, hok.newer, hok.lasts, hok.told⟩, FL, _, lm, fm, TL, TF, A', c', h1, h2, h3, h4⟩, hto.trans h5 hF⟩
  rcases hk.1 with h6 | h6
  · exact hF k h6
  · exact Or.inr (Nat.le_trans hto.size h6)
theorem right_val {x : EV} {r : Int} (h : rightE x.1.k.length x.1.v.length x.1.s x.1.u x.1.o x.1.has = r) (hl : (x.1.v.length : Int) ≤ 9223372036854775807) (hk : (x.1.k.length : Int) ≤ 9223372036854775807) (W : World) : Calls Tryz.prog 107 #[entV ⟨x.1.k.toArray⟩ x.1.s x.1.u x.1.o x.1.has x.2.1 x.1.v.length x.2.2] W (IsI r W) := by
  have hs : (⟨x.1.k.toArray⟩ : ByteArray).size = x.1.k.length := by show x.1.k.toArray.size = _; simp
  have := right_big ⟨x.1.k.toArray⟩ x.1.s x.1.u x.1.o x.1.has x.2.1 x.1.v.length x.2.2 hl (by rw [hs]; exact hk) W
  rw [hs, h] at this
  exact this
theorem stTo_stay {v : Value} {F : Nat → Prop} {g q : Nat} {S : St8} {w w1 : World} (h : StAt KS w F g S q) (hb : Below w.heap.size w w1) : StTo KS v F g S q w (.returned v) w1 := ⟨rfl, F, fun k hk => Or.inl hk, h.below hb, Touch.ofBelow hb⟩
/-- A Put that is refused. -/
theorem put_refused (F : Nat → Prop) (g q : Nat) (S : St8) (x : EV) (who : Int) (hno : ¬ mayP x.1 who) (hl : (x.1.v.length : Int) ≤ 9223372036854775807) (hk : (x.1.k.length : Int) ≤ 9223372036854775807) (w : World) (h : StAt KS w F g S q) :
    Calls Tryz.prog 81 #[.pointer (some ⟨g, 0, none⟩), evV x, .int .i64 who] w (StTo KS (.int .i64 2) F g S q w) := by
  have HS := Lib.hid h
  have HBL := Lib.hid (Blk.new w 46 ⟨entC x⟩)
  have HAL : Hid (Below w.heap.size w (w.alloc (.cells ⟨entC x⟩ 46))) := Lib.hid ((Below.refl _ _).alloc (Nat.le_refl _) _)
  rcases rightE_02 x.1.k.length x.1.v.length x.1.s x.1.u x.1.o x.1.has with hr | hr
  · have HR := Lib.hid (right_val hr hl hk)
    cases hs : (x.1.s == 0)
    · have hne : x.1.s ≠ 0 := by simpa using hs
      have HNN := Lib.hid hs
      have HW : Hid (who < 0 ∨ 1048575 < who) := Lib.hid (by
        by_cases h1 : who < 0
        · exact Or.inl h1
        · refine Or.inr ?_
          by_cases h2 : 1048575 < who
          · exact h2
          · exact absurd ⟨hr, hne, by omega, by omega⟩ hno)
      clear h hno hr hl hk hs hne
      unfold evV
      rcases HW.out with hw | hw
      · go_enter Tryz.func81, Tryz.ntmps81
        go_wp2_with (first
          | (go_at_call 107; refine (HR.out _).mono ?_; rintro e w1 ⟨rfl, hb⟩; (have HB1 : Hid (Below w.heap.size w w1) := Lib.hid (HAL.out.trans (hb.mono HAL.out.size))); (have HK1 := Lib.hid (HBL.out.below hb HBL.out.lt)); (have t1 : w1.cell? ⟨w.heap.size, 1, none⟩ = some (.int .i64 x.1.s) := HK1.out.cell 1); (have t2 : w1.cell? ⟨w.heap.size, 2, none⟩ = some (.int .i64 x.1.u) := HK1.out.cell 2); (have t3 : w1.cell? ⟨w.heap.size, 3, none⟩ = some (.int .i64 x.1.o) := HK1.out.cell 3); clear hb)
          | (go_at_call 113; refine (none_val _ _ _ _ HNN _).mono ?_; rintro e w2 ⟨rfl, hb⟩; (have HB2 : Hid (Below w.heap.size w w2) := Lib.hid (HB1.out.trans (hb.mono HB1.out.size))); clear hb))
        go_ret
        exact stTo_stay HS.out HB2.out
      · have hw0 : (0 : Int) ≤ who := by omega
        go_enter Tryz.func81, Tryz.ntmps81
        go_wp2_with (first
          | (go_at_call 107; refine (HR.out _).mono ?_; rintro e w1 ⟨rfl, hb⟩; (have HB1 : Hid (Below w.heap.size w w1) := Lib.hid (HAL.out.trans (hb.mono HAL.out.size))); (have HK1 := Lib.hid (HBL.out.below hb HBL.out.lt)); (have t1 : w1.cell? ⟨w.heap.size, 1, none⟩ = some (.int .i64 x.1.s) := HK1.out.cell 1); (have t2 : w1.cell? ⟨w.heap.size, 2, none⟩ = some (.int .i64 x.1.u) := HK1.out.cell 2); (have t3 : w1.cell? ⟨w.heap.size, 3, none⟩ = some (.int .i64 x.1.o) := HK1.out.cell 3); clear hb)
          | (go_at_call 113; refine (none_val _ _ _ _ HNN _).mono ?_; rintro e w2 ⟨rfl, hb⟩; (have HB2 : Hid (Below w.heap.size w w2) := Lib.hid (HB1.out.trans (hb.mono HB1.out.size))); clear hb))
        go_ret
        exact stTo_stay HS.out HB2.out
    · have HNN := Lib.hid hs
      clear h hno hr hl hk hs
      unfold evV
      go_enter Tryz.func81, Tryz.ntmps81
      go_wp2_with (first
        | (go_at_call 107; refine (HR.out _).mono ?_; rintro e w1 ⟨rfl, hb⟩; (have HB1 : Hid (Below w.heap.size w w1) := Lib.hid (HAL.out.trans (hb.mono HAL.out.size))); (have HK1 := Lib.hid (HBL.out.below hb HBL.out.lt)); (have t1 : w1.cell? ⟨w.heap.size, 1, none⟩ = some (.int .i64 x.1.s) := HK1.out.cell 1); (have t2 : w1.cell? ⟨w.heap.size, 2, none⟩ = some (.int .i64 x.1.u) := HK1.out.cell 2); (have t3 : w1.cell? ⟨w.heap.size, 3, none⟩ = some (.int .i64 x.1.o) := HK1.out.cell 3); clear hb)
        | (go_at_call 113; refine (none_val _ _ _ _ HNN _).mono ?_; rintro e w2 ⟨rfl, hb⟩; (have HB2 : Hid (Below w.heap.size w w2) := Lib.hid (HB1.out.trans (hb.mono HB1.out.size))); clear hb))
      go_ret
      exact stTo_stay HS.out HB2.out
  · have HR := Lib.hid (right_val hr hl hk)
    clear h hno hr hl hk
    unfold evV
    go_enter Tryz.func81, Tryz.ntmps81
    go_wp2_with (go_at_call 107; refine (HR.out _).mono ?_; rintro e w1 ⟨rfl, hb⟩; (have HB1 : Hid (Below w.heap.size w w1) := Lib.hid (HAL.out.trans (hb.mono HAL.out.size))); clear hb)
    go_ret
    exact stTo_stay HS.out HB1.out
end Go.Proofs.YtkdpfjenjcpcfaaGreatDoor
namespace Go.Proofs.YtkdpfjenjcpcfaaGreatDoor
open Go.RowKit Mem Be Word Frm Go.Maps
set_option maxRecDepth 10000
set_option maxHeartbeats 4000000
set_option linter.unusedVariables false
variable {KS KS' : StK}
theorem field_tag (k : ByteArray) (s u o : Int) (has : Bool) (A : Option Addr) (m c : Nat) (W : World) : (Instr.field 46 (entV k s u o has A m c) 1).run Tryz.prog W = .ok (.agg #[.int .i64 s, .int .i64 u, .int .i64 o]) W := by
  kernel_rfl
theorem put_elder (F : Nat → Prop) (g q : Nat) (S : St8) (x : EV) (who : Int) (hm : mayP x.1 who) (hacks : S.acks.length ≤ 1466015503701) (w : World) (h : StAt KS w F g S q) (hv : ValOk w x.1.has x.2.1 x.1.v x.2.2) (hN : RowN F w x.2.1 (x.1.v.map byteV)) (hgt : ¬ 0 < cmpE x.1 (ofT S.N x.1.k)) :
    Calls Tryz.prog 81 #[.pointer (some ⟨g, 0, none⟩), evV x, .int .i64 who] w (StTo KS (.int .i64 0) F g (pushS S (ackOf x.1 who)) q w) := by
  obtain ⟨y, hy1, hy2, hy3⟩ := newest_any8 F g q S x.1.k (by have := (rightE_yes hm.1).2.1; unfold maxLen; omega) w h
  obtain ⟨cv, hcv⟩ : ∃ cv, cmpE x.1 y.1 = cv := ⟨_, rfl⟩
  rw [← hy1, hcv] at hgt
  have HCV : Hid (cmpT x.1.s x.1.u x.1.o y.1.s y.1.u y.1.o = cv) := Lib.hid hcv
  have HNW := Lib.hid hy3
  have HY := Lib.hid hy1
  have HS := Lib.hid h
  have HM := Lib.hid hm
  have HAC := Lib.hid hacks
  have HV := Lib.hid hv
  have HRN := Lib.hid hN
  have HR := Lib.hid (right_val (x := x) hm.1 (by have := rightE_yes hm.1; omega) (by have := rightE_yes hm.1; omega))
  have hs : (x.1.s == 0) = false := by simpa using hm.2.1
  have HNN := Lib.hid hs
  have hw0 : (0 : Int) ≤ who := hm.2.2.1
  have hw1 : who ≤ 1048575 := hm.2.2.2
  have HBL := Lib.hid (Blk.new w 46 ⟨entC x⟩)
  have HAL : Hid (Below w.heap.size w (w.alloc (.cells ⟨entC x⟩ 46))) := Lib.hid ((Below.refl _ _).alloc (Nat.le_refl _) _)
  have hgl : g < w.heap.size := by
    obtain ⟨h0, FL, FS, lm, fm, TL, TF, A, c, h1, h2, hfl, h⟩ := h
    exact block_lt (lst_c5 h.lg)
  obtain ⟨i1, hi1, hk1, hk2, hk3⟩ := info_parts info_ack
  clear h hm hacks hv hN hy1 hy2 hy3 hs hcv
  unfold evV
  go_enter Tryz.func81, Tryz.ntmps81
  go_wp2_with (first
    | (go_at_call 107; refine (HR.out _).mono ?_; rintro e w1 ⟨rfl, hb⟩; (have HB1 : Hid (Below w.heap.size w w1) := Lib.hid (HAL.out.trans (hb.mono HAL.out.size))); (have HK1 := Lib.hid (HBL.out.below hb HBL.out.lt)); (have t1 : w1.cell? ⟨w.heap.size, 1, none⟩ = some (.int .i64 x.1.s) := HK1.out.cell 1); (have t2 : w1.cell? ⟨w.heap.size, 2, none⟩ = some (.int .i64 x.1.u) := HK1.out.cell 2); (have t3 : w1.cell? ⟨w.heap.size, 3, none⟩ = some (.int .i64 x.1.o) := HK1.out.cell 3); clear hb)
    | (go_at_call 113; refine (none_val _ _ _ _ HNN _).mono ?_; rintro e w2 ⟨rfl, hb⟩; (have HB2 : Hid (Below w.heap.size w w2) := Lib.hid (HB1.out.trans (hb.mono HB1.out.size))); (have HK2 := Lib.hid (HK1.out.below hb HK1.out.lt)); clear hb t1 t2 t3))
  have s0 : w2.cell? ⟨w.heap.size, 0, none⟩ = some (.string ⟨x.1.k.toArray⟩) := HK2.out.cell 0
  have s1 : w2.cell? ⟨w.heap.size, 1, none⟩ = some (.int .i64 x.1.s) := HK2.out.cell 1
  have s2 : w2.cell? ⟨w.heap.size, 2, none⟩ = some (.int .i64 x.1.u) := HK2.out.cell 2
  have s3 : w2.cell? ⟨w.heap.size, 3, none⟩ = some (.int .i64 x.1.o) := HK2.out.cell 3
  have HSK : Hid (∀ W' : World, Below w2.heap.size w2 W' → W'.cell? ⟨w.heap.size, 0, none⟩ = some (.string ⟨x.1.k.toArray⟩) ∧ W'.cell? ⟨w.heap.size, 1, none⟩ = some (.int .i64 x.1.s) ∧ W'.cell? ⟨w.heap.size, 2, none⟩ = some (.int .i64 x.1.u) ∧ W'.cell? ⟨w.heap.size, 3, none⟩ = some (.int .i64 x.1.o)) := Lib.hid fun W' h => by
    have hb := HK2.out.below h HK2.out.lt
    exact ⟨hb.cell 0, hb.cell 1, hb.cell 2, hb.cell 3⟩
  have hfld := field_tag ⟨y.1.k.toArray⟩ y.1.s y.1.u y.1.o y.1.has y.2.1 y.1.v.length y.2.2
  have HDR : Hid (Below w2.heap.size w2 w2.drew) := Lib.hid (Below.refl _ _).drew
  go_region_held3 (fun w' => w'.cell? ⟨w.heap.size, 0, none⟩ = some (.string ⟨x.1.k.toArray⟩) ∧ w'.cell? ⟨w.heap.size, 1, none⟩ = some (.int .i64 x.1.s) ∧ w'.cell? ⟨w.heap.size, 2, none⟩ = some (.int .i64 x.1.u) ∧ w'.cell? ⟨w.heap.size, 3, none⟩ = some (.int .i64 x.1.o))
    (first | go_keep | exact HSK.out _ HWD.out | exact HSK.out _ HWC.out)
    (first
      | (go_at_call 115; refine (HNW.out _ (HB2.out.trans (HDR.out.mono HB2.out.size))).mono ?_; rintro e w3 ⟨rfl, hb⟩; (have HWC : Hid (Below w2.heap.size w2 w3) := Lib.hid (HDR.out.trans (hb.mono HDR.out.size))); clear hb; unfold evV)
      | (go_at_call 114; refine (compare_val _ _ _ _ _ _ _ HCV _).mono ?_; rintro e w4 ⟨rfl, hb⟩; (have HWD : Hid (Below w2.heap.size w2 w4) := Lib.hid (HWC.out.trans (hb.mono HWC.out.size))); clear hb))
  clear s0 s1 s2 s3 hfld
  have HBP : Hid (Below w.heap.size w w4) := Lib.hid (HB2.out.trans (HWD.out.mono HB2.out.size))
  have HKP := Lib.hid (HK2.out.below HWD.out HK2.out.lt)
  have hle : cv ≤ 0 := by omega
  obtain ⟨hok1, FL, FS, lm, fm, TL, TF, A, c, h1, h2, hfl, hB⟩ := HS.out.below HBP.out
  have HOK1 := Lib.hid hok1
  have H12 := Lib.hid (And.intro h1 (And.intro h2 hfl))
  have HSB := Lib.hid hB
  have c7 : w4.cell? ⟨g, 7, none⟩ = some (.slice A (S).acks.length c) := lst_c7 hB.lg
  have hown := hB.own
  have hBDR : Below w4.heap.size w4 ((w4.alloc (.cells ⟨ackC (ackOf x.1 who)⟩ 130)).drew) := ((Below.refl _ _).alloc (Nat.le_refl _) _).drew
  have HBDR := Lib.hid hBDR
  have HOA : Hid (((w4.alloc (.cells ⟨ackC (ackOf x.1 who)⟩ 130)).drew).ownsRow 0 130 5 (.slice A (S).acks.length c) (S).acks.length (acksC (S).acks)) := Lib.hid (ownLater hown hBDR)
  have HRL : Hid (Row ((w4.alloc (.cells ⟨ackC (ackOf x.1 who)⟩ 130)).drew) (w4.heap.size + 1) (some ⟨w4.heap.size, 0, none⟩) (acksC [ackOf x.1 who])) := Lib.hid (ack_lit (by exact Blk.new w4 130 ⟨ackC (ackOf x.1 who)⟩) (Nat.lt_succ_self _))
  have s0 : w4.cell? ⟨w.heap.size, 0, none⟩ = some (.string ⟨x.1.k.toArray⟩) := HKP.out.cell 0
  have s1 : w4.cell? ⟨w.heap.size, 1, none⟩ = some (.int .i64 x.1.s) := HKP.out.cell 1
  have s2 : w4.cell? ⟨w.heap.size, 2, none⟩ = some (.int .i64 x.1.u) := HKP.out.cell 2
  have s3 : w4.cell? ⟨w.heap.size, 3, none⟩ = some (.int .i64 x.1.o) := HKP.out.cell 3
  have c7a : (w4.alloc (.cells #[.int .i64 who, .string ⟨x.1.k.toArray⟩, .int .i64 x.1.s, .int .i64 x.1.u, .int .i64 x.1.o] 130)).cell? ⟨g, 7, none⟩ = some (.slice A (S).acks.length c) := cell_al _ c7
  clear hok1 h1 h2 hfl hB hown hBDR
  go_wp2_with fail
  go_region_law (refine step_appS (P := Tryz.prog) (by rfl) _ _ _ (by rfl) 0 130 i1 (.agg #[.int .i64 0, .string .empty, .int .i64 0, .int .i64 0, .int .i64 0]) 5 48 Tryz.underlying34 hi1 hk1 hk2 hk3 rfl (by decide) (.slice A (S).acks.length c) (S).acks.length (acksC (S).acks) (by rfl) (by exact HOA.out) (w4.heap.size + 1) (some ⟨w4.heap.size, 0, none⟩) 1 1 (acksC [ackOf x.1 who]) (by rfl) (by rfl) (by exact HRL.out) (acksC_one _) (by have := HAC.out; unfold maxLen; omega) (by have := HAC.out; omega) (Nat.zero_le _) ?_; intro v' w7 hown hgr hat; obtain ⟨A7, c7', rfl, _, _⟩ := ownShape hown; (have HPU := Lib.hid (stTo_ack (w4 := (w4.alloc (.cells ⟨ackC (ackOf x.1 who)⟩ 130)).drew) (fun k hk => Or.inl hk) (Touch.ofBelow HBP.out) HOK1.out H12.out.1 H12.out.2.1 H12.out.2.2 HSB.out HBDR.out (by rw [acksC_app]; exact hown) hgr hat)); (have hx7 := st_ack (a := ackOf x.1 who) HSB.out HBDR.out (by rw [acksC_app]; exact hown) hgr hat); have e7 := hx7.2.2.1; have z7 := hx7.2.2.2; clear hown hgr hat hx7)
  all_goals
    go_wp2
    go_ret
    exact HPU.out
theorem put_newer (F : Nat → Prop) (g q : Nat) (S : St8) (x : EV) (who : Int) (hm : mayP x.1 who) (hacks : S.acks.length ≤ 1466015503701) (w : World) (h : StAt KS w F g S q) (hv : ValOk w x.1.has x.2.1 x.1.v x.2.2) (hN : RowN F w x.2.1 (x.1.v.map byteV)) (hgt : 0 < cmpE x.1 (ofT S.N x.1.k)) (hfit : (allB (S.rs ++ [(1, putE x.1)])).length ≤ 4194304) :
    Calls Tryz.prog 81 #[.pointer (some ⟨g, 0, none⟩), evV x, .int .i64 who] w (StTo KS (.int .i64 0) F g (pushS (writeS S x.1).1 (ackOf x.1 who)) q w) := by
  have hWS : writeS S x.1 = (⟨S.rs ++ [(1, putE x.1)], S.m, S.L, putK kE S.N x.1, S.acks⟩, 0) := if_pos hfit
  rw [hWS]
  simp only
  have HWS := Lib.hid hWS
  obtain ⟨S1, hS1⟩ : ∃ S1, (⟨S.rs ++ [(1, putE x.1)], S.m, S.L, putK kE S.N x.1, S.acks⟩ : St8) = S1 := ⟨_, rfl⟩
  have HSA : Hid (S1.acks = S.acks) := Lib.hid (by rw [← hS1])
  have HS1 := Lib.hid hS1
  rw [hS1]
  clear hWS hfit hS1
  obtain ⟨y, hy1, hy2, hy3⟩ := newest_any8 F g q S x.1.k (by have := (rightE_yes hm.1).2.1; unfold maxLen; omega) w h
  obtain ⟨cv, hcv⟩ : ∃ cv, cmpE x.1 y.1 = cv := ⟨_, rfl⟩
  rw [← hy1, hcv] at hgt
  have HCV : Hid (cmpT x.1.s x.1.u x.1.o y.1.s y.1.u y.1.o = cv) := Lib.hid hcv
  have HNW := Lib.hid hy3
  have HY := Lib.hid hy1
  have HS := Lib.hid h
  have HM := Lib.hid hm
  have HAC := Lib.hid hacks
  have HV := Lib.hid hv
  have HRN := Lib.hid hN
  have HR := Lib.hid (right_val (x := x) hm.1 (by have := rightE_yes hm.1; omega) (by have := rightE_yes hm.1; omega))
  have hs : (x.1.s == 0) = false := by simpa using hm.2.1
  have HNN := Lib.hid hs
  have hw0 : (0 : Int) ≤ who := hm.2.2.1
  have hw1 : who ≤ 1048575 := hm.2.2.2
  have HBL := Lib.hid (Blk.new w 46 ⟨entC x⟩)
  have HAL : Hid (Below w.heap.size w (w.alloc (.cells ⟨entC x⟩ 46))) := Lib.hid ((Below.refl _ _).alloc (Nat.le_refl _) _)
  have hgl : g < w.heap.size := by
    obtain ⟨h0, FL, FS, lm, fm, TL, TF, A, c, h1, h2, hfl, h⟩ := h
    exact block_lt (lst_c5 h.lg)
  obtain ⟨i1, hi1, hk1, hk2, hk3⟩ := info_parts info_ack
  clear h hm hacks hv hN hy1 hy2 hy3 hs hcv
  unfold evV
  go_enter Tryz.func81, Tryz.ntmps81
  go_wp2_with (first
    | (go_at_call 107; refine (HR.out _).mono ?_; rintro e w1 ⟨rfl, hb⟩; (have HB1 : Hid (Below w.heap.size w w1) := Lib.hid (HAL.out.trans (hb.mono HAL.out.size))); (have HK1 := Lib.hid (HBL.out.below hb HBL.out.lt)); (have t1 : w1.cell? ⟨w.heap.size, 1, none⟩ = some (.int .i64 x.1.s) := HK1.out.cell 1); (have t2 : w1.cell? ⟨w.heap.size, 2, none⟩ = some (.int .i64 x.1.u) := HK1.out.cell 2); (have t3 : w1.cell? ⟨w.heap.size, 3, none⟩ = some (.int .i64 x.1.o) := HK1.out.cell 3); clear hb)
    | (go_at_call 113; refine (none_val _ _ _ _ HNN _).mono ?_; rintro e w2 ⟨rfl, hb⟩; (have HB2 : Hid (Below w.heap.size w w2) := Lib.hid (HB1.out.trans (hb.mono HB1.out.size))); (have HK2 := Lib.hid (HK1.out.below hb HK1.out.lt)); clear hb t1 t2 t3))
  have s0 : w2.cell? ⟨w.heap.size, 0, none⟩ = some (.string ⟨x.1.k.toArray⟩) := HK2.out.cell 0
  have s1 : w2.cell? ⟨w.heap.size, 1, none⟩ = some (.int .i64 x.1.s) := HK2.out.cell 1
  have s2 : w2.cell? ⟨w.heap.size, 2, none⟩ = some (.int .i64 x.1.u) := HK2.out.cell 2
  have s3 : w2.cell? ⟨w.heap.size, 3, none⟩ = some (.int .i64 x.1.o) := HK2.out.cell 3
  have HSK : Hid (∀ W' : World, Below w2.heap.size w2 W' → W'.cell? ⟨w.heap.size, 0, none⟩ = some (.string ⟨x.1.k.toArray⟩) ∧ W'.cell? ⟨w.heap.size, 1, none⟩ = some (.int .i64 x.1.s) ∧ W'.cell? ⟨w.heap.size, 2, none⟩ = some (.int .i64 x.1.u) ∧ W'.cell? ⟨w.heap.size, 3, none⟩ = some (.int .i64 x.1.o)) := Lib.hid fun W' h => by
    have hb := HK2.out.below h HK2.out.lt
    exact ⟨hb.cell 0, hb.cell 1, hb.cell 2, hb.cell 3⟩
  have hfld := field_tag ⟨y.1.k.toArray⟩ y.1.s y.1.u y.1.o y.1.has y.2.1 y.1.v.length y.2.2
  have HDR : Hid (Below w2.heap.size w2 w2.drew) := Lib.hid (Below.refl _ _).drew
  go_region_held3 (fun w' => w'.cell? ⟨w.heap.size, 0, none⟩ = some (.string ⟨x.1.k.toArray⟩) ∧ w'.cell? ⟨w.heap.size, 1, none⟩ = some (.int .i64 x.1.s) ∧ w'.cell? ⟨w.heap.size, 2, none⟩ = some (.int .i64 x.1.u) ∧ w'.cell? ⟨w.heap.size, 3, none⟩ = some (.int .i64 x.1.o))
    (first | go_keep | exact HSK.out _ HWD.out | exact HSK.out _ HWC.out)
    (first
      | (go_at_call 115; refine (HNW.out _ (HB2.out.trans (HDR.out.mono HB2.out.size))).mono ?_; rintro e w3 ⟨rfl, hb⟩; (have HWC : Hid (Below w2.heap.size w2 w3) := Lib.hid (HDR.out.trans (hb.mono HDR.out.size))); clear hb; unfold evV)
      | (go_at_call 114; refine (compare_val _ _ _ _ _ _ _ HCV _).mono ?_; rintro e w4 ⟨rfl, hb⟩; (have HWD : Hid (Below w2.heap.size w2 w4) := Lib.hid (HWC.out.trans (hb.mono HWC.out.size))); clear hb))
  clear s0 s1 s2 s3 hfld
  have HBP : Hid (Below w.heap.size w w4) := Lib.hid (HB2.out.trans (HWD.out.mono HB2.out.size))
  have HKP := Lib.hid (HK2.out.below HWD.out HK2.out.lt)
  have hgt' : (0 : Int) < cv := hgt
  have hWR := write_any8 F g q S x HM.out.1 HM.out.2.1 (by rw [← HY.out]; unfold cmpE; have := HCV.out; omega) w4 (HS.out.below HBP.out) (HV.out.below HBP.out) (RowN.touch HRN.out (Touch.ofBelow HBP.out))
  have t0 : w4.cell? ⟨w.heap.size, 0, none⟩ = some (.string ⟨x.1.k.toArray⟩) := HKP.out.cell 0
  have t1 : w4.cell? ⟨w.heap.size, 1, none⟩ = some (.int .i64 x.1.s) := HKP.out.cell 1
  have t2 : w4.cell? ⟨w.heap.size, 2, none⟩ = some (.int .i64 x.1.u) := HKP.out.cell 2
  have t3 : w4.cell? ⟨w.heap.size, 3, none⟩ = some (.int .i64 x.1.o) := HKP.out.cell 3
  have t4 : w4.cell? ⟨w.heap.size, 4, none⟩ = some (.bool x.1.has) := HKP.out.cell 4
  have t5 : w4.cell? ⟨w.heap.size, 5, none⟩ = some (.slice x.2.1 x.1.v.length x.2.2) := HKP.out.cell 5
  rw [HWS.out, HS1.out] at hWR
  simp only at hWR
  have HWR := Lib.hid hWR
  clear hWR
  go_wp2_with fail
  refine HWR.out.mono ?_
  rintro e w5 ⟨rfl, F5, hF5, hst5, hto5⟩
  have HK5 : Hid (Blk w5 w.heap.size 46 ⟨entC x⟩) := Lib.hid ((hto5.block _ HKP.out.lt fun hf => by have := HS.out.lt _ hf; omega).trans HKP.out)
  have HF5 : Hid (∀ k, F5 k → F k ∨ w.heap.size ≤ k) := Lib.hid fun k hk => by
    rcases hF5 k hk with h | h
    · exact Or.inl h
    · exact Or.inr (Nat.le_trans HBP.out.size h)
  have HT5 : Hid (Touch F w w5) := Lib.hid ((Touch.ofBelow HBP.out).trans hto5 fun k hk => Or.inl hk)
  have HST5 := Lib.hid hst5
  rw [← HSA.out] at HAC
  clear hF5 hst5 hto5 t0 t1 t2 t3 t4 t5 HWR
  obtain ⟨hok1, FL, FS, lm, fm, TL, TF, A, c, h1, h2, hfl, hB⟩ := HST5.out
  have HOK1 := Lib.hid hok1
  have H12 := Lib.hid (And.intro h1 (And.intro h2 hfl))
  have HSB := Lib.hid hB
  have c7 : w5.cell? ⟨g, 7, none⟩ = some (.slice A (S1).acks.length c) := lst_c7 hB.lg
  have hown := hB.own
  have hBDR : Below w5.heap.size w5 ((w5.alloc (.cells ⟨ackC (ackOf x.1 who)⟩ 130)).drew) := ((Below.refl _ _).alloc (Nat.le_refl _) _).drew
  have HBDR := Lib.hid hBDR
  have HOA : Hid (((w5.alloc (.cells ⟨ackC (ackOf x.1 who)⟩ 130)).drew).ownsRow 0 130 5 (.slice A (S1).acks.length c) (S1).acks.length (acksC (S1).acks)) := Lib.hid (ownLater hown hBDR)
  have HRL : Hid (Row ((w5.alloc (.cells ⟨ackC (ackOf x.1 who)⟩ 130)).drew) (w5.heap.size + 1) (some ⟨w5.heap.size, 0, none⟩) (acksC [ackOf x.1 who])) := Lib.hid (ack_lit (by exact Blk.new w5 130 ⟨ackC (ackOf x.1 who)⟩) (Nat.lt_succ_self _))
  have s0 : w5.cell? ⟨w.heap.size, 0, none⟩ = some (.string ⟨x.1.k.toArray⟩) := HK5.out.cell 0
  have s1 : w5.cell? ⟨w.heap.size, 1, none⟩ = some (.int .i64 x.1.s) := HK5.out.cell 1
  have s2 : w5.cell? ⟨w.heap.size, 2, none⟩ = some (.int .i64 x.1.u) := HK5.out.cell 2
  have s3 : w5.cell? ⟨w.heap.size, 3, none⟩ = some (.int .i64 x.1.o) := HK5.out.cell 3
  have c7a : (w5.alloc (.cells #[.int .i64 who, .string ⟨x.1.k.toArray⟩, .int .i64 x.1.s, .int .i64 x.1.u, .int .i64 x.1.o] 130)).cell? ⟨g, 7, none⟩ = some (.slice A (S1).acks.length c) := cell_al _ c7
  clear hok1 h1 h2 hfl hB hown hBDR
  go_wp2_with fail
  go_region_law (refine step_appS (P := Tryz.prog) (by rfl) _ _ _ (by rfl) 0 130 i1 (.agg #[.int .i64 0, .string .empty, .int .i64 0, .int .i64 0, .int .i64 0]) 5 48 Tryz.underlying34 hi1 hk1 hk2 hk3 rfl (by decide) (.slice A (S1).acks.length c) (S1).acks.length (acksC (S1).acks) (by rfl) (by exact HOA.out) (w5.heap.size + 1) (some ⟨w5.heap.size, 0, none⟩) 1 1 (acksC [ackOf x.1 who]) (by rfl) (by rfl) (by exact HRL.out) (acksC_one _) (by have := HAC.out; unfold maxLen; omega) (by have := HAC.out; omega) (Nat.zero_le _) ?_; intro v' w7 hown hgr hat; obtain ⟨A7, c7', rfl, _, _⟩ := ownShape hown; (have HPU := Lib.hid (stTo_ack (w4 := (w5.alloc (.cells ⟨ackC (ackOf x.1 who)⟩ 130)).drew) HF5.out HT5.out HOK1.out H12.out.1 H12.out.2.1 H12.out.2.2 HSB.out HBDR.out (by rw [acksC_app]; exact hown) hgr hat)); (have hx7 := st_ack (a := ackOf x.1 who) HSB.out HBDR.out (by rw [acksC_app]; exact hown) hgr hat); have e7 := hx7.2.2.1; have z7 := hx7.2.2.2; clear hown hgr hat hx7)
  all_goals
    go_wp2
    go_ret
    exact HPU.out
theorem put_full (F : Nat → Prop) (g q : Nat) (S : St8) (x : EV) (who : Int) (hm : mayP x.1 who) (hacks : S.acks.length ≤ 1466015503701) (w : World) (h : StAt KS w F g S q) (hv : ValOk w x.1.has x.2.1 x.1.v x.2.2) (hN : RowN F w x.2.1 (x.1.v.map byteV)) (hgt : 0 < cmpE x.1 (ofT S.N x.1.k)) (hfit : ¬ (allB (S.rs ++ [(1, putE x.1)])).length ≤ 4194304) :
    Calls Tryz.prog 81 #[.pointer (some ⟨g, 0, none⟩), evV x, .int .i64 who] w (StTo KS (.int .i64 3) F g S q w) := by
  have hWS : writeS S x.1 = (S, 3) := if_neg hfit
  have HWS := Lib.hid hWS
  clear hWS hfit
  obtain ⟨y, hy1, hy2, hy3⟩ := newest_any8 F g q S x.1.k (by have := (rightE_yes hm.1).2.1; unfold maxLen; omega) w h
  obtain ⟨cv, hcv⟩ : ∃ cv, cmpE x.1 y.1 = cv := ⟨_, rfl⟩
  rw [← hy1, hcv] at hgt
  have HCV : Hid (cmpT x.1.s x.1.u x.1.o y.1.s y.1.u y.1.o = cv) := Lib.hid hcv
  have HNW := Lib.hid hy3
  have HY := Lib.hid hy1
  have HS := Lib.hid h
  have HM := Lib.hid hm
  have HAC := Lib.hid hacks
  have HV := Lib.hid hv
  have HRN := Lib.hid hN
  have HR := Lib.hid (right_val (x := x) hm.1 (by have := rightE_yes hm.1; omega) (by have := rightE_yes hm.1; omega))
  have hs : (x.1.s == 0) = false := by simpa using hm.2.1
  have HNN := Lib.hid hs
  have hw0 : (0 : Int) ≤ who := hm.2.2.1
  have hw1 : who ≤ 1048575 := hm.2.2.2
  have HBL := Lib.hid (Blk.new w 46 ⟨entC x⟩)
  have HAL : Hid (Below w.heap.size w (w.alloc (.cells ⟨entC x⟩ 46))) := Lib.hid ((Below.refl _ _).alloc (Nat.le_refl _) _)
  have hgl : g < w.heap.size := by
    obtain ⟨h0, FL, FS, lm, fm, TL, TF, A, c, h1, h2, hfl, h⟩ := h
    exact block_lt (lst_c5 h.lg)
  obtain ⟨i1, hi1, hk1, hk2, hk3⟩ := info_parts info_ack
  clear h hm hacks hv hN hy1 hy2 hy3 hs hcv
  unfold evV
  go_enter Tryz.func81, Tryz.ntmps81
  go_wp2_with (first
    | (go_at_call 107; refine (HR.out _).mono ?_; rintro e w1 ⟨rfl, hb⟩; (have HB1 : Hid (Below w.heap.size w w1) := Lib.hid (HAL.out.trans (hb.mono HAL.out.size))); (have HK1 := Lib.hid (HBL.out.below hb HBL.out.lt)); (have t1 : w1.cell? ⟨w.heap.size, 1, none⟩ = some (.int .i64 x.1.s) := HK1.out.cell 1); (have t2 : w1.cell? ⟨w.heap.size, 2, none⟩ = some (.int .i64 x.1.u) := HK1.out.cell 2); (have t3 : w1.cell? ⟨w.heap.size, 3, none⟩ = some (.int .i64 x.1.o) := HK1.out.cell 3); clear hb)
    | (go_at_call 113; refine (none_val _ _ _ _ HNN _).mono ?_; rintro e w2 ⟨rfl, hb⟩; (have HB2 : Hid (Below w.heap.size w w2) := Lib.hid (HB1.out.trans (hb.mono HB1.out.size))); (have HK2 := Lib.hid (HK1.out.below hb HK1.out.lt)); clear hb t1 t2 t3))
  have s0 : w2.cell? ⟨w.heap.size, 0, none⟩ = some (.string ⟨x.1.k.toArray⟩) := HK2.out.cell 0
  have s1 : w2.cell? ⟨w.heap.size, 1, none⟩ = some (.int .i64 x.1.s) := HK2.out.cell 1
  have s2 : w2.cell? ⟨w.heap.size, 2, none⟩ = some (.int .i64 x.1.u) := HK2.out.cell 2
  have s3 : w2.cell? ⟨w.heap.size, 3, none⟩ = some (.int .i64 x.1.o) := HK2.out.cell 3
  have HSK : Hid (∀ W' : World, Below w2.heap.size w2 W' → W'.cell? ⟨w.heap.size, 0, none⟩ = some (.string ⟨x.1.k.toArray⟩) ∧ W'.cell? ⟨w.heap.size, 1, none⟩ = some (.int .i64 x.1.s) ∧ W'.cell? ⟨w.heap.size, 2, none⟩ = some (.int .i64 x.1.u) ∧ W'.cell? ⟨w.heap.size, 3, none⟩ = some (.int .i64 x.1.o)) := Lib.hid fun W' h => by
    have hb := HK2.out.below h HK2.out.lt
    exact ⟨hb.cell 0, hb.cell 1, hb.cell 2, hb.cell 3⟩
  have hfld := field_tag ⟨y.1.k.toArray⟩ y.1.s y.1.u y.1.o y.1.has y.2.1 y.1.v.length y.2.2
  have HDR : Hid (Below w2.heap.size w2 w2.drew) := Lib.hid (Below.refl _ _).drew
  go_region_held3 (fun w' => w'.cell? ⟨w.heap.size, 0, none⟩ = some (.string ⟨x.1.k.toArray⟩) ∧ w'.cell? ⟨w.heap.size, 1, none⟩ = some (.int .i64 x.1.s) ∧ w'.cell? ⟨w.heap.size, 2, none⟩ = some (.int .i64 x.1.u) ∧ w'.cell? ⟨w.heap.size, 3, none⟩ = some (.int .i64 x.1.o))
    (first | go_keep | exact HSK.out _ HWD.out | exact HSK.out _ HWC.out)
    (first
      | (go_at_call 115; refine (HNW.out _ (HB2.out.trans (HDR.out.mono HB2.out.size))).mono ?_; rintro e w3 ⟨rfl, hb⟩; (have HWC : Hid (Below w2.heap.size w2 w3) := Lib.hid (HDR.out.trans (hb.mono HDR.out.size))); clear hb; unfold evV)
      | (go_at_call 114; refine (compare_val _ _ _ _ _ _ _ HCV _).mono ?_; rintro e w4 ⟨rfl, hb⟩; (have HWD : Hid (Below w2.heap.size w2 w4) := Lib.hid (HWC.out.trans (hb.mono HWC.out.size))); clear hb))
  clear s0 s1 s2 s3 hfld
  have HBP : Hid (Below w.heap.size w w4) := Lib.hid (HB2.out.trans (HWD.out.mono HB2.out.size))
  have HKP := Lib.hid (HK2.out.below HWD.out HK2.out.lt)
  have hgt' : (0 : Int) < cv := hgt
  have hWR := write_any8 F g q S x HM.out.1 HM.out.2.1 (by rw [← HY.out]; unfold cmpE; have := HCV.out; omega) w4 (HS.out.below HBP.out) (HV.out.below HBP.out) (RowN.touch HRN.out (Touch.ofBelow HBP.out))
  have t0 : w4.cell? ⟨w.heap.size, 0, none⟩ = some (.string ⟨x.1.k.toArray⟩) := HKP.out.cell 0
  have t1 : w4.cell? ⟨w.heap.size, 1, none⟩ = some (.int .i64 x.1.s) := HKP.out.cell 1
  have t2 : w4.cell? ⟨w.heap.size, 2, none⟩ = some (.int .i64 x.1.u) := HKP.out.cell 2
  have t3 : w4.cell? ⟨w.heap.size, 3, none⟩ = some (.int .i64 x.1.o) := HKP.out.cell 3
  have t4 : w4.cell? ⟨w.heap.size, 4, none⟩ = some (.bool x.1.has) := HKP.out.cell 4
  have t5 : w4.cell? ⟨w.heap.size, 5, none⟩ = some (.slice x.2.1 x.1.v.length x.2.2) := HKP.out.cell 5
  rw [HWS.out] at hWR
  simp only at hWR
  have HWR := Lib.hid hWR
  clear hWR
  go_wp2_with fail
  refine HWR.out.mono ?_
  rintro e w5 ⟨rfl, F5, hF5, hst5, hto5⟩
  have HX : Hid (StTo KS (.int .i64 3) F g S q w (.returned (.int .i64 3)) w5) := Lib.hid ⟨rfl, F5, fun k hk => by
    rcases hF5 k hk with h | h
    · exact Or.inl h
    · exact Or.inr (Nat.le_trans HBP.out.size h), hst5, (Touch.ofBelow HBP.out).trans hto5 fun k hk => Or.inl hk⟩
  clear hF5 hst5 hto5 t0 t1 t2 t3 t4 t5 HWR
  go_wp2
  go_ret
  exact HX.out
theorem put_any8 (F : Nat → Prop) (g q : Nat) (S : St8) (x : EV) (who : Int) (hacks : S.acks.length ≤ 1466015503701) (hl : (x.1.v.length : Int) ≤ 9223372036854775807) (hk : (x.1.k.length : Int) ≤ 9223372036854775807) (w : World) (h : StAt KS w F g S q) (hro : Row w w.heap.size x.2.1 (x.1.v.map byteV)) (hcp : x.1.v.length ≤ x.2.2) (hN : RowN F w x.2.1 (x.1.v.map byteV)) :
    Calls Tryz.prog 81 #[.pointer (some ⟨g, 0, none⟩), evV x, .int .i64 who] w (StTo KS (.int .i64 (putS S x.1 who).2) F g (putS S x.1 who).1 q w) := by
  by_cases hm : mayP x.1 who
  · have hv : ValOk w x.1.has x.2.1 x.1.v x.2.2 := ⟨hro, by have := (rightE_yes hm.1).2.2.1; omega, hcp⟩
    by_cases hgt : 0 < cmpE x.1 (ofT S.N x.1.k)
    · by_cases hfit : (allB (S.rs ++ [(1, putE x.1)])).length ≤ 4194304
      · have hW : (writeS S x.1).2 = 0 := by rw [show writeS S x.1 = _ from if_pos hfit]
        rw [show putS S x.1 who = (pushS (writeS S x.1).1 (ackOf x.1 who), 0) from (if_pos hm).trans ((if_pos hgt).trans (if_pos hW))]
        exact put_newer F g q S x who hm hacks w h hv hN hgt hfit
      · have hW : writeS S x.1 = (S, 3) := if_neg hfit
        rw [show putS S x.1 who = (S, 3) from (if_pos hm).trans ((if_pos hgt).trans ((if_neg (by rw [hW]; simp)).trans (by rw [hW])))]
        exact put_full F g q S x who hm hacks w h hv hN hgt hfit
    · rw [show putS S x.1 who = (pushS S (ackOf x.1 who), 0) from (if_pos hm).trans (if_neg hgt)]
      exact put_elder F g q S x who hm hacks w h hv hN hgt
  · rw [show putS S x.1 who = (S, 2) from if_neg hm]
    exact put_refused F g q S x who hm hl hk w h
end Go.Proofs.YtkdpfjenjcpcfaaGreatDoor
namespace Go.Proofs.YtkdpfjenjcpcfaaGreatDoor
open Go.RowKit Mem Be Word Frm Go.Maps
set_option maxRecDepth 10000
set_option maxHeartbeats 4000000
set_option linter.unusedVariables false
variable {KS KS' : StK}
theorem rng_keep2 {w w' : World} {b r n cnt : Nat} {F : List EV} {left : Lit → Bool} (h : RngB w b r n F left cnt) (hb : w'.heap[b]? = w.heap[b]?) (hr : w'.heap[r]? = w.heap[r]?) : RngB w' b r n F left cnt := by
  obtain ⟨es, clock, since, seen, c0, h1, h2, h3, h4, h5, h6⟩ := h
  exact ⟨es, clock, since, seen, c0, hb.trans h1, h2, h3, h4, hr.trans h5, h6⟩
theorem rng_drop {w : World} {b r n cnt : Nat} {F : List EV} {left : Lit → Bool} (h : RngB w b r n F left cnt) {k : List UInt8} (hk : k.length ≤ maxLen) (ty : TypeId) :
    ∃ w' cnt', (Builtin.delete_ #[106, 9] ty #[.map (some b), .string ⟨k.toArray⟩]).run Tryz.prog w = .ok (.tuple #[]) w' ∧ RngB w' b r n (delK kV k F) (fun z => left z && !z.sameKey (.string k)) cnt' ∧ cnt' ≤ cnt ∧ w.mapTurned w' b := by
  obtain ⟨w', cnt', h1, h2, h3, h4⟩ := World.ranges.drop (t := 106) (e := 46) h law8 Tryz.underlying106 (key_run hk) ty
  rw [tb_del] at h2
  exact ⟨w', cnt', h1, h2, h3, h4⟩
theorem rng_owns {w : World} {b r n cnt : Nat} {F : List EV} {left : Lit → Bool} (h : RngB w b r n F left cnt) : TabB w b F := own_tight (World.ranges.owns h)
/-- One is taken off those that do not last yet. -/
theorem st_del {w6 w7 : World} {F FL FS : Nat → Prop} {g m q f : Nat} {rs : List Rc} {lm : Option Nat} {TL Fc : List EV} {A : Option Addr} {c : Nat} {acks : List AckP} {k : List UInt8} (h : StB KS w6 F FL FS g rs m q lm (some f) TL Fc A c acks) (ht : w6.mapTurned w7 f) (hT : TabB w7 f (delK kV k Fc)) :
    StB KS w7 F FL FS g rs m q lm (some f) TL (delK kV k Fc) A c acks ∧ Touch F w6 w7 := by
  have htu := touch_turned ht
  have hfF := h.tf.inM f rfl
  have hfT := tabM_some h.tf.map
  have hlt : ∀ k, FS k → k < w6.heap.size := fun k hk => h.lt k (h.sub k (Or.inr hk))
  have hkp : ∀ k, k < w6.heap.size → k ≠ f → w7.heap[k]? = w6.heap[k]? := fun k hk hn => htu.block k hk hn
  have hrow : ∀ {F2 : List EV}, EntsO w6 0 F2 → (∀ x ∈ F2, InF FS x.2.1) → EntsO w7 0 F2 := fun {F2} ho hi x hx => ownKeep (ho x hx) fun a ha => hkp _ (hlt _ (hi x hx a ha)) (own_not_map (ho x hx) hfT ha)
  refine ⟨⟨h.lg.keep htu.size fun k hk => hkp k (h.lt k (h.sub k (Or.inl hk))) fun e => h.dis k hk (by rw [e]; exact hfF), ⟨h.tl.map.keep fun b hb => hkp b (hlt b (h.tl.inM b hb)) fun e => h.ne b hb (by rw [e]), h.tl.inM, h.tl.srt, hrow h.tl.own h.tl.inF, h.tl.inF, h.tl.ok⟩,
    ⟨Or.inr ⟨f, rfl, hT⟩, h.tf.inM, del_sort h.tf.srt, fun x hx => hrow h.tf.own h.tf.inF x (mem_del.1 hx).1, fun x hx => h.tf.inF x (mem_del.1 hx).1, fun x hx => h.tf.ok x (mem_del.1 hx).1⟩, h.ne,
    ownKeep h.own fun a ha => hkp _ (ownIn h.own ha).2.1 (own_not_map h.own hfT ha), h.inA, h.dis, h.sub, fun k hk => Nat.lt_of_lt_of_le (h.lt k hk) htu.size⟩, htu.mono fun k hk => by subst hk; exact h.sub _ (Or.inr hfF)⟩
/-- Those of a table that are still to come. -/
def Left8 (F Fc : List EV) (left : Lit → Bool) : Prop := SortT kV Fc ∧ ∀ k, getK kV Fc k = if left (.string k) = true then getK kV F k else none
theorem left_start {F : List EV} (h : SortT kV F) : Left8 F F (Maps.has (tbD F)) := ⟨h, fun k => by
  rw [has_iff]
  cases getK kV F k <;> simp⟩
theorem left_mem {F Fc : List EV} {left : Lit → Bool} (h : Left8 F Fc left) {x : EV} (hx : x ∈ Fc) : x ∈ F := by
  have h1 := get_mem h.1 hx
  rw [h.2] at h1
  split at h1
  · exact (get_some h1).1
  · cases h1
theorem left_step {F Fc : List EV} {left : Lit → Bool} {k : List UInt8} (h : Left8 F Fc left) : Left8 F (delK kV k Fc) (fun z => left z && !z.sameKey (.string k)) := by
  refine ⟨del_sort h.1, fun k' => ?_⟩
  rw [get_del, h.2]
  by_cases hk : k = k'
  · subst hk
    rw [if_pos rfl]
    simp [Lit.sameKey]
  · rw [if_neg hk]
    have : (Lit.string k').sameKey (.string k) = false := by
      show (k' == k) = false
      simpa using fun e : k' = k => hk e.symm
    simp only [this, Bool.not_false, Bool.and_true]
theorem left_end {F Fc : List EV} {left : Lit → Bool} (h : Left8 F Fc left) (hl : ∀ k, left k = false) : Fc = [] := by
  refine ext_tab h.1 sort_nil fun k => ?_
  rw [h.2, hl]; rfl
/-- What settle leaves. -/
def SetlP (KS : StK) (F FL : Nat → Prop) (g : Nat) (rs : List Rc) (m q : Nat) (fm : Option Nat) (T : List EV) (A : Option Addr) (c : Nat) (acks : List AckP) (w : World) (e : Ending) (w' : World) : Prop :=
  e = .returned (.tuple #[]) ∧ ∃ F' FS' lm', (∀ k, F' k → F k ∨ w.heap.size ≤ k) ∧ StB KS w' F' FL FS' g rs m q lm' fm T [] A c acks ∧ Touch F w w'
theorem settle_nil (F FL FS : Nat → Prop) (g m q : Nat) (rs : List Rc) (lm : Option Nat) (TL : List EV) (A : Option Addr) (c : Nat) (acks : List AckP) (w : World) (h : StB KS w F FL FS g rs m q lm none TL [] A c acks) :
    Calls Tryz.prog 91 #[.pointer (some ⟨g, 0, none⟩)] w (SetlP KS F FL g rs m q none TL A c acks w) := by
  have c6 := lst_c6 h.lg
  have h1 := run_range_nilMap (P := Tryz.prog) w 106 9 46 Tryz.underlying106
  have h2 := fun ty => run_next_nilMap (P := Tryz.prog) w ty 0 0 #[]
  have HS := Lib.hid h
  clear h
  go_enter Tryz.func91, Tryz.ntmps91
  go_wp2_with fail
  refine wp_loop_rounds 1 ?_
  rw [rounds_succ]
  go_wp2
  go_end0
  have hb : Below w.heap.size w (w.alloc (.mapIter none 0 #[] 0)) := (Below.refl _ w).alloc (Nat.le_refl _) _
  exact ⟨rfl, F, FS, lm, fun k hk => Or.inl hk, HS.out.keep hb.size fun k hk => hb.block k (HS.out.lt k hk), Touch.ofBelow hb⟩
theorem settle_some (F FL FS : Nat → Prop) (g m q f : Nat) (rs : List Rc) (lm : Option Nat) (TL TF : List EV) (A : Option Addr) (c : Nat) (acks : List AckP) (hn : TL.length + TF.length ≤ 100000000) (w : World) (h : StB KS w F FL FS g rs m q lm (some f) TL TF A c acks) :
    Calls Tryz.prog 91 #[.pointer (some ⟨g, 0, none⟩)] w (SetlP KS F FL g rs m q (some f) (mergeT kV TL TF) A c acks w) := by
  have c6 := lst_c6 h.lg
  have hgl : g < w.heap.size := block_lt c6
  obtain ⟨w1, hrange, hrg, hb1, hs1⟩ := rng_start (tabM_some h.tf.map)
  have HRG := Lib.hid hrg
  have HB1 := Lib.hid hb1
  have HTS := Lib.hid h.tl.srt
  have HFS := Lib.hid h.tf.srt
  have HN := Lib.hid hn
  have HFK := Lib.hid h.tf.key
  have HST := Lib.hid (h.keep hb1.size fun k hk => hb1.block k (h.lt k hk))
  have HNR : Hid (¬ F w.heap.size) := Lib.hid fun hf => by have := h.lt _ hf; omega
  have HR1 : Hid (w.heap.size < w1.heap.size) := Lib.hid (by omega)
  have HTo : Hid (Touch F w w1) := Lib.hid (Touch.ofBelow hb1)
  clear h hn hrg hb1 hs1
  go_enter Tryz.func91, Tryz.ntmps91
  go_wp2_with fail
  go_loopw [2] (fun _ wr => ∃ (left : Lit → Bool) (cnt : Nat) (D Fc : List EV) (F' FS' : Nat → Prop) (lm' : Option Nat), Hid (RngB wr f w.heap.size TF.length Fc left cnt) ∧ Hid (StB KS wr F' FL FS' g rs m q lm' (some f) D Fc A c acks) ∧ Hid (Part8 TL TF D left) ∧ Hid (Left8 TF Fc left) ∧ Hid (D.length + cnt ≤ TL.length + TF.length) ∧
    Hid (∀ k, F' k → F k ∨ w.heap.size ≤ k) ∧ Hid (¬ F' w.heap.size) ∧ Hid (w.heap.size < wr.heap.size) ∧ Hid (Touch F w wr)) (fun _ wr => wr.rangeLeft f w.heap.size)
  case atStart => exact ⟨_, _, TL, TF, F, FS, lm, HRG, HST, Lib.hid (part_start HTS.out), Lib.hid (left_start HFS.out), Lib.hid (Nat.le_refl _), Lib.hid (fun k hk => Or.inl hk), HNR, HR1, HTo⟩
  case round =>
    obtain ⟨left, cnt, D, Fc, F', FS', lm', HR, HB, HP, HL, HLN, HF, HNF, HSZ, HT⟩ := hrel
    rcases rng_next HB.out.tf.srt HR.out 0 with ⟨h0, hl, hrun⟩ | ⟨x, w2, cnt', hx, hlk, hrun, hrg, hlt, hgr, hsz, hen⟩
    · have HX : Hid (SetlP KS F FL g rs m q (some f) (mergeT kV TL TF) A c acks w (.returned (.tuple #[])) wr) := Lib.hid (by
        have h1 := part_end HTS.out HFS.out HP.out hl
        have h2 := left_end HL.out hl
        have h3 := HB.out
        rw [h1, h2] at h3
        exact ⟨rfl, F', FS', lm', HF.out, h3, HT.out⟩)
      clear h0 hl
      go_wp2
      go_end0
      exact HX.out
    · have hfr : f ≠ w.heap.size := fun e => HNF.out (by rw [← e]; exact HB.out.sub f (Or.inr (HB.out.tf.inM f rfl)))
      have hgF := HB.out.sub g (Or.inl (lg_fg HB.out.lg))
      have hk2 : ∀ k, F' k → w2.heap[k]? = wr.heap[k]? := fun k hk => hgr.block k (HB.out.lt k hk) fun e => by injection e with e; exact HNF.out (by rw [← e]; exact hk)
      have hB2 := HB.out.keep (by omega) hk2
      have HB2 := Lib.hid hB2
      have HALN : Hid (∀ o, Below w2.heap.size w2 (w2.alloc o)) := Lib.hid fun o => (Below.refl _ w2).alloc (Nat.le_refl _) o
      have hB3 : ∀ o, StB KS (w2.alloc o) F' FL FS' g rs m q lm' (some f) D Fc A c acks := fun o => hB2.keep (HALN.out o).size fun k hk => (HALN.out o).block k (hB2.lt k hk)
      have HB3 := Lib.hid hB3
      have hR3 : ∀ o, RngB (w2.alloc o) f w.heap.size TF.length Fc (fun z => left z && !z.sameKey (.string x.1.k)) cnt' := fun o => hrg.keep (World.grownBy_alloc w2 o none) (by simp) (by simp)
      have HR3 := Lib.hid hR3
      have HX := Lib.hid hx
      have HXK := Lib.hid (HFK.out x (left_mem HL.out hx))
      have HSE : Hid (∀ o, Calls Tryz.prog 124 #[.pointer (some ⟨g, 5, none⟩), evV x] (w2.alloc o).drew (SetP g 5 lm' D x (w2.alloc o).drew)) := Lib.hid fun o =>
        set_any D lm' g 5 x (HXK.out) (by have h1 := HLN.out; have h2 := HN.out; omega) _ (show (w2.alloc o).cell? _ = _ from lst_c5 (hB3 o).lg) (show (w2.alloc o).frozen? _ = _ from lst_z (hB3 o).lg 5) ((hB3 o).tl.map.keep fun _ _ => rfl)
      have HBK := Lib.hid (Blk.new w2 46 ⟨entC x⟩)
      have hg2 : g < w2.heap.size := by have := HB.out.lt g hgF; omega
      have HLT := Lib.hid hlt
      have HS2 := Lib.hid hsz
      have HGR : Hid (Touch F w w2) := Lib.hid (HT.out.grown hgr fun k e => by injection e with e; exact Or.inr (by omega))
      have HFR := Lib.hid hfr
      clear hB2 hB3 hR3 hrg hlt hgr hsz hlk hx hk2 hgF hfr
      unfold evV at hrun hen
      unfold entV at hrun hen
      go_wp2_with fail
      obtain ⟨W3, hW3⟩ : ∃ W3, w2.alloc (.cells ⟨entC x⟩ 46) = W3 := ⟨_, rfl⟩
      have HW3 := Lib.hid hW3
      have hbw3 : Below w2.heap.size w2 W3 := by rw [← hW3]; exact HALN.out _
      have HBW3 := Lib.hid hbw3
      have hsz3 : W3.heap.size = w2.heap.size + 1 := by rw [← hW3]; simp
      have HB3' := Lib.hid (show StB KS W3 F' FL FS' g rs m q lm' (some f) D Fc A c acks by rw [← hW3]; exact HB3.out _)
      have HR3' := Lib.hid (show RngB W3 f w.heap.size TF.length Fc (fun z => left z && !z.sameKey (.string x.1.k)) cnt' by rw [← hW3]; exact HR3.out _)
      have HBK' := Lib.hid (show Blk W3 w2.heap.size 46 ⟨entC x⟩ by rw [← hW3]; exact HBK.out)
      have HSE' := Lib.hid (show Calls Tryz.prog 124 #[.pointer (some ⟨g, 5, none⟩), evV x] W3.drew (SetP g 5 lm' D x W3.drew) by rw [← hW3]; exact HSE.out _)
      have hWW : w2.alloc (.cells #[.string ⟨x.1.k.toArray⟩, .int .i64 x.1.s, .int .i64 x.1.u, .int .i64 x.1.o, .bool x.1.has, .slice x.2.1 x.1.v.length x.2.2] 46) = W3 := hW3
      rw [hWW]
      have s0 : W3.cell? ⟨w2.heap.size, 0, none⟩ = some (.string ⟨x.1.k.toArray⟩) := HBK'.out.cell 0
      have s1 : W3.cell? ⟨w2.heap.size, 1, none⟩ = some (.int .i64 x.1.s) := HBK'.out.cell 1
      have s2 : W3.cell? ⟨w2.heap.size, 2, none⟩ = some (.int .i64 x.1.u) := HBK'.out.cell 2
      have s3 : W3.cell? ⟨w2.heap.size, 3, none⟩ = some (.int .i64 x.1.o) := HBK'.out.cell 3
      have s4 : W3.cell? ⟨w2.heap.size, 4, none⟩ = some (.bool x.1.has) := HBK'.out.cell 4
      have s5 : W3.cell? ⟨w2.heap.size, 5, none⟩ = some (.slice x.2.1 x.1.v.length x.2.2) := HBK'.out.cell 5
      have hg3 : g < W3.heap.size := by omega
      have HSK : Hid (∀ W' : World, W'.heap[w2.heap.size]? = W3.heap[w2.heap.size]? → W'.cell? ⟨w2.heap.size, 0, none⟩ = some (.string ⟨x.1.k.toArray⟩) ∧ W'.cell? ⟨w2.heap.size, 1, none⟩ = some (.int .i64 x.1.s) ∧ W'.cell? ⟨w2.heap.size, 2, none⟩ = some (.int .i64 x.1.u) ∧
        W'.cell? ⟨w2.heap.size, 3, none⟩ = some (.int .i64 x.1.o) ∧ W'.cell? ⟨w2.heap.size, 4, none⟩ = some (.bool x.1.has) ∧ W'.cell? ⟨w2.heap.size, 5, none⟩ = some (.slice x.2.1 x.1.v.length x.2.2)) := Lib.hid fun W' h => by
          have hb : Blk W' w2.heap.size 46 ⟨entC x⟩ := h.trans HBK'.out
          exact ⟨hb.cell 0, hb.cell 1, hb.cell 2, hb.cell 3, hb.cell 4, hb.cell 5⟩
      have HN2 : Hid (w2.heap.size ≠ g ∧ ¬ lm' = some w2.heap.size) := Lib.hid ⟨by omega, fun e => by have := HB2.out.lt _ (HB2.out.sub _ (Or.inr (HB2.out.tl.inM _ e))); omega⟩
      clear HW3 hbw3 HB3 HR3 HSE HBK HALN hW3 hWW
      go_region_held3 (fun w' => w'.cell? ⟨w2.heap.size, 0, none⟩ = some (.string ⟨x.1.k.toArray⟩) ∧ w'.cell? ⟨w2.heap.size, 1, none⟩ = some (.int .i64 x.1.s) ∧ w'.cell? ⟨w2.heap.size, 2, none⟩ = some (.int .i64 x.1.u) ∧ w'.cell? ⟨w2.heap.size, 3, none⟩ = some (.int .i64 x.1.o) ∧ w'.cell? ⟨w2.heap.size, 4, none⟩ = some (.bool x.1.has) ∧ w'.cell? ⟨w2.heap.size, 5, none⟩ = some (.slice x.2.1 x.1.v.length x.2.2))
        (first | go_keep | exact HSK.out _ HKD.out)
        (first | (go_at_call 124; refine HSE'.out.mono ?_; rintro e w6 hx; obtain ⟨rfl, hx1, hx2, hx3⟩ := st_put5 HB3'.out ((Below.refl _ _).drew) (ownLater (HB3'.out.tf.own x HX.out) ((Below.refl _ _).drew)) (HB3'.out.tf.inF x HX.out) (HB3'.out.tf.ok x HX.out) hx; (have HKD : Hid (w6.heap[w2.heap.size]? = W3.heap[w2.heap.size]?) := Lib.hid (hx3 _ HBK'.out.lt HN2.out.1 HN2.out.2)); (have HFIN := Lib.hid (And.intro hx1 (And.intro hx2 hx3))); clear hx hx1 hx2 hx3))
      all_goals
        clear s0 s1 s2 s3 s4 s5
        obtain ⟨⟨lm2, hfin⟩, hto6, hkp6⟩ := HFIN.out
        have hgF := HB2.out.sub g (Or.inl (lg_fg HB2.out.lg))
        have hfS := HB2.out.tf.inM f rfl
        have hkf := hkp6 f (by have := HB2.out.lt f (HB2.out.sub f (Or.inr hfS)); omega) (fun e => HB2.out.dis g (lg_fg HB2.out.lg) (by rw [← e]; exact hfS)) (fun e => HB2.out.ne f e rfl)
        have hkr := hkp6 w.heap.size (by have := HSZ.out; have := HS2.out; omega) (by omega) (fun e => HNF.out (HB2.out.sub _ (Or.inr (HB2.out.tl.inM _ e))))
        have hR6 := rng_keep2 HR3'.out hkf hkr
        obtain ⟨w7, cnt7, hdel, hR7, hc7, hturn⟩ := rng_drop hR6 (k := x.1.k) (by have := HXK.out; unfold maxLen; omega) 0
        rw [Maps.strike_twice] at hR7
        have c66 := lst_c6 hfin.lg
        obtain ⟨hS7, hto7⟩ := st_del hfin hturn (rng_owns hR7)
        have HR7 := Lib.hid hR7
        have HS7 := Lib.hid hS7
        have HP7 := Lib.hid (part_step HFS.out HP.out (left_mem HL.out HX.out))
        have HL7 := Lib.hid (left_step (k := x.1.k) HL.out)
        have HLN7 : Hid ((putK kV D x).length + cnt7 ≤ TL.length + TF.length) := Lib.hid (by have h1 := HLN.out; have h2 := put_len (key := kV) x D; have h3 := HLT.out; omega)
        have hsz6 : W3.heap.size ≤ w6.heap.size := hto6.size
        have hsz7 : w6.heap.size ≤ w7.heap.size := hto7.size
        have HF7 : Hid (∀ k, Now W3 w6 F' k → F k ∨ w.heap.size ≤ k) := Lib.hid fun k hk => by
          rcases hk.1 with h | h
          · exact HF.out k h
          · have := HSZ.out; have := HS2.out; exact Or.inr (by omega)
        have HNF7 : Hid (¬ Now W3 w6 F' w.heap.size) := Lib.hid fun hk => by
          rcases hk.1 with h | h
          · exact HNF.out h
          · have := HSZ.out; have := HS2.out; omega
        have HSZ7 : Hid (w.heap.size < w7.heap.size) := Lib.hid (by have := HSZ.out; have := HS2.out; omega)
        have HT7 : Hid (Touch F w w7) := Lib.hid (((HGR.out.thenBelow HBW3.out).trans hto6 HF.out).trans hto7 HF7.out)
        have HM7 : Hid (w7.rangeLeft f w.heap.size < wr.rangeLeft f w.heap.size) := Lib.hid (by rw [World.ranges.left_eq HR7.out, World.ranges.left_eq HR.out]; have := HLT.out; omega)
        clear hfin hto6 hkp6 hgF hfS hkf hkr hR6 hR7 hc7 hturn hS7 hto7 hsz6 hsz7
        go_wp2
        go_roundw
        case rel => exact ⟨_, _, _, _, _, _, _, HR7, HS7, HP7, HL7, HLN7, HF7, HNF7, HSZ7, HT7⟩
        case measure => exact HM7.out
theorem settle_any8 (F FL FS : Nat → Prop) (g m q : Nat) (rs : List Rc) (lm fm : Option Nat) (TL TF : List EV) (A : Option Addr) (c : Nat) (acks : List AckP) (hn : TL.length + TF.length ≤ 100000000) (w : World) (h : StB KS w F FL FS g rs m q lm fm TL TF A c acks) :
    Calls Tryz.prog 91 #[.pointer (some ⟨g, 0, none⟩)] w (SetlP KS F FL g rs m q fm (mergeT kV TL TF) A c acks w) := by
  cases fm with
  | none =>
    have : TF = [] := by
      rcases h.tf.map with ⟨_, h⟩ | ⟨b, h, _⟩
      · exact h
      · cases h
    subst this
    exact settle_nil F FL FS g m q rs lm TL A c acks w h
  | some f => exact settle_some F FL FS g m q f rs lm TL TF A c acks hn w h
end Go.Proofs.YtkdpfjenjcpcfaaGreatDoor
namespace Go.Proofs.YtkdpfjenjcpcfaaGreatDoor
open Go.RowKit Mem Be Word Frm Go.Maps
set_option maxRecDepth 10000
set_option maxHeartbeats 4000000
set_option linter.unusedVariables false
variable {KS KS' : StK}
def tickS (S : St8) : St8 := ⟨S.rs, S.rs.length, S.N, S.N, []⟩
/-- What a Tick tells, and leaves. -/
def TickP (KS : StK) (F : Nat → Prop) (g : Nat) (S : St8) (q : Nat) (w : World) (e : Ending) (w' : World) : Prop :=
  ∃ F' A c q', e = .returned (.tuple #[.slice A S.acks.length c, .int .i64 0]) ∧ w'.ownsRow 0 130 5 (.slice A S.acks.length c) S.acks.length (acksC S.acks) ∧ (∀ a, A = some a → ¬ F' a.block) ∧ (∀ k, F' k → F k ∨ w.heap.size ≤ k) ∧ q' ≤ q + 1 ∧ StAt KS w' F' g (tickS S) q' ∧ Touch F w w'
theorem ok8_tick {S : St8} (h : Ok8 S) : Ok8 (tickS S) := by
  refine ⟨Nat.le_refl _, h.newer, ?_, fun j h1 h2 => ?_⟩
  · show recS (S.rs.take S.rs.length) = _
    rw [List.take_of_length_le (Nat.le_refl _)]; exact h.newer
  · have : j = S.rs.length := Nat.le_antisymm h2 h1
    subst this
    show (recS (S.rs.take S.rs.length)).isSome = true
    rw [List.take_of_length_le (Nat.le_refl _), h.newer]; rfl
/-- The acks are handed out. -/
theorem st_told {W : World} {F FL FS : Nat → Prop} {g m q : Nat} {rs : List Rc} {lm fm : Option Nat} {TL TF : List EV} {A : Option Addr} {c : Nat} {acks : List AckP} (h : StB KS W F FL FS g rs m q lm fm TL TF A c acks) :
    StB KS (W.setCell ⟨g, 7, none⟩ (.slice none 0 0)) (fun k => F k ∧ ∀ a, A = some a → a.block ≠ k) FL (fun k => FS k ∧ ∀ a, A = some a → a.block ≠ k) g rs m q lm fm TL TF none 0 [] ∧ Touch F W (W.setCell ⟨g, 7, none⟩ (.slice none 0 0)) ∧
      (W.setCell ⟨g, 7, none⟩ (.slice none 0 0)).ownsRow 0 130 5 (.slice A acks.length c) acks.length (acksC acks) := by
  have hgF := lg_fg h.lg
  have hk : ∀ k, k ≠ g → (W.setCell ⟨g, 7, none⟩ (.slice none 0 0)).heap[k]? = W.heap[k]? := fun k hk => Below.heap_setCell W ⟨g, 7, none⟩ _ k hk
  have hsz : (W.setCell ⟨g, 7, none⟩ (.slice none 0 0)).heap.size = W.heap.size := by simp [World.setCell]
  have hgn : ∀ k, FS k → k ≠ g := fun k hk e => h.dis g hgF (by rw [← e]; exact hk)
  have hA : ∀ a, A = some a → FS a.block := h.inA
  have hmap : ∀ {mo : Option Nat} {T : List EV}, TabAt W FS mo T → TabAt (W.setCell ⟨g, 7, none⟩ (.slice none 0 0)) (fun k => FS k ∧ ∀ a, A = some a → a.block ≠ k) mo T := fun {mo T} ht => by
    have h1 := ht.keep fun k hk' => hk k (hgn k hk')
    refine ⟨h1.map, fun b hb => ⟨ht.inM b hb, fun a ha e => ?_⟩, h1.srt, h1.own, fun x hx a' ha' => ⟨ht.inF x hx a' ha', fun a ha e => ?_⟩, h1.ok⟩
    · have hm := ht.map
      rw [hb] at hm
      exact own_not_map h.own (tabM_some hm) ha e
    · obtain ⟨_, _, cur, h2⟩ := ownIn (ht.own x hx) ha'
      obtain ⟨_, _, cur', h3⟩ := ownIn h.own ha
      rw [e, h2] at h3
      injection h3 with h3
      injection h3 with _ h3
      exact absurd h3 (by decide)
  refine ⟨⟨lst_e7 h.lg _, hmap h.tl, hmap h.tf, h.ne, World.ownsRow_nil _ _ _ _, inF_none _, fun k h1 h2 => h.dis k h1 h2.1, fun k hk => ?_, fun k hk => by rw [hsz]; exact h.lt k hk.1⟩, (Touch.refl F W).set_ (p := ⟨g, 7, none⟩) (Or.inl (h.sub g (Or.inl hgF))) _,
    ownKeep h.own fun a ha => hk _ (hgn _ (hA a ha))⟩
  rcases hk with hk | hk
  · exact ⟨h.sub k (Or.inl hk), fun a ha e => h.dis k hk (by rw [← e]; exact hA a ha)⟩
  · exact ⟨h.sub k (Or.inr hk.1), hk.2⟩
theorem tick_any8 (F : Nat → Prop) (g q : Nat) (S : St8) (hq : q ≤ 4611686018427387904) (w : World) (h : StAt KS w F g S q) :
    Calls Tryz.prog 86 #[.pointer (some ⟨g, 0, none⟩)] w (TickP KS F g S q w) := by
  have hmany := h.many
  have htm := (tab_many h).1
  obtain ⟨h0, FL, FS, lm, fm, TL, TF, A, c, h1, h2, hfl, h⟩ := h
  have c5 := lst_c5 h.lg
  have hgl : g < w.heap.size := block_lt c5
  have HSY := Lib.hid (sync7_any (J := stK KS lm fm (.slice A S.acks.length c)) FL g S.m q S.rs hq w h.lg)
  have HS := Lib.hid h
  have H0 := Lib.hid h0
  have H12 := Lib.hid (And.intro h1 h2)
  have HLN : Hid (TL.length + TF.length ≤ 100000000) := Lib.hid (by
    have := congrArg List.length h1
    rw [List.length_map] at this
    omega)
  clear h h0 h1 h2 hfl c5 hmany htm
  go_enter Tryz.func86, Tryz.ntmps86
  go_wp2_with fail
  refine HSY.out.mono ?_
  rintro e w1 ⟨rfl, FL', hF', hl', ht'⟩
  obtain ⟨hs1, hto1⟩ := st_log HS.out (Below.refl _ _) hF' hl' ht'
  have HT1 := Lib.hid hto1
  have HSE := Lib.hid (settle_any8 _ FL' FS g S.rs.length _ S.rs lm fm TL TF A c S.acks HLN.out w1 hs1)
  clear hs1 hto1 hF' hl' ht' HSY
  go_wp2_with fail
  refine HSE.out.mono ?_
  rintro e w2 ⟨rfl, F2, FS2, lm2, hF2, hs2, hto2⟩
  have c7 := lst_c7 hs2.lg
  have z7 := lst_z hs2.lg 7
  obtain ⟨hs3, hto3, ho3⟩ := st_told hs2
  have hF2' : ∀ k, F2 k → F k ∨ w.heap.size ≤ k := fun k hk => by
    rcases hF2 k hk with h | h
    · exact h.1
    · exact Or.inr (Nat.le_trans HT1.out.size h)
  have HX : Hid (TickP KS F g S q w (.returned (.tuple #[.slice A S.acks.length c, .int .i64 0])) (w2.setCell ⟨g, 7, none⟩ (.slice none 0 0))) := Lib.hid (by
    refine ⟨_, A, c, upN (allB (S.rs.drop S.m)) q, rfl, ho3, fun a ha hk => hk.2 a ha rfl, fun k hk => hF2' k hk.1, ?_, ⟨ok8_tick H0.out, FL', _, lm2, fm, mergeT kV TL TF, [], none, 0, ?_, rfl, Nat.zero_le _, hs3⟩, (HT1.out.trans hto2 fun k hk => hk.1).trans hto3 hF2'⟩
    · unfold upN; split <;> omega
    · rw [ent_merge, H12.out.1, H12.out.2]; rfl)
  clear hF2 hs2 hto2 hs3 hto3 ho3 hF2' HSE
  go_wp2
  go_ret2
  exact HX.out
theorem rowsof_any (us : List EV) (A : Option Addr) (n c : Nat) (hn : n = us.length) (hl : n ≤ 8388608) (w : World) (hr : Row w w.heap.size A (entsC us)) (hv : ∀ x ∈ us, okE x.1 ∧ ValOk w x.1.has x.2.1 x.1.v x.2.2) :
    Calls Tryz.prog 89 #[.slice A n c] w (Made2 w.heap.size (rowsT (entT us)) 0 w) := by
  obtain ⟨i0, hi0, hz0, hz1, hz2⟩ := info_parts info_b
  have HR := Lib.hid hr
  have HV := Lib.hid hv
  have HN := Lib.hid hn
  have HL := Lib.hid hl
  have hni : (n : Int) ≤ 8388608 := by omega
  clear hr hv hn hl
  go_enter Tryz.func89, Tryz.ntmps89
  go_wp2_with fail
  go_loopw [4, 13] (fun v i wr => ∃ (j : Nat) (A1 : Option Addr) (c1 : Nat) (X : List UInt8), j ≤ n ∧ i = .int .i64 j ∧ v = .slice A1 X.length c1 ∧ Hid (X = rowsT (entT (us.take j))) ∧ Hid (X.length ≤ j * 70000) ∧ Hid (wr.ownsRow w.heap.size 5 1 (.slice A1 X.length c1) X.length (X.map byteV)) ∧ Hid (Below w.heap.size w wr)) (fun _ i _ => n - (intOf i).toNat)
  case atStart => exact ⟨0, none, 0, [], Nat.zero_le _, rfl, rfl, Lib.hid rfl, Lib.hid (Nat.zero_le _), Lib.hid (World.ownsRow_nil _ _ _ _), Lib.hid (Below.refl _ _)⟩
  case round =>
    obtain ⟨j, A1, c1, X, hj, rfl, rfl, HX, HXL, HO, HB⟩ := hrel
    by_cases hlt : j < n
    · have hj1 : j < us.length := by rw [← HN.out]; exact hlt
      obtain ⟨b, o, rfl, hbl, hc⟩ := ents_open HR.out (by omega)
      obtain ⟨k0, k1, k2, k3, k4, k5⟩ := hc j hj1
      obtain ⟨x, hx⟩ : ∃ x, us[j] = x := ⟨_, rfl⟩
      have hxm : x ∈ us := by rw [← hx]; exact List.getElem_mem hj1
      have hsn : us.take (j + 1) = us.take j ++ [x] := by rw [List.take_succ_eq_append_getElem hj1, hx]
      rw [hx] at k0 k1 k2 k3 k4 k5
      have cc : ∀ {i : Nat} {v : Value}, w.cell? ⟨b, i, none⟩ = some v → wr.cell? ⟨b, i, none⟩ = some v := fun {i v} h => (HB.out.cell (p := ⟨b, i, none⟩) hbl).trans h
      have d0 := cc k0
      have d1 := cc k1
      have d2 := cc k2
      have d3 := cc k3
      have d4 := cc k4
      have d5 := cc k5
      have HBY : Hid (∀ o, Calls Tryz.prog 121 #[evV x] (wr.alloc o) (Made2 (wr.alloc o).heap.size (putE x.1) 0 (wr.alloc o))) := Lib.hid fun o => bytesE_any x (HV.out x hxm).1 _ ((HV.out x hxm).2.below (HB.out.trans (((Below.refl _ wr).alloc (Nat.le_refl _) o).mono HB.out.size)))
      have HPL := Lib.hid (putE_len (HV.out x hxm).1)
      have HSN := Lib.hid hsn
      have HAL : Hid (∀ o, Below wr.heap.size wr (wr.alloc o)) := Lib.hid fun o => (Below.refl _ wr).alloc (Nat.le_refl _) o
      have hji : (0 : Int) ≤ (j : Int) := by omega
      have hji2 : (j : Int) < (n : Int) := by omega
      obtain ⟨B, hB⟩ : ∃ B, putE x.1 = B := ⟨_, rfl⟩
      have HPB := Lib.hid hB
      rw [hB] at HBY HPL
      clear hc k0 k1 k2 k3 k4 k5 hx hxm hsn cc hB
      unfold evV at HBY
      go_wp2_with fail
      refine (HBY.out _).mono ?_
      rintro e w2 ⟨A2, c2, rfl, ho2, hb2⟩
      have HB2 : Hid (Below wr.heap.size wr w2) := Lib.hid ((HAL.out _).trans (hb2.mono (by simp)))
      have HRW := Lib.hid (row_any w2.heap.size c2 B.length A2 B rfl w2 (Row.of_own ho2) (Nat.le_refl _) HPL.out)
      clear ho2 hb2
      go_wp2_with fail
      refine HRW.out.mono ?_
      rintro e w3 ⟨A3, c3, rfl, ho3, hb3⟩
      obtain ⟨Y, hY⟩ : ∃ Y, rowB B = Y := ⟨_, rfl⟩
      have HY := Lib.hid hY
      have hYl : Y.length ≤ 70000 := by
        have h1 := numB_le (B.length : Int)
        have h2 := HPL.out
        rw [← hY]; unfold rowB; rw [List.length_append]; omega
      have HYL := Lib.hid hYl
      rw [hY] at ho3
      have HB3 : Hid (Below wr.heap.size wr w3) := Lib.hid (HB2.out.trans (hb3.mono HB2.out.size))
      have HO3 := Lib.hid (ownLater HO.out HB3.out)
      have HR3 := Lib.hid (Row.of_own ho3)
      have HBW : Hid (Below w.heap.size w w3) := Lib.hid (HB.out.trans (HB3.out.mono HB.out.size))
      clear ho3 hb3 HRW hY hYl
      rw [HY.out]
      go_wp2_with (at_builtin; refine wpList_app _ (by rfl) _ _ 27 (by rfl) w.heap.size 5 i0 (.int .u8 0) 1 Tryz.underlying27 hi0 hz0 hz1 hz2 rfl _ X.length _ (by rfl) HO3.out w3.heap.size A3 Y.length c3 (Y.map byteV) (by rfl) (by simp) HR3.out (byte_one _) (by have h1 := HXL.out; have h2 := HYL.out; have h3 := HL.out; unfold maxLen; omega) (by have h1 := HXL.out; have h2 := HYL.out; have h3 := HL.out; omega) HBW.out.size ?_)
      intro v' w4 hown hgr _
      obtain ⟨A4, c4, rfl, _, _⟩ := ownShape hown
      have HB4 : Hid (Below w.heap.size w w4) := Lib.hid (HBW.out.grown hgr HBW.out.size fun g h => (HO3.out.lt g h).1)
      have HO4 := Lib.hid hown
      clear hown hgr
      go_wp2
      go_roundw
      case rel => exact ⟨j + 1, A4, c4, X ++ Y, by omega, by go_num, by rw [List.length_append], Lib.hid (by rw [HSN.out, HX.out]; unfold rowsT entT; rw [List.map_append, List.flatMap_append]; simp [HPB.out, HY.out]), Lib.hid (by rw [List.length_append]; have h1 := HXL.out; have h2 := HYL.out; omega), Lib.hid (by rw [List.length_append, List.map_append]; exact HO4.out), HB4⟩
      case measure => simp [intOf]; omega
    · obtain rfl : j = n := by omega
      have ht : us.take j = us := List.take_of_length_le (by rw [← HN.out]; omega)
      rw [ht] at HX
      go_wp2
      go_ret2
      rw [← HX.out]
      exact ⟨A1, c1, rfl, HO.out, HB.out⟩
end Go.Proofs.YtkdpfjenjcpcfaaGreatDoor
namespace Go.Proofs.YtkdpfjenjcpcfaaGreatDoor
open Go.RowKit Mem Be Word Frm Go.Maps
set_option maxRecDepth 10000
set_option maxHeartbeats 4000000
set_option linter.unusedVariables false
variable {KS KS' : StK}
/-- What a Compact leaves, and tells. -/
def compS (S : St8) : St8 × Int := if 65536 < (rowsT S.N).length then (S, 3) else (⟨[(0, rowsT S.N)], 1, S.N, S.N, S.acks⟩, 0)
theorem ok8_comp {S : St8} (h : Ok8 S) : Ok8 ⟨[(0, rowsT S.N)], 1, S.N, S.N, S.acks⟩ := by
  have h1 := recS_one h.nOk
  refine ⟨Nat.le_refl _, h1, h1, fun j h2 h3 => ?_⟩
  have : j = 1 := Nat.le_antisymm h3 h2
  subst this
  show (recS ([(0, rowsT S.N)].take 1)).isSome = true
  rw [show [((0 : UInt8), rowsT S.N)].take 1 = [(0, rowsT S.N)] from rfl, h1]; rfl
theorem compact_nil (w : World) : Calls Tryz.prog 60 #[.pointer none] w fun e w' => e = .returned (.int .i64 1) ∧ w = w' := by
  go_enter Tryz.func60, Tryz.ntmps60
  go_wp2
  go_ret
  exact ⟨rfl, rfl⟩
theorem touch_new {w w1 w2 : World} {b : Nat} (h : Below w.heap.size w w1) (ht : Touch (fun k => k = b) w1 w2) (hb : w.heap.size ≤ b) : Below w.heap.size w w2 := h.trans (ht.below h.size fun k hk => by subst hk; exact hb)
theorem compact_any8 (F : Nat → Prop) (g q : Nat) (S : St8) (w : World) (h : StAt KS w F g S q) :
    Calls Tryz.prog 60 #[.pointer (some ⟨g, 0, none⟩)] w (StTo KS (.int .i64 (compS S).2) F g (compS S).1 q w) := by
  have hm := tab_many h
  have hmany := h.many
  obtain ⟨h0, FL, FS, lm, fm, TL, TF, A, c, h1, h2, hfl, h⟩ := h
  have d5 := lst_c5 h.lg
  have d6 := lst_c6 h.lg
  have hgl : g < w.heap.size := block_lt d5
  have hmm := @run_makeMap Tryz.prog
  obtain ⟨w1, hw1⟩ : ∃ w1, w.alloc (.map #[] 0) = w1 := ⟨_, rfl⟩
  have hb1 : Below w.heap.size w w1 := by rw [← hw1]; exact (Below.refl _ _).alloc (Nat.le_refl _) _
  have hT1 : TabB w1 w.heap.size [] := by rw [← hw1]; exact TabB.made w
  have hTLl : TL.length ≤ 8388608 := by have := congrArg List.length h1; rw [List.length_map] at this; omega
  have hne : ∀ {mo : Option Nat} {T : List EV}, TabAt w FS mo T → ∀ f, mo = some f → w.heap.size ≠ f := fun {mo T} ht f hf e => by have := h.lt _ (h.sub _ (Or.inr (ht.inM f hf))); omega
  have HC1 := Lib.hid (copym_any [] TL w.heap.size lm (hne h.tl) sort_nil h.tl.srt (by simp; omega) (fun x hx => by have := h.tl.key x hx; unfold maxLen; omega) w1 hT1 (h.tl.map.below hb1))
  have hmg : mergeT kV [] TL = TL := fold_sort h.tl.srt
  rw [hmg] at HC1
  have HC2 : Hid (∀ W, Below w.heap.size w W → TabB W w.heap.size TL → Calls Tryz.prog 88 #[.map (some w.heap.size), .map fm] W fun e w' => e = .returned (.tuple #[]) ∧ TabB w' w.heap.size (mergeT kV TL TF) ∧ Touch (fun k => k = w.heap.size) W w') := Lib.hid fun W hb hT =>
    copym_any TL TF w.heap.size fm (hne h.tf) h.tl.srt h.tf.srt (by omega) (fun x hx => by have := h.tf.key x hx; unfold maxLen; omega) W hT (h.tf.map.below hb)
  obtain ⟨M, hM⟩ : ∃ M, mergeT kV TL TF = M := ⟨_, rfl⟩
  have HEM : Hid (entT M = S.N) := Lib.hid (by rw [← hM, ent_merge, h1, h2])
  have HMS : Hid (SortT kV M) := Lib.hid (by rw [← hM]; exact merge_sort h.tl.srt)
  have HMV : Hid (∀ x ∈ M, ValOk w x.1.has x.2.1 x.1.v x.2.2 ∧ okE x.1) := Lib.hid fun x hx => by
    rw [← hM] at hx
    rcases merge_mem hx with hx | hx
    · exact ⟨h.tf.val x hx, h.tf.ok x hx⟩
    · exact ⟨h.tl.val x hx, h.tl.ok x hx⟩
  have HML : Hid (M.length ≤ 8388608) := Lib.hid (by have := congrArg List.length HEM.out; rw [List.length_map] at this; omega)
  rw [hM] at HC2
  have HLN : Hid (TL.length + TF.length ≤ 100000000) := Lib.hid (by omega)
  have c5 : w1.cell? ⟨g, 5, none⟩ = some (.map lm) := (hb1.cell (p := ⟨g, 5, none⟩) hgl).trans d5
  have HS := Lib.hid h
  have H0 := Lib.hid h0
  have H12 := Lib.hid (And.intro h1 (And.intro h2 hfl))
  have HB1 := Lib.hid hb1
  have HD6 := Lib.hid d6
  have HMM := Lib.hid hM
  obtain ⟨R, hR⟩ : ∃ R, compS S = R := ⟨_, rfl⟩
  have HR := Lib.hid hR
  rw [hR]
  clear h h0 h1 h2 hfl hm hmany d5 d6 hb1 hT1 hTLl hne hmg hM hR
  go_enter Tryz.func60, Tryz.ntmps60
  go_wp2_with fail
  refine HC1.out.mono ?_
  rintro e w2 ⟨rfl, hT2, ht2⟩
  have HB2 := Lib.hid (touch_new HB1.out ht2 (Nat.le_refl _))
  have c6 : w2.cell? ⟨g, 6, none⟩ = some (.map fm) := (HB2.out.cell (p := ⟨g, 6, none⟩) hgl).trans HD6.out
  have HCC := Lib.hid (HC2.out w2 HB2.out hT2)
  clear hT2 ht2 HC1 c5
  go_wp2_with fail
  refine HCC.out.mono ?_
  rintro e w3 ⟨rfl, hT3, ht3⟩
  have HB3 := Lib.hid (touch_new HB2.out ht3 (Nat.le_refl _))
  have hST := tabsorted_any M (some w.heap.size) HMS.out HML.out w3 (Or.inr ⟨_, rfl, hT3⟩) (fun x hx => (HMV.out x hx).1.below HB3.out) (fun x hx => by have := (rightE_yes (HMV.out x hx).2).2.1; unfold maxLen; omega)
  rw [show M.map Prod.fst = S.N from HEM.out] at hST
  have HST := Lib.hid hST
  clear hT3 ht3 HCC HC2 hST c6
  go_wp2_with fail
  refine HST.out.mono ?_
  rintro e w4 ⟨us, A4, c4, hus, rfl, ho4, he4, hb4⟩
  have HB4 : Hid (Below w.heap.size w w4) := Lib.hid (HB3.out.trans (hb4.mono HB3.out.size))
  have hRO := rowsof_any us A4 us.length c4 rfl (by have := congrArg List.length hus; rw [List.length_map] at this; have h2 := congrArg List.length HEM.out; rw [List.length_map] at h2; have := HML.out; omega) w4 (ownRow ho4) (fun x hx => by
    have hx2 : x.1 ∈ S.N := by rw [← hus]; exact List.mem_map_of_mem hx
    have hok := H0.out.nOk.ok _ hx2
    exact ⟨hok, ownE_val (he4 x hx) (by have := (rightE_yes hok).2.2.1; omega)⟩)
  rw [show entT us = S.N from hus] at hRO
  have HRO := Lib.hid hRO
  clear hus ho4 he4 hb4 HST hRO
  go_wp2_with fail
  refine HRO.out.mono ?_
  rintro e w5 ⟨A5, c5, rfl, ho5, hb5⟩
  have HB5 : Hid (Below w.heap.size w w5) := Lib.hid (HB4.out.trans (hb5.mono HB4.out.size))
  have HSB5 := Lib.hid (HS.out.keep HB5.out.size fun k hk => HB5.out.block k (HS.out.lt k hk))
  have HSN := Lib.hid (snap7_any (J := stK KS lm fm (.slice A S.acks.length c)) FL g S.m q (rowsT S.N).length c5 S.rs A5 (rowsT S.N) rfl w5 HSB5.out.lg (rowN_own (w := w) (fun k hk => HS.out.lt k (HS.out.sub k (Or.inl hk))) (ownBase ho5 HB4.out.size)))
  have hg5 : g < w5.heap.size := Nat.lt_of_lt_of_le hgl HB5.out.size
  clear ho5 hb5 HRO
  by_cases hlong : 65536 < (rowsT S.N).length
  · have hRR := HR.out
    rw [show compS S = (S, 3) from if_pos hlong] at hRR
    rw [show snapS S.rs S.m (rowsT S.N) = (S.rs, S.m, 3) from if_pos hlong] at HSN
    subst hRR
    clear hlong HR
    obtain ⟨B, hB⟩ : ∃ B, rowsT S.N = B := ⟨_, rfl⟩
    rw [hB] at HSN ⊢
    clear hB
    go_wp2_with fail
    refine HSN.out.mono ?_
    rintro e w6 ⟨rfl, FL', hF', hl', ht'⟩
    have HX := Lib.hid (st_log HS.out HB5.out hF' hl' ht')
    clear hF' hl' ht' HSN
    go_wp2
    go_ret
    exact ⟨rfl, _, fun k hk => hk.1, ⟨H0.out, FL', FS, lm, fm, TL, TF, A, c, H12.out.1, H12.out.2.1, H12.out.2.2, HX.out.1⟩, HX.out.2⟩
  · have hRR := HR.out
    rw [show compS S = (⟨[(0, rowsT S.N)], 1, S.N, S.N, S.acks⟩, 0) from if_neg hlong] at hRR
    rw [show snapS S.rs S.m (rowsT S.N) = ([(0, rowsT S.N)], 1, 0) from if_neg hlong] at HSN
    subst hRR
    clear hlong HR
    obtain ⟨B, hB⟩ : ∃ B, rowsT S.N = B := ⟨_, rfl⟩
    have HBB := Lib.hid hB
    rw [hB] at HSN
    simp only at HSN ⊢
    rw [hB]
    clear hB
    go_wp2_with fail
    refine HSN.out.mono ?_
    rintro e w6 ⟨rfl, FL', hF', hl', ht'⟩
    obtain ⟨hs6, hto6⟩ := st_log HS.out HB5.out hF' hl' ht'
    have HT6 := Lib.hid hto6
    have HSE := Lib.hid (settle_any8 _ FL' FS g 1 _ _ lm fm TL TF A c S.acks HLN.out w6 hs6)
    clear hs6 hto6 hF' hl' ht' HSN
    go_wp2_with fail
    refine HSE.out.mono ?_
    rintro e w7 ⟨rfl, F2, FS2, lm2, hF2, hs2, hto2⟩
    have HX : Hid (StTo KS (.int .i64 0) F g ⟨[(0, rowsT S.N)], 1, S.N, S.N, S.acks⟩ q w (.returned (.int .i64 0)) w7) := Lib.hid (by
      refine ⟨rfl, F2, fun k hk => ?_, ⟨ok8_comp H0.out, FL', FS2, lm2, fm, M, [], A, c, HEM.out, rfl, Nat.zero_le _, ?_⟩, HT6.out.trans hto2 fun k hk => hk.1⟩
      · rcases hF2 k hk with h | h
        · exact h.1
        · exact Or.inr (Nat.le_trans HT6.out.size h)
      · rw [← HMM.out, HBB.out]; exact hs2)
    clear hF2 hs2 hto2 HSE
    go_wp2
    go_ret
    exact HX.out
end Go.Proofs.YtkdpfjenjcpcfaaGreatDoor
