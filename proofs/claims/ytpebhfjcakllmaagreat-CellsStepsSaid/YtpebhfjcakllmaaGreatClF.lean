/- ClF: Package cells: Forget, Tokens. -/
import Derived.Test.YtpebhfjcakllmaaGreatClE
import Derived.Test.YtpebhfjcakllmaaGreatRngPut
import Derived.Test.YtpebhfjcakllmaaGreatClW
namespace Go.Proofs.YtpebhfjcakllmaaGreat
open Go.RowKit Mem Be Word Rg Go.Maps
set_option maxRecDepth 10000
set_option maxHeartbeats 2000000
set_option linter.unusedVariables false
theorem tokens_any {F : Nat → Prop} {g b tk : Nat} {S : Cl} (ok : OkC S) (w : World) (h : ClAt w F g b tk S) :
    Calls Tryz.prog 15 #[.pointer (some ⟨g, 0, none⟩)] w (IntsE S.tok w) := by
  obtain ⟨V, c, h⟩ := h
  have c6 := h.c6
  have HC := Lib.hid (clonei_any w.heap.size c S.nb (some ⟨tk, 0, none⟩) S.tok ok.tl.symm w (Row.of_own h.tok) (Nat.le_refl _) (by have := ok.nb; omega))
  clear h
  go_enter Tryz.func15, Tryz.ntmps15
  go_wp2_with fail
  refine HC.out.mono ?_
  rintro e w1 ⟨A, c', rfl, ho, hb⟩
  have HX := Lib.hid (And.intro ho hb)
  clear ho hb c6 HC
  go_wp2_with fail
  go_ret
  exact ⟨A, c', rfl, HX.out.1, HX.out.2⟩
def unWV (x : CV) : CV := (unW x.1, x.2)
theorem forget_tab {V : List CV} (hs : SortT kC V) : SortT kC (V.map unWV) ∧ mergeT kC V (V.map unWV) = V.map unWV := by
  have hF : SortT kC (V.map unWV) := (sort_map (f := unWV) (key := kC) (key' := kC) fun x => rfl).1 hs
  refine ⟨hF, ext_tab (merge_sort hs) hF fun k => ?_⟩
  rw [get_merge hF, get_map (f := unWV) (key := kC) (key' := kC) (fun x => rfl)]
  cases getK kC V k <;> rfl
theorem forget_start {V : List CV} (hs : SortT kC V) : Part8C V (V.map unWV) V (Maps.has (tbDC V)) := ⟨hs, fun k => by
  rw [has_iffC, get_map (f := unWV) (key := kC) (key' := kC) (fun x => rfl)]
  cases getK kC V k <;> simp⟩
theorem rng_putC {w : World} {b r n cnt : Nat} {F : List CV} {left : Lit → Bool} (h : RngBC w b r n F left cnt) (x z : CV) (hk : x.1.e.k.length ≤ maxLen) (hn : n < maxLen) (hh : getK kC F x.1.e.k = some z) :
    ∃ w', (Instr.mapUpdate 71 (.map (some b)) (.string ⟨x.1.e.k.toArray⟩) (cV x)).run Tryz.prog w = .ok () w' ∧ RngBC w' b r n (putK kC F x) left cnt ∧ w.mapTurned w' b := by
  obtain ⟨w', h1, h2, h3⟩ := ranges_store (t := 71) (e := 88) h law11 Tryz.underlying71 hn (key_runC hk) (val := cV x) (d := .held (cV x)) (ps := []) rfl (by rw [has_iffC, hh]; rfl)
  rw [tb_putC] at h2
  exact ⟨w', h1, h2, h3⟩
/-- Tokens of which the first ones are one more. -/
def tokU (l : List Int) (i : Nat) : List Int := (l.take i).map (· + 1) ++ l.drop i
theorem tokU_zero (l : List Int) : tokU l 0 = l := rfl
theorem tokU_all (l : List Int) : tokU l l.length = l.map (· + 1) := by unfold tokU; simp
theorem tokU_len (l : List Int) (i : Nat) : (tokU l i).length = l.length := by unfold tokU; simp; omega
theorem tokU_at {l : List Int} {i : Nat} (h : i < l.length) : (tokU l i)[i]? = some l[i] := by
  unfold tokU
  rw [List.getElem?_append_right (by simp; omega), List.getElem?_drop]
  simp only [List.length_map, List.length_take]
  rw [show i + (i - min i l.length) = i by omega, List.getElem?_eq_getElem h]
theorem tokU_step {l : List Int} {i : Nat} (h : i < l.length) : (tokU l i).set i (l[i] + 1) = tokU l (i + 1) := by
  unfold tokU
  have e1 : ((l.take i).map (· + 1)).length = i := by simp; omega
  rw [List.set_append_right _ _ (by omega), e1, Nat.sub_self, List.drop_eq_getElem_cons h, List.set_cons_zero, List.take_succ_eq_append_getElem h, List.map_append]
  simp
section
variable {w w' : World} {F : Nat → Prop} {g b tk c : Nat} {S : Cl} {V : List CV}
theorem ClB.setTok (h : ClB w F g b tk S V c) (i : Nat) (x : Int) : ClB (w.setCell ⟨tk, i, none⟩ (.int .i64 x)) F g b tk { S with tok := S.tok.set i x } V c ∧ Touch (Own3 g b tk) w (w.setCell ⟨tk, i, none⟩ (.int .i64 x)) := by
  have t6 := (Touch.refl (Own3 g b tk) w).set_ (p := ⟨tk, i, none⟩) (Or.inl (Or.inr (Or.inr rfl))) (.int .i64 x)
  refine ⟨⟨h.ent, h.blk.far (p := ⟨tk, i, none⟩) (fun e => h.gt e.symm) _, h.map.keep (Below.heap_setCell _ ⟨tk, i, none⟩ _ b (fun e => h.bt e.symm)), h.tok.set_ i x, h.fg, h.fb, h.ft, fun z hz => ?_, fun k hk => Nat.lt_of_lt_of_le (h.lt k hk) t6.size⟩, t6⟩
  exact (h.val z hz).touch (t6.mono h.own)
end
theorem forget_any {F : Nat → Prop} {g b tk : Nat} {S : Cl} (ok : OkC S) (hM : ∀ t ∈ S.tok, t ≤ 4611686018427387904) (w : World) (h : ClAt w F g b tk S) :
    Calls Tryz.prog 25 #[.pointer (some ⟨g, 0, none⟩)] w (UsedC F g b tk (forgetS S) w) := by
  obtain ⟨V, c, h⟩ := h
  have HVS := Lib.hid (h.srt ok)
  have HFT := Lib.hid (forget_tab (h.srt ok))
  have hVn : V.length ≤ 4096 := by rw [h.lens]; have h1 := ok.len; have h2 := ok.rc; omega
  have HL := Lib.hid hVn
  have HEN := Lib.hid h.ent
  have HKL : Hid (∀ x ∈ V, x.1.e.k.length ≤ 250) := Lib.hid fun x hx => (sizE_le (h.okE ok hx)).2.1
  obtain ⟨w1, hrange, hrg, hb1, hs1⟩ := rng_startC h.map
  have HRG := Lib.hid hrg
  have HCB0 : Hid (ClB w1 (More2 F w.heap.size w1.heap.size) g b tk { S with T := V.map Prod.fst } V c) := Lib.hid (by
    have := h.wide hb1
    rw [h.ent]
    exact this)
  have HTH : Hid (∀ W (S' : Cl) (D : List CV), ClB W (More2 F w.heap.size w1.heap.size) g b tk S' D c → ClB W F g b tk S' D c) := Lib.hid fun W S' D hh => hh.thin (fun k hk => Or.inl hk) h.fg h.fb h.ft
  have HSZ : Hid (w1.heap.size = w.heap.size + 1 ∧ g < w.heap.size ∧ b < w.heap.size ∧ tk < w.heap.size) := Lib.hid ⟨hs1, h.lt g h.fg, h.lt b h.fb, h.lt tk h.ft⟩
  have HT0 : Hid (Touch (Own3 g b tk) w w1) := Lib.hid (Touch.ofBelow hb1)
  have HM : Hid (∀ i (hi : i < S.tok.length), 0 ≤ S.tok[i] ∧ S.tok[i] ≤ 4611686018427387904) := Lib.hid fun i hi => ⟨ok.t0 _ (List.getElem_mem hi), hM _ (List.getElem_mem hi)⟩
  have HTL : Hid (S.tok.length = S.nb ∧ S.nb ≤ 256) := Lib.hid ⟨ok.tl, ok.nb.2⟩
  have hnb : (S.nb : Int) ≤ 256 := by have := ok.nb; omega
  have hnb0 : (0 : Int) ≤ (S.nb : Int) := by omega
  have c4 := h.c4
  clear h ok hM hrg hb1 hs1 hVn
  go_enter Tryz.func25, Tryz.ntmps25
  go_wp2_with fail
  go_loopw [2, 3] (fun _ _ wr => ∃ (left : Lit → Bool) (cnt : Nat) (D : List CV), Hid (RngBC wr b w.heap.size V.length D left cnt) ∧ Hid (Part8C V (V.map unWV) D left) ∧ Hid (ClB wr (More2 F w.heap.size w1.heap.size) g b tk { S with T := D.map Prod.fst } D c) ∧ Hid (w.heap.size + 1 ≤ wr.heap.size) ∧ Hid (Touch (Own3 g b tk) w wr)) (fun _ _ wr => wr.rangeLeft b w.heap.size)
  case atStart => exact ⟨_, _, V, HRG, Lib.hid (forget_start HVS.out), HCB0, Lib.hid (by have := HSZ.out.1; omega), HT0⟩
  case round =>
    obtain ⟨left, cnt, D, HRn, HP, HCB, HZ, HT⟩ := hrel
    rcases rng_nextC HP.out.1 HRn.out 0 with ⟨h0, hl, hrun⟩ | ⟨x, w2, cnt', hx, hlk, hrun, hrg, hlt, hgr, hsz, hen⟩
    · have HD : Hid (D.map Prod.fst = S.T.map unW) := Lib.hid (by
        have e1 : D = V.map unWV := (part_endC HVS.out HFT.out.1 HP.out hl).trans HFT.out.2
        rw [e1, ← HEN.out, List.map_map, List.map_map]
        rfl)
      have c6 := HCB.out.c6
      have d4 := HCB.out.c4
      simp only at c6
      clear h0 hl c4 hrange
      go_wp2_with fail
      have HS0 : Hid (ClB wr (More2 F w.heap.size w1.heap.size) g b tk { S with T := D.map Prod.fst, tok := tokU S.tok 0 } D c) := Lib.hid HCB.out
      obtain ⟨wq, hwq⟩ : ∃ v, v = wr := ⟨_, rfl⟩
      go_loopw [4, 29] (fun _ iv wz => ∃ i : Nat, i ≤ S.nb ∧ iv = .int .i64 (i : Int) ∧ Hid (ClB wz (More2 F w.heap.size w1.heap.size) g b tk { S with T := D.map Prod.fst, tok := tokU S.tok i } D c) ∧ Hid (Touch (Own3 g b tk) w wz)) (fun _ iv _ => S.nb - (intOf iv).toNat)
      case atStart => exact ⟨0, Nat.zero_le _, rfl, HS0, HT⟩
      case round =>
        obtain ⟨i, hi, rfl, HCQ, HTQ⟩ := hrel
        have d6 := HCQ.out.c6
        simp only at d6
        have hi0 : (0 : Int) ≤ (i : Int) := by omega
        by_cases hlt : i < S.nb
        · have hil : i < S.tok.length := by have := HTL.out.1; omega
          have hi1 : (i : Int) < (S.nb : Int) := by omega
          obtain ⟨t, ht⟩ : ∃ t, S.tok[i] = t := ⟨_, rfl⟩
          have hm := HM.out i hil
          have hstep := tokU_step hil
          have hat := tokU_at hil
          rw [ht] at hm hstep hat
          obtain ⟨hm0, hm1⟩ := hm
          have ctk := HCQ.out.tok.cell i (by show i < (tokU S.tok i).length; rw [tokU_len]; exact hil)
          have e1 : (tokU S.tok i)[i]'(by rw [tokU_len]; exact hil) = t := by
            have := List.getElem?_eq_some_iff.1 hat
            exact this.2
          simp only [e1] at ctk
          have ztk := HCQ.out.tok.zero i
          have HN := Lib.hid (HCQ.out.setTok i (t + 1))
          have HST := Lib.hid hstep
          clear hil ht hstep hat e1 hi
          go_wp2
          go_roundw
          case rel =>
            refine ⟨i + 1, by omega, by go_num, Lib.hid ?_, Lib.hid (HTQ.out.trans HN.out.2 fun k hk => Or.inl hk)⟩
            have := HN.out.1
            simp only at this
            rw [HST.out] at this
            exact this
          case measure => simp [intOf]; omega
        · have hi1 : ¬ (i : Int) < (S.nb : Int) := by omega
          have HE : Hid (ClB wr F g b tk (forgetS S) D c) := Lib.hid (by
            have e1 : i = S.tok.length := by have := HTL.out.1; omega
            have := HTH.out _ _ _ HCQ.out
            rw [e1, tokU_all, HD.out] at this
            exact this)
          go_wp2
          go_end0
          exact ⟨rfl, ⟨D, c, HE.out⟩, HTQ.out⟩
    · have hz2 := HZ.out
      have hsz0 := HSZ.out
      have hxg : getK kC D x.1.e.k = some x := get_mem HP.out.1 hx
      have hxV : x ∈ V := by
        have h1 := HP.out.2 x.1.e.k
        rw [hxg, hlk] at h1
        simp only [Bool.true_eq_false, and_false, if_false] at h1
        exact (get_some h1.symm).1
      have HXV : Hid (unWV x ∈ V.map unWV) := Lib.hid (List.mem_map_of_mem hxV)
      have HXK := Lib.hid (HKL.out x hxV)
      have HXG := Lib.hid hxg
      have HXD := Lib.hid hx
      have hG : Touch (fun k => k = w.heap.size) wr w2 := (Touch.refl _ _).grown hgr fun k e => by injection e with e; exact Or.inl e.symm
      have HC2 : Hid (ClB w2 (More2 F w.heap.size w1.heap.size) g b tk { S with T := D.map Prod.fst } D c) := Lib.hid (HCB.out.touch hG (by omega) (by omega) (by omega) fun k hk => by subst hk; exact Or.inr ⟨Nat.le_refl _, by omega⟩)
      have HT2 : Hid (Touch (Own3 g b tk) w w2) := Lib.hid (HT.out.grown hgr fun k e => by injection e with e; exact Or.inr (by omega))
      have HR2 := Lib.hid hrg
      have HCN := Lib.hid hlt
      have HLK := Lib.hid hlk
      have HZ2 : Hid (w.heap.size + 1 ≤ w2.heap.size) := Lib.hid (by omega)
      have HAL : Hid (Below w2.heap.size w2 (w2.alloc (.cells #[.string ⟨x.1.e.k.toArray⟩, .int .i64 x.1.e.s, .int .i64 x.1.e.u, .int .i64 x.1.e.o, .bool x.1.e.has, .slice x.2.1 x.1.e.v.length x.2.2, .bool x.1.wh, .bool x.1.cl, .int .i64 x.1.us] 88))) := Lib.hid ((Below.refl _ _).alloc (Nat.le_refl _) _)
      have HB3 : Hid (Below w2.heap.size w2 ((w2.alloc (.cells #[.string ⟨x.1.e.k.toArray⟩, .int .i64 x.1.e.s, .int .i64 x.1.e.u, .int .i64 x.1.e.o, .bool x.1.e.has, .slice x.2.1 x.1.e.v.length x.2.2, .bool false, .bool x.1.cl, .int .i64 x.1.us] 88)))) := Lib.hid ((Below.refl _ _).alloc (Nat.le_refl _) _)
      have HX3 : Hid (Blk (w2.alloc (.cells #[.string ⟨x.1.e.k.toArray⟩, .int .i64 x.1.e.s, .int .i64 x.1.e.u, .int .i64 x.1.e.o, .bool x.1.e.has, .slice x.2.1 x.1.e.v.length x.2.2, .bool false, .bool x.1.cl, .int .i64 x.1.us] 88)) w2.heap.size 88 #[.string ⟨x.1.e.k.toArray⟩, .int .i64 x.1.e.s, .int .i64 x.1.e.u, .int .i64 x.1.e.o, .bool x.1.e.has, .slice x.2.1 x.1.e.v.length x.2.2, .bool false, .bool x.1.cl, .int .i64 x.1.us]) := Lib.hid (Blk.new _ _ _)
      clear hx hlk hrg hlt hgr hxg hxV hG c4 hrange hsz hsz0
      unfold cV at hrun hen
      go_wp2_with fail
      have l4 := later_cell (HC2.out.below HB3.out).c4
      have b0 := later_blk_cell HX3.out 0 _ rfl
      have b1 := later_blk_cell HX3.out 1 _ rfl
      have b2 := later_blk_cell HX3.out 2 _ rfl
      have b3 := later_blk_cell HX3.out 3 _ rfl
      have b4 := later_blk_cell HX3.out 4 _ rfl
      have b5 := later_blk_cell HX3.out 5 _ rfl
      have b6 := later_blk_cell HX3.out 6 _ rfl
      have b7 := later_blk_cell HX3.out 7 _ rfl
      have b8 := later_blk_cell HX3.out 8 _ rfl
      refine wp_region_later_tail 6 (by kernel_rfl) (by kernel_rfl) ?_
      simp only [List.take_succ_cons, List.take_zero, List.drop_succ_cons, List.drop_zero]
      repeat (go_big_quiet_step (fail))
      refine wpQuiet_nil ?_
      intro w' hw'
      obtain ⟨p, rfl⟩ := hw'
      have HB4 : Hid (Below w2.heap.size w2 p.world) := Lib.hid (HB3.out.trans (p.bel.mono HB3.out.size))
      have hR4 : RngBC p.world b w.heap.size V.length D (fun z => left z && !z.sameKey (.string x.1.e.k)) cnt' := rng_keep2C HR2.out (HB4.out.block b (by have := HSZ.out; have := HZ2.out; omega)) (HB4.out.block _ (by have := HZ2.out; omega))
      obtain ⟨w7, hrun7, hR7, ht7⟩ := rng_putC hR4 (unWV x) x (by have := HXK.out; show x.1.e.k.length ≤ maxLen; unfold maxLen; omega) (by have := HL.out; unfold maxLen; omega) HXG.out
      have HE := Lib.hid (put_end (S' := { S with T := (putK kC D (unWV x)).map Prod.fst }) HC2.out (y := unWV x) (by have hv := HC2.out.val x HXD.out; exact ⟨hv.row, hv.cap, hv.mx⟩) HB4.out (rng_ownsC hR7) ht7 (by
        unfold clC
        simp only
        rw [put_map (f := Prod.fst) (key := kC) (key' := kP) (fun x => rfl), sum_put_same (x := x.1) (y := (unWV x).1) ((sort_map (f := Prod.fst) (key := kC) (key' := kP) fun x => rfl).1 HP.out.1) (List.mem_map_of_mem HXD.out) rfl]) (put_map (f := Prod.fst) (key := kC) (key' := kP) (fun x => rfl) _ _) rfl rfl)
      have HR7 := Lib.hid hR7
      have HFIN : Hid (w7.rangeLeft b w.heap.size < wr.rangeLeft b w.heap.size ∧ Part8C V (V.map unWV) (putK kC D (unWV x)) (fun z => left z && !z.sameKey (.string x.1.e.k)) ∧ w.heap.size + 1 ≤ w7.heap.size ∧ Touch (Own3 g b tk) w w7) := Lib.hid ⟨by rw [World.ranges.left_eq hR7, World.ranges.left_eq HRn.out]; exact HCN.out, part_stepC HFT.out.1 HP.out HXV.out, by have h1 := HE.out.2.size; have h2 := HZ2.out; omega, HT2.out.trans HE.out.2 fun k hk => Or.inl hk⟩
      unfold cV unWV unW at hrun7
      clear HB4 hR4 hR7 ht7 l4 b0 b1 b2 b3 b4 b5 b6 b7 b8
      obtain ⟨w6, hw6⟩ : ∃ w6, p.world = w6 := ⟨_, rfl⟩
      rw [hw6] at hrun7 ⊢
      clear hw6 p
      go_wp2
      go_roundw
      case rel => exact ⟨_, _, _, HR7, Lib.hid HFIN.out.2.1, Lib.hid HE.out.1, Lib.hid HFIN.out.2.2.1, Lib.hid HFIN.out.2.2.2⟩
      case measure => exact HFIN.out.1
end Go.Proofs.YtpebhfjcakllmaaGreat
