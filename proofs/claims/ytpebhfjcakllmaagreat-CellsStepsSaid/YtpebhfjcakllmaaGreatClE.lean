/- ClE: Package cells: Clean, Evict, Size, Tokens. -/
import Derived.Test.YtpebhfjcakllmaaGreatClM
namespace Go.Proofs.YtpebhfjcakllmaaGreat
open Go.RowKit Mem Be Word Rg Go.Maps
set_option maxRecDepth 10000
set_option maxHeartbeats 1000000
set_option linter.unusedVariables false
def BoolC (F : Nat → Prop) (g b tk : Nat) (R : Cl × Bool) (w : World) (e : Ending) (w' : World) : Prop := e = .returned (.bool R.2) ∧ ClAt w' F g b tk R.1 ∧ Touch (Own3 g b tk) w w'
section
variable {w w6 w7 : World} {F : Nat → Prop} {g b tk c : Nat} {S S' : Cl} {V : List CV}
/-- What a cell leaves that is put, of no other size in all. -/
theorem put_end {y : CV} (h : ClB w F g b tk S V c) (hy : ValF F w y) (hb6 : Below w.heap.size w w6) (hT : TabBC w7 b (putK kC V y)) (ht : w6.mapTurned w7 b) (hC : clC S' b tk c = clC S b tk c) (hS : S'.T = putK kP S.T y.1) (hk : S'.tok = S.tok) (hn : S'.nb = S.nb) :
    ClB w7 F g b tk S' (putK kC V y) c ∧ Touch (Own3 g b tk) w w7 := by
  have h6 := h.below hb6
  have t7 : Touch (Own3 g b tk) w w7 := (Touch.ofBelow hb6).trans (touch_turned ht) fun k hk => Or.inl (Or.inr (Or.inl hk))
  refine ⟨⟨?_, ?_, hT, ?_, h.fg, h.fb, h.ft, fun z hz => ?_, fun k hk => Nat.lt_of_lt_of_le (h.lt k hk) t7.size⟩, t7⟩
  · rw [put_map (f := Prod.fst) (key := kC) (key' := kP) (fun x => rfl), h.ent, hS]
  · rw [hC]
    exact (ht.grown.block g h6.blk.lt (by intro e; injection e with e; exact h.gb e.symm)).trans h6.blk
  · rw [hk]
    exact h6.tok.keep (ht.grown.block tk h6.tok.lt (by intro e; injection e with e; exact h.bt e))
  · have tF := t7.mono (G := F) fun k hk => by rcases hk with rfl | rfl | rfl; exact h.fg; exact h.fb; exact h.ft
    rcases mem_put_of hz with rfl | hz
    · exact hy.touch tF
    · exact (h.val z hz).touch tF
theorem sum_put_same {T : List CP} {x y : CP} (hs : SortT kP T) (hx : x ∈ T) (he : y.e = x.e) : sumC (putK kP T y) = sumC T := by
  rw [sumC_put, he]
  have := (del_cons hs hx).2
  omega
theorem look_okL (h : ClB w F g b tk S V c) {k : List UInt8} (hk : k.length ≤ maxLen) (cm : Bool) (W : World) (hb : Below w.heap.size w W) :
    (Instr.lookup 71 (.map (some b)) (.string ⟨k.toArray⟩) cm).run Tryz.prog W = .ok (if cm then .tuple #[cV (oldC V k), .bool (getK kC V k).isSome] else cV (oldC V k)) W := by
  have := look_runC (w := W) (mo := some b) (T := V) (Or.inr ⟨b, rfl, h.map.keep (hb.block b (h.lt b h.fb))⟩) (k := k) hk cm
  rw [look_old] at this
  exact this
end
theorem clean_none {F : Nat → Prop} {g b tk c : Nat} {S : Cl} {V : List CV} (k : List UInt8) (hk : k.length ≤ maxLen) (s u o : Int) (w : World) (h : ClB w F g b tk S V c) (hg : getK kC V k = none) :
    Calls Tryz.prog 22 #[.pointer (some ⟨g, 0, none⟩), .string ⟨k.toArray⟩, tagV s u o] w (BoolC F g b tk (S, false) w) := by
  have hal : ∀ ob, Below w.heap.size w (w.alloc ob) := fun ob => (Below.refl _ _).alloc (Nat.le_refl _) ob
  have HB : Hid (∀ o1 o2, Below w.heap.size w ((w.alloc o1).alloc o2)) := Lib.hid fun o1 o2 => (hal o1).alloc (by simp) o2
  have hlook := fun ob => look_okL h hk true (w.alloc ob) (hal ob)
  have hold : oldC V k = cvN [] := by unfold oldC; rw [hg]; rfl
  simp only [hg, hold, Option.isSome_none, if_true] at hlook
  have c4 := h.c4
  have hgl := h.lt g h.fg
  have H := Lib.hid h
  unfold cV cvN cpN entN at hlook
  simp only [List.length_nil] at hlook
  clear h hg hold hal hk
  go_enter Tryz.func22, Tryz.ntmps22
  go_wp2_with fail
  go_ret
  exact ⟨rfl, ⟨V, c, H.out.below (HB.out _ _)⟩, Touch.ofBelow (HB.out _ _)⟩
theorem clean_some {F : Nat → Prop} {g b tk c : Nat} {S : Cl} {V : List CV} (ok : OkC S) (y : CV) (s u o : Int) (w : World) (h : ClB w F g b tk S V c) (hg : getK kC V y.1.e.k = some y) :
    Calls Tryz.prog 22 #[.pointer (some ⟨g, 0, none⟩), .string ⟨y.1.e.k.toArray⟩, tagV s u o] w (BoolC F g b tk (cleanS S y.1.e.k s u o) w) := by
  have hym := (get_some hg).1
  have hyo := sizE_le (h.okE ok hym)
  have hgP : getK kP S.T y.1.e.k = some y.1 := by rw [h.get, hg]; rfl
  have hal : ∀ ob, Below w.heap.size w (w.alloc ob) := fun ob => (Below.refl _ _).alloc (Nat.le_refl _) ob
  have HB : Hid (∀ o1 o2, Below w.heap.size w ((w.alloc o1).alloc o2)) := Lib.hid fun o1 o2 => (hal o1).alloc (by simp) o2
  have hlook := fun ob => look_okL h (k := y.1.e.k) (by unfold maxLen; omega) true (w.alloc ob) (hal ob)
  have hold : oldC V y.1.e.k = y := by unfold oldC; rw [hg]; rfl
  simp only [hg, hold, Option.isSome_some, if_true] at hlook
  have hVn : V.length ≤ 4096 := by rw [h.lens]; have h1 := ok.len; have h2 := ok.rc; omega
  have c4 := h.c4
  have hgl := h.lt g h.fg
  have H := Lib.hid h
  have HYM := Lib.hid hym
  have HL := Lib.hid hVn
  have HK : Hid (y.1.e.k.length ≤ 250) := Lib.hid hyo.2.1
  have HS := Lib.hid ok.srt
  have hX := fun o1 => blk_at (g' := w.heap.size + 1) (by simp) (Blk.new (w.alloc o1) 88 #[.string ⟨y.1.e.k.toArray⟩, .int .i64 y.1.e.s, .int .i64 y.1.e.u, .int .i64 y.1.e.o, .bool y.1.e.has, .slice y.2.1 y.1.e.v.length y.2.2, .bool y.1.wh, .bool y.1.cl, .int .i64 y.1.us])
  have HX := Lib.hid hX
  obtain ⟨cv, hcv⟩ : ∃ cv, cmpT y.1.e.s y.1.e.u y.1.e.o s u o = cv := ⟨_, rfl⟩
  have HCV := Lib.hid hcv
  unfold cV at hlook
  by_cases hp : 0 < cv
  · have HR : Hid (cleanS S y.1.e.k s u o = (S, false)) := Lib.hid (by unfold cleanS; rw [hgP]; simp only; rw [hcv, if_pos hp])
    rw [HR.out]
    clear h hg hold hal hX ok hym hyo hgP hcv hVn
    go_enter Tryz.func22, Tryz.ntmps22
    go_wp2_with fail
    refine (compare_val _ _ _ _ _ _ _ HCV _).mono ?_
    rintro e w2 ⟨rfl, hb⟩
    have HB2 : Hid (Below w.heap.size w w2) := Lib.hid ((HB.out _ _).trans (hb.mono (HB.out _ _).size))
    clear hb
    go_wp2_with fail
    go_ret
    exact ⟨rfl, ⟨V, c, H.out.below HB2.out⟩, Touch.ofBelow HB2.out⟩
  · have HR : Hid (cleanS S y.1.e.k s u o = ({ S with T := putK kP S.T { y.1 with cl := true } }, true)) := Lib.hid (by unfold cleanS; rw [hgP]; simp only; rw [hcv, if_neg hp])
    have hp' : cv ≤ 0 := by omega
    have HEND : Hid (∀ w6 w7, Below w.heap.size w w6 → TabBC w7 b (putK kC V ({ y.1 with cl := true }, y.2)) → w6.mapTurned w7 b → ClB w7 F g b tk { S with T := putK kP S.T { y.1 with cl := true } } (putK kC V ({ y.1 with cl := true }, y.2)) c ∧ Touch (Own3 g b tk) w w7) := Lib.hid fun w6 w7 h6 h7 ht => by
      have hv := H.out.val y HYM.out
      refine put_end (S' := { S with T := putK kP S.T { y.1 with cl := true } }) H.out (y := ({ y.1 with cl := true }, y.2)) ⟨hv.row, hv.cap, hv.mx⟩ h6 h7 ht ?_ rfl rfl rfl
      unfold clC
      simp only
      rw [sum_put_same (x := y.1) (y := { y.1 with cl := true }) HS.out (H.out.mem HYM.out) rfl]
    rw [HR.out]
    clear h hg hold hal hX ok hym hyo hgP hcv hVn hp
    go_enter Tryz.func22, Tryz.ntmps22
    go_wp2_with fail
    refine (compare_val _ _ _ _ _ _ _ HCV _).mono ?_
    rintro e w2 ⟨rfl, hb⟩
    have HB2 : Hid (Below w.heap.size w w2) := Lib.hid ((HB.out _ _).trans (hb.mono (HB.out _ _).size))
    have HX2 := Lib.hid ((HX.out _).below hb (by simp))
    have z7 := HX2.out.frozen 7
    have x7 := HX2.out.cell 7
    have d4 := (H.out.below HB2.out).c4
    simp only [List.getElem?_toArray] at x7
    clear hb
    go_wp2_with fail
    have HX3 : Hid (Blk (w2.setCell ⟨w.heap.size + 1, 7, none⟩ (.bool true)) (w.heap.size + 1) 88 #[.string ⟨y.1.e.k.toArray⟩, .int .i64 y.1.e.s, .int .i64 y.1.e.u, .int .i64 y.1.e.o, .bool y.1.e.has, .slice y.2.1 y.1.e.v.length y.2.2, .bool y.1.wh, .bool true, .int .i64 y.1.us]) := Lib.hid (by simpa using HX2.out.set_ 7 (.bool true))
    have HB3 : Hid (Below w.heap.size w (w2.setCell ⟨w.heap.size + 1, 7, none⟩ (.bool true))) := Lib.hid (below_set HB2.out (by omega) _ _)
    have l4 := later_cell (H.out.below HB3.out).c4
    have b0 := later_blk_cell HX3.out 0 _ rfl
    have b1 := later_blk_cell HX3.out 1 _ rfl
    have b2 := later_blk_cell HX3.out 2 _ rfl
    have b3 := later_blk_cell HX3.out 3 _ rfl
    have b4 := later_blk_cell HX3.out 4 _ rfl
    have b5 := later_blk_cell HX3.out 5 _ rfl
    have b6 := later_blk_cell HX3.out 6 _ rfl
    have b7 := later_blk_cell HX3.out 7 _ rfl
    have b8 := later_blk_cell HX3.out 8 _ rfl
    refine wp_region_later_tail 6 (by kernel_rfl) (by kernel_rfl) ?_
    simp only [List.take_succ_cons, List.take_zero, List.drop_succ_cons, List.drop_zero]
    repeat (go_big_quiet_step (fail))
    refine wpQuiet_nil ?_
    intro w' hw'
    obtain ⟨p, rfl⟩ := hw'
    have HB4 : Hid (Below w.heap.size w p.world) := Lib.hid (HB3.out.trans (p.bel.mono HB3.out.size))
    obtain ⟨w7, hrun, hT7, ht7⟩ := put_runC (H.out.below HB4.out).map ({ y.1 with cl := true }, y.2) (by have := HK.out; show y.1.e.k.length ≤ maxLen; unfold maxLen; omega) (by have := HL.out; unfold maxLen; omega)
    have HE := Lib.hid (HEND.out _ _ HB4.out hT7 ht7)
    unfold cV at hrun
    clear HB4 hT7 ht7 l4 b0 b1 b2 b3 b4 b5 b6 b7 b8
    obtain ⟨w6, hw6⟩ : ∃ w6, p.world = w6 := ⟨_, rfl⟩
    rw [hw6] at hrun ⊢
    clear hw6 p
    go_wp2
    go_ret
    exact ⟨rfl, ⟨_, _, HE.out.1⟩, HE.out.2⟩
theorem clean_any {F : Nat → Prop} {g b tk : Nat} {S : Cl} (ok : OkC S) (k : List UInt8) (hk : k.length ≤ maxLen) (s u o : Int) (w : World) (h : ClAt w F g b tk S) :
    Calls Tryz.prog 22 #[.pointer (some ⟨g, 0, none⟩), .string ⟨k.toArray⟩, tagV s u o] w (BoolC F g b tk (cleanS S k s u o) w) := by
  obtain ⟨V, c, h⟩ := h
  cases hg : getK kC V k with
  | none =>
    have : cleanS S k s u o = (S, false) := by unfold cleanS; rw [h.get, hg]; rfl
    rw [this]
    exact clean_none k hk s u o w h hg
  | some y =>
    obtain rfl : y.1.e.k = k := (get_some hg).2
    exact clean_some ok y s u o w h hg
theorem evictC_any {F : Nat → Prop} {g b tk : Nat} {S : Cl} (ok : OkC S) (k : List UInt8) (hk : k.length ≤ maxLen) (hM : ∀ t ∈ S.tok, t ≤ 4611686018427387904) (w : World) (h : ClAt w F g b tk S) :
    Calls Tryz.prog 27 #[.pointer (some ⟨g, 0, none⟩), .string ⟨k.toArray⟩] w (BoolC F g b tk (evictS S k) w) := by
  obtain ⟨V, c, h⟩ := h
  have hlook := look_okL h hk false w (Below.refl _ _)
  simp only [if_false, Bool.false_eq_true] at hlook
  have c4 := h.c4
  obtain ⟨y, hy⟩ : ∃ y, oldC V k = y := ⟨_, rfl⟩
  rw [hy] at hlook
  have hft := field_clean ⟨y.1.e.k.toArray⟩ y.1.e.s y.1.e.u y.1.e.o y.1.e.has y.2.1 y.1.e.v.length y.2.2 y.1.wh y.1.cl y.1.us
  have H := Lib.hid h
  unfold cV at hlook
  by_cases hc : y.1.cl = true
  · have hg : getK kC V k = some y := by
      cases hg : getK kC V k with
      | none =>
        unfold oldC at hy
        rw [hg] at hy
        subst hy
        cases hc
      | some z => unfold oldC at hy; rw [hg] at hy; simp at hy; rw [hy]
    have hgP : getK kP S.T k = some y.1 := by rw [h.get, hg]; rfl
    have HR : Hid (evictS S k = (goneS S k, true)) := Lib.hid (by unfold evictS; rw [hgP]; simp only; rw [if_pos hc])
    have hkl := (sizE_le (h.okE ok (get_some hg).1)).2.1
    rw [show y.1.e.k = k from (get_some hg).2] at hkl
    have HEV := Lib.hid (evict_any ok k (by omega) (hM _ (tokK_mem ok k)) w h)
    rw [HR.out]
    rw [hc] at hlook hft
    clear h hg hgP hy hc hk
    go_enter Tryz.func27, Tryz.ntmps27
    go_wp2_with fail
    refine HEV.out.mono ?_
    rintro e w2 ⟨rfl, hat, htu⟩
    have HAT := Lib.hid (And.intro hat htu)
    clear hat htu hlook c4
    go_wp2_with fail
    go_ret
    exact ⟨rfl, HAT.out.1, HAT.out.2⟩
  · have hc2 : y.1.cl = false := by simpa using hc
    have HR : Hid (evictS S k = (S, false)) := Lib.hid (by
      unfold evictS
      rw [h.get]
      cases hg : getK kC V k with
      | none => rfl
      | some z =>
        unfold oldC at hy; rw [hg] at hy; simp at hy
        subst hy
        simp [hc2])
    rw [HR.out]
    rw [hc2] at hlook hft
    clear h hy hc hk hc2
    go_enter Tryz.func27, Tryz.ntmps27
    go_wp2_with fail
    go_ret
    exact ⟨rfl, ⟨V, c, H.out⟩, Touch.refl _ _⟩
theorem sizeT_any {F : Nat → Prop} {g b tk : Nat} {S : Cl} (w : World) (h : ClAt w F g b tk S) :
    Calls Tryz.prog 10 #[.pointer (some ⟨g, 0, none⟩)] w (IsII0 (S.T.length : Int) (sumC S.T : Int) w) := by
  obtain ⟨V, c, h⟩ := h
  have l4 := later_cell h.c4
  have l5 := later_cell h.c5
  have hln : ∀ (p : Later w) (ty : TypeId), (Builtin.len_ #[71] ty #[.map (some b)]).run Tryz.prog p.world = .ok (.int .i64 (S.T.length : Int)) p.world := fun p ty => len_anyC h ty p.world p.bel
  clear h
  go_enter Tryz.func10, Tryz.ntmps10
  go_wp2_with fail
  refine wp_region_later (by kernel_rfl) (by kernel_rfl) ?_
  repeat (go_big_quiet_step (fail))
  refine wpQuiet_nil ?_
  intro w' hw'
  obtain ⟨p, rfl⟩ := hw'
  go_wp2
  go_ret2
  exact ⟨rfl, p.bel⟩
end Go.Proofs.YtpebhfjcakllmaaGreat
