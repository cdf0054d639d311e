/- ClQ: Package cells: Query. -/
import Derived.Test.YtpebhfjcakllmaaGreatClW
import Derived.Deep.RegionHeld3
namespace Go.Proofs.YtpebhfjcakllmaaGreat
open Go.RowKit Mem Be Word Rg Go.Maps
set_option maxRecDepth 10000
set_option maxHeartbeats 1000000
set_option linter.unusedVariables false
theorem query_bad {F : Nat → Prop} {g b tk : Nat} {S : Cl} (k : List UInt8) (hk : k.length ≤ maxLen) (hb : k = [] ∨ 250 < k.length) (w : World) (h : ClAt w F g b tk S) :
    Calls Tryz.prog 23 #[.pointer (some ⟨g, 0, none⟩), .string ⟨k.toArray⟩] w (QueryC F g b tk (S, rp0, 2) w) := by
  have hal : ∀ ob, Below w.heap.size w (w.alloc ob) := fun ob => (Below.refl _ _).alloc (Nat.le_refl _) ob
  have HA : Hid (∀ ob, ClAt (w.alloc ob) F g b tk S) := Lib.hid fun ob => by obtain ⟨V, c, h⟩ := h; exact ⟨V, c, h.below (hal ob)⟩
  have HB := Lib.hid hal
  clear h hal
  rcases hb with hb | hb
  · subst hb
    go_enter Tryz.func23, Tryz.ntmps23
    go_wp2_with fail
    exact bodyPost_ret (v := .tuple #[repV rp0 none 0, .int .i64 2]) (by simp [results, Tryz.results23, go_sem, repV, rp0, entN]) rfl ⟨none, 0, rfl, World.ownsRow_nil _ _ _ _, HA.out _, Touch.ofBelow (HB.out _)⟩
  · have hl := ba_len k
    have hb2 : (250 : Int) < (k.length : Int) := by omega
    have hk2 : (k.length : Int) ≤ 9223372036854775807 := by unfold maxLen at hk; omega
    have hk0 : k.isEmpty = false := by
      cases k with
      | nil => simp at hb
      | cons a r => rfl
    clear hk hb
    go_enter Tryz.func23, Tryz.ntmps23
    go_wp2_with fail
    exact bodyPost_ret (v := .tuple #[repV rp0 none 0, .int .i64 2]) (by simp [results, Tryz.results23, go_sem, repV, rp0, entN]) rfl ⟨none, 0, rfl, World.ownsRow_nil _ _ _ _, HA.out _, Touch.ofBelow (HB.out _)⟩
theorem query_none {F : Nat → Prop} {g b tk c : Nat} {S : Cl} {V : List CV} (ok : OkC S) (k : List UInt8) (hk0 : k ≠ []) (hk : k.length ≤ 250) (w : World) (h : ClB w F g b tk S V c) (hg : getK kC V k = none) :
    Calls Tryz.prog 23 #[.pointer (some ⟨g, 0, none⟩), .string ⟨k.toArray⟩] w (QueryC F g b tk (S, ⟨entN k, tokK S k == 0, tokK S k⟩, 0) w) := by
  have hl := ba_len k
  have hk2 : (k.length : Int) ≤ 250 := by omega
  have hie : k.isEmpty = false := by
    cases k with
    | nil => exact absurd rfl hk0
    | cons a r => rfl
  have HOB : Hid (Below w.heap.size w (w.alloc (.cells #[.string ⟨#[]⟩, .int .i64 0, .int .i64 0, .int .i64 0, .bool false, .slice none 0 0, .bool false, .int .i64 0] 45))) := Lib.hid ((Below.refl _ _).alloc (Nat.le_refl _) _)
  have HTK := Lib.hid (token_any ok k (by omega) _ (h.below HOB.out))
  have HLK : Hid (∀ W, Below w.heap.size w W → (Instr.lookup 71 (.map (some b)) (.string ⟨k.toArray⟩) true).run Tryz.prog W = .ok (.tuple #[cV (oldC V k), .bool false]) W) := Lib.hid fun W hb => by
    have := look_ok h (k := k) (by omega) W hb
    rwa [hg] at this
  have hold : oldC V k = cvN [] := by unfold oldC; rw [hg]; rfl
  rw [hold] at HLK
  have H := Lib.hid h
  have HR := Lib.hid (Blk.new w 45 #[.string ⟨#[]⟩, .int .i64 0, .int .i64 0, .int .i64 0, .bool false, .slice none 0 0, .bool false, .int .i64 0])
  obtain ⟨t, ht⟩ : ∃ t, tokK S k = t := ⟨_, rfl⟩
  rw [ht] at HTK ⊢
  clear h hg hk0 hk ok hold ht
  go_enter Tryz.func23, Tryz.ntmps23
  go_wp2_with fail
  refine HTK.out.mono ?_
  rintro e w1 ⟨rfl, hb⟩
  have HB1 : Hid (Below w.heap.size w w1) := Lib.hid (HOB.out.trans (hb.mono HOB.out.size))
  have HR1 := Lib.hid (HR.out.below hb HR.out.lt)
  have hlook := HLK.out w1 HB1.out
  have c4 := (H.out.below HB1.out).c4
  clear hb HTK
  have HAL : Hid (∀ ob, Below w1.heap.size w1 (w1.alloc ob)) := Lib.hid fun ob => (Below.refl _ _).alloc (Nat.le_refl _) ob
  have HR2 : Hid (∀ ob, Blk (w1.alloc ob) w.heap.size 45 #[.string ⟨#[]⟩, .int .i64 0, .int .i64 0, .int .i64 0, .bool false, .slice none 0 0, .bool false, .int .i64 0]) := Lib.hid fun ob => HR1.out.alloc ob
  have r0 := fun ob => (HR2.out ob).cell 0
  have r1 := fun ob => (HR2.out ob).cell 1
  have r2 := fun ob => (HR2.out ob).cell 2
  have r3 := fun ob => (HR2.out ob).cell 3
  have r4 := fun ob => (HR2.out ob).cell 4
  have r5 := fun ob => (HR2.out ob).cell 5
  have r6 := fun ob => (HR2.out ob).cell 6
  have r7 := fun ob => (HR2.out ob).cell 7
  have z0 := fun ob => (HR2.out ob).frozen 0
  have z1 := fun ob => (HR2.out ob).frozen 1
  have z2 := fun ob => (HR2.out ob).frozen 2
  have z3 := fun ob => (HR2.out ob).frozen 3
  have z4 := fun ob => (HR2.out ob).frozen 4
  have z5 := fun ob => (HR2.out ob).frozen 5
  have z6 := fun ob => (HR2.out ob).frozen 6
  have z7 := fun ob => (HR2.out ob).frozen 7
  simp only [List.getElem?_toArray] at r0 r1 r2 r3 r4 r5 r6 r7
  unfold cV cvN cpN entN at hlook
  simp only [List.length_nil] at hlook
  have HFIN : Hid (∀ ob u0 u1 u2 u3 u4 u5 u6 u7, ClAt (((((((((w1.alloc ob).setCell ⟨w.heap.size, 0, none⟩ u0).setCell ⟨w.heap.size, 1, none⟩ u1).setCell ⟨w.heap.size, 2, none⟩ u2).setCell ⟨w.heap.size, 3, none⟩ u3).setCell ⟨w.heap.size, 4, none⟩ u4).setCell ⟨w.heap.size, 5, none⟩ u5).setCell ⟨w.heap.size, 6, none⟩ u6).setCell ⟨w.heap.size, 7, none⟩ u7) F g b tk S ∧ Below w.heap.size w (((((((((w1.alloc ob).setCell ⟨w.heap.size, 0, none⟩ u0).setCell ⟨w.heap.size, 1, none⟩ u1).setCell ⟨w.heap.size, 2, none⟩ u2).setCell ⟨w.heap.size, 3, none⟩ u3).setCell ⟨w.heap.size, 4, none⟩ u4).setCell ⟨w.heap.size, 5, none⟩ u5).setCell ⟨w.heap.size, 6, none⟩ u6).setCell ⟨w.heap.size, 7, none⟩ u7)) := Lib.hid fun ob u0 u1 u2 u3 u4 u5 u6 u7 => by
    have hb := below_set (below_set (below_set (below_set (below_set (below_set (below_set (below_set (HB1.out.trans ((HAL.out ob).mono HB1.out.size)) (Nat.le_refl _) 0 u0) (Nat.le_refl _) 1 u1) (Nat.le_refl _) 2 u2) (Nat.le_refl _) 3 u3) (Nat.le_refl _) 4 u4) (Nat.le_refl _) 5 u5) (Nat.le_refl _) 6 u6) (Nat.le_refl _) 7 u7
    exact ⟨⟨V, c, H.out.below hb⟩, hb⟩
  go_wp2_with fail
  exact bodyPost_ret (v := .tuple #[repV ⟨entN k, t == 0, t⟩ none 0, .int .i64 0]) (by simp [results, Tryz.results23, go_sem, repV, entN, r0, r1, r2, r3, r4, r5, r6, r7]) rfl ⟨none, 0, rfl, World.ownsRow_nil _ _ _ _, (HFIN.out _ _ _ _ _ _ _ _ _).1, Touch.ofBelow (HFIN.out _ _ _ _ _ _ _ _ _).2⟩
set_option maxHeartbeats 4000000 in
theorem query_some {F : Nat → Prop} {g b tk c : Nat} {S : Cl} {V : List CV} (ok : OkC S) (k : List UInt8) (hk0 : k ≠ []) (hk : k.length ≤ 250) (hu : S.us ≤ 4611686018427387904) (w : World) (h : ClB w F g b tk S V c) (y : CV) (hg : getK kC V k = some y) :
    Calls Tryz.prog 23 #[.pointer (some ⟨g, 0, none⟩), .string ⟨k.toArray⟩] w (QueryC F g b tk (useS S y.1, ⟨y.1.e, y.1.wh, tokK S k⟩, 0) w) := by
  have hl := ba_len k
  have hk2 : (k.length : Int) ≤ 250 := by omega
  have hie : k.isEmpty = false := by
    cases k with
    | nil => exact absurd rfl hk0
    | cons a r => rfl
  have HOB : Hid (Below w.heap.size w (w.alloc (.cells #[.string ⟨#[]⟩, .int .i64 0, .int .i64 0, .int .i64 0, .bool false, .slice none 0 0, .bool false, .int .i64 0] 45))) := Lib.hid ((Below.refl _ _).alloc (Nat.le_refl _) _)
  have HTK := Lib.hid (token_any ok k (by omega) _ (h.below HOB.out))
  have HLK : Hid (∀ W, Below w.heap.size w W → (Instr.lookup 71 (.map (some b)) (.string ⟨k.toArray⟩) true).run Tryz.prog W = .ok (.tuple #[cV (oldC V k), .bool true]) W) := Lib.hid fun W hb => by
    have := look_ok h (k := k) (by omega) W hb
    rwa [hg] at this
  have hold : oldC V k = y := by unfold oldC; rw [hg]; rfl
  rw [hold] at HLK
  have H := Lib.hid h
  have HOK := Lib.hid ok
  have HYM := Lib.hid (get_some hg).1
  have HYO := Lib.hid (h.okE ok (get_some hg).1)
  have HR := Lib.hid (Blk.new w 45 #[.string ⟨#[]⟩, .int .i64 0, .int .i64 0, .int .i64 0, .bool false, .slice none 0 0, .bool false, .int .i64 0])
  obtain ⟨t, ht⟩ : ∃ t, tokK S k = t := ⟨_, rfl⟩
  rw [ht] at HTK ⊢
  clear h hg hk0 hk ok hold ht
  go_enter Tryz.func23, Tryz.ntmps23
  go_wp2_with fail
  refine HTK.out.mono ?_
  rintro e w1 ⟨rfl, hb⟩
  have HB1 : Hid (Below w.heap.size w w1) := Lib.hid (HOB.out.trans (hb.mono HOB.out.size))
  have HR1 := Lib.hid (HR.out.below hb HR.out.lt)
  have hlook := HLK.out w1 HB1.out
  have c4 := (H.out.below HB1.out).c4
  have HB3 : Hid (Below w.heap.size w (w1.alloc (.cells #[.string ⟨y.1.e.k.toArray⟩, .int .i64 y.1.e.s, .int .i64 y.1.e.u, .int .i64 y.1.e.o, .bool y.1.e.has, .slice y.2.1 y.1.e.v.length y.2.2, .bool y.1.wh, .bool y.1.cl, .int .i64 y.1.us] 88))) := Lib.hid (HB1.out.trans (((Below.refl _ _).alloc (Nat.le_refl _) _).mono HB1.out.size))
  have HX := Lib.hid (Blk.new w1 88 #[.string ⟨y.1.e.k.toArray⟩, .int .i64 y.1.e.s, .int .i64 y.1.e.u, .int .i64 y.1.e.o, .bool y.1.e.has, .slice y.2.1 y.1.e.v.length y.2.2, .bool y.1.wh, .bool y.1.cl, .int .i64 y.1.us])
  have HR3 := Lib.hid (HR1.out.alloc (.cells #[.string ⟨y.1.e.k.toArray⟩, .int .i64 y.1.e.s, .int .i64 y.1.e.u, .int .i64 y.1.e.o, .bool y.1.e.has, .slice y.2.1 y.1.e.v.length y.2.2, .bool y.1.wh, .bool y.1.cl, .int .i64 y.1.us] 88))
  have H3 := Lib.hid (H.out.wide HB3.out)
  have HUSE := Lib.hid (use_any HOK.out y HYO.out hu _ H3.out (H3.out.val y HYM.out))
  have HXG : Hid (w.heap.size ≤ w1.heap.size ∧ w.heap.size < w1.heap.size) := Lib.hid ⟨HB1.out.size, HR1.out.lt⟩
  unfold cV at hlook HUSE
  clear hb HTK hu
  go_wp2_with fail
  refine HUSE.out.mono ?_
  rintro e w2 ⟨rfl, ⟨V2, c2, hat⟩, htu⟩
  have HAT := Lib.hid hat
  have HTU := Lib.hid htu
  have HX2 : Hid (Blk w2 w1.heap.size 88 #[.string ⟨y.1.e.k.toArray⟩, .int .i64 y.1.e.s, .int .i64 y.1.e.u, .int .i64 y.1.e.o, .bool y.1.e.has, .slice y.2.1 y.1.e.v.length y.2.2, .bool y.1.wh, .bool y.1.cl, .int .i64 y.1.us]) := Lib.hid ((htu.block _ HX.out.lt (H.out.not3 HXG.out.1)).trans HX.out)
  have HR2 : Hid (Blk w2 w.heap.size 45 #[.string ⟨#[]⟩, .int .i64 0, .int .i64 0, .int .i64 0, .bool false, .slice none 0 0, .bool false, .int .i64 0]) := Lib.hid ((htu.block _ HR3.out.lt (H.out.not3 (Nat.le_refl _))).trans HR3.out)
  have HYV := Lib.hid (((H3.out.val y HYM.out).touch (htu.mono H3.out.own)).ok (sizE_le HYO.out).2.2.1)
  have HCP : Hid (∀ W, Below w2.heap.size w2 W → Calls Tryz.prog 37 #[entV ⟨y.1.e.k.toArray⟩ y.1.e.s y.1.e.u y.1.e.o y.1.e.has y.2.1 y.1.e.v.length y.2.2] W (MadeE W.heap.size ⟨y.1.e.k.toArray⟩ y.1.e.s y.1.e.u y.1.e.o y.1.e.has y.1.e.v W)) := Lib.hid fun W hb => copyE_any ⟨y.1.e.k.toArray⟩ y.1.e.s y.1.e.u y.1.e.o y.1.e.has y.2.1 y.1.e.v y.1.e.v.length y.2.2 rfl W (HYV.out.below hb)
  have HDR : Hid (Below w2.heap.size w2 w2.drew) := Lib.hid (Below.refl _ _).drew
  have s0 := HX2.out.is 0 _ rfl
  have s1 := HX2.out.is 1 _ rfl
  have s2 := HX2.out.is 2 _ rfl
  have s3 := HX2.out.is 3 _ rfl
  have s4 := HX2.out.is 4 _ rfl
  have s5 := HX2.out.is 5 _ rfl
  have s6 := HX2.out.is 6 _ rfl
  clear hat htu HUSE hlook c4
  go_wp2_with fail
  have HK0 : Hid ((w2.drew).cell? ⟨w1.heap.size, 0, none⟩ = some (.string ⟨y.1.e.k.toArray⟩) ∧ (w2.drew).cell? ⟨w1.heap.size, 1, none⟩ = some (.int .i64 y.1.e.s) ∧ (w2.drew).cell? ⟨w1.heap.size, 2, none⟩ = some (.int .i64 y.1.e.u) ∧ (w2.drew).cell? ⟨w1.heap.size, 3, none⟩ = some (.int .i64 y.1.e.o) ∧ (w2.drew).cell? ⟨w1.heap.size, 4, none⟩ = some (.bool y.1.e.has) ∧ (w2.drew).cell? ⟨w1.heap.size, 5, none⟩ = some (.slice y.2.1 y.1.e.v.length y.2.2) ∧ (w2.drew).cell? ⟨w1.heap.size, 6, none⟩ = some (.bool y.1.wh)) := Lib.hid ⟨s0, s1, s2, s3, s4, s5, s6⟩
  have HNE : Hid (w1.heap.size ≠ w.heap.size) := Lib.hid (by have := HXG.out; omega)
  go_region_held3 (fun w' => (w').cell? ⟨w1.heap.size, 0, none⟩ = some (.string ⟨y.1.e.k.toArray⟩) ∧ (w').cell? ⟨w1.heap.size, 1, none⟩ = some (.int .i64 y.1.e.s) ∧ (w').cell? ⟨w1.heap.size, 2, none⟩ = some (.int .i64 y.1.e.u) ∧ (w').cell? ⟨w1.heap.size, 3, none⟩ = some (.int .i64 y.1.e.o) ∧ (w').cell? ⟨w1.heap.size, 4, none⟩ = some (.bool y.1.e.has) ∧ (w').cell? ⟨w1.heap.size, 5, none⟩ = some (.slice y.2.1 y.1.e.v.length y.2.2) ∧ (w').cell? ⟨w1.heap.size, 6, none⟩ = some (.bool y.1.wh))
    (first | with_reducible exact HK0.out | with_reducible exact HKC.out | with_reducible exact HKS.out _ _ _ _ _ _ _ _ | go_keep)
    (first
      | (go_at_call 37; refine (HCP.out _ HDR.out).mono ?_; rintro e w5 ⟨A5, c5, rfl, ho, hb⟩; (have HB5 := Lib.hid (HDR.out.trans (hb.mono HDR.out.size))); (have HO5 : Hid (OwnE w5 w2.heap.size (y.1.e, A5, c5)) := Lib.hid (ownBase ho HDR.out.size)); (have hx5 := HX2.out.below HB5.out HX2.out.lt); (have HKC : Hid ((w5).cell? ⟨w1.heap.size, 0, none⟩ = some (.string ⟨y.1.e.k.toArray⟩) ∧ (w5).cell? ⟨w1.heap.size, 1, none⟩ = some (.int .i64 y.1.e.s) ∧ (w5).cell? ⟨w1.heap.size, 2, none⟩ = some (.int .i64 y.1.e.u) ∧ (w5).cell? ⟨w1.heap.size, 3, none⟩ = some (.int .i64 y.1.e.o) ∧ (w5).cell? ⟨w1.heap.size, 4, none⟩ = some (.bool y.1.e.has) ∧ (w5).cell? ⟨w1.heap.size, 5, none⟩ = some (.slice y.2.1 y.1.e.v.length y.2.2) ∧ (w5).cell? ⟨w1.heap.size, 6, none⟩ = some (.bool y.1.wh)) := Lib.hid ⟨hx5.cell 0, hx5.cell 1, hx5.cell 2, hx5.cell 3, hx5.cell 4, hx5.cell 5, hx5.cell 6⟩); (have HKS : Hid (∀ u0 u1 u2 u3 u4 u5 u6 u7, (((((((((w5).setCell ⟨w.heap.size, 0, none⟩ u0).setCell ⟨w.heap.size, 1, none⟩ u1).setCell ⟨w.heap.size, 2, none⟩ u2).setCell ⟨w.heap.size, 3, none⟩ u3).setCell ⟨w.heap.size, 4, none⟩ u4).setCell ⟨w.heap.size, 5, none⟩ u5).setCell ⟨w.heap.size, 6, none⟩ u6).setCell ⟨w.heap.size, 7, none⟩ u7).cell? ⟨w1.heap.size, 0, none⟩ = some (.string ⟨y.1.e.k.toArray⟩) ∧ (((((((((w5).setCell ⟨w.heap.size, 0, none⟩ u0).setCell ⟨w.heap.size, 1, none⟩ u1).setCell ⟨w.heap.size, 2, none⟩ u2).setCell ⟨w.heap.size, 3, none⟩ u3).setCell ⟨w.heap.size, 4, none⟩ u4).setCell ⟨w.heap.size, 5, none⟩ u5).setCell ⟨w.heap.size, 6, none⟩ u6).setCell ⟨w.heap.size, 7, none⟩ u7).cell? ⟨w1.heap.size, 1, none⟩ = some (.int .i64 y.1.e.s) ∧ (((((((((w5).setCell ⟨w.heap.size, 0, none⟩ u0).setCell ⟨w.heap.size, 1, none⟩ u1).setCell ⟨w.heap.size, 2, none⟩ u2).setCell ⟨w.heap.size, 3, none⟩ u3).setCell ⟨w.heap.size, 4, none⟩ u4).setCell ⟨w.heap.size, 5, none⟩ u5).setCell ⟨w.heap.size, 6, none⟩ u6).setCell ⟨w.heap.size, 7, none⟩ u7).cell? ⟨w1.heap.size, 2, none⟩ = some (.int .i64 y.1.e.u) ∧ (((((((((w5).setCell ⟨w.heap.size, 0, none⟩ u0).setCell ⟨w.heap.size, 1, none⟩ u1).setCell ⟨w.heap.size, 2, none⟩ u2).setCell ⟨w.heap.size, 3, none⟩ u3).setCell ⟨w.heap.size, 4, none⟩ u4).setCell ⟨w.heap.size, 5, none⟩ u5).setCell ⟨w.heap.size, 6, none⟩ u6).setCell ⟨w.heap.size, 7, none⟩ u7).cell? ⟨w1.heap.size, 3, none⟩ = some (.int .i64 y.1.e.o) ∧ (((((((((w5).setCell ⟨w.heap.size, 0, none⟩ u0).setCell ⟨w.heap.size, 1, none⟩ u1).setCell ⟨w.heap.size, 2, none⟩ u2).setCell ⟨w.heap.size, 3, none⟩ u3).setCell ⟨w.heap.size, 4, none⟩ u4).setCell ⟨w.heap.size, 5, none⟩ u5).setCell ⟨w.heap.size, 6, none⟩ u6).setCell ⟨w.heap.size, 7, none⟩ u7).cell? ⟨w1.heap.size, 4, none⟩ = some (.bool y.1.e.has) ∧ (((((((((w5).setCell ⟨w.heap.size, 0, none⟩ u0).setCell ⟨w.heap.size, 1, none⟩ u1).setCell ⟨w.heap.size, 2, none⟩ u2).setCell ⟨w.heap.size, 3, none⟩ u3).setCell ⟨w.heap.size, 4, none⟩ u4).setCell ⟨w.heap.size, 5, none⟩ u5).setCell ⟨w.heap.size, 6, none⟩ u6).setCell ⟨w.heap.size, 7, none⟩ u7).cell? ⟨w1.heap.size, 5, none⟩ = some (.slice y.2.1 y.1.e.v.length y.2.2) ∧ (((((((((w5).setCell ⟨w.heap.size, 0, none⟩ u0).setCell ⟨w.heap.size, 1, none⟩ u1).setCell ⟨w.heap.size, 2, none⟩ u2).setCell ⟨w.heap.size, 3, none⟩ u3).setCell ⟨w.heap.size, 4, none⟩ u4).setCell ⟨w.heap.size, 5, none⟩ u5).setCell ⟨w.heap.size, 6, none⟩ u6).setCell ⟨w.heap.size, 7, none⟩ u7).cell? ⟨w1.heap.size, 6, none⟩ = some (.bool y.1.wh)) := Lib.hid fun u0 u1 u2 u3 u4 u5 u6 u7 => ⟨cell_set8 HKC.out.1 HNE.out _ _ _ _ _ _ _ _, cell_set8 HKC.out.2.1 HNE.out _ _ _ _ _ _ _ _, cell_set8 HKC.out.2.2.1 HNE.out _ _ _ _ _ _ _ _, cell_set8 HKC.out.2.2.2.1 HNE.out _ _ _ _ _ _ _ _, cell_set8 HKC.out.2.2.2.2.1 HNE.out _ _ _ _ _ _ _ _, cell_set8 HKC.out.2.2.2.2.2.1 HNE.out _ _ _ _ _ _ _ _, cell_set8 HKC.out.2.2.2.2.2.2 HNE.out _ _ _ _ _ _ _ _⟩); (have HR5 := Lib.hid (HR2.out.below HB5.out HR2.out.lt)); (have r0 := HR5.out.is 0 _ rfl); (have r1 := HR5.out.is 1 _ rfl); (have r2 := HR5.out.is 2 _ rfl); (have r3 := HR5.out.is 3 _ rfl); (have r4 := HR5.out.is 4 _ rfl); (have r5 := HR5.out.is 5 _ rfl); (have r6 := HR5.out.is 6 _ rfl); (have r7 := HR5.out.is 7 _ rfl); (have z0 := HR5.out.frozen 0); (have z1 := HR5.out.frozen 1); (have z2 := HR5.out.frozen 2); (have z3 := HR5.out.frozen 3); (have z4 := HR5.out.frozen 4); (have z5 := HR5.out.frozen 5); (have z6 := HR5.out.frozen 6); (have z7 := HR5.out.frozen 7); clear ho hb hx5))
  have HEND : Hid (∀ u0 u1 u2 u3 u4 u5 u6 u7, ClAt ((((((((w5.setCell ⟨w.heap.size, 0, none⟩ u0).setCell ⟨w.heap.size, 1, none⟩ u1).setCell ⟨w.heap.size, 2, none⟩ u2).setCell ⟨w.heap.size, 3, none⟩ u3).setCell ⟨w.heap.size, 4, none⟩ u4).setCell ⟨w.heap.size, 5, none⟩ u5).setCell ⟨w.heap.size, 6, none⟩ u6).setCell ⟨w.heap.size, 7, none⟩ u7) F g b tk (useS S y.1) ∧ Touch (Own3 g b tk) w ((((((((w5.setCell ⟨w.heap.size, 0, none⟩ u0).setCell ⟨w.heap.size, 1, none⟩ u1).setCell ⟨w.heap.size, 2, none⟩ u2).setCell ⟨w.heap.size, 3, none⟩ u3).setCell ⟨w.heap.size, 4, none⟩ u4).setCell ⟨w.heap.size, 5, none⟩ u5).setCell ⟨w.heap.size, 6, none⟩ u6).setCell ⟨w.heap.size, 7, none⟩ u7) ∧ OwnE ((((((((w5.setCell ⟨w.heap.size, 0, none⟩ u0).setCell ⟨w.heap.size, 1, none⟩ u1).setCell ⟨w.heap.size, 2, none⟩ u2).setCell ⟨w.heap.size, 3, none⟩ u3).setCell ⟨w.heap.size, 4, none⟩ u4).setCell ⟨w.heap.size, 5, none⟩ u5).setCell ⟨w.heap.size, 6, none⟩ u6).setCell ⟨w.heap.size, 7, none⟩ u7) w.heap.size (y.1.e, A5, c5)) := Lib.hid fun u0 u1 u2 u3 u4 u5 u6 u7 => by
    have hg := H.out.lt g H.out.fg
    have hb := H.out.lt b H.out.fb
    have ht := H.out.lt tk H.out.ft
    have hs3 := HXG.out.2
    have hs := HTU.out.size
    have h5 := HAT.out.below HB5.out
    have hr : More2 F w.heap.size (w1.alloc (.cells #[.string ⟨y.1.e.k.toArray⟩, .int .i64 y.1.e.s, .int .i64 y.1.e.u, .int .i64 y.1.e.o, .bool y.1.e.has, .slice y.2.1 y.1.e.v.length y.2.2, .bool y.1.wh, .bool y.1.cl, .int .i64 y.1.us] 88)).heap.size w.heap.size := Or.inr ⟨Nat.le_refl _, by simp; omega⟩
    have h6 := (((((((h5.set_ hr (by omega) (by omega) (by omega) 0 u0).set_ hr (by omega) (by omega) (by omega) 1 u1).set_ hr (by omega) (by omega) (by omega) 2 u2).set_ hr (by omega) (by omega) (by omega) 3 u3).set_ hr (by omega) (by omega) (by omega) 4 u4).set_ hr (by omega) (by omega) (by omega) 5 u5).set_ hr (by omega) (by omega) (by omega) 6 u6).set_ hr (by omega) (by omega) (by omega) 7 u7
    have t2 : Touch (Own3 g b tk) w w5 := ((Touch.ofBelow HB3.out).trans HTU.out fun k hk => Or.inl hk).thenBelow HB5.out
    have ho : w.heap.size < w2.heap.size := by simp at hs; omega
    refine ⟨⟨_, _, h6.thin (fun k hk => Or.inl hk) H.out.fg H.out.fb H.out.ft⟩, (((((((t2.set_ (Or.inr (Nat.le_refl _)) u0).set_ (Or.inr (Nat.le_refl _)) u1).set_ (Or.inr (Nat.le_refl _)) u2).set_ (Or.inr (Nat.le_refl _)) u3).set_ (Or.inr (Nat.le_refl _)) u4).set_ (Or.inr (Nat.le_refl _)) u5).set_ (Or.inr (Nat.le_refl _)) u6).set_ (Or.inr (Nat.le_refl _)) u7, ?_⟩
    exact ownBase (own_put (own_put (own_put (own_put (own_put (own_put (own_put (own_put HO5.out ho 0 u0) ho 1 u1) ho 2 u2) ho 3 u3) ho 4 u4) ho 5 u5) ho 6 u6) ho 7 u7) (by omega)
  clear HKC HKS HR5 HB5 HK0
  go_wp2
  exact bodyPost_ret (v := .tuple #[repV ⟨y.1.e, y.1.wh, t⟩ A5 c5, .int .i64 0]) (by simp [results, Tryz.results23, go_sem, repV, r0, r1, r2, r3, r4, r5, r6, r7]) rfl ⟨A5, c5, rfl, (HEND.out _ _ _ _ _ _ _ _).2.2, (HEND.out _ _ _ _ _ _ _ _).1, (HEND.out _ _ _ _ _ _ _ _).2.1⟩
theorem query_any {F : Nat → Prop} {g b tk : Nat} {S : Cl} (ok : OkC S) (k : List UInt8) (hk : k.length ≤ maxLen) (hu : S.us ≤ 4611686018427387904) (w : World) (h : ClAt w F g b tk S) :
    Calls Tryz.prog 23 #[.pointer (some ⟨g, 0, none⟩), .string ⟨k.toArray⟩] w (QueryC F g b tk (queryS S k) w) := by
  unfold queryS
  by_cases hb : k = [] ∨ 250 < k.length
  · rw [if_pos hb]
    exact query_bad k hk hb w h
  · rw [if_neg hb]
    obtain ⟨V, c, h⟩ := h
    have h0 : k ≠ [] := fun e => hb (Or.inl e)
    have h1 : k.length ≤ 250 := by
      have : ¬ 250 < k.length := fun e => hb (Or.inr e)
      omega
    rw [h.get]
    cases hg : getK kC V k with
    | none => exact query_none ok k h0 h1 w h hg
    | some y => exact query_some ok k h0 h1 hu w h y hg
end Go.Proofs.YtpebhfjcakllmaaGreat
