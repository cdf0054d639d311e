/- CrR: The reference makes room. -/
import Derived.Test.YtpebhfjcakllmaaGreatCrU
import Derived.Test.YtpebhfjcakllmaaGreatRelyV
import Derived.BigFrame
namespace Go.Proofs.YtpebhfjcakllmaaGreat
open Go.RowKit Go.ChangeShapes Mem Be Word Rg Go.Maps
set_option maxRecDepth 100000
set_option maxHeartbeats 8000000
set_option linter.unusedVariables false
set_option linter.unusedSimpArgs false
/-- Room that was made, or not: nothing of the table lies in the blocks of F. -/
def RoomP (F : Nat → Prop) (R : Cl × Bool) (w : World) (e : Ending) (w' : World) : Prop := ∃ t : Tr, e = .returned (.tuple #[.agg #[.int .i64 t.rc, .int .i64 t.rb, .int .i64 (t.nb : Int), .bool t.fr, .slice t.A t.L.length t.c, .slice t.tA t.tok.length t.tc, .int .i64 t.us], .bool R.2]) ∧ trS t = R.1 ∧ TrN F w' t ∧ Below w.heap.size w w'
/-- What the last region's operations leave. -/
def VR (F : Nat → Prop) (t : Tr) (e : EntP) (eA : Option Addr) (ec : Nat) (m : Nat) (G : Cl) (R : Cl × Bool) : Nat → Value → World → Prop
  | 0, v, _ => v = .agg #[.int .i64 t.rc, .int .i64 t.rb, .int .i64 (t.nb : Int), .bool t.fr, .slice t.A t.L.length t.c, .slice t.tA t.tok.length t.tc, .int .i64 t.us]
  | 1, v, _ => v = .int .i64 (m : Int)
  | 2, v, w => ∃ t' : Tr, v = .agg #[.int .i64 t'.rc, .int .i64 t'.rb, .int .i64 (t'.nb : Int), .bool t'.fr, .slice t'.A t'.L.length t'.c, .slice t'.tA t'.tok.length t'.tc, .int .i64 t'.us] ∧ trS t' = G ∧ TrN F w t'
  | 3, v, _ => v = .agg #[.string ⟨e.k.toArray⟩, .int .i64 e.s, .int .i64 e.u, .int .i64 e.o, .bool e.has, .slice eA e.v.length ec]
  | 4, v, w => ∃ t' : Tr, v = .tuple #[.agg #[.int .i64 t'.rc, .int .i64 t'.rb, .int .i64 (t'.nb : Int), .bool t'.fr, .slice t'.A t'.L.length t'.c, .slice t'.tA t'.tok.length t'.tc, .int .i64 t'.us], .bool R.2] ∧ trS t' = R.1 ∧ TrN F w t'
  | 5, v, w => ∃ t' : Tr, v = .agg #[.int .i64 t'.rc, .int .i64 t'.rb, .int .i64 (t'.nb : Int), .bool t'.fr, .slice t'.A t'.L.length t'.c, .slice t'.tA t'.tok.length t'.tc, .int .i64 t'.us] ∧ trS t' = R.1 ∧ TrN F w t'
  | 6, v, _ => v = .bool R.2
  | 8, v, _ => v = .bool R.2
  | _, _, _ => True
def preR (g : Nat) (s : Nat) (w : World) : Prop := Blk w g 34 #[.int .i64 0, .int .i64 0, .int .i64 0, .bool false, .slice none 0 0, .slice none 0 0, .int .i64 0]
/-- A table in a box, nothing of which lies in the blocks of F. -/
def BoxT (F : Nat → Prop) (g : Nat) (S : Cl) (w : World) : Prop := ∃ t : Tr, Blk w g 34 #[.int .i64 t.rc, .int .i64 t.rb, .int .i64 (t.nb : Int), .bool t.fr, .slice t.A t.L.length t.c, .slice t.tA t.tok.length t.tc, .int .i64 t.us] ∧ trS t = S ∧ TrN F w t
def postR (F : Nat → Prop) (g : Nat) (S : Cl) (s : Nat) (w : World) : Prop := BoxT F g S w
theorem stabR {F : Nat → Prop} {t : Tr} {e : EntP} {eA : Option Addr} {ec m g : Nat} {G : Cl} {R : Cl × Bool} (Fx : Nat → Prop) (hx : ∀ k, Fx k → F k) : Stab Fx (VR F t e eA ec m G R) (preR g) (postR F g R.1) := by
  have hn : ∀ (t' : Tr) (w w' : World), TrN F w t' → Touch Fx w w' → TrN F w' t' := fun t' w w' h ht => h.touch ⟨ht.os, ht.tape, ht.output, ht.size, fun k hk hf => ht.block k hk fun q => hf (hx k q)⟩
  refine ⟨fun i u w w' h ht => ?_, fun s w w' h hb => h.below hb h.lt, fun s w w' h hb => ?_⟩
  · unfold VR at h ⊢
    split at h
    all_goals first
      | exact h
      | (obtain ⟨t', a, b, c⟩ := h; exact ⟨t', a, b, hn t' w w' c ht⟩)
      | trivial
  · obtain ⟨t', a, b, c⟩ := h
    exact ⟨t', a.below hb a.lt, b, c.below hb⟩
theorem rroom_step (t : Tr) (F : Nat → Prop) (e : EntP) (eA : Option Addr) (ec : Nat) (w : World) (hF : ∀ k, F k → k < w.heap.size) (h : TrN F w t) (ok : OkC (trS t)) (hv : VlN F w e.v eA ec) (he : okE e) (hq : ∀ v ∈ t.tok, v + ((trS t).T.length : Int) ≤ 4611686018427390000) (n : Nat) (hlen : (trS t).T.length < n + 1)
    (IH : ∀ (t' : Tr) (F' : Nat → Prop) (W : World), (∀ k, F' k → k < W.heap.size) → TrN F' W t' → OkC (trS t') → VlN F' W e.v eA ec → (∀ v ∈ t'.tok, v + ((trS t').T.length : Int) ≤ 4611686018427390000) → (trS t').T.length < n → Calls Tryz.prog 52 #[.agg #[.int .i64 t'.rc, .int .i64 t'.rb, .int .i64 (t'.nb : Int), .bool t'.fr, .slice t'.A t'.L.length t'.c, .slice t'.tA t'.tok.length t'.tc, .int .i64 t'.us], .agg #[.string ⟨e.k.toArray⟩, .int .i64 e.s, .int .i64 e.u, .int .i64 e.o, .bool e.has, .slice eA e.v.length ec]] W (RoomP F' (roomQ n (trS t') e) W)) :
    Calls Tryz.prog 52 #[.agg #[.int .i64 t.rc, .int .i64 t.rb, .int .i64 (t.nb : Int), .bool t.fr, .slice t.A t.L.length t.c, .slice t.tA t.tok.length t.tc, .int .i64 t.us], .agg #[.string ⟨e.k.toArray⟩, .int .i64 e.s, .int .i64 e.u, .int .i64 e.o, .bool e.has, .slice eA e.v.length ec]] w (RoomP F (roomQ (n + 1) (trS t) e) w) := by
  have hb : Below w.heap.size w (((w.alloc (.cells #[.int .i64 t.rc, .int .i64 t.rb, .int .i64 (t.nb : Int), .bool t.fr, .slice t.A t.L.length t.c, .slice t.tA t.tok.length t.tc, .int .i64 t.us] 34)).alloc (.cells #[.string ⟨e.k.toArray⟩, .int .i64 e.s, .int .i64 e.u, .int .i64 e.o, .bool e.has, .slice eA e.v.length ec] 43)).alloc (.cells #[.int .i64 0, .int .i64 0, .int .i64 0, .bool false, .slice none 0 0, .slice none 0 0, .int .i64 0] 34)) := (((Below.refl _ _).alloc (Nat.le_refl _) _).alloc (by simp) _).alloc (by simp; omega) _
  have hk := ((Blk.new w 34 #[.int .i64 t.rc, .int .i64 t.rb, .int .i64 (t.nb : Int), .bool t.fr, .slice t.A t.L.length t.c, .slice t.tA t.tok.length t.tc, .int .i64 t.us]).alloc (.cells #[.string ⟨e.k.toArray⟩, .int .i64 e.s, .int .i64 e.u, .int .i64 e.o, .bool e.has, .slice eA e.v.length ec] 43)).alloc (.cells #[.int .i64 0, .int .i64 0, .int .i64 0, .bool false, .slice none 0 0, .slice none 0 0, .int .i64 0] 34)
  have hc : Blk (((w.alloc (.cells #[.int .i64 t.rc, .int .i64 t.rb, .int .i64 (t.nb : Int), .bool t.fr, .slice t.A t.L.length t.c, .slice t.tA t.tok.length t.tc, .int .i64 t.us] 34)).alloc (.cells #[.string ⟨e.k.toArray⟩, .int .i64 e.s, .int .i64 e.u, .int .i64 e.o, .bool e.has, .slice eA e.v.length ec] 43)).alloc (.cells #[.int .i64 0, .int .i64 0, .int .i64 0, .bool false, .slice none 0 0, .slice none 0 0, .int .i64 0] 34)) (w.heap.size + 1) 43 #[.string ⟨e.k.toArray⟩, .int .i64 e.s, .int .i64 e.u, .int .i64 e.o, .bool e.has, .slice eA e.v.length ec] := blk_at (by simp) ((Blk.new (w.alloc (.cells #[.int .i64 t.rc, .int .i64 t.rb, .int .i64 (t.nb : Int), .bool t.fr, .slice t.A t.L.length t.c, .slice t.tA t.tok.length t.tc, .int .i64 t.us] 34)) 43 #[.string ⟨e.k.toArray⟩, .int .i64 e.s, .int .i64 e.u, .int .i64 e.o, .bool e.has, .slice eA e.v.length ec]).alloc (.cells #[.int .i64 0, .int .i64 0, .int .i64 0, .bool false, .slice none 0 0, .slice none 0 0, .int .i64 0] 34))
  have hr : Blk (((w.alloc (.cells #[.int .i64 t.rc, .int .i64 t.rb, .int .i64 (t.nb : Int), .bool t.fr, .slice t.A t.L.length t.c, .slice t.tA t.tok.length t.tc, .int .i64 t.us] 34)).alloc (.cells #[.string ⟨e.k.toArray⟩, .int .i64 e.s, .int .i64 e.u, .int .i64 e.o, .bool e.has, .slice eA e.v.length ec] 43)).alloc (.cells #[.int .i64 0, .int .i64 0, .int .i64 0, .bool false, .slice none 0 0, .slice none 0 0, .int .i64 0] 34)) (w.heap.size + 2) 34 #[.int .i64 0, .int .i64 0, .int .i64 0, .bool false, .slice none 0 0, .slice none 0 0, .int .i64 0] := blk_at (by simp) (Blk.new _ _ _)
  have hm1 := h.wide hb
  have hv1 := hv.wide hb
  obtain ⟨W1, hW1⟩ : ∃ W, ((w.alloc (.cells #[.int .i64 t.rc, .int .i64 t.rb, .int .i64 (t.nb : Int), .bool t.fr, .slice t.A t.L.length t.c, .slice t.tA t.tok.length t.tc, .int .i64 t.us] 34)).alloc (.cells #[.string ⟨e.k.toArray⟩, .int .i64 e.s, .int .i64 e.u, .int .i64 e.o, .bool e.has, .slice eA e.v.length ec] 43)).alloc (.cells #[.int .i64 0, .int .i64 0, .int .i64 0, .bool false, .slice none 0 0, .slice none 0 0, .int .i64 0] 34) = W := ⟨_, rfl⟩
  have hsz : W1.heap.size = w.heap.size + 3 := by rw [← hW1]; simp
  rw [hW1] at hk hc hr hb hm1 hv1
  have HK := Lib.hid hk
  have HC := Lib.hid hc
  have HR := Lib.hid hr
  have HB := Lib.hid hb
  have HM1 := Lib.hid hm1
  have HV1 := Lib.hid hv1
  have HM0 := Lib.hid h
  have HF := Lib.hid hF
  have HSZ := Lib.hid hsz
  have HOK := Lib.hid ok
  have HE := Lib.hid he
  have HQ := Lib.hid hq
  have HLEN := Lib.hid hlen
  have HIH := Lib.hid IH
  obtain ⟨F1, hF1⟩ : ∃ F1, More2 F w.heap.size W1.heap.size = F1 := ⟨_, rfl⟩
  rw [hF1] at HM1 HV1
  have HF1 : Hid (∀ k, F1 k → k < W1.heap.size) := Lib.hid (by rw [← hF1]; exact more2_lt hF hb.size)
  have HFE := Lib.hid hF1
  have HFR : Hid (More2 F w.heap.size W1.heap.size (w.heap.size + 2)) := Lib.hid (Or.inr ⟨by omega, by omega⟩)
  have hl4 : t.L.length ≤ 4096 := by have h1 := ok.len; have h2 := ok.rc; have h3 := trT_len t; omega
  have HL4 := Lib.hid hl4
  have HWI : Hid (Calls Tryz.prog 53 #[.agg #[.int .i64 t.rc, .int .i64 t.rb, .int .i64 (t.nb : Int), .bool t.fr, .slice t.A t.L.length t.c, .slice t.tA t.tok.length t.tc, .int .i64 t.us], .agg #[.string ⟨e.k.toArray⟩, .int .i64 e.s, .int .i64 e.u, .int .i64 e.o, .bool e.has, .slice eA e.v.length ec, .bool false, .bool false, .int .i64 0]] W1 (TrP F1 { trS t with T := putK kP (trS t).T ⟨e, false, false, 0⟩ } W1)) := Lib.hid (rwith t F1 ⟨e, false, false, 0⟩ eA ec W1 HF1.out HM1.out ok.srt HV1.out (by omega))
  clear hb hk hc hr h hF hv hm1 hv1 ok he hq hlen IH hF1 hsz hl4
  go_enter Tryz.func52, Tryz.ntmps52
  go_wp2_with (first | (refine wpList_load_row rfl 34 _ rfl _ rfl _ _ _ _ (show _ = _ from HK.out) Tryz.underlying34 rfl (by kernel_rfl) ?_) | (refine wpList_load_row rfl 43 _ rfl _ rfl _ _ _ _ (show _ = _ from HC.out) Tryz.underlying43 rfl (by kernel_rfl) ?_))
  refine HWI.out.mono ?_
  rintro e1 w2 ⟨t1, rfl, hS1, hmt1, hb2⟩
  have HS1 := Lib.hid hS1
  have HK2 := Lib.hid (HK.out.below hb2 HK.out.lt)
  have HC2 := Lib.hid (HC.out.below hb2 HC.out.lt)
  have HR2 := Lib.hid (HR.out.below hb2 HR.out.lt)
  have HB2 := Lib.hid (HB.out.trans (hb2.mono HB.out.size))
  have HM2 := Lib.hid (HM1.out.below hb2)
  have HV2 := Lib.hid (HV1.out.below hb2)
  have HT2 := Lib.hid hmt1.m
  have HZ2 := Lib.hid hb2.size
  clear hS1 hmt1 hb2 HWI HK HC HR HB HM1 HV1 hW1
  go_upto_region 2 with (refine wpList_boxM rfl rfl _ rfl 34 #[.int .i64 0, .int .i64 0, .int .i64 0, .bool false, .slice none 0 0, .slice none 0 0, .int .i64 0] (by kernel_rfl) _ _ rfl #[.int .i64 t1.rc, .int .i64 t1.rb, .int .i64 (t1.nb : Int), .bool t1.fr, .slice t1.A t1.L.length t1.c, .slice t1.tA t1.tok.length t1.tc, .int .i64 t1.us] rfl rfl rfl (by kernel_rfl) (by kernel_rfl) ?_)
  have hb3 : Below w2.heap.size w2 (w2.alloc (.cells #[.int .i64 t1.rc, .int .i64 t1.rb, .int .i64 (t1.nb : Int), .bool t1.fr, .slice t1.A t1.L.length t1.c, .slice t1.tA t1.tok.length t1.tc, .int .i64 t1.us] 34)) := (Below.refl _ _).alloc (Nat.le_refl _) _
  have HU3' := Lib.hid (Blk.new w2 34 #[.int .i64 t1.rc, .int .i64 t1.rb, .int .i64 (t1.nb : Int), .bool t1.fr, .slice t1.A t1.L.length t1.c, .slice t1.tA t1.tok.length t1.tc, .int .i64 t1.us])
  obtain ⟨W3, hW3⟩ : ∃ W, w2.alloc (.cells #[.int .i64 t1.rc, .int .i64 t1.rb, .int .i64 (t1.nb : Int), .bool t1.fr, .slice t1.A t1.L.length t1.c, .slice t1.tA t1.tok.length t1.tc, .int .i64 t1.us] 34) = W := ⟨_, rfl⟩
  obtain ⟨gu, hgu⟩ : ∃ g, w2.heap.size = g := ⟨_, rfl⟩
  have HU3 : Hid (Blk W3 gu 34 #[.int .i64 t1.rc, .int .i64 t1.rb, .int .i64 (t1.nb : Int), .bool t1.fr, .slice t1.A t1.L.length t1.c, .slice t1.tA t1.tok.length t1.tc, .int .i64 t1.us]) := Lib.hid (by rw [← hW3, ← hgu]; exact Blk.new _ _ _)
  rw [hW3] at hb3
  have HK3 := Lib.hid (HK2.out.below hb3 HK2.out.lt)
  have HC3 := Lib.hid (HC2.out.below hb3 HC2.out.lt)
  have HR3 := Lib.hid (HR2.out.below hb3 HR2.out.lt)
  have HB3 := Lib.hid (HB2.out.trans (hb3.mono HB2.out.size))
  have HM3 := Lib.hid (HM2.out.below hb3)
  have HV3 := Lib.hid (HV2.out.below hb3)
  have HT3 := Lib.hid (HT2.out.below hb3)
  have HZ3 : Hid (w.heap.size + 3 ≤ W3.heap.size) := Lib.hid (by have := HZ2.out; have := HSZ.out; have := hb3.size; omega)
  simp only [hW3, hgu]
  clear hb3 hW3 hgu HU3' HK2 HC2 HR2 HB2 HM2 HV2 HT2 HZ2
  -- what is held against the room
  have hnl : t1.L.length = (delK kP e.k (trS t).T).length + 1 := by
    have h1 := trT_len t1
    rw [HS1.out] at h1
    have h2 := len_put ⟨e, false, false, 0⟩ (trS t).T
    exact h1.symm.trans h2
  have hsum : sumC (trS t1).T = sizE e + sumC (delK kP e.k (trS t).T) := by
    rw [HS1.out]
    exact sumC_put ⟨e, false, false, 0⟩ (trS t).T
  have hse := (sizE_le HE.out).1
  have hdl := del_le e.k (trS t).T
  have hsm := HOK.out.sum
  have hrb := HOK.out.rb
  have HBY : Hid (∀ p : Later W3, Calls Tryz.prog 16 #[.agg #[.int .i64 t1.rc, .int .i64 t1.rb, .int .i64 (t1.nb : Int), .bool t1.fr, .slice t1.A t1.L.length t1.c, .slice t1.tA t1.tok.length t1.tc, .int .i64 t1.us]] p.world (fun e w' => e = .returned (.int .i64 ((sumC (trS t1).T : Nat) : Int)) ∧ Below p.world.heap.size p.world w')) := Lib.hid fun p => rbytes t1 p.world (HT3.out.below p.bel) (by omega)
  have HLU : Hid (∀ p : Later W3, Blk p.world gu 34 #[.int .i64 t1.rc, .int .i64 t1.rb, .int .i64 (t1.nb : Int), .bool t1.fr, .slice t1.A t1.L.length t1.c, .slice t1.tA t1.tok.length t1.tc, .int .i64 t1.us]) := Lib.hid fun p => later_blk HU3.out p
  have u4 := later_blk_cell HU3.out 4 _ rfl
  have k0 := later_blk_cell HK3.out 0 _ rfl
  have k1 := later_blk_cell HK3.out 1 _ rfl
  have hni0 : (0 : Int) ≤ (t1.L.length : Int) := by omega
  have hni1 : (t1.L.length : Int) ≤ 9223372036854775807 := by have := HT3.out.ln; omega
  have hFIT : fitsS (trS t) (delK kP e.k (trS t).T) e ↔ ((t1.L.length : Int) ≤ t.rc ∧ ((sumC (trS t1).T : Nat) : Int) ≤ t.rb) := by
    unfold fitsS
    show ((((delK kP e.k (trS t).T).length : Nat) : Int) < t.rc ∧ ((sumC (delK kP e.k (trS t).T) : Nat) : Int) + ((sizE e : Nat) : Int) ≤ t.rb) ↔ _
    rw [hnl, hsum]
    omega
  have HFIT := Lib.hid hFIT
  obtain ⟨sm, hsmq⟩ : ∃ s, sumC (trS t1).T = s := ⟨_, rfl⟩
  rw [hsmq] at HBY HFIT
  clear hnl hsum hse hdl hsm hrb hFIT hsmq
  by_cases hg1 : (t1.L.length : Int) ≤ t.rc
  · by_cases hg2 : (sm : Int) ≤ t.rb
    · have HRQ : Hid (roomQ (n + 1) (trS t) e = (trS t, true)) := Lib.hid (by unfold roomQ; rw [if_pos (HFIT.out.2 ⟨hg1, hg2⟩)])
      have hd1 : decide ((t1.L.length : Int) ≤ t.rc) = true := by simpa using hg1
      have hd2 : decide ((sm : Int) ≤ t.rb) = true := by simpa using hg2
      as_aux_lemma =>
      clear HIH
      go_wp2_with fail
      refine wp_region_later (by kernel_rfl) (by kernel_rfl) ?_
      try simp only [Act.put, List.setIfInBounds_toArray, List.set_cons_succ, List.set_cons_zero]
      repeat (first
        | (go_big_quiet_want; refine quiet_loadrow 34 (.tmp 6) rfl (gu) rfl HLU.out Tryz.underlying34 rfl (by kernel_rfl) ?_; simp only [Act.put, List.setIfInBounds_toArray, List.set_cons_succ, List.set_cons_zero]; go_big_quiet_on)
        | go_big_quiet_step ((go_at_call 16; exact later_of (HBY.out _))))
      refine wpQuiet_nil ?_
      intro w4 hw'
      obtain ⟨p, hp4⟩ := hw'
      have hb4 : Below W3.heap.size W3 w4 := by rw [hp4]; exact p.bel
      clear hp4 p u4 k0 k1 HLU HBY hd1 hd2 hg1
      have HBW := Lib.hid (HB3.out.trans (hb4.mono HB3.out.size))
      have HK4 := Lib.hid (HK3.out.below hb4 HK3.out.lt)
      have HR4 := Lib.hid (HR3.out.below hb4 HR3.out.lt)
      have HM4 := Lib.hid (HM3.out.below hb4)
      rw [← HFE.out] at HM4
      clear hb4
      go_wp2_with (first | (refine wpList_load_row rfl 34 _ rfl _ rfl _ _ _ _ (show _ = _ from HK4.out) Tryz.underlying34 rfl (by kernel_rfl) ?_) | (refine store_box rfl 34 _ _ rfl (w.heap.size + 2) 34 #[.int .i64 0, .int .i64 0, .int .i64 0, .bool false, .slice none 0 0, .slice none 0 0, .int .i64 0] #[.int .i64 t.rc, .int .i64 t.rb, .int .i64 (t.nb : Int), .bool t.fr, .slice t.A t.L.length t.c, .slice t.tA t.tok.length t.tc, .int .i64 t.us] HR4.out rfl rfl rfl (by kernel_rfl) (by kernel_rfl) ?_))
      intro wz hkz hgz
      have HKz := Lib.hid hkz
      have HBz : Hid (Below w.heap.size w wz) := Lib.hid (HBW.out.grown hgz HBW.out.size fun g hg => by cases hg; omega)
      have HMz := Lib.hid (HM4.out.touch (touch_box hgz HFR.out)).narrow
      clear hkz hgz
      go_wp2
      exact bodyPost_ret (v := .tuple #[.agg #[.int .i64 t.rc, .int .i64 t.rb, .int .i64 (t.nb : Int), .bool t.fr, .slice t.A t.L.length t.c, .slice t.tA t.tok.length t.tc, .int .i64 t.us], .bool true]) (res_ct (p := 4) (q := 5) (ty := 34) Tryz.results52 _ _ (w.heap.size + 2) 34 #[.int .i64 t.rc, .int .i64 t.rb, .int .i64 (t.nb : Int), .bool t.fr, .slice t.A t.L.length t.c, .slice t.tA t.tok.length t.tc, .int .i64 t.us] (0, 0) _ rfl HKz.out Tryz.underlying34 rfl (by kernel_rfl)) rfl ⟨t, by rw [HRQ.out], by rw [HRQ.out], HMz.out, HBz.out⟩
    · have hno : ¬ fitsS (trS t) (delK kP e.k (trS t).T) e := fun hh => hg2 (HFIT.out.1 hh).2
      have hd1 : decide ((t1.L.length : Int) ≤ t.rc) = true := by simpa using hg1
      have hd2 : decide ((sm : Int) ≤ t.rb) = false := by simpa using hg2
      have HNO := Lib.hid hno
      clear hno hg2
      go_wp2_with fail
      refine wp_region_later (by kernel_rfl) (by kernel_rfl) ?_
      try simp only [Act.put, List.setIfInBounds_toArray, List.set_cons_succ, List.set_cons_zero]
      repeat (first
        | (go_big_quiet_want; refine quiet_loadrow 34 (.tmp 6) rfl (gu) rfl HLU.out Tryz.underlying34 rfl (by kernel_rfl) ?_; simp only [Act.put, List.setIfInBounds_toArray, List.set_cons_succ, List.set_cons_zero]; go_big_quiet_on)
        | go_big_quiet_step ((go_at_call 16; exact later_of (HBY.out _))))
      refine wpQuiet_nil ?_
      intro w4 hw'
      obtain ⟨p, hp4⟩ := hw'
      have hb4 : Below W3.heap.size W3 w4 := by rw [hp4]; exact p.bel
      clear hp4 p u4 k0 k1 HLU HBY hd1 hd2 hg1
      have HBW4 := Lib.hid (HB3.out.trans (hb4.mono HB3.out.size))
      have HK4 := Lib.hid (HK3.out.below hb4 HK3.out.lt)
      have HC4 := Lib.hid (HC3.out.below hb4 HC3.out.lt)
      have HR4 := Lib.hid (HR3.out.below hb4 HR3.out.lt)
      have HM4 := Lib.hid (HM3.out.below hb4)
      have HV4 := Lib.hid (HV3.out.below hb4)
      have HZ4 : Hid (w.heap.size + 3 ≤ w4.heap.size) := Lib.hid (Nat.le_trans HZ3.out hb4.size)
      clear hb4 HK3 HC3 HR3 HB3 HM3 HV3 HT3 HU3 HZ3 HS1 HFIT hni0 hni1
      have hni : (t.L.length : Int) ≤ 4096 := by have := HL4.out; omega
      have hni0 : (0 : Int) ≤ (t.L.length : Int) := by omega
      obtain ⟨ln, hln⟩ : ∃ n, t.L.length = n := ⟨_, rfl⟩
      have HN := Lib.hid hln
      have HK44 : Hid (∀ W, Below w4.heap.size w4 W → W.cell? ⟨w.heap.size, 4, none⟩ = some (.slice t.A ln t.c)) := Lib.hid fun W hb => by
        rw [← hln]; exact (HK4.out.below hb HK4.out.lt).cell 4
      have HC40 : Hid (∀ W, Below w4.heap.size w4 W → W.cell? ⟨w.heap.size + 1, 0, none⟩ = some (.string ⟨e.k.toArray⟩)) := Lib.hid fun W hb => (HC4.out.below hb HC4.out.lt).cell 0
      rw [hln] at hni hni0
      clear hln
      go_wp2
      go_loopw [7, 8] (fun z i wr => ∃ (j : Nat) (r : Int), j ≤ ln ∧ i = .int .i64 j ∧ z = .int .i64 r ∧ Hid (OldR (trS t).T e.k j r) ∧ Hid (Below w4.heap.size w4 wr)) (fun _ i _ => ln - (intOf i).toNat)
      case atStart => exact ⟨0, -1, Nat.zero_le _, rfl, rfl, Lib.hid (oldR_0 _ _), Lib.hid (Below.refl _ _)⟩
      case round =>
        obtain ⟨j, r, hj, rfl, rfl, HOR, HBR⟩ := hrel
        by_cases hlt : j < ln
        · have hj1 : j < t.L.length := by rw [HN.out]; exact hlt
          have hjT : j < (trS t).T.length := by rw [trT_len]; exact hj1
          obtain ⟨b, o, hA, hb, hc⟩ := cells_open (HM4.out.m.below HBR.out).cev.row (by omega)
          have h4 : wr.cell? ⟨w.heap.size, 4, none⟩ = some (.slice (some ⟨b, o, none⟩) ln t.c) := by rw [← hA]; exact HK44.out wr HBR.out
          have h40 := HK44.out wr HBR.out
          have l4 := later_cell h4
          have l0 := later_cell (HC40.out wr HBR.out)
          have hc0 := hc j hj1 0 _ rfl
          rw [Nat.add_zero] at hc0
          have hc7 := hc j hj1 7 _ rfl
          have hc8 := hc j hj1 8 _ rfl
          have hfst := trT_at t j hjT hj1
          have hji : (0 : Int) ≤ (j : Int) := by omega
          have hji2 : (j : Int) < (ln : Int) := by omega
          obtain ⟨⟨x, xA, xc⟩, hx⟩ : ∃ p, t.L[j]'hj1 = p := ⟨_, rfl⟩
          rw [hx] at hc0 hc7 hc8 hfst
          simp only at hc0 hc7 hc8 hfst
          have m0 := later_cell hc0
          have m7 := later_cell hc7
          have m8 := later_cell hc8
      
      
          clear h40
          cases hcl : x.cl
          · have HOR2 : Hid (OldR (trS t).T e.k (j + 1) r) := Lib.hid (oldR_skip HOR.out hjT (by rw [hfst, hcl]; exact fun q => by cases q.1))
            rw [hcl] at m7
            clear hc hc0 hc7 hc8 hx hfst hjT hA hcl HOR
            go_wp2_with fail
            refine wp_region_later (by kernel_rfl) (by kernel_rfl) ?_
            repeat (go_big_quiet_step (fail))
            refine wpQuiet_nil ?_
            intro w' hw'
            obtain ⟨p, rfl⟩ := hw'
            go_wp2
            go_roundw
            case rel => exact ⟨j + 1, r, by omega, by go_num, rfl, HOR2, Lib.hid (HBR.out.trans (p.bel.mono HBR.out.size))⟩
            case measure => simp [intOf]; omega
          · by_cases hkey : x.e.k = e.k
            · have HOR2 : Hid (OldR (trS t).T e.k (j + 1) r) := Lib.hid (oldR_skip HOR.out hjT (by rw [hfst]; exact fun q => q.2 hkey))
              rw [hcl] at m7
              rw [hkey] at m0
              clear hc hc0 hc7 hc8 hx hfst hjT hA hcl HOR hkey
              go_wp2_with fail
              refine wp_region_later (by kernel_rfl) (by kernel_rfl) ?_
              repeat (go_big_quiet_step (fail))
              refine wpQuiet_nil ?_
              intro w' hw'
              obtain ⟨p, rfl⟩ := hw'
              go_wp2
              go_roundw
              case rel => exact ⟨j + 1, r, by omega, by go_num, rfl, HOR2, Lib.hid (HBR.out.trans (p.bel.mono HBR.out.size))⟩
              case measure => simp [intOf]; omega
            · have hb2 := keys_ne hkey
              have hb3 : (x.e.k == e.k) = false := by simpa using hkey
              rcases oldR_in HOR.out with hr | ⟨m, hm, hr⟩
              · subst hr
                have HOR2 : Hid (OldR (trS t).T e.k (j + 1) (j : Int)) := Lib.hid (oldR_first HOR.out hjT (by rw [hfst]; exact hcl) (by rw [hfst]; exact hkey))
                rw [hcl] at m7
                clear hc hc0 hc7 hc8 hx hfst hjT hA hcl HOR hkey
                go_wp2_with fail
                refine wp_region_later (by kernel_rfl) (by kernel_rfl) ?_
                repeat (go_big_quiet_step (fail))
                refine wpQuiet_nil ?_
                intro w' hw'
                obtain ⟨p, rfl⟩ := hw'
                go_wp2
                go_roundw
                case rel => exact ⟨j + 1, (j : Int), by omega, by go_num, rfl, HOR2, Lib.hid (HBR.out.trans (p.bel.mono HBR.out.size))⟩
                case measure => simp [intOf]; omega
              · subst hr
                have hm1 : m < t.L.length := by rw [trT_len] at hm; exact hm
                have hd8 := hc m hm1 8 _ rfl
                have hfm := trT_at t m hm hm1
                obtain ⟨um, hum⟩ : ∃ u, (t.L[m]'hm1).1.us = u := ⟨_, rfl⟩
                have hus : ((trS t).T[m]'hm).us = um := by rw [hfm]; exact hum
                simp only [hum] at hd8
                have d8 := later_cell hd8
                have hmi : (0 : Int) ≤ (m : Int) := by omega
                have hmi2 : (m : Int) < (ln : Int) := by have := HN.out; omega
                have hm9 : decide ((m : Int) < 0) = false := decide_eq_false (by omega)
                rw [hcl] at m7
                by_cases hlu : x.us < um
                · have HOR2 : Hid (OldR (trS t).T e.k (j + 1) (j : Int)) := Lib.hid (oldR_less HOR.out hjT hm (by rw [hfst]; exact hcl) (by rw [hfst]; exact hkey) (by rw [hfst, hus]; exact hlu))
                  have hdu : decide (x.us < um) = true := by simpa using hlu
                  clear hc hc0 hc7 hc8 hd8 hx hfst hfm hus hum hjT hA hcl HOR hkey
                  go_wp2_with fail
                  refine wp_region_later (by kernel_rfl) (by kernel_rfl) ?_
                  repeat (go_big_quiet_step (fail))
                  refine wpQuiet_nil ?_
                  intro w' hw'
                  obtain ⟨p, rfl⟩ := hw'
                  go_wp2
                  go_roundw
                  case rel => exact ⟨j + 1, (j : Int), by omega, by go_num, rfl, HOR2, Lib.hid (HBR.out.trans (p.bel.mono HBR.out.size))⟩
                  case measure => simp [intOf]; omega
                · have HOR2 : Hid (OldR (trS t).T e.k (j + 1) (m : Int)) := Lib.hid (oldR_keep HOR.out hjT hm (by rw [hfst, hus]; omega))
                  have hdu : decide (x.us < um) = false := by simpa using hlu
                  clear hc hc0 hc7 hc8 hd8 hx hfst hfm hus hum hjT hA hcl HOR hkey
                  go_wp2_with fail
                  refine wp_region_later (by kernel_rfl) (by kernel_rfl) ?_
                  repeat (go_big_quiet_step (fail))
                  refine wpQuiet_nil ?_
                  intro w' hw'
                  obtain ⟨p, rfl⟩ := hw'
                  go_wp2
                  go_roundw
                  case rel => exact ⟨j + 1, (m : Int), by omega, by go_num, rfl, HOR2, Lib.hid (HBR.out.trans (p.bel.mono HBR.out.size))⟩
                  case measure => simp [intOf]; omega
        · obtain rfl : j = ln := by omega
          have h4 : wr.cell? ⟨w.heap.size, 4, none⟩ = some (.slice t.A j t.c) := HK44.out wr HBR.out
          have HKr := Lib.hid (HK4.out.below HBR.out HK4.out.lt)
          have HCr := Lib.hid (HC4.out.below HBR.out HC4.out.lt)
          have HRr := Lib.hid (HR4.out.below HBR.out HR4.out.lt)
          have HMr := Lib.hid (HM4.out.below HBR.out)
          have HVr := Lib.hid (HV4.out.below HBR.out)
          have HBW := Lib.hid (HBW4.out.trans (HBR.out.mono HBW4.out.size))
          have HZr : Hid (w.heap.size + 3 ≤ wr.heap.size) := Lib.hid (Nat.le_trans HZ4.out HBR.out.size)
          rcases oldR_end HOK.out (by rw [trT_len]; exact HN.out.symm) HOR.out with ⟨hr, hold⟩ | ⟨m, hm, hr, hold⟩
          · subst hr
            have HRQ : Hid (roomQ (n + 1) (trS t) e = (trS t, false)) := Lib.hid (by unfold roomQ; rw [if_neg HNO.out, hold])
            rw [← HFE.out] at HMr
            clear hold HOR HIH
            go_wp2_with (first | (refine wpList_load_row rfl 34 _ rfl _ rfl _ _ _ _ (show _ = _ from HKr.out) Tryz.underlying34 rfl (by kernel_rfl) ?_) | (refine store_box rfl 34 _ _ rfl (w.heap.size + 2) 34 #[.int .i64 0, .int .i64 0, .int .i64 0, .bool false, .slice none 0 0, .slice none 0 0, .int .i64 0] #[.int .i64 t.rc, .int .i64 t.rb, .int .i64 (t.nb : Int), .bool t.fr, .slice t.A t.L.length t.c, .slice t.tA t.tok.length t.tc, .int .i64 t.us] HRr.out rfl rfl rfl (by kernel_rfl) (by kernel_rfl) ?_))
            intro wz hkz hgz
            have HKz := Lib.hid hkz
            have HBz : Hid (Below w.heap.size w wz) := Lib.hid (HBW.out.grown hgz HBW.out.size fun g hg => by cases hg; omega)
            have HMz := Lib.hid (HMr.out.touch (touch_box hgz HFR.out)).narrow
            clear hkz hgz
            go_wp2
            exact bodyPost_ret (v := .tuple #[.agg #[.int .i64 t.rc, .int .i64 t.rb, .int .i64 (t.nb : Int), .bool t.fr, .slice t.A t.L.length t.c, .slice t.tA t.tok.length t.tc, .int .i64 t.us], .bool false]) (res_ct (p := 4) (q := 5) (ty := 34) Tryz.results52 _ _ (w.heap.size + 2) 34 #[.int .i64 t.rc, .int .i64 t.rb, .int .i64 (t.nb : Int), .bool t.fr, .slice t.A t.L.length t.c, .slice t.tA t.tok.length t.tc, .int .i64 t.us] (0, 0) _ rfl HKz.out Tryz.underlying34 rfl (by kernel_rfl)) rfl ⟨t, by rw [HRQ.out], by rw [HRQ.out], HMz.out, HBz.out⟩
          · subst hr
            have hm1 : m < t.L.length := by rw [trT_len] at hm; exact hm
            have hfm := trT_at t m hm hm1
            obtain ⟨kk, hkk⟩ : ∃ k, (t.L[m]'hm1).1.e.k = k := ⟨_, rfl⟩
            have hxk : ((trS t).T[m]'hm).e.k = kk := by rw [hfm]; exact hkk
            have HRQ : Hid (roomQ (n + 1) (trS t) e = roomQ n (goneS (trS t) kk) e) := Lib.hid (by
              conv => lhs; unfold roomQ
              rw [if_neg HNO.out, hold]
              show roomQ n (goneS (trS t) ((trS t).T[m]'hm).e.k) e = _
              rw [hxk])
            obtain ⟨G, hG⟩ : ∃ G, goneS (trS t) kk = G := ⟨_, rfl⟩
            have hq4 : ∀ v ∈ t.tok, v ≤ 4611686018427390000 := fun v hv => by have := HQ.out v hv; omega
            have hokG : OkC G := by rw [← hG]; exact ok_gone HOK.out kk
            have hdT := (del_cons HOK.out.srt (List.getElem_mem hm)).1
            rw [hxk] at hdT
            have hGT : G.T.length + 1 = (trS t).T.length := by rw [← hG]; exact hdT.symm
            have hGq : ∀ v ∈ G.tok, v + (G.T.length : Int) ≤ 4611686018427390000 := fun v hv => by
              rw [← hG] at hv
              rcases incT_mem hv with h1 | ⟨h1, rfl⟩
              · have := HQ.out v h1; omega
              · have h2 := HQ.out (t.tok.getD (bk (trS t).nb kk) 0) (getD_mem h1)
                show t.tok.getD (bk (trS t).nb kk) 0 + 1 + (G.T.length : Int) ≤ _
                omega
            rw [hG] at HRQ
            obtain ⟨R, hR⟩ : ∃ R, roomQ n G e = R := ⟨_, rfl⟩
            rw [hR] at HRQ
            have HGO : Hid (∀ W, Touch (fun k => k = w.heap.size + 2) wr W → Calls Tryz.prog 54 #[.agg #[.int .i64 t.rc, .int .i64 t.rb, .int .i64 (t.nb : Int), .bool t.fr, .slice t.A t.L.length t.c, .slice t.tA t.tok.length t.tc, .int .i64 t.us], .int .i64 (m : Int)] W (TrP F1 G W)) := Lib.hid fun W ht => by
              have := rgone t F1 m hm1 W (fun k hk => Nat.lt_of_lt_of_le (HF1.out k hk) (by have := ht.size; have := HSZ.out; have := HZr.out; omega)) (HMr.out.touch ⟨ht.os, ht.tape, ht.output, ht.size, fun k hk hn => ht.block k hk fun q => hn (by rw [q, ← HFE.out]; exact HFR.out)⟩) HOK.out hq4
              rw [hkk, hG] at this
              exact this
            have HRO : Hid (∀ (W : World) (t' : Tr), Touch (fun k => k = w.heap.size + 2) wr W → trS t' = G → TrN F1 W t' → Calls Tryz.prog 52 #[.agg #[.int .i64 t'.rc, .int .i64 t'.rb, .int .i64 (t'.nb : Int), .bool t'.fr, .slice t'.A t'.L.length t'.c, .slice t'.tA t'.tok.length t'.tc, .int .i64 t'.us], .agg #[.string ⟨e.k.toArray⟩, .int .i64 e.s, .int .i64 e.u, .int .i64 e.o, .bool e.has, .slice eA e.v.length ec]] W (RoomP F1 R W)) := Lib.hid fun W t' ht hS hm' => by
              have := HIH.out t' F1 W (fun k hk => Nat.lt_of_lt_of_le (HF1.out k hk) (by have := ht.size; have := HSZ.out; have := HZr.out; omega)) hm' (by rw [hS]; exact hokG) (HVr.out.touch ⟨ht.os, ht.tape, ht.output, ht.size, fun k hk hn => ht.block k hk fun q => hn (by rw [q, ← HFE.out]; exact HFR.out)⟩) (by
                intro v hv
                have e1 : t'.tok = G.tok := congrArg Cl.tok hS
                rw [hS]; rw [e1] at hv; exact hGq v hv) (by rw [hS]; have := HLEN.out; omega)
              rw [hS, hR] at this
              exact this
            have HST : Hid (Stab (fun k => k = w.heap.size + 2) (VR F1 t e eA ec m G R) (preR (w.heap.size + 2)) (postR F1 (w.heap.size + 2) R.1)) := Lib.hid (stabR _ fun k hk => by rw [hk, ← HFE.out]; exact HFR.out)
            have hmi0 : (0 : Int) ≤ (m : Int) := by omega
            clear hold HOR HIH hfm hkk hxk hG hq4 hokG hdT hGT hGq hR
            go_wp2
            refine RelyJ.wp_region_byJ [[], [], [(0, 77), (1, 78)], [], [(2, 79), (3, 80)], [(4, 81)], [(4, 81)], [(5, 82)], [(6, 83)]] [(0, 77), (1, 78), (2, 79), (3, 80), (4, 81), (5, 82), (6, 83), (8, 5)] (JV (fun k => k = w.heap.size + 2) wr [7] (VR F1 t e eA ec m G R) (preR (w.heap.size + 2)) (postR F1 (w.heap.size + 2) R.1)) (by kernel_rfl) (by kernel_rfl) (by kernel_rfl) (by kernel_rfl) (by kernel_rfl) ?_ ?_ ?_
            · exact fun vs => JV.start (fun s hs => HRr.out) HST.out vs
            refine RelyJ.stepsZ_cons (by
                as_aux_lemma =>
                intro S vs w' hS hA hJ
                rw [if_pos (show Region.wanted _ _ = true from rfl)]
                refine RelyJ.gives_mono (R' := fun v w'' => v = .agg #[.int .i64 t.rc, .int .i64 t.rb, .int .i64 (t.nb : Int), .bool t.fr, .slice t.A t.L.length t.c, .slice t.tA t.tok.length t.tc, .int .i64 t.us] ∧ w'' = w') ?_ (by rintro v w2 ⟨rfl, rfl⟩; exact hJ.step HST.out (Below.refl _ _) 0 (by simp) _ rfl)
                have hk : Blk w' (w.heap.size) 34 #[.int .i64 t.rc, .int .i64 t.rb, .int .i64 (t.nb : Int), .bool t.fr, .slice t.A t.L.length t.c, .slice t.tA t.tok.length t.tc, .int .i64 t.us] := (hJ.tou.block (w.heap.size) (by have := HZr.out; omega) (by omega)).trans HKr.out
                refine gives_loadrow 34 (.tmp 2) rfl (w.heap.size) rfl hk Tryz.underlying34 rfl (by kernel_rfl) ?_
                exact ⟨rfl, rfl⟩) ?_
            refine RelyJ.stepsZ_cons (by
                as_aux_lemma =>
                intro S vs w' hS hA hJ
                rw [if_pos (show Region.wanted _ _ = true from rfl)]
                refine RelyJ.gives_mono (R' := fun v w'' => v = .int .i64 (m : Int) ∧ w'' = w') ?_ (by rintro v w2 ⟨rfl, rfl⟩; exact hJ.step HST.out (Below.refl _ _) 1 (by simp) _ rfl)
                clear hJ hA hS
                unfold Rely.gives
                simp only [Rely.sel, List.foldl_cons, List.foldl_nil]
                go_simp
                simp [Rely.GivesR]) ?_
            refine RelyJ.stepsZ_cons (by
                as_aux_lemma =>
                intro S vs w' hS hA hJ
                rw [if_pos (show Region.wanted _ _ = true from rfl)]
                have hx0 := hJ.vals 0 (hA ⟨0, Ground.data⟩ (by simp) rfl)
                have hx1 := hJ.vals 1 (hA ⟨1, Ground.data⟩ (by simp) rfl)
                simp only [VR] at hx0 hx1
                refine RelyJ.gives_mono (R' := fun v w'' => VR F1 t e eA ec m G R 2 v w'' ∧ Below w'.heap.size w' w'') ?_ (by rintro v w2 ⟨h1, h2⟩; exact hJ.step HST.out h2 2 (by simp) _ h1)
                have HTO := Lib.hid hJ.tou
                clear hJ hA hS
                unfold Rely.gives
                simp only [Rely.sel, List.foldl_cons, List.foldl_nil, hx0, hx1]
                go_simp
                simp only [Rely.GivesR]
                refine (HGO.out w' HTO.out).mono ?_
                rintro e3 w3 ⟨t', rfl, hs3, hm3, hb3⟩
                exact ⟨_, rfl, ⟨t', rfl, hs3, hm3⟩, hb3⟩) ?_
            refine RelyJ.stepsZ_cons (by
                as_aux_lemma =>
                intro S vs w' hS hA hJ
                rw [if_pos (show Region.wanted _ _ = true from rfl)]
                refine RelyJ.gives_mono (R' := fun v w'' => v = .agg #[.string ⟨e.k.toArray⟩, .int .i64 e.s, .int .i64 e.u, .int .i64 e.o, .bool e.has, .slice eA e.v.length ec] ∧ w'' = w') ?_ (by rintro v w2 ⟨rfl, rfl⟩; exact hJ.step HST.out (Below.refl _ _) 3 (by simp) _ rfl)
                have hk : Blk w' (w.heap.size + 1) 43 #[.string ⟨e.k.toArray⟩, .int .i64 e.s, .int .i64 e.u, .int .i64 e.o, .bool e.has, .slice eA e.v.length ec] := (hJ.tou.block (w.heap.size + 1) (by have := HZr.out; omega) (by omega)).trans HCr.out
                refine gives_loadrow 43 (.tmp 3) rfl (w.heap.size + 1) rfl hk Tryz.underlying43 rfl (by kernel_rfl) ?_
                exact ⟨rfl, rfl⟩) ?_
            refine RelyJ.stepsZ_cons (by
                as_aux_lemma =>
                intro S vs w' hS hA hJ
                rw [if_pos (show Region.wanted _ _ = true from rfl)]
                have hx2 := hJ.vals 2 (hA ⟨2, Ground.data⟩ (by simp) rfl)
                have hx3 := hJ.vals 3 (hA ⟨3, Ground.data⟩ (by simp) rfl)
                simp only [VR] at hx2 hx3
                obtain ⟨t2, hx2, hs2, hm2⟩ := hx2
                refine RelyJ.gives_mono (R' := fun v w'' => VR F1 t e eA ec m G R 4 v w'' ∧ Below w'.heap.size w' w'') ?_ (by rintro v w2 ⟨h1, h2⟩; exact hJ.step HST.out h2 4 (by simp) _ h1)
                have HTO := Lib.hid hJ.tou
                have HCL := Lib.hid (HRO.out w' t2 HTO.out hs2 hm2)
                clear hJ hA hS hs2 hm2
                unfold Rely.gives
                simp only [Rely.sel, List.foldl_cons, List.foldl_nil, hx2, hx3]
                go_simp
                simp only [Rely.GivesR]
                refine HCL.out.mono ?_
                rintro e3 w3 ⟨t', rfl, hs3, hm3, hb3⟩
                exact ⟨_, rfl, ⟨t', rfl, hs3, hm3⟩, hb3⟩) ?_
            refine RelyJ.stepsZ_cons (by
                as_aux_lemma =>
                intro S vs w' hS hA hJ
                rw [if_pos (show Region.wanted _ _ = true from rfl)]
                have hx4 := hJ.vals 4 (hA ⟨4, Ground.data⟩ (by simp) rfl)
                simp only [VR] at hx4
                obtain ⟨t4, hx4, hs4, hm4⟩ := hx4
                refine RelyJ.gives_mono (R' := fun v w'' => v = .agg #[.int .i64 t4.rc, .int .i64 t4.rb, .int .i64 (t4.nb : Int), .bool t4.fr, .slice t4.A t4.L.length t4.c, .slice t4.tA t4.tok.length t4.tc, .int .i64 t4.us] ∧ w'' = w') ?_ (by rintro v w2 ⟨rfl, rfl⟩; exact hJ.step HST.out (Below.refl _ _) 5 (by simp) _ ⟨t4, rfl, hs4, hm4⟩)
                clear hJ hA hS hs4 hm4
                unfold Rely.gives
                simp only [Rely.sel, List.foldl_cons, List.foldl_nil, hx4]
                go_simp
                simp [Rely.GivesR]) ?_
            refine RelyJ.stepsZ_cons (by
                as_aux_lemma =>
                intro S vs w' hS hA hJ
                rw [if_pos (show Region.wanted _ _ = true from rfl)]
                have hx4 := hJ.vals 4 (hA ⟨4, Ground.data⟩ (by simp) rfl)
                simp only [VR] at hx4
                obtain ⟨t4, hx4, hs4, hm4⟩ := hx4
                refine RelyJ.gives_mono (R' := fun v w'' => v = .bool R.2 ∧ w'' = w') ?_ (by rintro v w2 ⟨rfl, rfl⟩; exact hJ.step HST.out (Below.refl _ _) 6 (by simp) _ rfl)
                clear hJ hA hS hs4 hm4
                unfold Rely.gives
                simp only [Rely.sel, List.foldl_cons, List.foldl_nil, hx4]
                go_simp
                simp [Rely.GivesR]) ?_
            refine RelyJ.stepsZ_cons (by
                as_aux_lemma =>
                intro S vs w' hS hA hJ
                rw [if_pos (show Region.wanted _ _ = true from rfl)]
                have hx5 := hJ.vals 5 (hA ⟨5, Ground.data⟩ (by simp) rfl)
                simp only [VR] at hx5
                obtain ⟨t5, hx5, hs5, hm5⟩ := hx5
                have hz := (hJ.st 7 (by simp)).1 hS
                refine gives_storerow 34 (.tmp 4) (.tmp 82) rfl (w.heap.size + 2) rfl (cs := #[.int .i64 t5.rc, .int .i64 t5.rb, .int .i64 (t5.nb : Int), .bool t5.fr, .slice t5.A t5.L.length t5.c, .slice t5.tA t5.tok.length t5.tc, .int .i64 t5.us]) (by simp only [Rely.sel, List.foldl_cons, List.foldl_nil, hx5]; rfl) hz rfl (by kernel_rfl) (by kernel_rfl) ?_
                intro w2 hk2 hg2
                exact hJ.put HST.out (touch_box hg2 rfl) 7 ⟨t5, hk2, hs5, hm5.touch (touch_box hg2 (by rw [← HFE.out]; exact HFR.out))⟩ trivial (fun s' hs' hne => absurd (by simpa using hs') hne)) ?_
            refine RelyJ.stepsZ_cons (by
                as_aux_lemma =>
                intro S vs w' hS hA hJ
                rw [if_pos (show Region.wanted _ _ = true from rfl)]
                have hx6 := hJ.vals 6 (hA ⟨6, Ground.data⟩ (by simp) rfl)
                simp only [VR] at hx6
                refine RelyJ.gives_mono (R' := fun v w'' => v = .bool R.2 ∧ w'' = w') ?_ (by rintro v w2 ⟨rfl, rfl⟩; exact hJ.step HST.out (Below.refl _ _) 8 (by simp) _ rfl)
                clear hJ hA hS
                unfold Rely.gives
                simp only [Rely.sel, List.foldl_cons, List.foldl_nil, hx6]
                go_simp
                simp [Rely.GivesR]) ?_
            exact RelyJ.stepsZ_nil
            intro S vs w' hS hJ
            obtain ⟨t', hkt, hst, hmt⟩ := (hJ.st 7 (by simp)).2 (hS 7 (by decide))
            have hv8 := hJ.vals 8 (hS 8 (by decide))
            simp only [VR] at hv8
            have HKz := Lib.hid hkt
            have HTS := Lib.hid hst
            rw [← HFE.out] at hmt
            have HMz := Lib.hid hmt.narrow
            have HBz : Hid (Below w.heap.size w w') := Lib.hid (HBW.out.trans (hJ.tou.below (B := w.heap.size) HBW.out.size fun k hk => by rw [hk]; omega))
            simp only [Rely.sel, List.foldl_cons, List.foldl_nil, hv8]
            simp only [Act.put, List.setIfInBounds_toArray, List.set_cons_succ, List.set_cons_zero]
            clear hS hJ hkt hst hmt hv8 HGO HRO HST
            go_wp2
            exact bodyPost_ret (v := .tuple #[.agg #[.int .i64 t'.rc, .int .i64 t'.rb, .int .i64 (t'.nb : Int), .bool t'.fr, .slice t'.A t'.L.length t'.c, .slice t'.tA t'.tok.length t'.tc, .int .i64 t'.us], .bool R.2]) (res_ct (p := 4) (q := 5) (ty := 34) Tryz.results52 _ _ (w.heap.size + 2) 34 #[.int .i64 t'.rc, .int .i64 t'.rb, .int .i64 (t'.nb : Int), .bool t'.fr, .slice t'.A t'.L.length t'.c, .slice t'.tA t'.tok.length t'.tc, .int .i64 t'.us] (0, 0) _ rfl HKz.out Tryz.underlying34 rfl (by kernel_rfl)) rfl ⟨t', by rw [HRQ.out], by rw [HRQ.out]; exact HTS.out, HMz.out, HBz.out⟩
  · have hno : ¬ fitsS (trS t) (delK kP e.k (trS t).T) e := fun hh => hg1 (HFIT.out.1 hh).1
    have hd1 : decide ((t1.L.length : Int) ≤ t.rc) = false := by simpa using hg1
    have HNO := Lib.hid hno
    clear hno
    go_wp2_with fail
    refine wp_region_later (by kernel_rfl) (by kernel_rfl) ?_
    try simp only [Act.put, List.setIfInBounds_toArray, List.set_cons_succ, List.set_cons_zero]
    repeat (first
      | (go_big_quiet_want; refine quiet_loadrow 34 (.tmp 6) rfl (gu) rfl HLU.out Tryz.underlying34 rfl (by kernel_rfl) ?_; simp only [Act.put, List.setIfInBounds_toArray, List.set_cons_succ, List.set_cons_zero]; go_big_quiet_on)
      | go_big_quiet_step ((go_at_call 16; exact later_of (HBY.out _))))
    refine wpQuiet_nil ?_
    intro w4 hw'
    obtain ⟨p, hp4⟩ := hw'
    have hb4 : Below W3.heap.size W3 w4 := by rw [hp4]; exact p.bel
    clear hp4 p u4 k0 k1 HLU HBY hd1 hg1
    have HBW4 := Lib.hid (HB3.out.trans (hb4.mono HB3.out.size))
    have HK4 := Lib.hid (HK3.out.below hb4 HK3.out.lt)
    have HC4 := Lib.hid (HC3.out.below hb4 HC3.out.lt)
    have HR4 := Lib.hid (HR3.out.below hb4 HR3.out.lt)
    have HM4 := Lib.hid (HM3.out.below hb4)
    have HV4 := Lib.hid (HV3.out.below hb4)
    have HZ4 : Hid (w.heap.size + 3 ≤ w4.heap.size) := Lib.hid (Nat.le_trans HZ3.out hb4.size)
    clear hb4 HK3 HC3 HR3 HB3 HM3 HV3 HT3 HU3 HZ3 HS1 HFIT hni0 hni1
    have hni : (t.L.length : Int) ≤ 4096 := by have := HL4.out; omega
    have hni0 : (0 : Int) ≤ (t.L.length : Int) := by omega
    obtain ⟨ln, hln⟩ : ∃ n, t.L.length = n := ⟨_, rfl⟩
    have HN := Lib.hid hln
    have HK44 : Hid (∀ W, Below w4.heap.size w4 W → W.cell? ⟨w.heap.size, 4, none⟩ = some (.slice t.A ln t.c)) := Lib.hid fun W hb => by
      rw [← hln]; exact (HK4.out.below hb HK4.out.lt).cell 4
    have HC40 : Hid (∀ W, Below w4.heap.size w4 W → W.cell? ⟨w.heap.size + 1, 0, none⟩ = some (.string ⟨e.k.toArray⟩)) := Lib.hid fun W hb => (HC4.out.below hb HC4.out.lt).cell 0
    rw [hln] at hni hni0
    clear hln
    go_wp2
    go_loopw [7, 8] (fun z i wr => ∃ (j : Nat) (r : Int), j ≤ ln ∧ i = .int .i64 j ∧ z = .int .i64 r ∧ Hid (OldR (trS t).T e.k j r) ∧ Hid (Below w4.heap.size w4 wr)) (fun _ i _ => ln - (intOf i).toNat)
    case atStart => exact ⟨0, -1, Nat.zero_le _, rfl, rfl, Lib.hid (oldR_0 _ _), Lib.hid (Below.refl _ _)⟩
    case round =>
      obtain ⟨j, r, hj, rfl, rfl, HOR, HBR⟩ := hrel
      by_cases hlt : j < ln
      · have hj1 : j < t.L.length := by rw [HN.out]; exact hlt
        have hjT : j < (trS t).T.length := by rw [trT_len]; exact hj1
        obtain ⟨b, o, hA, hb, hc⟩ := cells_open (HM4.out.m.below HBR.out).cev.row (by omega)
        have h4 : wr.cell? ⟨w.heap.size, 4, none⟩ = some (.slice (some ⟨b, o, none⟩) ln t.c) := by rw [← hA]; exact HK44.out wr HBR.out
        have h40 := HK44.out wr HBR.out
        have l4 := later_cell h4
        have l0 := later_cell (HC40.out wr HBR.out)
        have hc0 := hc j hj1 0 _ rfl
        rw [Nat.add_zero] at hc0
        have hc7 := hc j hj1 7 _ rfl
        have hc8 := hc j hj1 8 _ rfl
        have hfst := trT_at t j hjT hj1
        have hji : (0 : Int) ≤ (j : Int) := by omega
        have hji2 : (j : Int) < (ln : Int) := by omega
        obtain ⟨⟨x, xA, xc⟩, hx⟩ : ∃ p, t.L[j]'hj1 = p := ⟨_, rfl⟩
        rw [hx] at hc0 hc7 hc8 hfst
        simp only at hc0 hc7 hc8 hfst
        have m0 := later_cell hc0
        have m7 := later_cell hc7
        have m8 := later_cell hc8
    
    
        clear h40
        cases hcl : x.cl
        · have HOR2 : Hid (OldR (trS t).T e.k (j + 1) r) := Lib.hid (oldR_skip HOR.out hjT (by rw [hfst, hcl]; exact fun q => by cases q.1))
          rw [hcl] at m7
          clear hc hc0 hc7 hc8 hx hfst hjT hA hcl HOR
          go_wp2_with fail
          refine wp_region_later (by kernel_rfl) (by kernel_rfl) ?_
          repeat (go_big_quiet_step (fail))
          refine wpQuiet_nil ?_
          intro w' hw'
          obtain ⟨p, rfl⟩ := hw'
          go_wp2
          go_roundw
          case rel => exact ⟨j + 1, r, by omega, by go_num, rfl, HOR2, Lib.hid (HBR.out.trans (p.bel.mono HBR.out.size))⟩
          case measure => simp [intOf]; omega
        · by_cases hkey : x.e.k = e.k
          · have HOR2 : Hid (OldR (trS t).T e.k (j + 1) r) := Lib.hid (oldR_skip HOR.out hjT (by rw [hfst]; exact fun q => q.2 hkey))
            rw [hcl] at m7
            rw [hkey] at m0
            clear hc hc0 hc7 hc8 hx hfst hjT hA hcl HOR hkey
            go_wp2_with fail
            refine wp_region_later (by kernel_rfl) (by kernel_rfl) ?_
            repeat (go_big_quiet_step (fail))
            refine wpQuiet_nil ?_
            intro w' hw'
            obtain ⟨p, rfl⟩ := hw'
            go_wp2
            go_roundw
            case rel => exact ⟨j + 1, r, by omega, by go_num, rfl, HOR2, Lib.hid (HBR.out.trans (p.bel.mono HBR.out.size))⟩
            case measure => simp [intOf]; omega
          · have hb2 := keys_ne hkey
            have hb3 : (x.e.k == e.k) = false := by simpa using hkey
            rcases oldR_in HOR.out with hr | ⟨m, hm, hr⟩
            · subst hr
              have HOR2 : Hid (OldR (trS t).T e.k (j + 1) (j : Int)) := Lib.hid (oldR_first HOR.out hjT (by rw [hfst]; exact hcl) (by rw [hfst]; exact hkey))
              rw [hcl] at m7
              clear hc hc0 hc7 hc8 hx hfst hjT hA hcl HOR hkey
              go_wp2_with fail
              refine wp_region_later (by kernel_rfl) (by kernel_rfl) ?_
              repeat (go_big_quiet_step (fail))
              refine wpQuiet_nil ?_
              intro w' hw'
              obtain ⟨p, rfl⟩ := hw'
              go_wp2
              go_roundw
              case rel => exact ⟨j + 1, (j : Int), by omega, by go_num, rfl, HOR2, Lib.hid (HBR.out.trans (p.bel.mono HBR.out.size))⟩
              case measure => simp [intOf]; omega
            · subst hr
              have hm1 : m < t.L.length := by rw [trT_len] at hm; exact hm
              have hd8 := hc m hm1 8 _ rfl
              have hfm := trT_at t m hm hm1
              obtain ⟨um, hum⟩ : ∃ u, (t.L[m]'hm1).1.us = u := ⟨_, rfl⟩
              have hus : ((trS t).T[m]'hm).us = um := by rw [hfm]; exact hum
              simp only [hum] at hd8
              have d8 := later_cell hd8
              have hmi : (0 : Int) ≤ (m : Int) := by omega
              have hmi2 : (m : Int) < (ln : Int) := by have := HN.out; omega
              have hm9 : decide ((m : Int) < 0) = false := decide_eq_false (by omega)
              rw [hcl] at m7
              by_cases hlu : x.us < um
              · have HOR2 : Hid (OldR (trS t).T e.k (j + 1) (j : Int)) := Lib.hid (oldR_less HOR.out hjT hm (by rw [hfst]; exact hcl) (by rw [hfst]; exact hkey) (by rw [hfst, hus]; exact hlu))
                have hdu : decide (x.us < um) = true := by simpa using hlu
                clear hc hc0 hc7 hc8 hd8 hx hfst hfm hus hum hjT hA hcl HOR hkey
                go_wp2_with fail
                refine wp_region_later (by kernel_rfl) (by kernel_rfl) ?_
                repeat (go_big_quiet_step (fail))
                refine wpQuiet_nil ?_
                intro w' hw'
                obtain ⟨p, rfl⟩ := hw'
                go_wp2
                go_roundw
                case rel => exact ⟨j + 1, (j : Int), by omega, by go_num, rfl, HOR2, Lib.hid (HBR.out.trans (p.bel.mono HBR.out.size))⟩
                case measure => simp [intOf]; omega
              · have HOR2 : Hid (OldR (trS t).T e.k (j + 1) (m : Int)) := Lib.hid (oldR_keep HOR.out hjT hm (by rw [hfst, hus]; omega))
                have hdu : decide (x.us < um) = false := by simpa using hlu
                clear hc hc0 hc7 hc8 hd8 hx hfst hfm hus hum hjT hA hcl HOR hkey
                go_wp2_with fail
                refine wp_region_later (by kernel_rfl) (by kernel_rfl) ?_
                repeat (go_big_quiet_step (fail))
                refine wpQuiet_nil ?_
                intro w' hw'
                obtain ⟨p, rfl⟩ := hw'
                go_wp2
                go_roundw
                case rel => exact ⟨j + 1, (m : Int), by omega, by go_num, rfl, HOR2, Lib.hid (HBR.out.trans (p.bel.mono HBR.out.size))⟩
                case measure => simp [intOf]; omega
      · obtain rfl : j = ln := by omega
        have h4 : wr.cell? ⟨w.heap.size, 4, none⟩ = some (.slice t.A j t.c) := HK44.out wr HBR.out
        have HKr := Lib.hid (HK4.out.below HBR.out HK4.out.lt)
        have HCr := Lib.hid (HC4.out.below HBR.out HC4.out.lt)
        have HRr := Lib.hid (HR4.out.below HBR.out HR4.out.lt)
        have HMr := Lib.hid (HM4.out.below HBR.out)
        have HVr := Lib.hid (HV4.out.below HBR.out)
        have HBW := Lib.hid (HBW4.out.trans (HBR.out.mono HBW4.out.size))
        have HZr : Hid (w.heap.size + 3 ≤ wr.heap.size) := Lib.hid (Nat.le_trans HZ4.out HBR.out.size)
        rcases oldR_end HOK.out (by rw [trT_len]; exact HN.out.symm) HOR.out with ⟨hr, hold⟩ | ⟨m, hm, hr, hold⟩
        · subst hr
          have HRQ : Hid (roomQ (n + 1) (trS t) e = (trS t, false)) := Lib.hid (by unfold roomQ; rw [if_neg HNO.out, hold])
          rw [← HFE.out] at HMr
          clear hold HOR HIH
          go_wp2_with (first | (refine wpList_load_row rfl 34 _ rfl _ rfl _ _ _ _ (show _ = _ from HKr.out) Tryz.underlying34 rfl (by kernel_rfl) ?_) | (refine store_box rfl 34 _ _ rfl (w.heap.size + 2) 34 #[.int .i64 0, .int .i64 0, .int .i64 0, .bool false, .slice none 0 0, .slice none 0 0, .int .i64 0] #[.int .i64 t.rc, .int .i64 t.rb, .int .i64 (t.nb : Int), .bool t.fr, .slice t.A t.L.length t.c, .slice t.tA t.tok.length t.tc, .int .i64 t.us] HRr.out rfl rfl rfl (by kernel_rfl) (by kernel_rfl) ?_))
          intro wz hkz hgz
          have HKz := Lib.hid hkz
          have HBz : Hid (Below w.heap.size w wz) := Lib.hid (HBW.out.grown hgz HBW.out.size fun g hg => by cases hg; omega)
          have HMz := Lib.hid (HMr.out.touch (touch_box hgz HFR.out)).narrow
          clear hkz hgz
          go_wp2
          exact bodyPost_ret (v := .tuple #[.agg #[.int .i64 t.rc, .int .i64 t.rb, .int .i64 (t.nb : Int), .bool t.fr, .slice t.A t.L.length t.c, .slice t.tA t.tok.length t.tc, .int .i64 t.us], .bool false]) (res_ct (p := 4) (q := 5) (ty := 34) Tryz.results52 _ _ (w.heap.size + 2) 34 #[.int .i64 t.rc, .int .i64 t.rb, .int .i64 (t.nb : Int), .bool t.fr, .slice t.A t.L.length t.c, .slice t.tA t.tok.length t.tc, .int .i64 t.us] (0, 0) _ rfl HKz.out Tryz.underlying34 rfl (by kernel_rfl)) rfl ⟨t, by rw [HRQ.out], by rw [HRQ.out], HMz.out, HBz.out⟩
        · subst hr
          have hm1 : m < t.L.length := by rw [trT_len] at hm; exact hm
          have hfm := trT_at t m hm hm1
          obtain ⟨kk, hkk⟩ : ∃ k, (t.L[m]'hm1).1.e.k = k := ⟨_, rfl⟩
          have hxk : ((trS t).T[m]'hm).e.k = kk := by rw [hfm]; exact hkk
          have HRQ : Hid (roomQ (n + 1) (trS t) e = roomQ n (goneS (trS t) kk) e) := Lib.hid (by
            conv => lhs; unfold roomQ
            rw [if_neg HNO.out, hold]
            show roomQ n (goneS (trS t) ((trS t).T[m]'hm).e.k) e = _
            rw [hxk])
          obtain ⟨G, hG⟩ : ∃ G, goneS (trS t) kk = G := ⟨_, rfl⟩
          have hq4 : ∀ v ∈ t.tok, v ≤ 4611686018427390000 := fun v hv => by have := HQ.out v hv; omega
          have hokG : OkC G := by rw [← hG]; exact ok_gone HOK.out kk
          have hdT := (del_cons HOK.out.srt (List.getElem_mem hm)).1
          rw [hxk] at hdT
          have hGT : G.T.length + 1 = (trS t).T.length := by rw [← hG]; exact hdT.symm
          have hGq : ∀ v ∈ G.tok, v + (G.T.length : Int) ≤ 4611686018427390000 := fun v hv => by
            rw [← hG] at hv
            rcases incT_mem hv with h1 | ⟨h1, rfl⟩
            · have := HQ.out v h1; omega
            · have h2 := HQ.out (t.tok.getD (bk (trS t).nb kk) 0) (getD_mem h1)
              show t.tok.getD (bk (trS t).nb kk) 0 + 1 + (G.T.length : Int) ≤ _
              omega
          rw [hG] at HRQ
          obtain ⟨R, hR⟩ : ∃ R, roomQ n G e = R := ⟨_, rfl⟩
          rw [hR] at HRQ
          have HGO : Hid (∀ W, Touch (fun k => k = w.heap.size + 2) wr W → Calls Tryz.prog 54 #[.agg #[.int .i64 t.rc, .int .i64 t.rb, .int .i64 (t.nb : Int), .bool t.fr, .slice t.A t.L.length t.c, .slice t.tA t.tok.length t.tc, .int .i64 t.us], .int .i64 (m : Int)] W (TrP F1 G W)) := Lib.hid fun W ht => by
            have := rgone t F1 m hm1 W (fun k hk => Nat.lt_of_lt_of_le (HF1.out k hk) (by have := ht.size; have := HSZ.out; have := HZr.out; omega)) (HMr.out.touch ⟨ht.os, ht.tape, ht.output, ht.size, fun k hk hn => ht.block k hk fun q => hn (by rw [q, ← HFE.out]; exact HFR.out)⟩) HOK.out hq4
            rw [hkk, hG] at this
            exact this
          have HRO : Hid (∀ (W : World) (t' : Tr), Touch (fun k => k = w.heap.size + 2) wr W → trS t' = G → TrN F1 W t' → Calls Tryz.prog 52 #[.agg #[.int .i64 t'.rc, .int .i64 t'.rb, .int .i64 (t'.nb : Int), .bool t'.fr, .slice t'.A t'.L.length t'.c, .slice t'.tA t'.tok.length t'.tc, .int .i64 t'.us], .agg #[.string ⟨e.k.toArray⟩, .int .i64 e.s, .int .i64 e.u, .int .i64 e.o, .bool e.has, .slice eA e.v.length ec]] W (RoomP F1 R W)) := Lib.hid fun W t' ht hS hm' => by
            have := HIH.out t' F1 W (fun k hk => Nat.lt_of_lt_of_le (HF1.out k hk) (by have := ht.size; have := HSZ.out; have := HZr.out; omega)) hm' (by rw [hS]; exact hokG) (HVr.out.touch ⟨ht.os, ht.tape, ht.output, ht.size, fun k hk hn => ht.block k hk fun q => hn (by rw [q, ← HFE.out]; exact HFR.out)⟩) (by
              intro v hv
              have e1 : t'.tok = G.tok := congrArg Cl.tok hS
              rw [hS]; rw [e1] at hv; exact hGq v hv) (by rw [hS]; have := HLEN.out; omega)
            rw [hS, hR] at this
            exact this
          have HST : Hid (Stab (fun k => k = w.heap.size + 2) (VR F1 t e eA ec m G R) (preR (w.heap.size + 2)) (postR F1 (w.heap.size + 2) R.1)) := Lib.hid (stabR _ fun k hk => by rw [hk, ← HFE.out]; exact HFR.out)
          have hmi0 : (0 : Int) ≤ (m : Int) := by omega
          clear hold HOR HIH hfm hkk hxk hG hq4 hokG hdT hGT hGq hR
          go_wp2
          refine RelyJ.wp_region_byJ [[], [], [(0, 77), (1, 78)], [], [(2, 79), (3, 80)], [(4, 81)], [(4, 81)], [(5, 82)], [(6, 83)]] [(0, 77), (1, 78), (2, 79), (3, 80), (4, 81), (5, 82), (6, 83), (8, 5)] (JV (fun k => k = w.heap.size + 2) wr [7] (VR F1 t e eA ec m G R) (preR (w.heap.size + 2)) (postR F1 (w.heap.size + 2) R.1)) (by kernel_rfl) (by kernel_rfl) (by kernel_rfl) (by kernel_rfl) (by kernel_rfl) ?_ ?_ ?_
          · exact fun vs => JV.start (fun s hs => HRr.out) HST.out vs
          refine RelyJ.stepsZ_cons (by
              as_aux_lemma =>
              intro S vs w' hS hA hJ
              rw [if_pos (show Region.wanted _ _ = true from rfl)]
              refine RelyJ.gives_mono (R' := fun v w'' => v = .agg #[.int .i64 t.rc, .int .i64 t.rb, .int .i64 (t.nb : Int), .bool t.fr, .slice t.A t.L.length t.c, .slice t.tA t.tok.length t.tc, .int .i64 t.us] ∧ w'' = w') ?_ (by rintro v w2 ⟨rfl, rfl⟩; exact hJ.step HST.out (Below.refl _ _) 0 (by simp) _ rfl)
              have hk : Blk w' (w.heap.size) 34 #[.int .i64 t.rc, .int .i64 t.rb, .int .i64 (t.nb : Int), .bool t.fr, .slice t.A t.L.length t.c, .slice t.tA t.tok.length t.tc, .int .i64 t.us] := (hJ.tou.block (w.heap.size) (by have := HZr.out; omega) (by omega)).trans HKr.out
              refine gives_loadrow 34 (.tmp 2) rfl (w.heap.size) rfl hk Tryz.underlying34 rfl (by kernel_rfl) ?_
              exact ⟨rfl, rfl⟩) ?_
          refine RelyJ.stepsZ_cons (by
              as_aux_lemma =>
              intro S vs w' hS hA hJ
              rw [if_pos (show Region.wanted _ _ = true from rfl)]
              refine RelyJ.gives_mono (R' := fun v w'' => v = .int .i64 (m : Int) ∧ w'' = w') ?_ (by rintro v w2 ⟨rfl, rfl⟩; exact hJ.step HST.out (Below.refl _ _) 1 (by simp) _ rfl)
              clear hJ hA hS
              unfold Rely.gives
              simp only [Rely.sel, List.foldl_cons, List.foldl_nil]
              go_simp
              simp [Rely.GivesR]) ?_
          refine RelyJ.stepsZ_cons (by
              as_aux_lemma =>
              intro S vs w' hS hA hJ
              rw [if_pos (show Region.wanted _ _ = true from rfl)]
              have hx0 := hJ.vals 0 (hA ⟨0, Ground.data⟩ (by simp) rfl)
              have hx1 := hJ.vals 1 (hA ⟨1, Ground.data⟩ (by simp) rfl)
              simp only [VR] at hx0 hx1
              refine RelyJ.gives_mono (R' := fun v w'' => VR F1 t e eA ec m G R 2 v w'' ∧ Below w'.heap.size w' w'') ?_ (by rintro v w2 ⟨h1, h2⟩; exact hJ.step HST.out h2 2 (by simp) _ h1)
              have HTO := Lib.hid hJ.tou
              clear hJ hA hS
              unfold Rely.gives
              simp only [Rely.sel, List.foldl_cons, List.foldl_nil, hx0, hx1]
              go_simp
              simp only [Rely.GivesR]
              refine (HGO.out w' HTO.out).mono ?_
              rintro e3 w3 ⟨t', rfl, hs3, hm3, hb3⟩
              exact ⟨_, rfl, ⟨t', rfl, hs3, hm3⟩, hb3⟩) ?_
          refine RelyJ.stepsZ_cons (by
              as_aux_lemma =>
              intro S vs w' hS hA hJ
              rw [if_pos (show Region.wanted _ _ = true from rfl)]
              refine RelyJ.gives_mono (R' := fun v w'' => v = .agg #[.string ⟨e.k.toArray⟩, .int .i64 e.s, .int .i64 e.u, .int .i64 e.o, .bool e.has, .slice eA e.v.length ec] ∧ w'' = w') ?_ (by rintro v w2 ⟨rfl, rfl⟩; exact hJ.step HST.out (Below.refl _ _) 3 (by simp) _ rfl)
              have hk : Blk w' (w.heap.size + 1) 43 #[.string ⟨e.k.toArray⟩, .int .i64 e.s, .int .i64 e.u, .int .i64 e.o, .bool e.has, .slice eA e.v.length ec] := (hJ.tou.block (w.heap.size + 1) (by have := HZr.out; omega) (by omega)).trans HCr.out
              refine gives_loadrow 43 (.tmp 3) rfl (w.heap.size + 1) rfl hk Tryz.underlying43 rfl (by kernel_rfl) ?_
              exact ⟨rfl, rfl⟩) ?_
          refine RelyJ.stepsZ_cons (by
              as_aux_lemma =>
              intro S vs w' hS hA hJ
              rw [if_pos (show Region.wanted _ _ = true from rfl)]
              have hx2 := hJ.vals 2 (hA ⟨2, Ground.data⟩ (by simp) rfl)
              have hx3 := hJ.vals 3 (hA ⟨3, Ground.data⟩ (by simp) rfl)
              simp only [VR] at hx2 hx3
              obtain ⟨t2, hx2, hs2, hm2⟩ := hx2
              refine RelyJ.gives_mono (R' := fun v w'' => VR F1 t e eA ec m G R 4 v w'' ∧ Below w'.heap.size w' w'') ?_ (by rintro v w2 ⟨h1, h2⟩; exact hJ.step HST.out h2 4 (by simp) _ h1)
              have HTO := Lib.hid hJ.tou
              have HCL := Lib.hid (HRO.out w' t2 HTO.out hs2 hm2)
              clear hJ hA hS hs2 hm2
              unfold Rely.gives
              simp only [Rely.sel, List.foldl_cons, List.foldl_nil, hx2, hx3]
              go_simp
              simp only [Rely.GivesR]
              refine HCL.out.mono ?_
              rintro e3 w3 ⟨t', rfl, hs3, hm3, hb3⟩
              exact ⟨_, rfl, ⟨t', rfl, hs3, hm3⟩, hb3⟩) ?_
          refine RelyJ.stepsZ_cons (by
              as_aux_lemma =>
              intro S vs w' hS hA hJ
              rw [if_pos (show Region.wanted _ _ = true from rfl)]
              have hx4 := hJ.vals 4 (hA ⟨4, Ground.data⟩ (by simp) rfl)
              simp only [VR] at hx4
              obtain ⟨t4, hx4, hs4, hm4⟩ := hx4
              refine RelyJ.gives_mono (R' := fun v w'' => v = .agg #[.int .i64 t4.rc, .int .i64 t4.rb, .int .i64 (t4.nb : Int), .bool t4.fr, .slice t4.A t4.L.length t4.c, .slice t4.tA t4.tok.length t4.tc, .int .i64 t4.us] ∧ w'' = w') ?_ (by rintro v w2 ⟨rfl, rfl⟩; exact hJ.step HST.out (Below.refl _ _) 5 (by simp) _ ⟨t4, rfl, hs4, hm4⟩)
              clear hJ hA hS hs4 hm4
              unfold Rely.gives
              simp only [Rely.sel, List.foldl_cons, List.foldl_nil, hx4]
              go_simp
              simp [Rely.GivesR]) ?_
          refine RelyJ.stepsZ_cons (by
              as_aux_lemma =>
              intro S vs w' hS hA hJ
              rw [if_pos (show Region.wanted _ _ = true from rfl)]
              have hx4 := hJ.vals 4 (hA ⟨4, Ground.data⟩ (by simp) rfl)
              simp only [VR] at hx4
              obtain ⟨t4, hx4, hs4, hm4⟩ := hx4
              refine RelyJ.gives_mono (R' := fun v w'' => v = .bool R.2 ∧ w'' = w') ?_ (by rintro v w2 ⟨rfl, rfl⟩; exact hJ.step HST.out (Below.refl _ _) 6 (by simp) _ rfl)
              clear hJ hA hS hs4 hm4
              unfold Rely.gives
              simp only [Rely.sel, List.foldl_cons, List.foldl_nil, hx4]
              go_simp
              simp [Rely.GivesR]) ?_
          refine RelyJ.stepsZ_cons (by
              as_aux_lemma =>
              intro S vs w' hS hA hJ
              rw [if_pos (show Region.wanted _ _ = true from rfl)]
              have hx5 := hJ.vals 5 (hA ⟨5, Ground.data⟩ (by simp) rfl)
              simp only [VR] at hx5
              obtain ⟨t5, hx5, hs5, hm5⟩ := hx5
              have hz := (hJ.st 7 (by simp)).1 hS
              refine gives_storerow 34 (.tmp 4) (.tmp 82) rfl (w.heap.size + 2) rfl (cs := #[.int .i64 t5.rc, .int .i64 t5.rb, .int .i64 (t5.nb : Int), .bool t5.fr, .slice t5.A t5.L.length t5.c, .slice t5.tA t5.tok.length t5.tc, .int .i64 t5.us]) (by simp only [Rely.sel, List.foldl_cons, List.foldl_nil, hx5]; rfl) hz rfl (by kernel_rfl) (by kernel_rfl) ?_
              intro w2 hk2 hg2
              exact hJ.put HST.out (touch_box hg2 rfl) 7 ⟨t5, hk2, hs5, hm5.touch (touch_box hg2 (by rw [← HFE.out]; exact HFR.out))⟩ trivial (fun s' hs' hne => absurd (by simpa using hs') hne)) ?_
          refine RelyJ.stepsZ_cons (by
              as_aux_lemma =>
              intro S vs w' hS hA hJ
              rw [if_pos (show Region.wanted _ _ = true from rfl)]
              have hx6 := hJ.vals 6 (hA ⟨6, Ground.data⟩ (by simp) rfl)
              simp only [VR] at hx6
              refine RelyJ.gives_mono (R' := fun v w'' => v = .bool R.2 ∧ w'' = w') ?_ (by rintro v w2 ⟨rfl, rfl⟩; exact hJ.step HST.out (Below.refl _ _) 8 (by simp) _ rfl)
              clear hJ hA hS
              unfold Rely.gives
              simp only [Rely.sel, List.foldl_cons, List.foldl_nil, hx6]
              go_simp
              simp [Rely.GivesR]) ?_
          exact RelyJ.stepsZ_nil
          intro S vs w' hS hJ
          obtain ⟨t', hkt, hst, hmt⟩ := (hJ.st 7 (by simp)).2 (hS 7 (by decide))
          have hv8 := hJ.vals 8 (hS 8 (by decide))
          simp only [VR] at hv8
          have HKz := Lib.hid hkt
          have HTS := Lib.hid hst
          rw [← HFE.out] at hmt
          have HMz := Lib.hid hmt.narrow
          have HBz : Hid (Below w.heap.size w w') := Lib.hid (HBW.out.trans (hJ.tou.below (B := w.heap.size) HBW.out.size fun k hk => by rw [hk]; omega))
          simp only [Rely.sel, List.foldl_cons, List.foldl_nil, hv8]
          simp only [Act.put, List.setIfInBounds_toArray, List.set_cons_succ, List.set_cons_zero]
          clear hS hJ hkt hst hmt hv8 HGO HRO HST
          go_wp2
          exact bodyPost_ret (v := .tuple #[.agg #[.int .i64 t'.rc, .int .i64 t'.rb, .int .i64 (t'.nb : Int), .bool t'.fr, .slice t'.A t'.L.length t'.c, .slice t'.tA t'.tok.length t'.tc, .int .i64 t'.us], .bool R.2]) (res_ct (p := 4) (q := 5) (ty := 34) Tryz.results52 _ _ (w.heap.size + 2) 34 #[.int .i64 t'.rc, .int .i64 t'.rb, .int .i64 (t'.nb : Int), .bool t'.fr, .slice t'.A t'.L.length t'.c, .slice t'.tA t'.tok.length t'.tc, .int .i64 t'.us] (0, 0) _ rfl HKz.out Tryz.underlying34 rfl (by kernel_rfl)) rfl ⟨t', by rw [HRQ.out], by rw [HRQ.out]; exact HTS.out, HMz.out, HBz.out⟩
theorem rroom : ∀ (n : Nat) (t : Tr) (F : Nat → Prop) (e : EntP) (eA : Option Addr) (ec : Nat) (w : World) (hF : ∀ k, F k → k < w.heap.size) (h : TrN F w t) (ok : OkC (trS t)) (hv : VlN F w e.v eA ec) (he : okE e) (hq : ∀ v ∈ t.tok, v + ((trS t).T.length : Int) ≤ 4611686018427390000), (trS t).T.length < n →
    Calls Tryz.prog 52 #[.agg #[.int .i64 t.rc, .int .i64 t.rb, .int .i64 (t.nb : Int), .bool t.fr, .slice t.A t.L.length t.c, .slice t.tA t.tok.length t.tc, .int .i64 t.us], .agg #[.string ⟨e.k.toArray⟩, .int .i64 e.s, .int .i64 e.u, .int .i64 e.o, .bool e.has, .slice eA e.v.length ec]] w (RoomP F (roomQ n (trS t) e) w)
  | 0, _, _, _, _, _, _, _, _, _, _, _, _, h => absurd h (Nat.not_lt_zero _)
  | n + 1, t, F, e, eA, ec, w, hF, h, ok, hv, he, hq, hl => rroom_step t F e eA ec w hF h ok hv he hq n hl fun t' F' W a b c d f g => rroom n t' F' e eA ec W a b c d he f g
end Go.Proofs.YtpebhfjcakllmaaGreat
