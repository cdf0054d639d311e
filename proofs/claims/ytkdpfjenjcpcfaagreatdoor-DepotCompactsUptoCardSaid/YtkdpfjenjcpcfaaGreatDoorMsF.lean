/- MsF: Package msgs: Check. -/
import Derived.Test.YtkdpfjenjcpcfaaGreatDoorMsC
import Derived.Test.YtkdpfjenjcpcfaaGreatDoorRelyJ
namespace Go.Proofs.YtkdpfjenjcpcfaaGreatDoor
open Go.RowKit Mem Be Rg
set_option maxRecDepth 100000
set_option maxHeartbeats 4000000
set_option linter.unusedVariables false
theorem headno_1 {m : MsgP} (h : exK m.kind = false) : okM m = false := by unfold okM headR; rw [h]; rfl
theorem headno_2 {m : MsgP} (h : inR m.fr 1048575 = false) : okM m = false := by unfold okM headR; rw [h, Bool.and_false]; rfl
theorem headno_3 {m : MsgP} (h : inR m.dst 1048575 = false) : okM m = false := by unfold okM headR; rw [h, Bool.and_false]; rfl
theorem headno_4 {m : MsgP} (h : inR m.ep 1099511627775 = false) : okM m = false := by unfold okM headR; rw [h, Bool.and_false]; rfl
theorem headno_5 {m : MsgP} (h : inR m.op 1099511627775 = false) : okM m = false := by unfold okM headR; rw [h, Bool.and_false]; rfl
theorem checkM_no {m : MsgP} (h : okM m = false) : checkM m = 2 := by unfold checkM; rw [h]; rfl
theorem set5_12 {w : World} {g : Nat} {t : TypeId} {c0 c1 c2 c3 c4 : Value} (h : Blk w g t #[c0, c1, c2, c3, c4]) (v0 v1 v2 v3 v4 : Value) :
    Blk (((((w.setCell ⟨g, 0, none⟩ v0).setCell ⟨g, 1, none⟩ v1).setCell ⟨g, 2, none⟩ v2).setCell ⟨g, 3, none⟩ v3).setCell ⟨g, 4, none⟩ v4) g t #[v0, v1, v2, v3, v4] := ((((h.set_ 0 v0).set_ 1 v1).set_ 2 v2).set_ 3 v3).set_ 4 v4
theorem far5_12 {w : World} {g g' : Nat} {t : TypeId} {cs : Array Value} (h : Blk w g t cs) (hne : g ≠ g') (v0 v1 v2 v3 v4 : Value) :
    Blk (((((w.setCell ⟨g', 0, none⟩ v0).setCell ⟨g', 1, none⟩ v1).setCell ⟨g', 2, none⟩ v2).setCell ⟨g', 3, none⟩ v3).setCell ⟨g', 4, none⟩ v4) g t cs :=
  ((((h.far (p := ⟨g', 0, none⟩) hne v0).far (p := ⟨g', 1, none⟩) hne v1).far (p := ⟨g', 2, none⟩) hne v2).far (p := ⟨g', 3, none⟩) hne v3).far (p := ⟨g', 4, none⟩) hne v4
theorem bel5_12 {w0 w : World} {B g : Nat} (h : Below B w0 w) (hg : B ≤ g) (v0 v1 v2 v3 v4 : Value) :
    Below B w0 (((((w.setCell ⟨g, 0, none⟩ v0).setCell ⟨g, 1, none⟩ v1).setCell ⟨g, 2, none⟩ v2).setCell ⟨g, 3, none⟩ v3).setCell ⟨g, 4, none⟩ v4) :=
  below_set (below_set (below_set (below_set (below_set h hg 0 v0) hg 1 v1) hg 2 v2) hg 3 v3) hg 4 v4
/-- What is known while both rows of truths are made, in whatever order. -/
structure JF (W0 : World) (x : Value) (m : MsgP) (S : Nat → Bool) (vs : Nat → Value) (w : World) : Prop where
  bel : Below W0.heap.size W0 w
  v0 : S 0 = true → vs 0 = x
  v1 : S 1 = true → vs 1 = .agg #[.bool (rN m), .bool true, .bool (rE m), .bool (rL m), .bool (rR m)]
  v2 : S 2 = true → vs 2 = x
  v3 : S 3 = true → vs 3 = .agg #[.bool (bN m), .bool (bF m), .bool (bE m), .bool (bL m), .bool (bR m)]
  v4 : S 4 = true → ∃ p, vs 4 = .pointer (some ⟨p, 0, none⟩) ∧ W0.heap.size ≤ p ∧ (S 6 = false → Blk w p 143 #[.bool false, .bool false, .bool false, .bool false, .bool false]) ∧ (S 6 = true → Blk w p 143 #[.bool (rN m), .bool true, .bool (rE m), .bool (rL m), .bool (rR m)])
  v5 : S 5 = true → ∃ p, vs 5 = .pointer (some ⟨p, 0, none⟩) ∧ W0.heap.size ≤ p ∧ (S 7 = false → Blk w p 143 #[.bool false, .bool false, .bool false, .bool false, .bool false]) ∧ (S 7 = true → Blk w p 143 #[.bool (bN m), .bool (bF m), .bool (bE m), .bool (bL m), .bool (bR m)]) ∧ (S 4 = true → vs 4 ≠ vs 5)
  c6 : S 6 = true → S 4 = true
  c7 : S 7 = true → S 5 = true
theorem ptr_ne12 {p q : Nat} (h : p ≠ q) : Value.pointer (some (⟨p, 0, none⟩ : Addr)) ≠ Value.pointer (some ⟨q, 0, none⟩) := fun e => h (by injection e with e; injection e with e; injection e)
open RelyJ in
theorem JF.read {W0 w w' : World} {x : Value} {m : MsgP} {S : Nat → Bool} {vs : Nat → Value} (h : JF W0 x m S vs w) (hb : Below w.heap.size w w') (i : Nat) (hi : i < 4) (v : Value) (hv : (i = 0 → v = x) ∧ (i = 1 → v = .agg #[.bool (rN m), .bool true, .bool (rE m), .bool (rL m), .bool (rR m)]) ∧ (i = 2 → v = x) ∧ (i = 3 → v = .agg #[.bool (bN m), .bool (bF m), .bool (bE m), .bool (bL m), .bool (bR m)])) :
    JF W0 x m (up S i true) (up vs i v) w' := by
  have e : ∀ k, k ≠ i → up S i true k = S k ∧ up vs i v k = vs k := fun k hk => ⟨up_ne _ _ hk, up_ne _ _ hk⟩
  refine ⟨h.bel.trans (hb.mono h.bel.size), ?_, ?_, ?_, ?_, ?_, ?_, ?_, ?_⟩
  · intro hs
    by_cases h0 : (0 : Nat) = i
    · subst h0; rw [up_same]; exact hv.1 rfl
    · rw [(e _ h0).1] at hs; rw [(e _ h0).2]; exact h.v0 hs
  · intro hs
    by_cases h0 : (1 : Nat) = i
    · subst h0; rw [up_same]; exact hv.2.1 rfl
    · rw [(e _ h0).1] at hs; rw [(e _ h0).2]; exact h.v1 hs
  · intro hs
    by_cases h0 : (2 : Nat) = i
    · subst h0; rw [up_same]; exact hv.2.2.1 rfl
    · rw [(e _ h0).1] at hs; rw [(e _ h0).2]; exact h.v2 hs
  · intro hs
    by_cases h0 : (3 : Nat) = i
    · subst h0; rw [up_same]; exact hv.2.2.2 rfl
    · rw [(e _ h0).1] at hs; rw [(e _ h0).2]; exact h.v3 hs
  · intro hs
    rw [(e 4 (by omega)).1] at hs
    rw [(e 4 (by omega)).2, (e 6 (by omega)).1]
    obtain ⟨p, h1, h2, h3, h4⟩ := h.v4 hs
    exact ⟨p, h1, h2, fun q => (h3 q).below hb (h3 q).lt, fun q => (h4 q).below hb (h4 q).lt⟩
  · intro hs
    rw [(e 5 (by omega)).1] at hs
    rw [(e 5 (by omega)).2, (e 7 (by omega)).1, (e 4 (by omega)).1, (e 4 (by omega)).2]
    obtain ⟨p, h1, h2, h3, h4, h5⟩ := h.v5 hs
    exact ⟨p, h1, h2, fun q => (h3 q).below hb (h3 q).lt, fun q => (h4 q).below hb (h4 q).lt, h5⟩
  · rw [(e 6 (by omega)).1, (e 4 (by omega)).1]; exact h.c6
  · rw [(e 7 (by omega)).1, (e 5 (by omega)).1]; exact h.c7
open RelyJ in
theorem JF.alloc4 {W0 w : World} {x : Value} {m : MsgP} {S : Nat → Bool} {vs : Nat → Value} (h : JF W0 x m S vs w) (h6 : S 6 = false) : JF W0 x m (up S 4 true) (up vs 4 (.pointer (some ⟨w.heap.size, 0, none⟩))) (w.alloc (.cells #[.bool false, .bool false, .bool false, .bool false, .bool false] 143)) := by
  have hb : Below w.heap.size w (w.alloc (.cells #[.bool false, .bool false, .bool false, .bool false, .bool false] 143)) := (Below.refl _ _).alloc (Nat.le_refl _) _
  have e : ∀ k, k ≠ 4 → up S 4 true k = S k ∧ up vs 4 (.pointer (some ⟨w.heap.size, 0, none⟩)) k = vs k := fun k hk => ⟨up_ne _ _ hk, up_ne _ _ hk⟩
  refine ⟨h.bel.trans (hb.mono h.bel.size), fun hs => ?_, fun hs => ?_, fun hs => ?_, fun hs => ?_, fun hs => ?_, fun hs => ?_, fun hs => ?_, fun hs => ?_⟩
  · rw [(e 0 (by omega)).1] at hs; rw [(e 0 (by omega)).2]; exact h.v0 hs
  · rw [(e 1 (by omega)).1] at hs; rw [(e 1 (by omega)).2]; exact h.v1 hs
  · rw [(e 2 (by omega)).1] at hs; rw [(e 2 (by omega)).2]; exact h.v2 hs
  · rw [(e 3 (by omega)).1] at hs; rw [(e 3 (by omega)).2]; exact h.v3 hs
  · rw [up_same, (e 6 (by omega)).1]
    exact ⟨_, rfl, h.bel.size, fun _ => Blk.new _ _ _, fun h7 => (by rw [h6] at h7; cases h7)⟩
  · rw [(e 5 (by omega)).1] at hs
    rw [(e 5 (by omega)).2, (e 7 (by omega)).1, up_same, up_same]
    obtain ⟨p, h1, h2, h3, h4, h5⟩ := h.v5 hs
    refine ⟨p, h1, h2, fun q => (h3 q).below hb (h3 q).lt, fun q => (h4 q).below hb (h4 q).lt, fun _ => ?_⟩
    rw [h1]
    refine ptr_ne12 ?_
    cases h7 : S 7
    · have := (h3 h7).lt; omega
    · have := (h4 h7).lt; omega
  · exact up_same _ _ _
  · rw [(e 7 (by omega)).1] at hs
    rw [(e 5 (by omega)).1]
    exact h.c7 hs
open RelyJ in
theorem JF.alloc5 {W0 w : World} {x : Value} {m : MsgP} {S : Nat → Bool} {vs : Nat → Value} (h : JF W0 x m S vs w) (h7 : S 7 = false) : JF W0 x m (up S 5 true) (up vs 5 (.pointer (some ⟨w.heap.size, 0, none⟩))) (w.alloc (.cells #[.bool false, .bool false, .bool false, .bool false, .bool false] 143)) := by
  have hb : Below w.heap.size w (w.alloc (.cells #[.bool false, .bool false, .bool false, .bool false, .bool false] 143)) := (Below.refl _ _).alloc (Nat.le_refl _) _
  have e : ∀ k, k ≠ 5 → up S 5 true k = S k ∧ up vs 5 (.pointer (some ⟨w.heap.size, 0, none⟩)) k = vs k := fun k hk => ⟨up_ne _ _ hk, up_ne _ _ hk⟩
  refine ⟨h.bel.trans (hb.mono h.bel.size), fun hs => ?_, fun hs => ?_, fun hs => ?_, fun hs => ?_, fun hs => ?_, fun hs => ?_, fun hs => ?_, fun hs => ?_⟩
  · rw [(e 0 (by omega)).1] at hs; rw [(e 0 (by omega)).2]; exact h.v0 hs
  · rw [(e 1 (by omega)).1] at hs; rw [(e 1 (by omega)).2]; exact h.v1 hs
  · rw [(e 2 (by omega)).1] at hs; rw [(e 2 (by omega)).2]; exact h.v2 hs
  · rw [(e 3 (by omega)).1] at hs; rw [(e 3 (by omega)).2]; exact h.v3 hs
  · rw [(e 4 (by omega)).1] at hs
    rw [(e 4 (by omega)).2, (e 6 (by omega)).1]
    obtain ⟨p, h1, h2, h3, h4⟩ := h.v4 hs
    exact ⟨p, h1, h2, fun q => (h3 q).below hb (h3 q).lt, fun q => (h4 q).below hb (h4 q).lt⟩
  · rw [up_same, (e 7 (by omega)).1, (e 4 (by omega)).1, (e 4 (by omega)).2]
    refine ⟨_, rfl, h.bel.size, fun _ => Blk.new _ _ _, fun h8 => (by rw [h7] at h8; cases h8), fun h4 => ?_⟩
    obtain ⟨p, h1, h2, h3, h5⟩ := h.v4 h4
    rw [h1]
    refine ptr_ne12 ?_
    cases h6 : S 6
    · have := (h3 h6).lt; omega
    · have := (h5 h6).lt; omega
  · rw [(e 6 (by omega)).1] at hs
    rw [(e 4 (by omega)).1]
    exact h.c6 hs
  · exact up_same _ _ _
open RelyJ in
theorem JF.store6 {W0 w : World} {x : Value} {m : MsgP} {S : Nat → Bool} {vs : Nat → Value} {p : Nat} (h : JF W0 x m S vs w) (h4 : S 4 = true) (hp : vs 4 = .pointer (some ⟨p, 0, none⟩)) (h0 : W0.heap.size ≤ p) (hz : Blk w p 143 #[.bool false, .bool false, .bool false, .bool false, .bool false]) :
    JF W0 x m (up S 6 true) (up vs 6 undef) (((((w.setCell ⟨p, 0, none⟩ (.bool (rN m))).setCell ⟨p, 1, none⟩ (.bool true)).setCell ⟨p, 2, none⟩ (.bool (rE m))).setCell ⟨p, 3, none⟩ (.bool (rL m))).setCell ⟨p, 4, none⟩ (.bool (rR m))) := by
  have e : ∀ k, k ≠ 6 → up S 6 true k = S k ∧ up vs 6 (undef) k = vs k := fun k hk => ⟨up_ne _ _ hk, up_ne _ _ hk⟩
  refine ⟨bel5_12 h.bel h0 _ _ _ _ _, fun hs => ?_, fun hs => ?_, fun hs => ?_, fun hs => ?_, fun hs => ?_, fun hs => ?_, fun hs => ?_, fun hs => ?_⟩
  · rw [(e 0 (by omega)).1] at hs; rw [(e 0 (by omega)).2]; exact h.v0 hs
  · rw [(e 1 (by omega)).1] at hs; rw [(e 1 (by omega)).2]; exact h.v1 hs
  · rw [(e 2 (by omega)).1] at hs; rw [(e 2 (by omega)).2]; exact h.v2 hs
  · rw [(e 3 (by omega)).1] at hs; rw [(e 3 (by omega)).2]; exact h.v3 hs
  · rw [(e 4 (by omega)).2, up_same]
    exact ⟨p, hp, h0, fun h => (by cases h), fun _ => set5_12 hz _ _ _ _ _⟩
  · rw [(e 5 (by omega)).1] at hs
    rw [(e 5 (by omega)).2, (e 7 (by omega)).1, (e 4 (by omega)).1, (e 4 (by omega)).2]
    obtain ⟨q, h1, h2, h3, h5, h6⟩ := h.v5 hs
    have hne : q ≠ p := fun hq => h6 h4 (by rw [h1, hp, hq])
    exact ⟨q, h1, h2, fun g => far5_12 (h3 g) hne _ _ _ _ _, fun g => far5_12 (h5 g) hne _ _ _ _ _, h6⟩
  · rw [(e 4 (by omega)).1]; exact h4
  · rw [(e 7 (by omega)).1] at hs
    rw [(e 5 (by omega)).1]
    exact h.c7 hs
open RelyJ in
theorem JF.store7 {W0 w : World} {x : Value} {m : MsgP} {S : Nat → Bool} {vs : Nat → Value} {p : Nat} (h : JF W0 x m S vs w) (h5 : S 5 = true) (hp : vs 5 = .pointer (some ⟨p, 0, none⟩)) (h0 : W0.heap.size ≤ p) (hz : Blk w p 143 #[.bool false, .bool false, .bool false, .bool false, .bool false]) :
    JF W0 x m (up S 7 true) (up vs 7 undef) (((((w.setCell ⟨p, 0, none⟩ (.bool (bN m))).setCell ⟨p, 1, none⟩ (.bool (bF m))).setCell ⟨p, 2, none⟩ (.bool (bE m))).setCell ⟨p, 3, none⟩ (.bool (bL m))).setCell ⟨p, 4, none⟩ (.bool (bR m))) := by
  have e : ∀ k, k ≠ 7 → up S 7 true k = S k ∧ up vs 7 (undef) k = vs k := fun k hk => ⟨up_ne _ _ hk, up_ne _ _ hk⟩
  refine ⟨bel5_12 h.bel h0 _ _ _ _ _, fun hs => ?_, fun hs => ?_, fun hs => ?_, fun hs => ?_, fun hs => ?_, fun hs => ?_, fun hs => ?_, fun hs => ?_⟩
  · rw [(e 0 (by omega)).1] at hs; rw [(e 0 (by omega)).2]; exact h.v0 hs
  · rw [(e 1 (by omega)).1] at hs; rw [(e 1 (by omega)).2]; exact h.v1 hs
  · rw [(e 2 (by omega)).1] at hs; rw [(e 2 (by omega)).2]; exact h.v2 hs
  · rw [(e 3 (by omega)).1] at hs; rw [(e 3 (by omega)).2]; exact h.v3 hs
  · rw [(e 4 (by omega)).1] at hs
    rw [(e 4 (by omega)).2, (e 6 (by omega)).1]
    obtain ⟨q, h1, h2, h3, h4⟩ := h.v4 hs
    obtain ⟨p', q1, _, _, _, q6⟩ := h.v5 h5
    have hne : q ≠ p := fun hq => q6 hs (by rw [h1, hp, hq])
    exact ⟨q, h1, h2, fun g => far5_12 (h3 g) hne _ _ _ _ _, fun g => far5_12 (h4 g) hne _ _ _ _ _⟩
  · rw [(e 5 (by omega)).2, up_same, (e 4 (by omega)).1, (e 4 (by omega)).2]
    obtain ⟨p', q1, _, _, _, q6⟩ := h.v5 h5
    exact ⟨p, hp, h0, fun h => (by cases h), fun _ => set5_12 hz _ _ _ _ _, q6⟩
  · rw [(e 6 (by omega)).1] at hs
    rw [(e 4 (by omega)).1]
    exact h.c6 hs
  · rw [(e 5 (by omega)).1]; exact h5
set_option maxHeartbeats 8000000 in
theorem checkm_any (x : MV) (w : World) (ht : KT w) (h : MsgM w x) : Calls Tryz.prog 50 #[.agg #[.int .i64 x.kind, .int .i64 x.fr, .int .i64 x.dst, .int .i64 x.ep, .int .i64 x.op, .int .i64 x.n, .bool x.flag, .string ⟨x.e.1.k.toArray⟩, .int .i64 x.e.1.s, .int .i64 x.e.1.u, .int .i64 x.e.1.o, .bool x.e.1.has, .slice x.e.2.1 x.e.1.v.length x.e.2.2, .slice x.lA x.l.length x.lc, .slice x.rA x.ns.length x.rc, .int .i64 x.each, .int .i64 x.keep]] w (IsI (checkM (mP x)) w) := by
  have hb : Below w.heap.size w (w.alloc (.cells #[.int .i64 x.kind, .int .i64 x.fr, .int .i64 x.dst, .int .i64 x.ep, .int .i64 x.op, .int .i64 x.n, .bool x.flag, .string ⟨x.e.1.k.toArray⟩, .int .i64 x.e.1.s, .int .i64 x.e.1.u, .int .i64 x.e.1.o, .bool x.e.1.has, .slice x.e.2.1 x.e.1.v.length x.e.2.2, .slice x.lA x.l.length x.lc, .slice x.rA x.ns.length x.rc, .int .i64 x.each, .int .i64 x.keep] 51)) := (Below.refl _ _).alloc (Nat.le_refl _) _
  have HB := Lib.hid hb
  cases g0 : exK x.kind
  · as_aux_lemma =>
    have HV := Lib.hid (checkM_no (m := mP x) (headno_1 g0))
    have G0 := Lib.hid g0
    clear g0 ht h hb
    go_enter Tryz.func50, Tryz.ntmps50
    go_wp2_with (first | (go_at_call 75; refine (exists_val _ _ (by assumption) _).mono ?_; rintro e w' ⟨rfl, rfl⟩) | (go_at_call 76; refine (isid_val _ _ (by assumption) _).mono ?_; rintro e w' ⟨rfl, rfl⟩) | (go_at_call 77; refine (isseq_val _ _ (by assumption) _).mono ?_; rintro e w' ⟨rfl, rfl⟩))
    go_ret
    exact isI_of HV.out.symm HB.out
  cases g1 : inR x.fr 1048575
  · as_aux_lemma =>
    have HV := Lib.hid (checkM_no (m := mP x) (headno_2 g1))
    have G0 := Lib.hid g0
    have G1 := Lib.hid g1
    clear g0 g1 ht h hb
    go_enter Tryz.func50, Tryz.ntmps50
    go_wp2_with (first | (go_at_call 75; refine (exists_val _ _ (by assumption) _).mono ?_; rintro e w' ⟨rfl, rfl⟩) | (go_at_call 76; refine (isid_val _ _ (by assumption) _).mono ?_; rintro e w' ⟨rfl, rfl⟩) | (go_at_call 77; refine (isseq_val _ _ (by assumption) _).mono ?_; rintro e w' ⟨rfl, rfl⟩))
    go_ret
    exact isI_of HV.out.symm HB.out
  cases g2 : inR x.dst 1048575
  · as_aux_lemma =>
    have HV := Lib.hid (checkM_no (m := mP x) (headno_3 g2))
    have G0 := Lib.hid g0
    have G1 := Lib.hid g1
    have G2 := Lib.hid g2
    clear g0 g1 g2 ht h hb
    go_enter Tryz.func50, Tryz.ntmps50
    go_wp2_with (first | (go_at_call 75; refine (exists_val _ _ (by assumption) _).mono ?_; rintro e w' ⟨rfl, rfl⟩) | (go_at_call 76; refine (isid_val _ _ (by assumption) _).mono ?_; rintro e w' ⟨rfl, rfl⟩) | (go_at_call 77; refine (isseq_val _ _ (by assumption) _).mono ?_; rintro e w' ⟨rfl, rfl⟩))
    go_ret
    exact isI_of HV.out.symm HB.out
  cases g3 : inR x.ep 1099511627775
  · as_aux_lemma =>
    have HV := Lib.hid (checkM_no (m := mP x) (headno_4 g3))
    have G0 := Lib.hid g0
    have G1 := Lib.hid g1
    have G2 := Lib.hid g2
    have G3 := Lib.hid g3
    clear g0 g1 g2 g3 ht h hb
    go_enter Tryz.func50, Tryz.ntmps50
    go_wp2_with (first | (go_at_call 75; refine (exists_val _ _ (by assumption) _).mono ?_; rintro e w' ⟨rfl, rfl⟩) | (go_at_call 76; refine (isid_val _ _ (by assumption) _).mono ?_; rintro e w' ⟨rfl, rfl⟩) | (go_at_call 77; refine (isseq_val _ _ (by assumption) _).mono ?_; rintro e w' ⟨rfl, rfl⟩))
    go_ret
    exact isI_of HV.out.symm HB.out
  cases g4 : inR x.op 1099511627775
  · as_aux_lemma =>
    have HV := Lib.hid (checkM_no (m := mP x) (headno_5 g4))
    have G0 := Lib.hid g0
    have G1 := Lib.hid g1
    have G2 := Lib.hid g2
    have G3 := Lib.hid g3
    have G4 := Lib.hid g4
    clear g0 g1 g2 g3 g4 ht h hb
    go_enter Tryz.func50, Tryz.ntmps50
    go_wp2_with (first | (go_at_call 75; refine (exists_val _ _ (by assumption) _).mono ?_; rintro e w' ⟨rfl, rfl⟩) | (go_at_call 76; refine (isid_val _ _ (by assumption) _).mono ?_; rintro e w' ⟨rfl, rfl⟩) | (go_at_call 77; refine (isseq_val _ _ (by assumption) _).mono ?_; rintro e w' ⟨rfl, rfl⟩))
    go_ret
    exact isI_of HV.out.symm HB.out
  have G0 := Lib.hid g0
  have G1 := Lib.hid g1
  have G2 := Lib.hid g2
  have G3 := Lib.hid g3
  have G4 := Lib.hid g4
  have HM : Hid (headR (mP x) = true) := Lib.hid (by show (exK x.kind && inR x.fr 1048575 && inR x.dst 1048575 && inR x.ep 1099511627775 && inR x.op 1099511627775) = true; rw [g0, g1, g2, g3, g4]; rfl)
  have H := Lib.hid (h.below hb)
  have HT := Lib.hid (ht.below hb)
  clear g0 g1 g2 g3 g4 ht h hb
  go_enter Tryz.func50, Tryz.ntmps50
  obtain ⟨W0, hW0⟩ : ∃ W0, w.alloc (.cells #[.int .i64 x.kind, .int .i64 x.fr, .int .i64 x.dst, .int .i64 x.ep, .int .i64 x.op, .int .i64 x.n, .bool x.flag, .string ⟨x.e.1.k.toArray⟩, .int .i64 x.e.1.s, .int .i64 x.e.1.u, .int .i64 x.e.1.o, .bool x.e.1.has, .slice x.e.2.1 x.e.1.v.length x.e.2.2, .slice x.lA x.l.length x.lc, .slice x.rA x.ns.length x.rc, .int .i64 x.each, .int .i64 x.keep] 51) = W0 := ⟨_, rfl⟩
  have hk0 : Blk W0 w.heap.size 51 #[.int .i64 x.kind, .int .i64 x.fr, .int .i64 x.dst, .int .i64 x.ep, .int .i64 x.op, .int .i64 x.n, .bool x.flag, .string ⟨x.e.1.k.toArray⟩, .int .i64 x.e.1.s, .int .i64 x.e.1.u, .int .i64 x.e.1.o, .bool x.e.1.has, .slice x.e.2.1 x.e.1.v.length x.e.2.2, .slice x.lA x.l.length x.lc, .slice x.rA x.ns.length x.rc, .int .i64 x.each, .int .i64 x.keep] := by rw [← hW0]; exact Blk.new w _ _
  rw [hW0] at H HT HB
  have HK := Lib.hid hk0
  have HW := Lib.hid hW0
  have d0 : W0.cell? ⟨w.heap.size, 0, none⟩ = some (.int .i64 x.kind) := hk0.cell 0
  have d1 : W0.cell? ⟨w.heap.size, 1, none⟩ = some (.int .i64 x.fr) := hk0.cell 1
  have d2 : W0.cell? ⟨w.heap.size, 2, none⟩ = some (.int .i64 x.dst) := hk0.cell 2
  have d3 : W0.cell? ⟨w.heap.size, 3, none⟩ = some (.int .i64 x.ep) := hk0.cell 3
  have d4 : W0.cell? ⟨w.heap.size, 4, none⟩ = some (.int .i64 x.op) := hk0.cell 4
  have d5 : W0.cell? ⟨w.heap.size, 5, none⟩ = some (.int .i64 x.n) := hk0.cell 5
  have d6 : W0.cell? ⟨w.heap.size, 6, none⟩ = some (.bool x.flag) := hk0.cell 6
  have d7 : W0.cell? ⟨w.heap.size, 7, none⟩ = some (.string ⟨x.e.1.k.toArray⟩) := hk0.cell 7
  have d8 : W0.cell? ⟨w.heap.size, 8, none⟩ = some (.int .i64 x.e.1.s) := hk0.cell 8
  have d9 : W0.cell? ⟨w.heap.size, 9, none⟩ = some (.int .i64 x.e.1.u) := hk0.cell 9
  have d10 : W0.cell? ⟨w.heap.size, 10, none⟩ = some (.int .i64 x.e.1.o) := hk0.cell 10
  have d11 : W0.cell? ⟨w.heap.size, 11, none⟩ = some (.bool x.e.1.has) := hk0.cell 11
  have d12 : W0.cell? ⟨w.heap.size, 12, none⟩ = some (.slice x.e.2.1 x.e.1.v.length x.e.2.2) := hk0.cell 12
  have d13 : W0.cell? ⟨w.heap.size, 13, none⟩ = some (.slice x.lA x.l.length x.lc) := hk0.cell 13
  have d14 : W0.cell? ⟨w.heap.size, 14, none⟩ = some (.slice x.rA x.ns.length x.rc) := hk0.cell 14
  have d15 : W0.cell? ⟨w.heap.size, 15, none⟩ = some (.int .i64 x.each) := hk0.cell 15
  have d16 : W0.cell? ⟨w.heap.size, 16, none⟩ = some (.int .i64 x.keep) := hk0.cell 16
  clear hk0
  obtain ⟨m, hm⟩ : ∃ m, mP x = m := ⟨_, rfl⟩
  have HRT := Lib.hid fun W h => rightf_any x W h
  have HBL := Lib.hid fun W h => blankf_any x W h
  have HF := Lib.hid fun W h => fields_any x.kind W h
  have HKD : Hid (x.kind = m.kind) := Lib.hid (by rw [← hm]; rfl)
  rw [hm] at HRT HBL HM ⊢
  clear hm
  unfold RightP at HRT
  unfold BlankP at HBL
  obtain ⟨R, hR⟩ : ∃ R, checkM m = R := ⟨_, rfl⟩
  rw [hR]
  have HRR := Lib.hid hR
  clear hR
  go_upto_region 3 with (first | (go_at_call 75; refine (exists_val _ _ (by assumption) _).mono ?_; rintro e w' ⟨rfl, rfl⟩) | (go_at_call 76; refine (isid_val _ _ (by assumption) _).mono ?_; rintro e w' ⟨rfl, rfl⟩) | (go_at_call 77; refine (isseq_val _ _ (by assumption) _).mono ?_; rintro e w' ⟨rfl, rfl⟩))
  clear hW0 d0 d1 d2 d3 d4 d5 d6 d7 d8 d9 d10 d11 d12 d13 d14 d15 d16
  refine RelyJ.wp_region_byJ [[], [(0, 35)], [], [(2, 37)], [], [], [(1, 36), (4, 3)], [(3, 38), (5, 4)]] [(0, 35), (1, 36), (2, 37), (3, 38), (4, 3), (5, 4)] (JF W0 (.agg #[.int .i64 x.kind, .int .i64 x.fr, .int .i64 x.dst, .int .i64 x.ep, .int .i64 x.op, .int .i64 x.n, .bool x.flag, .string ⟨x.e.1.k.toArray⟩, .int .i64 x.e.1.s, .int .i64 x.e.1.u, .int .i64 x.e.1.o, .bool x.e.1.has, .slice x.e.2.1 x.e.1.v.length x.e.2.2, .slice x.lA x.l.length x.lc, .slice x.rA x.ns.length x.rc, .int .i64 x.each, .int .i64 x.keep]) m) (by kernel_rfl) (by kernel_rfl) (by kernel_rfl) (by kernel_rfl) (by kernel_rfl) ?_ ?_ ?_
  · exact fun vs => ⟨(Below.refl _ _).drew, fun h => (by cases h), fun h => (by cases h), fun h => (by cases h), fun h => (by cases h), fun h => (by cases h), fun h => (by cases h), fun h => (by cases h), fun h => (by cases h)⟩
  refine RelyJ.stepsZ_cons (by
    as_aux_lemma =>
    intro S vs w' hS hA hJ
    rw [if_pos (show Region.wanted _ _ = true from rfl)]
    refine RelyJ.gives_mono (R' := fun v w'' => v = .agg #[.int .i64 x.kind, .int .i64 x.fr, .int .i64 x.dst, .int .i64 x.ep, .int .i64 x.op, .int .i64 x.n, .bool x.flag, .string ⟨x.e.1.k.toArray⟩, .int .i64 x.e.1.s, .int .i64 x.e.1.u, .int .i64 x.e.1.o, .bool x.e.1.has, .slice x.e.2.1 x.e.1.v.length x.e.2.2, .slice x.lA x.l.length x.lc, .slice x.rA x.ns.length x.rc, .int .i64 x.each, .int .i64 x.keep] ∧ w'' = w') ?_ (by rintro v w2 ⟨rfl, rfl⟩; exact hJ.read (Below.refl _ _) 0 (by omega) _ ⟨fun h => by first | rfl | omega, fun h => by omega, fun h => by first | rfl | omega, fun h => by omega⟩)
    have hk := HK.out.below hJ.bel HK.out.lt
    have c0 : w'.cell? ⟨w.heap.size, 0, none⟩ = some (.int .i64 x.kind) := hk.cell 0
    have c1 : w'.cell? ⟨w.heap.size, 1, none⟩ = some (.int .i64 x.fr) := hk.cell 1
    have c2 : w'.cell? ⟨w.heap.size, 2, none⟩ = some (.int .i64 x.dst) := hk.cell 2
    have c3 : w'.cell? ⟨w.heap.size, 3, none⟩ = some (.int .i64 x.ep) := hk.cell 3
    have c4 : w'.cell? ⟨w.heap.size, 4, none⟩ = some (.int .i64 x.op) := hk.cell 4
    have c5 : w'.cell? ⟨w.heap.size, 5, none⟩ = some (.int .i64 x.n) := hk.cell 5
    have c6 : w'.cell? ⟨w.heap.size, 6, none⟩ = some (.bool x.flag) := hk.cell 6
    have c7 : w'.cell? ⟨w.heap.size, 7, none⟩ = some (.string ⟨x.e.1.k.toArray⟩) := hk.cell 7
    have c8 : w'.cell? ⟨w.heap.size, 8, none⟩ = some (.int .i64 x.e.1.s) := hk.cell 8
    have c9 : w'.cell? ⟨w.heap.size, 9, none⟩ = some (.int .i64 x.e.1.u) := hk.cell 9
    have c10 : w'.cell? ⟨w.heap.size, 10, none⟩ = some (.int .i64 x.e.1.o) := hk.cell 10
    have c11 : w'.cell? ⟨w.heap.size, 11, none⟩ = some (.bool x.e.1.has) := hk.cell 11
    have c12 : w'.cell? ⟨w.heap.size, 12, none⟩ = some (.slice x.e.2.1 x.e.1.v.length x.e.2.2) := hk.cell 12
    have c13 : w'.cell? ⟨w.heap.size, 13, none⟩ = some (.slice x.lA x.l.length x.lc) := hk.cell 13
    have c14 : w'.cell? ⟨w.heap.size, 14, none⟩ = some (.slice x.rA x.ns.length x.rc) := hk.cell 14
    have c15 : w'.cell? ⟨w.heap.size, 15, none⟩ = some (.int .i64 x.each) := hk.cell 15
    have c16 : w'.cell? ⟨w.heap.size, 16, none⟩ = some (.int .i64 x.keep) := hk.cell 16
    clear hk hJ hA hS
    unfold Rely.gives
    simp only [Rely.sel, List.foldl_nil]
    go_simp
    simp [Rely.GivesR]) ?_
  refine RelyJ.stepsZ_cons (by
    as_aux_lemma =>
    intro S vs w' hS hA hJ
    rw [if_pos (show Region.wanted _ _ = true from rfl)]
    have hx := hJ.v0 (hA ⟨0, Ground.data⟩ (by simp) rfl)
    refine RelyJ.gives_mono (R' := fun v w'' => v = .agg #[.bool (rN m), .bool true, .bool (rE m), .bool (rL m), .bool (rR m)] ∧ Below w'.heap.size w' w'') ?_ (by rintro v w2 ⟨rfl, hb⟩; exact hJ.read hb 1 (by omega) _ ⟨fun h => by omega, fun h => by first | rfl | omega, fun h => by omega, fun h => by first | rfl | omega⟩)
    have HJB := Lib.hid hJ.bel
    clear hJ hA hS
    unfold Rely.gives
    simp only [Rely.sel, List.foldl_cons, List.foldl_nil, hx]
    go_simp
    simp only [Rely.GivesR]
    refine (HRT.out _ (H.out.below HJB.out)).mono ?_
    rintro e w3 ⟨rfl, hb⟩
    exact ⟨_, rfl, rfl, hb⟩) ?_
  refine RelyJ.stepsZ_cons (by
    as_aux_lemma =>
    intro S vs w' hS hA hJ
    rw [if_pos (show Region.wanted _ _ = true from rfl)]
    refine RelyJ.gives_mono (R' := fun v w'' => v = .agg #[.int .i64 x.kind, .int .i64 x.fr, .int .i64 x.dst, .int .i64 x.ep, .int .i64 x.op, .int .i64 x.n, .bool x.flag, .string ⟨x.e.1.k.toArray⟩, .int .i64 x.e.1.s, .int .i64 x.e.1.u, .int .i64 x.e.1.o, .bool x.e.1.has, .slice x.e.2.1 x.e.1.v.length x.e.2.2, .slice x.lA x.l.length x.lc, .slice x.rA x.ns.length x.rc, .int .i64 x.each, .int .i64 x.keep] ∧ w'' = w') ?_ (by rintro v w2 ⟨rfl, rfl⟩; exact hJ.read (Below.refl _ _) 2 (by omega) _ ⟨fun h => by first | rfl | omega, fun h => by omega, fun h => by first | rfl | omega, fun h => by omega⟩)
    have hk := HK.out.below hJ.bel HK.out.lt
    have c0 : w'.cell? ⟨w.heap.size, 0, none⟩ = some (.int .i64 x.kind) := hk.cell 0
    have c1 : w'.cell? ⟨w.heap.size, 1, none⟩ = some (.int .i64 x.fr) := hk.cell 1
    have c2 : w'.cell? ⟨w.heap.size, 2, none⟩ = some (.int .i64 x.dst) := hk.cell 2
    have c3 : w'.cell? ⟨w.heap.size, 3, none⟩ = some (.int .i64 x.ep) := hk.cell 3
    have c4 : w'.cell? ⟨w.heap.size, 4, none⟩ = some (.int .i64 x.op) := hk.cell 4
    have c5 : w'.cell? ⟨w.heap.size, 5, none⟩ = some (.int .i64 x.n) := hk.cell 5
    have c6 : w'.cell? ⟨w.heap.size, 6, none⟩ = some (.bool x.flag) := hk.cell 6
    have c7 : w'.cell? ⟨w.heap.size, 7, none⟩ = some (.string ⟨x.e.1.k.toArray⟩) := hk.cell 7
    have c8 : w'.cell? ⟨w.heap.size, 8, none⟩ = some (.int .i64 x.e.1.s) := hk.cell 8
    have c9 : w'.cell? ⟨w.heap.size, 9, none⟩ = some (.int .i64 x.e.1.u) := hk.cell 9
    have c10 : w'.cell? ⟨w.heap.size, 10, none⟩ = some (.int .i64 x.e.1.o) := hk.cell 10
    have c11 : w'.cell? ⟨w.heap.size, 11, none⟩ = some (.bool x.e.1.has) := hk.cell 11
    have c12 : w'.cell? ⟨w.heap.size, 12, none⟩ = some (.slice x.e.2.1 x.e.1.v.length x.e.2.2) := hk.cell 12
    have c13 : w'.cell? ⟨w.heap.size, 13, none⟩ = some (.slice x.lA x.l.length x.lc) := hk.cell 13
    have c14 : w'.cell? ⟨w.heap.size, 14, none⟩ = some (.slice x.rA x.ns.length x.rc) := hk.cell 14
    have c15 : w'.cell? ⟨w.heap.size, 15, none⟩ = some (.int .i64 x.each) := hk.cell 15
    have c16 : w'.cell? ⟨w.heap.size, 16, none⟩ = some (.int .i64 x.keep) := hk.cell 16
    clear hk hJ hA hS
    unfold Rely.gives
    simp only [Rely.sel, List.foldl_nil]
    go_simp
    simp [Rely.GivesR]) ?_
  refine RelyJ.stepsZ_cons (by
    as_aux_lemma =>
    intro S vs w' hS hA hJ
    rw [if_pos (show Region.wanted _ _ = true from rfl)]
    have hx := hJ.v2 (hA ⟨2, Ground.data⟩ (by simp) rfl)
    refine RelyJ.gives_mono (R' := fun v w'' => v = .agg #[.bool (bN m), .bool (bF m), .bool (bE m), .bool (bL m), .bool (bR m)] ∧ Below w'.heap.size w' w'') ?_ (by rintro v w2 ⟨rfl, hb⟩; exact hJ.read hb 3 (by omega) _ ⟨fun h => by omega, fun h => by first | rfl | omega, fun h => by omega, fun h => by first | rfl | omega⟩)
    have HJB := Lib.hid hJ.bel
    clear hJ hA hS
    unfold Rely.gives
    simp only [Rely.sel, List.foldl_cons, List.foldl_nil, hx]
    go_simp
    simp only [Rely.GivesR]
    refine (HBL.out _ (H.out.below HJB.out)).mono ?_
    rintro e w3 ⟨rfl, hb⟩
    exact ⟨_, rfl, rfl, hb⟩) ?_
  refine RelyJ.stepsZ_cons (by
    as_aux_lemma =>
    intro S vs w' hS hA hJ
    rw [if_pos (show Region.wanted _ _ = true from rfl)]
    have hS6 : S 6 = false := by
      cases h6 : S 6
      · rfl
      · exact absurd (hJ.c6 h6) (by rw [hS]; decide)
    refine RelyJ.gives_mono (R' := fun v w'' => v = .pointer (some ⟨w'.heap.size, 0, none⟩) ∧ w'' = w'.alloc (.cells #[.bool false, .bool false, .bool false, .bool false, .bool false] 143)) ?_ (by rintro v w2 ⟨rfl, rfl⟩; exact hJ.alloc4 hS6)
    clear hJ hA hS hS6
    unfold Rely.gives
    simp only [Rely.sel, List.foldl_nil]
    go_simp
    simp [Rely.GivesR]) ?_
  refine RelyJ.stepsZ_cons (by
    as_aux_lemma =>
    intro S vs w' hS hA hJ
    rw [if_pos (show Region.wanted _ _ = true from rfl)]
    have hS7 : S 7 = false := by
      cases h7 : S 7
      · rfl
      · exact absurd (hJ.c7 h7) (by rw [hS]; decide)
    refine RelyJ.gives_mono (R' := fun v w'' => v = .pointer (some ⟨w'.heap.size, 0, none⟩) ∧ w'' = w'.alloc (.cells #[.bool false, .bool false, .bool false, .bool false, .bool false] 143)) ?_ (by rintro v w2 ⟨rfl, rfl⟩; exact hJ.alloc5 hS7)
    clear hJ hA hS hS7
    unfold Rely.gives
    simp only [Rely.sel, List.foldl_nil]
    go_simp
    simp [Rely.GivesR]) ?_
  refine RelyJ.stepsZ_cons (by
    as_aux_lemma =>
    intro S vs w' hS hA hJ
    rw [if_pos (show Region.wanted _ _ = true from rfl)]
    have hx := hJ.v1 (hA ⟨1, Ground.data⟩ (by simp) rfl)
    have hd := hA ⟨4, Ground.data⟩ (by simp) rfl
    obtain ⟨p, hp, hp0, hp1, hp2'⟩ := hJ.v4 hd
    have hz := hp1 hS
    refine RelyJ.gives_mono (R' := fun v w'' => w'' = (((((w'.setCell ⟨p, 0, none⟩ (.bool (rN m))).setCell ⟨p, 1, none⟩ (.bool true)).setCell ⟨p, 2, none⟩ (.bool (rE m))).setCell ⟨p, 3, none⟩ (.bool (rL m))).setCell ⟨p, 4, none⟩ (.bool (rR m)))) ?_ (by rintro v w2 rfl; exact hJ.store6 hd hp hp0 hz)
    have r0 : w'.cell? ⟨p, 0, none⟩ = some (.bool false) := hz.cell 0
    have r1 : w'.cell? ⟨p, 1, none⟩ = some (.bool false) := hz.cell 1
    have r2 : w'.cell? ⟨p, 2, none⟩ = some (.bool false) := hz.cell 2
    have r3 : w'.cell? ⟨p, 3, none⟩ = some (.bool false) := hz.cell 3
    have r4 : w'.cell? ⟨p, 4, none⟩ = some (.bool false) := hz.cell 4
    have z0 := hz.frozen 0
    have z1 := hz.frozen 1
    have z2 := hz.frozen 2
    have z3 := hz.frozen 3
    have z4 := hz.frozen 4
    clear hJ hA hS hp0 hp1 hp2' hz hd
    unfold Rely.gives
    simp only [Rely.sel, List.foldl_cons, List.foldl_nil, hx, hp]
    go_simp
    simp [Rely.GivesR]) ?_
  refine RelyJ.stepsZ_cons (by
    as_aux_lemma =>
    intro S vs w' hS hA hJ
    rw [if_pos (show Region.wanted _ _ = true from rfl)]
    have hx := hJ.v3 (hA ⟨3, Ground.data⟩ (by simp) rfl)
    have hd := hA ⟨5, Ground.data⟩ (by simp) rfl
    obtain ⟨p, hp, hp0, hp1, hp2'⟩ := hJ.v5 hd
    have hz := hp1 hS
    refine RelyJ.gives_mono (R' := fun v w'' => w'' = (((((w'.setCell ⟨p, 0, none⟩ (.bool (bN m))).setCell ⟨p, 1, none⟩ (.bool (bF m))).setCell ⟨p, 2, none⟩ (.bool (bE m))).setCell ⟨p, 3, none⟩ (.bool (bL m))).setCell ⟨p, 4, none⟩ (.bool (bR m)))) ?_ (by rintro v w2 rfl; exact hJ.store7 hd hp hp0 hz)
    have r0 : w'.cell? ⟨p, 0, none⟩ = some (.bool false) := hz.cell 0
    have r1 : w'.cell? ⟨p, 1, none⟩ = some (.bool false) := hz.cell 1
    have r2 : w'.cell? ⟨p, 2, none⟩ = some (.bool false) := hz.cell 2
    have r3 : w'.cell? ⟨p, 3, none⟩ = some (.bool false) := hz.cell 3
    have r4 : w'.cell? ⟨p, 4, none⟩ = some (.bool false) := hz.cell 4
    have z0 := hz.frozen 0
    have z1 := hz.frozen 1
    have z2 := hz.frozen 2
    have z3 := hz.frozen 3
    have z4 := hz.frozen 4
    clear hJ hA hS hp0 hp1 hp2' hz hd
    unfold Rely.gives
    simp only [Rely.sel, List.foldl_cons, List.foldl_nil, hx, hp]
    go_simp
    simp [Rely.GivesR]) ?_
  exact RelyJ.stepsZ_nil
  intro S vs w' hS hJ
  have x0 := hJ.v0 (hS 0 (by decide))
  have x1 := hJ.v1 (hS 1 (by decide))
  have x2 := hJ.v2 (hS 2 (by decide))
  have x3 := hJ.v3 (hS 3 (by decide))
  obtain ⟨p3, hp3, _, _, hb3⟩ := hJ.v4 (hS 4 (by decide))
  obtain ⟨p4, hp4, _, _, hb4, _⟩ := hJ.v5 (hS 5 (by decide))
  have HP3 := Lib.hid (hb3 (hS 6 (by decide)))
  have HP4 := Lib.hid (hb4 (hS 7 (by decide)))
  have HB1 := Lib.hid (HB.out.trans (hJ.bel.mono HB.out.size))
  have HT1 := Lib.hid (HT.out.below hJ.bel)
  have c0 : w'.cell? ⟨w.heap.size, 0, none⟩ = some (.int .i64 x.kind) := (HK.out.below hJ.bel HK.out.lt).cell 0
  simp only [Rely.sel, List.foldl_cons, List.foldl_nil, x0, x1, x2, x3, hp3, hp4]
  simp only [Act.put, List.setIfInBounds_toArray, List.set_cons_succ, List.set_cons_zero]
  have HFK := Lib.hid (HF.out w' HT1.out)
  unfold FldE fldV b5 at HFK
  have HV : Hid (R = if (fldB (hasN x.kind) (rN m) (bN m) && (fldB (hasF x.kind) true (bF m) && (fldB (hasE x.kind) (rE m) (bE m) && (fldB (hasL x.kind) (rL m) (bL m) && fldB (hasR x.kind) (rR m) (bR m))))) = true then 0 else 2) := Lib.hid (by
    rw [← HRR.out]
    unfold checkM okM
    rw [HM.out, HKD.out, Bool.true_and])
  clear hS hJ x0 x1 x2 x3 hp3 hp4 hb3 hb4 HKD HM HRT HBL HF H HK HRR
  generalize hasN x.kind = h0 at HFK HV
  generalize hasF x.kind = h1 at HFK HV
  generalize hasE x.kind = h2 at HFK HV
  generalize hasL x.kind = h3 at HFK HV
  generalize hasR x.kind = h4 at HFK HV
  generalize rN m = r0 at HP3 HV
  generalize rE m = r2 at HP3 HV
  generalize rL m = r3 at HP3 HV
  generalize rR m = r4 at HP3 HV
  generalize bN m = b0 at HP4 HV
  generalize bF m = b1 at HP4 HV
  generalize bE m = b2 at HP4 HV
  generalize bL m = b3 at HP4 HV
  generalize bR m = b4 at HP4 HV
  go_wp2_with fail
  refine HFK.out.mono ?_
  rintro e w5 ⟨rfl, hb⟩
  have HB5 := Lib.hid (HB1.out.trans (hb.mono HB1.out.size))
  have HQ3 := Lib.hid (HP3.out.below hb HP3.out.lt)
  have HQ4 := Lib.hid (HP4.out.below hb HP4.out.lt)
  clear hb c0 HP3 HP4 HFK
  have u0 : w5.cell? ⟨p3, 0, none⟩ = some (.bool r0) := HQ3.out.cell 0
  have y0 : w5.cell? ⟨p4, 0, none⟩ = some (.bool b0) := HQ4.out.cell 0
  have ix0 := fun W => idxb_0 h0 h1 h2 h3 h4 W
  have u1 : w5.cell? ⟨p3, 1, none⟩ = some (.bool true) := HQ3.out.cell 1
  have y1 : w5.cell? ⟨p4, 1, none⟩ = some (.bool b1) := HQ4.out.cell 1
  have ix1 := fun W => idxb_1 h0 h1 h2 h3 h4 W
  have u2 : w5.cell? ⟨p3, 2, none⟩ = some (.bool r2) := HQ3.out.cell 2
  have y2 : w5.cell? ⟨p4, 2, none⟩ = some (.bool b2) := HQ4.out.cell 2
  have ix2 := fun W => idxb_2 h0 h1 h2 h3 h4 W
  have u3 : w5.cell? ⟨p3, 3, none⟩ = some (.bool r3) := HQ3.out.cell 3
  have y3 : w5.cell? ⟨p4, 3, none⟩ = some (.bool b3) := HQ4.out.cell 3
  have ix3 := fun W => idxb_3 h0 h1 h2 h3 h4 W
  have u4 : w5.cell? ⟨p3, 4, none⟩ = some (.bool r4) := HQ3.out.cell 4
  have y4 : w5.cell? ⟨p4, 4, none⟩ = some (.bool b4) := HQ4.out.cell 4
  have ix4 := fun W => idxb_4 h0 h1 h2 h3 h4 W
  clear HQ3 HQ4
  go_wp2
  go_loop [42] (fun i => ∃ k : Nat, k ≤ 5 ∧ i = .int .i64 k ∧ Hid ((0 < k → fldB h0 r0 b0 = true) ∧ (1 < k → fldB h1 true b1 = true) ∧ (2 < k → fldB h2 r2 b2 = true) ∧ (3 < k → fldB h3 r3 b3 = true) ∧ (4 < k → fldB h4 r4 b4 = true))) (fun i => 5 - (intOf i).toNat)
  case atStart => exact ⟨0, by omega, rfl, Lib.hid ⟨by omega, by omega, by omega, by omega, by omega⟩⟩
  case round =>
    obtain ⟨k, hk, rfl, HZ⟩ := hrel
    match k, hk, HZ with
    | 0, _, HZ =>
      rcases Bool.eq_false_or_eq_true h0 with g | g
      · as_aux_lemma =>
        subst g
        rcases Bool.eq_false_or_eq_true r0 with g | g
        · subst g
          have HY : Hid (fldB true true b0 = true) := Lib.hid rfl
          go_wp2
          go_round
          case rel => exact ⟨1, by omega, rfl, Lib.hid ⟨fun _ => HY.out, (by omega), (by omega), (by omega), (by omega)⟩⟩
          case measure => simp [intOf]
        · subst g
          have HY : Hid (R = 2) := Lib.hid (by
            have f0 : fldB true false b0 = false := rfl
            rw [HV.out, f0]
            simp)
          go_wp2
          go_ret
          exact isI_of HY.out.symm HB5.out
      · as_aux_lemma =>
        subst g
        rcases Bool.eq_false_or_eq_true b0 with g | g
        · subst g
          have HY : Hid (fldB false r0 true = true) := Lib.hid rfl
          go_wp2
          go_round
          case rel => exact ⟨1, by omega, rfl, Lib.hid ⟨fun _ => HY.out, (by omega), (by omega), (by omega), (by omega)⟩⟩
          case measure => simp [intOf]
        · subst g
          have HY : Hid (R = 2) := Lib.hid (by
            have f0 : fldB false r0 false = false := rfl
            rw [HV.out, f0]
            simp)
          go_wp2
          go_ret
          exact isI_of HY.out.symm HB5.out
    | 1, _, HZ =>
      rcases Bool.eq_false_or_eq_true h1 with g | g
      · as_aux_lemma =>
        subst g
        have HY : Hid (fldB true true b1 = true) := Lib.hid rfl
        go_wp2
        go_round
        case rel => exact ⟨2, by omega, rfl, Lib.hid ⟨fun _ => HZ.out.1 (by omega), fun _ => HY.out, (by omega), (by omega), (by omega)⟩⟩
        case measure => simp [intOf]
      · as_aux_lemma =>
        subst g
        rcases Bool.eq_false_or_eq_true b1 with g | g
        · subst g
          have HY : Hid (fldB false true true = true) := Lib.hid rfl
          go_wp2
          go_round
          case rel => exact ⟨2, by omega, rfl, Lib.hid ⟨fun _ => HZ.out.1 (by omega), fun _ => HY.out, (by omega), (by omega), (by omega)⟩⟩
          case measure => simp [intOf]
        · subst g
          have HY : Hid (R = 2) := Lib.hid (by
            have f1 : fldB false true false = false := rfl
            rw [HV.out, f1]
            simp)
          go_wp2
          go_ret
          exact isI_of HY.out.symm HB5.out
    | 2, _, HZ =>
      rcases Bool.eq_false_or_eq_true h2 with g | g
      · as_aux_lemma =>
        subst g
        rcases Bool.eq_false_or_eq_true r2 with g | g
        · subst g
          have HY : Hid (fldB true true b2 = true) := Lib.hid rfl
          go_wp2
          go_round
          case rel => exact ⟨3, by omega, rfl, Lib.hid ⟨fun _ => HZ.out.1 (by omega), fun _ => HZ.out.2.1 (by omega), fun _ => HY.out, (by omega), (by omega)⟩⟩
          case measure => simp [intOf]
        · subst g
          have HY : Hid (R = 2) := Lib.hid (by
            have f2 : fldB true false b2 = false := rfl
            rw [HV.out, f2]
            simp)
          go_wp2
          go_ret
          exact isI_of HY.out.symm HB5.out
      · as_aux_lemma =>
        subst g
        rcases Bool.eq_false_or_eq_true b2 with g | g
        · subst g
          have HY : Hid (fldB false r2 true = true) := Lib.hid rfl
          go_wp2
          go_round
          case rel => exact ⟨3, by omega, rfl, Lib.hid ⟨fun _ => HZ.out.1 (by omega), fun _ => HZ.out.2.1 (by omega), fun _ => HY.out, (by omega), (by omega)⟩⟩
          case measure => simp [intOf]
        · subst g
          have HY : Hid (R = 2) := Lib.hid (by
            have f2 : fldB false r2 false = false := rfl
            rw [HV.out, f2]
            simp)
          go_wp2
          go_ret
          exact isI_of HY.out.symm HB5.out
    | 3, _, HZ =>
      rcases Bool.eq_false_or_eq_true h3 with g | g
      · as_aux_lemma =>
        subst g
        rcases Bool.eq_false_or_eq_true r3 with g | g
        · subst g
          have HY : Hid (fldB true true b3 = true) := Lib.hid rfl
          go_wp2
          go_round
          case rel => exact ⟨4, by omega, rfl, Lib.hid ⟨fun _ => HZ.out.1 (by omega), fun _ => HZ.out.2.1 (by omega), fun _ => HZ.out.2.2.1 (by omega), fun _ => HY.out, (by omega)⟩⟩
          case measure => simp [intOf]
        · subst g
          have HY : Hid (R = 2) := Lib.hid (by
            have f3 : fldB true false b3 = false := rfl
            rw [HV.out, f3]
            simp)
          go_wp2
          go_ret
          exact isI_of HY.out.symm HB5.out
      · as_aux_lemma =>
        subst g
        rcases Bool.eq_false_or_eq_true b3 with g | g
        · subst g
          have HY : Hid (fldB false r3 true = true) := Lib.hid rfl
          go_wp2
          go_round
          case rel => exact ⟨4, by omega, rfl, Lib.hid ⟨fun _ => HZ.out.1 (by omega), fun _ => HZ.out.2.1 (by omega), fun _ => HZ.out.2.2.1 (by omega), fun _ => HY.out, (by omega)⟩⟩
          case measure => simp [intOf]
        · subst g
          have HY : Hid (R = 2) := Lib.hid (by
            have f3 : fldB false r3 false = false := rfl
            rw [HV.out, f3]
            simp)
          go_wp2
          go_ret
          exact isI_of HY.out.symm HB5.out
    | 4, _, HZ =>
      rcases Bool.eq_false_or_eq_true h4 with g | g
      · as_aux_lemma =>
        subst g
        rcases Bool.eq_false_or_eq_true r4 with g | g
        · subst g
          have HY : Hid (fldB true true b4 = true) := Lib.hid rfl
          go_wp2
          go_round
          case rel => exact ⟨5, by omega, rfl, Lib.hid ⟨fun _ => HZ.out.1 (by omega), fun _ => HZ.out.2.1 (by omega), fun _ => HZ.out.2.2.1 (by omega), fun _ => HZ.out.2.2.2.1 (by omega), fun _ => HY.out⟩⟩
          case measure => simp [intOf]
        · subst g
          have HY : Hid (R = 2) := Lib.hid (by
            have f4 : fldB true false b4 = false := rfl
            rw [HV.out, f4]
            simp)
          go_wp2
          go_ret
          exact isI_of HY.out.symm HB5.out
      · as_aux_lemma =>
        subst g
        rcases Bool.eq_false_or_eq_true b4 with g | g
        · subst g
          have HY : Hid (fldB false r4 true = true) := Lib.hid rfl
          go_wp2
          go_round
          case rel => exact ⟨5, by omega, rfl, Lib.hid ⟨fun _ => HZ.out.1 (by omega), fun _ => HZ.out.2.1 (by omega), fun _ => HZ.out.2.2.1 (by omega), fun _ => HZ.out.2.2.2.1 (by omega), fun _ => HY.out⟩⟩
          case measure => simp [intOf]
        · subst g
          have HY : Hid (R = 2) := Lib.hid (by
            have f4 : fldB false r4 false = false := rfl
            rw [HV.out, f4]
            simp)
          go_wp2
          go_ret
          exact isI_of HY.out.symm HB5.out
    | 5, _, HZ =>
      have HY : Hid (R = 0) := Lib.hid (by
        rw [HV.out, HZ.out.1 (by omega), HZ.out.2.1 (by omega), HZ.out.2.2.1 (by omega), HZ.out.2.2.2.1 (by omega), HZ.out.2.2.2.2 (by omega)]
        rfl)
      go_wp2
      go_ret
      exact isI_of HY.out.symm HB5.out
end Go.Proofs.YtkdpfjenjcpcfaaGreatDoor
