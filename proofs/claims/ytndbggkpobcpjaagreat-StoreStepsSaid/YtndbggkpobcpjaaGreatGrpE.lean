/- A store of the reference, as it lies apart from some blocks; its Crash. -/
/- Which entries may be, told by the reference: whatever lengths (written by tools/gen_rrg8.py). -/
/- Put refused, told by the reference: the store as it was (written by tools/gen_refput8.py). -/
/- Put of what is not newer, told by the reference: one ack more (written by tools/gen_refpo8.py). -/
import Derived.Test.YtndbggkpobcpjaaGreatRefS8
import Derived.Test.YtndbggkpobcpjaaGreatGrpD
import Derived.Test.YtndbggkpobcpjaaGreatTg
import Derived.Deep.RegionHeld3
namespace Go.Proofs.YtndbggkpobcpjaaGreat
open Go.RowKit Go.ChangeShapes Mem Be Word Frm Go.Maps
set_option maxRecDepth 100000
set_option maxHeartbeats 8000000
set_option linter.unusedVariables false
/-- The rows of a store of the reference: a log, the newer entries, those that last, what waits. -/
structure RefTR (w : World) (F : Nat → Prop) (S : St8) (AL : Option Addr) (cL : Nat) (AT : Option Addr) (cT : Nat) (R : Option Addr) (c : Nat) (vs : List RecV) (AU : Option Addr) (cU : Nat) (us : List EV) (AV : Option Addr) (cV : Nat) (ls : List EV) (AC : Option Addr) (cC : Nat) : Prop where
  rs : vs.map rcOf = S.rs
  log : RefL w F AL cL AT cT R c (allB (S.rs.take S.m)) (allB (S.rs.drop S.m)) vs
  un : us.map Prod.fst = S.N
  uc : us.length ≤ cU
  ue : EnN F w AU us
  ln : ls.map Prod.fst = S.L
  lc : ls.length ≤ cV
  le : EnN F w AV ls
  ar : RowN F w AC (acksC S.acks)
  ac : S.acks.length ≤ cC
section
variable {w w1 : World} {F F' : Nat → Prop} {S : St8} {AL AT R AU AV AC : Option Addr} {cL cT c cU cV cC : Nat} {vs : List RecV} {us ls : List EV}
theorem RefTR.step (h : RefTR w F S AL cL AT cT R c vs AU cU us AV cV ls AC cC) (ht : Touch F w w1) (hf : ∀ k, F' k → F k ∨ w.heap.size ≤ k) : RefTR w1 F' S AL cL AT cT R c vs AU cU us AV cV ls AC cC :=
  ⟨h.rs, h.log.step ht hf, h.un, h.uc, h.ue.to hf ht, h.ln, h.lc, h.le.to hf ht, h.ar.grow hf ht, h.ac⟩
theorem RefTR.below (h : RefTR w F S AL cL AT cT R c vs AU cU us AV cV ls AC cC) (hb : Below w.heap.size w w1) : RefTR w1 F S AL cL AT cT R c vs AU cU us AV cV ls AC cC := h.step (Touch.ofBelow hb) fun k hk => Or.inl hk
theorem RefTR.wide (h : RefTR w F S AL cL AT cT R c vs AU cU us AV cV ls AC cC) (hb : Below w.heap.size w w1) {b : Nat} (hb2 : w.heap.size ≤ b) : RefTR w1 (AndB F b) S AL cL AT cT R c vs AU cU us AV cV ls AC cC := h.step (Touch.ofBelow hb) fun k hk => by
  rcases hk with h1 | h1
  · exact Or.inl h1
  · exact Or.inr (by omega)
end
/-- A store of the reference: a value, and its rows. -/
def RefTV (F : Nat → Prop) (S : St8) (q : Nat) (w : World) (v : Value) : Prop :=
  ∃ (AL : Option Addr) (cL : Nat) (AT : Option Addr) (cT : Nat) (R : Option Addr) (c : Nat) (vs : List RecV) (AU : Option Addr) (cU : Nat) (us : List EV) (AV : Option Addr) (cV : Nat) (ls : List EV) (AC : Option Addr) (cC : Nat),
    v = .agg #[.slice AL (allB (S.rs.take S.m)).length cL, .slice AT (allB (S.rs.drop S.m)).length cT, .int .i64 (q : Int), .slice R vs.length c, .int .i64 (S.m : Int), .slice AU us.length cU, .slice AV ls.length cV, .slice AC S.acks.length cC] ∧
    RefTR w F S AL cL AT cT R c vs AU cU us AV cV ls AC cC
/-- What the reference leaves: a store, told in some way. -/
def RefTP (F : Nat → Prop) (f : Value → Value) (S : St8) (q : Nat) (w : World) (e : Ending) (w' : World) : Prop := ∃ v, e = .returned (f v) ∧ RefTV F S q w' v ∧ Below w.heap.size w w'
theorem t8_w0 (w : World) (x0 x1 x2 x3 x4 x5 x6 x7 : Value) :
    ∃ W1, (w.alloc (.cells #[x0, x1, x2, x3, x4, x5, x6, x7] 36)).alloc (.cells #[.slice none 0 0, .slice none 0 0, .int .i64 0, .slice none 0 0, .int .i64 0, .slice none 0 0, .slice none 0 0, .slice none 0 0] 36) = W1 ∧
    Below w.heap.size w W1 ∧ Blk W1 w.heap.size 36 #[x0, x1, x2, x3, x4, x5, x6, x7] ∧
    Blk W1 (w.heap.size + 1) 36 #[.slice none 0 0, .slice none 0 0, .int .i64 0, .slice none 0 0, .int .i64 0, .slice none 0 0, .slice none 0 0, .slice none 0 0] := by
  refine ⟨_, rfl, ((Below.refl _ _).alloc (Nat.le_refl _) _).alloc (by simp) _, (Blk.new w _ _).alloc _, ?_⟩
  have := Blk.new (w.alloc (.cells #[x0, x1, x2, x3, x4, x5, x6, x7] 36)) 36 #[.slice none 0 0, .slice none 0 0, .int .i64 0, .slice none 0 0, .int .i64 0, .slice none 0 0, .slice none 0 0, .slice none 0 0]
  simp at this
  exact this
theorem scan_cutS {X : List UInt8} : scanS (X.take (scanS X).2.1) = ((scanS X).1, (scanS X).2.1, 0) := by
  have hag := scan_again X
  have hat := scan_at X
  have hsl : (X.take (scanS X).2.1).length = (scanS X).2.1 := by rw [List.length_take]; omega
  rw [← hag, scan_all _ (scan_short X), hag, hsl]
end Go.Proofs.YtndbggkpobcpjaaGreat
namespace Go.Proofs.YtndbggkpobcpjaaGreat
open Go.RowKit Mem
set_option maxRecDepth 10000
set_option maxHeartbeats 4000000
theorem refright_big (key : ByteArray) (s u o : Int) (has : Bool) (A : Option Addr) (m c : Nat) (hm : (m : Int) ≤ 9223372036854775807) (hsz : (key.size : Int) ≤ 9223372036854775807) (w : World) :
    Calls Tryz.prog 49 #[entV key s u o has A m c] w (IsI (rightE key.size m s u o has) w) := by
  have HB : Hid (Below w.heap.size w (w.alloc (entO key s u o has A m c))) := Lib.hid ((Below.refl _ _).alloc (Nat.le_refl _) _)
  obtain ⟨hk, hv⟩ := ways key.size m has
  rcases hk with hk | hk | ⟨hk, hk2⟩
  · clear hv
    go_enter Tryz.func49, Tryz.ntmps49
    go_wp2
    go_ret
    exact isI_of (rightE_no (by rintro ⟨h1, _⟩; omega)).symm HB.out
  · clear hv
    go_enter Tryz.func49, Tryz.ntmps49
    go_wp2
    go_ret
    exact isI_of (rightE_no (by rintro ⟨_, h1, _⟩; omega)).symm HB.out
  rcases hv with hv | ⟨hv, rfl⟩ | ⟨hv, rfl, rfl⟩ | ⟨hv, hv2, rfl⟩
  · go_enter Tryz.func49, Tryz.ntmps49
    go_wp2
    go_ret
    exact isI_of (rightE_no (by rintro ⟨_, _, h1, _⟩; omega)).symm HB.out
  · rcases checkT_02 s u o with h0 | h0
    · have H0 := Lib.hid h0
      clear h0
      cases h1 : (s == 0)
      · have hq : (s == 0) = false := h1
        have H1 : Hid ((s == 0) = false) := Lib.hid h1
        clear h1
        go_enter Tryz.func49, Tryz.ntmps49
        go_wp2_with (go_at_call 75; refine (refcheck_val _ _ _ _ (by assumption) _).mono ?_; rintro e w2 ⟨rfl, hb⟩; obtain ⟨hc, hf⟩ := bcell hb; have HB2 := Lib.hid (HB.out.trans (hb.mono HB.out.size)); clear hb)
        go_ret
        exact isI_of ((rightE_check (by refine ⟨by omega, by omega, by omega, by simp, ?_⟩; rintro ⟨h1, h2⟩; exact hid_some H1 h1)).trans H0.out).symm HB2.out
      · have H1 : Hid ((s == 0) = true) := Lib.hid h1
        go_enter Tryz.func49, Tryz.ntmps49
        go_wp2_with (go_at_call 75; refine (refcheck_val _ _ _ _ (by assumption) _).mono ?_; rintro e w2 ⟨rfl, hb⟩; obtain ⟨hc, hf⟩ := bcell hb; have HB2 := Lib.hid (HB.out.trans (hb.mono HB.out.size)); clear hb)
        go_ret
        exact isI_of (rightE_no (by rintro ⟨h1, h2, h3, h4, h5, h6⟩; exact h6 ⟨hid_nought H1, rfl⟩)).symm HB2.out
    · have H0 := Lib.hid h0
      clear h0
      go_enter Tryz.func49, Tryz.ntmps49
      go_wp2_with (go_at_call 75; refine (refcheck_val _ _ _ _ (by assumption) _).mono ?_; rintro e w2 ⟨rfl, hb⟩; obtain ⟨hc, hf⟩ := bcell hb; have HB2 := Lib.hid (HB.out.trans (hb.mono HB.out.size)); clear hb)
      go_ret
      exact isI_of (rightE_no (by rintro ⟨_, _, _, _, h1, _⟩; have := H0.out; omega)).symm HB2.out
  · rcases checkT_02 s u o with h0 | h0
    · have H0 := Lib.hid h0
      clear h0
      cases h1 : (s == 0)
      all_goals
        go_enter Tryz.func49, Tryz.ntmps49
        go_wp2_with (go_at_call 75; refine (refcheck_val _ _ _ _ (by assumption) _).mono ?_; rintro e w2 ⟨rfl, hb⟩; obtain ⟨hc, hf⟩ := bcell hb; have HB2 := Lib.hid (HB.out.trans (hb.mono HB.out.size)); clear hb)
        go_ret
        exact isI_of ((rightE_check (by refine ⟨by omega, by omega, by omega, by simp, ?_⟩; rintro ⟨h1, h2⟩; simp at h2)).trans H0.out).symm HB2.out
    · have H0 := Lib.hid h0
      clear h0
      go_enter Tryz.func49, Tryz.ntmps49
      go_wp2_with (go_at_call 75; refine (refcheck_val _ _ _ _ (by assumption) _).mono ?_; rintro e w2 ⟨rfl, hb⟩; obtain ⟨hc, hf⟩ := bcell hb; have HB2 := Lib.hid (HB.out.trans (hb.mono HB.out.size)); clear hb)
      go_ret
      exact isI_of (rightE_no (by rintro ⟨_, _, _, _, h1, _⟩; have := H0.out; omega)).symm HB2.out
  · go_enter Tryz.func49, Tryz.ntmps49
    go_wp2
    go_ret
    exact isI_of (rightE_no (by rintro ⟨_, _, _, h1, _⟩; simp at h1; omega)).symm HB.out
end Go.Proofs.YtndbggkpobcpjaaGreat
namespace Go.Proofs.YtndbggkpobcpjaaGreat
open Go.RowKit Go.ChangeShapes Mem Be Word Frm Go.Maps
set_option maxRecDepth 100000
set_option maxHeartbeats 8000000
set_option linter.unusedVariables false
theorem p8_w0 (w : World) (x0 x1 x2 x3 x4 x5 x6 x7 y0 y1 y2 y3 y4 y5 : Value) :
    ∃ W1, ((w.alloc (.cells #[x0, x1, x2, x3, x4, x5, x6, x7] 36)).alloc (.cells #[y0, y1, y2, y3, y4, y5] 45)).alloc (.cells #[.slice none 0 0, .slice none 0 0, .int .i64 0, .slice none 0 0, .int .i64 0, .slice none 0 0, .slice none 0 0, .slice none 0 0] 36) = W1 ∧
    Below w.heap.size w W1 ∧ Blk W1 w.heap.size 36 #[x0, x1, x2, x3, x4, x5, x6, x7] ∧ Blk W1 (w.heap.size + 1) 45 #[y0, y1, y2, y3, y4, y5] ∧
    Blk W1 (w.heap.size + 1 + 1) 36 #[.slice none 0 0, .slice none 0 0, .int .i64 0, .slice none 0 0, .int .i64 0, .slice none 0 0, .slice none 0 0, .slice none 0 0] := by
  refine ⟨_, rfl, (((Below.refl _ _).alloc (Nat.le_refl _) _).alloc (by simp) _).alloc (by simp; omega) _, ((Blk.new w _ _).alloc _).alloc _, ?_, ?_⟩
  · have := (Blk.new (w.alloc (.cells #[x0, x1, x2, x3, x4, x5, x6, x7] 36)) 45 #[y0, y1, y2, y3, y4, y5]).alloc (.cells #[.slice none 0 0, .slice none 0 0, .int .i64 0, .slice none 0 0, .int .i64 0, .slice none 0 0, .slice none 0 0, .slice none 0 0] 36)
    simp at this
    exact this
  · have := Blk.new ((w.alloc (.cells #[x0, x1, x2, x3, x4, x5, x6, x7] 36)).alloc (.cells #[y0, y1, y2, y3, y4, y5] 45)) 36 #[.slice none 0 0, .slice none 0 0, .int .i64 0, .slice none 0 0, .int .i64 0, .slice none 0 0, .slice none 0 0, .slice none 0 0]
    simp at this
    exact this
theorem refput8_no (F : Nat → Prop) (S : St8) (q : Nat) (x : EV) (who : Int) (hm : ¬ mayP x.1 who) (hkl : (x.1.k.length : Int) ≤ 9223372036854775807) (hvl : (x.1.v.length : Int) ≤ 9223372036854775807) (w : World) (hF : ∀ k, F k → k < w.heap.size) (v : Value) (h : RefTV F S q w v) :
    Calls Tryz.prog 20 #[v, .agg #[.string ⟨x.1.k.toArray⟩, .int .i64 x.1.s, .int .i64 x.1.u, .int .i64 x.1.o, .bool x.1.has, .slice x.2.1 x.1.v.length x.2.2], .int .i64 who] w (RefTP F (fun v => .tuple #[v, .int .i64 2]) S q w) := by
  obtain ⟨AL, cL, AT, cT, R, c, vs, AU, cU, us, AV, cV, ls, AC, cC, rfl, h⟩ := h
  obtain ⟨W0, hW0, hb0, hkt, hke, hkr⟩ := p8_w0 w (.slice AL (allB (S.rs.take S.m)).length cL) (.slice AT (allB (S.rs.drop S.m)).length cT) (.int .i64 (q : Int)) (.slice R vs.length c) (.int .i64 (S.m : Int)) (.slice AU us.length cU) (.slice AV ls.length cV) (.slice AC S.acks.length cC) (.string ⟨x.1.k.toArray⟩) (.int .i64 x.1.s) (.int .i64 x.1.u) (.int .i64 x.1.o) (.bool x.1.has) (.slice x.2.1 x.1.v.length x.2.2)
  have h0 := h.wide hb0 (b := w.heap.size + 1 + 1) (by omega)
  have hk : (⟨x.1.k.toArray⟩ : ByteArray).size = x.1.k.length := by show x.1.k.toArray.size = _; simp
  have hrg := refright_big ⟨x.1.k.toArray⟩ x.1.s x.1.u x.1.o x.1.has x.2.1 x.1.v.length x.2.2 hvl (by rw [hk]; exact hkl) W0
  rw [hk] at hrg
  obtain ⟨er, her⟩ : ∃ er, rightE x.1.k.length x.1.v.length x.1.s x.1.u x.1.o x.1.has = er := ⟨_, rfl⟩
  rw [her] at hrg
  unfold entV at hrg
  unfold mayP okE at hm
  rw [her] at hm
  have HRG := Lib.hid hrg
  have HB0 := Lib.hid hb0
  have HKT := Lib.hid hkt
  have HKE := Lib.hid hke
  have HKR0 := Lib.hid hkr
  have HT0 := Lib.hid h0
  have HW0 := Lib.hid hW0
  have HM := Lib.hid hm
  clear hF h hb0 hkt hke hkr h0 hW0 hrg her hk hkl hvl hm
  go_enter Tryz.func20, Tryz.ntmps20
  go_wp2_with fail
  rw [HW0.out]
  refine HRG.out.mono ?_
  rintro e w2 ⟨rfl, hb2⟩
  have HKT2 := Lib.hid (HKT.out.below hb2 HKT.out.lt)
  have HKE2 := Lib.hid (HKE.out.below hb2 HKE.out.lt)
  have HKR2 := Lib.hid (HKR0.out.below hb2 HKR0.out.lt)
  have HT2 := Lib.hid (HT0.out.below hb2)
  have HF := Lib.hid (set8_fin HKR2.out (.slice AL (allB (S.rs.take S.m)).length cL) (.slice AT (allB (S.rs.drop S.m)).length cT) (.int .i64 (q : Int)) (.slice R vs.length c) (.int .i64 (S.m : Int)) (.slice AU us.length cU) (.slice AV ls.length cV) (.slice AC S.acks.length cC))
  have HTC : Hid (Touch (AndB F (w.heap.size + 1 + 1)) w2 (set8 w2 (w.heap.size + 1 + 1) (.slice AL (allB (S.rs.take S.m)).length cL) (.slice AT (allB (S.rs.drop S.m)).length cT) (.int .i64 (q : Int)) (.slice R vs.length c) (.int .i64 (S.m : Int)) (.slice AU us.length cU) (.slice AV ls.length cV) (.slice AC S.acks.length cC))) := Lib.hid (set8_touch _ _ _ _ _ _ _ _)
  have HBB : Hid (Below w.heap.size w w2) := Lib.hid (HB0.out.trans (hb2.mono HB0.out.size))
  have HZ1 : w.heap.size < w2.heap.size := HKT2.out.lt
  have HZ2 : w.heap.size + 1 < w2.heap.size := HKE2.out.lt
  have HZ3 : w.heap.size + 1 + 1 < w2.heap.size := HKR2.out.lt
  have c1 : w2.cell? ⟨w.heap.size + 1, 1, none⟩ = some (.int .i64 x.1.s) := HKE2.out.cell 1
  have f0 : w2.cell? ⟨w.heap.size, 0, none⟩ = some (.slice AL (allB (S.rs.take S.m)).length cL) := HKT2.out.cell 0
  have f1 : w2.cell? ⟨w.heap.size, 1, none⟩ = some (.slice AT (allB (S.rs.drop S.m)).length cT) := HKT2.out.cell 1
  have f2 : w2.cell? ⟨w.heap.size, 2, none⟩ = some (.int .i64 (q : Int)) := HKT2.out.cell 2
  have f3 : w2.cell? ⟨w.heap.size, 3, none⟩ = some (.slice R vs.length c) := HKT2.out.cell 3
  have f4 : w2.cell? ⟨w.heap.size, 4, none⟩ = some (.int .i64 (S.m : Int)) := HKT2.out.cell 4
  have f5 : w2.cell? ⟨w.heap.size, 5, none⟩ = some (.slice AU us.length cU) := HKT2.out.cell 5
  have f6 : w2.cell? ⟨w.heap.size, 6, none⟩ = some (.slice AV ls.length cV) := HKT2.out.cell 6
  have f7 : w2.cell? ⟨w.heap.size, 7, none⟩ = some (.slice AC S.acks.length cC) := HKT2.out.cell 7
  have r0 := HKR2.out.cell 0
  have z0 := HKR2.out.frozen 0
  have r1 := HKR2.out.cell 1
  have z1 := HKR2.out.frozen 1
  have r2 := HKR2.out.cell 2
  have z2 := HKR2.out.frozen 2
  have r3 := HKR2.out.cell 3
  have z3 := HKR2.out.frozen 3
  have r4 := HKR2.out.cell 4
  have z4 := HKR2.out.frozen 4
  have r5 := HKR2.out.cell 5
  have z5 := HKR2.out.frozen 5
  have r6 := HKR2.out.cell 6
  have z6 := HKR2.out.frozen 6
  have r7 := HKR2.out.cell 7
  have z7 := HKR2.out.frozen 7
  clear hb2
  by_cases h0 : er = 0
  · subst h0
    have e0 : (((0 : Int) != 0)) = false := rfl
    cases hs : (x.1.s == 0)
    · by_cases h1 : who < 0
      · have b1 : decide (who < 0) = true := by simpa using h1
        clear h1
        go_wp2
        obtain ⟨W8, hW8⟩ : ∃ W, set8 w2 (w.heap.size + 1 + 1) (.slice AL (allB (S.rs.take S.m)).length cL) (.slice AT (allB (S.rs.drop S.m)).length cT) (.int .i64 (q : Int)) (.slice R vs.length c) (.int .i64 (S.m : Int)) (.slice AU us.length cU) (.slice AV ls.length cV) (.slice AC S.acks.length cC) = W := ⟨_, rfl⟩
        rw [hW8] at HF HTC
        unfold set8 at hW8
        rw [hW8]
        have g0 := HF.out.1.cell 0
        have g1 := HF.out.1.cell 1
        have g2 := HF.out.1.cell 2
        have g3 := HF.out.1.cell 3
        have g4 := HF.out.1.cell 4
        have g5 := HF.out.1.cell 5
        have g6 := HF.out.1.cell 6
        have g7 := HF.out.1.cell 7
        refine bodyPost_ret (v := .tuple #[.agg #[.slice AL (allB (S.rs.take S.m)).length cL, .slice AT (allB (S.rs.drop S.m)).length cT, .int .i64 (q : Int), .slice R vs.length c, .int .i64 (S.m : Int), .slice AU us.length cU, .slice AV ls.length cV, .slice AC S.acks.length cC], .int .i64 2]) (by simp [results, Tryz.results20, go_sem, g0, g1, g2, g3, g4, g5, g6, g7]) rfl ?_
        exact ⟨_, rfl, ⟨AL, cL, AT, cT, R, c, vs, AU, cU, us, AV, cV, ls, AC, cC, rfl, (HT2.out.step HTC.out (F' := F) (fun k hk => Or.inl (Or.inl hk)))⟩, HF.out.2.2.1 _ HBB.out (by omega)⟩
      · have b1 : decide (who < 0) = false := by simpa using h1
        have hw2 : (1048575 : Int) < who := by
          have := HM.out
          have hs2 : x.1.s ≠ 0 := by simpa using hs
          omega
        have b2 : decide ((1048575 : Int) < who) = true := by simpa using hw2
        clear h1 hw2
        go_wp2
        obtain ⟨W8, hW8⟩ : ∃ W, set8 w2 (w.heap.size + 1 + 1) (.slice AL (allB (S.rs.take S.m)).length cL) (.slice AT (allB (S.rs.drop S.m)).length cT) (.int .i64 (q : Int)) (.slice R vs.length c) (.int .i64 (S.m : Int)) (.slice AU us.length cU) (.slice AV ls.length cV) (.slice AC S.acks.length cC) = W := ⟨_, rfl⟩
        rw [hW8] at HF HTC
        unfold set8 at hW8
        rw [hW8]
        have g0 := HF.out.1.cell 0
        have g1 := HF.out.1.cell 1
        have g2 := HF.out.1.cell 2
        have g3 := HF.out.1.cell 3
        have g4 := HF.out.1.cell 4
        have g5 := HF.out.1.cell 5
        have g6 := HF.out.1.cell 6
        have g7 := HF.out.1.cell 7
        refine bodyPost_ret (v := .tuple #[.agg #[.slice AL (allB (S.rs.take S.m)).length cL, .slice AT (allB (S.rs.drop S.m)).length cT, .int .i64 (q : Int), .slice R vs.length c, .int .i64 (S.m : Int), .slice AU us.length cU, .slice AV ls.length cV, .slice AC S.acks.length cC], .int .i64 2]) (by simp [results, Tryz.results20, go_sem, g0, g1, g2, g3, g4, g5, g6, g7]) rfl ?_
        exact ⟨_, rfl, ⟨AL, cL, AT, cT, R, c, vs, AU, cU, us, AV, cV, ls, AC, cC, rfl, (HT2.out.step HTC.out (F' := F) (fun k hk => Or.inl (Or.inl hk)))⟩, HF.out.2.2.1 _ HBB.out (by omega)⟩
    · skip
      go_wp2
      obtain ⟨W8, hW8⟩ : ∃ W, set8 w2 (w.heap.size + 1 + 1) (.slice AL (allB (S.rs.take S.m)).length cL) (.slice AT (allB (S.rs.drop S.m)).length cT) (.int .i64 (q : Int)) (.slice R vs.length c) (.int .i64 (S.m : Int)) (.slice AU us.length cU) (.slice AV ls.length cV) (.slice AC S.acks.length cC) = W := ⟨_, rfl⟩
      rw [hW8] at HF HTC
      unfold set8 at hW8
      rw [hW8]
      have g0 := HF.out.1.cell 0
      have g1 := HF.out.1.cell 1
      have g2 := HF.out.1.cell 2
      have g3 := HF.out.1.cell 3
      have g4 := HF.out.1.cell 4
      have g5 := HF.out.1.cell 5
      have g6 := HF.out.1.cell 6
      have g7 := HF.out.1.cell 7
      refine bodyPost_ret (v := .tuple #[.agg #[.slice AL (allB (S.rs.take S.m)).length cL, .slice AT (allB (S.rs.drop S.m)).length cT, .int .i64 (q : Int), .slice R vs.length c, .int .i64 (S.m : Int), .slice AU us.length cU, .slice AV ls.length cV, .slice AC S.acks.length cC], .int .i64 2]) (by simp [results, Tryz.results20, go_sem, g0, g1, g2, g3, g4, g5, g6, g7]) rfl ?_
      exact ⟨_, rfl, ⟨AL, cL, AT, cT, R, c, vs, AU, cU, us, AV, cV, ls, AC, cC, rfl, (HT2.out.step HTC.out (F' := F) (fun k hk => Or.inl (Or.inl hk)))⟩, HF.out.2.2.1 _ HBB.out (by omega)⟩
  · have e0 : (er != 0) = true := by simpa using h0
    go_wp2
    obtain ⟨W8, hW8⟩ : ∃ W, set8 w2 (w.heap.size + 1 + 1) (.slice AL (allB (S.rs.take S.m)).length cL) (.slice AT (allB (S.rs.drop S.m)).length cT) (.int .i64 (q : Int)) (.slice R vs.length c) (.int .i64 (S.m : Int)) (.slice AU us.length cU) (.slice AV ls.length cV) (.slice AC S.acks.length cC) = W := ⟨_, rfl⟩
    rw [hW8] at HF HTC
    unfold set8 at hW8
    rw [hW8]
    have g0 := HF.out.1.cell 0
    have g1 := HF.out.1.cell 1
    have g2 := HF.out.1.cell 2
    have g3 := HF.out.1.cell 3
    have g4 := HF.out.1.cell 4
    have g5 := HF.out.1.cell 5
    have g6 := HF.out.1.cell 6
    have g7 := HF.out.1.cell 7
    refine bodyPost_ret (v := .tuple #[.agg #[.slice AL (allB (S.rs.take S.m)).length cL, .slice AT (allB (S.rs.drop S.m)).length cT, .int .i64 (q : Int), .slice R vs.length c, .int .i64 (S.m : Int), .slice AU us.length cU, .slice AV ls.length cV, .slice AC S.acks.length cC], .int .i64 2]) (by simp [results, Tryz.results20, go_sem, g0, g1, g2, g3, g4, g5, g6, g7]) rfl ?_
    exact ⟨_, rfl, ⟨AL, cL, AT, cT, R, c, vs, AU, cU, us, AV, cV, ls, AC, cC, rfl, (HT2.out.step HTC.out (F' := F) (fun k hk => Or.inl (Or.inl hk)))⟩, HF.out.2.2.1 _ HBB.out (by omega)⟩
end Go.Proofs.YtndbggkpobcpjaaGreat
namespace Go.Proofs.YtndbggkpobcpjaaGreat
open Go.RowKit Go.ChangeShapes Mem Be Word Frm Go.Maps
set_option maxRecDepth 100000
set_option maxHeartbeats 8000000
set_option linter.unusedVariables false
theorem refput8_old (F : Nat → Prop) (S : St8) (q : Nat) (x : EV) (who : Int) (hm : mayP x.1 who) (hold : ¬ 0 < cmpE x.1 (ofT S.N x.1.k)) (hnl : S.N.length ≤ 1073741824) (hac : S.acks.length ≤ 1466015503701) (w : World) (hF : ∀ k, F k → k < w.heap.size) (v : Value) (h : RefTV F S q w v) :
    Calls Tryz.prog 20 #[v, .agg #[.string ⟨x.1.k.toArray⟩, .int .i64 x.1.s, .int .i64 x.1.u, .int .i64 x.1.o, .bool x.1.has, .slice x.2.1 x.1.v.length x.2.2], .int .i64 who] w (RefTP F (fun v => .tuple #[v, .int .i64 0]) (pushS S (ackOf x.1 who)) q w) := by
  obtain ⟨i1, hi1, hk1, hk2, hk3⟩ := info_parts info_ack
  obtain ⟨AL, cL, AT, cT, R, c, vs, AU, cU, us, AV, cV, ls, AC, cC, rfl, h⟩ := h
  obtain ⟨W0, hW0, hb0, hkt, hke, hkr⟩ := p8_w0 w (.slice AL (allB (S.rs.take S.m)).length cL) (.slice AT (allB (S.rs.drop S.m)).length cT) (.int .i64 (q : Int)) (.slice R vs.length c) (.int .i64 (S.m : Int)) (.slice AU us.length cU) (.slice AV ls.length cV) (.slice AC S.acks.length cC) (.string ⟨x.1.k.toArray⟩) (.int .i64 x.1.s) (.int .i64 x.1.u) (.int .i64 x.1.o) (.bool x.1.has) (.slice x.2.1 x.1.v.length x.2.2)
  have h0 : RefTR W0 (AndB (AndB F w.heap.size) (w.heap.size + 1 + 1)) S AL cL AT cT R c vs AU cU us AV cV ls AC cC := h.step (Touch.ofBelow hb0) fun k hk => by
    rcases hk with (hk | hk) | hk
    · exact Or.inl hk
    · exact Or.inr (by omega)
    · exact Or.inr (by omega)
  have hF0 : ∀ k, AndB (AndB F w.heap.size) (w.heap.size + 1 + 1) k → k < W0.heap.size := fun k hk => by
    have h1 := hkr.lt
    rcases hk with (hk | hk) | hk
    · have := hF k hk; omega
    · omega
    · omega
  have hyes := rightE_yes hm.1
  have hk : (⟨x.1.k.toArray⟩ : ByteArray).size = x.1.k.length := by show x.1.k.toArray.size = _; simp
  have hrg := refright_big ⟨x.1.k.toArray⟩ x.1.s x.1.u x.1.o x.1.has x.2.1 x.1.v.length x.2.2 (by omega) (by rw [hk]; omega) W0
  rw [hk, show rightE x.1.k.length x.1.v.length x.1.s x.1.u x.1.o x.1.has = 0 from hm.1] at hrg
  unfold entV at hrg
  have hs0 : (x.1.s == 0) = false := by simpa using hm.2.1
  have b1 : decide (who < 0) = false := by have := hm.2.2.1; simp; omega
  have b2 : decide ((1048575 : Int) < who) = false := by have := hm.2.2.2; simp; omega
  have hun : us.length ≤ 1073741824 := by rw [← h.un, List.length_map] at hnl; exact hnl
  obtain ⟨E, hE⟩ : ∃ E, ofT S.N x.1.k = E := ⟨_, rfl⟩
  rw [hE] at hold
  unfold cmpE at hold
  obtain ⟨cc, hcc⟩ : ∃ cc, cmpT x.1.s x.1.u x.1.o E.s E.u E.o = cc := ⟨_, rfl⟩
  rw [hcc] at hold
  have HCC := Lib.hid hcc
  have hcb : decide ((0 : Int) < cc) = false := by simpa using hold
  have HOF : Hid (∀ W, Below W0.heap.size W0 W → Calls Tryz.prog 13 #[.slice AU us.length cU, .string ⟨x.1.k.toArray⟩] W (RefE E W)) := Lib.hid fun W hb => by
    have := refof_any us.length cU AU us x.1.k rfl hun W (h0.ue.below hb).env
    rw [h0.un, hE] at this
    exact this
  have HRG := Lib.hid hrg
  have HB0 := Lib.hid hb0
  have HKT := Lib.hid hkt
  have HKE := Lib.hid hke
  have HKR0 := Lib.hid hkr
  have HT0 := Lib.hid h0
  have HW0 := Lib.hid hW0
  have HFF := Lib.hid hF0
  have HAC := Lib.hid hac
  clear hF h hb0 hkt hke hkr h0 hW0 hrg hk hm hyes hun hE hcc hold hnl hac hF0
  go_enter Tryz.func20, Tryz.ntmps20
  go_wp2_with fail
  rw [HW0.out]
  refine HRG.out.mono ?_
  rintro e w2 ⟨rfl, hb2⟩
  have HB2 := Lib.hid hb2
  have HDR : Hid (Below W0.heap.size W0 w2.drew) := Lib.hid hb2.drew
  have HSK : Hid (∀ w' : World, Below W0.heap.size W0 w' → w'.cell? ⟨w.heap.size, 5, none⟩ = some (.slice AU us.length cU) ∧ w'.cell? ⟨w.heap.size + 1, 0, none⟩ = some (.string ⟨x.1.k.toArray⟩) ∧ w'.cell? ⟨w.heap.size + 1, 1, none⟩ = some (.int .i64 x.1.s) ∧ w'.cell? ⟨w.heap.size + 1, 2, none⟩ = some (.int .i64 x.1.u) ∧ w'.cell? ⟨w.heap.size + 1, 3, none⟩ = some (.int .i64 x.1.o)) := Lib.hid fun W' hw => by
    have ht := HKT.out.below hw HKT.out.lt
    have he := HKE.out.below hw HKE.out.lt
    exact ⟨ht.cell 5, he.cell 0, he.cell 1, he.cell 2, he.cell 3⟩
  obtain ⟨s0, s1, s2, s3, s4⟩ := HSK.out w2 hb2
  have e0 : (((0 : Int) != 0)) = false := rfl
  clear hb2
  go_wp2_with fail
  go_region_held3 (fun w' => w'.cell? ⟨w.heap.size, 5, none⟩ = some (.slice AU us.length cU) ∧ w'.cell? ⟨w.heap.size + 1, 0, none⟩ = some (.string ⟨x.1.k.toArray⟩) ∧ w'.cell? ⟨w.heap.size + 1, 1, none⟩ = some (.int .i64 x.1.s) ∧ w'.cell? ⟨w.heap.size + 1, 2, none⟩ = some (.int .i64 x.1.u) ∧ w'.cell? ⟨w.heap.size + 1, 3, none⟩ = some (.int .i64 x.1.o))
    (first | go_keep | exact HSK.out _ HWD.out | exact HSK.out _ HWC.out)
    (first
      | (go_at_call 13; refine (HOF.out _ HDR.out).mono ?_; rintro e w3 ⟨A3, c3, rfl, _, hb⟩; (have HWC : Hid (Below W0.heap.size W0 w3) := Lib.hid (HDR.out.trans (hb.mono HDR.out.size))); (have hfld := field_tag ⟨E.k.toArray⟩ E.s E.u E.o E.has A3 E.v.length c3); clear hb)
      | (go_at_call 50; refine (refcompare_val _ _ _ _ _ _ _ HCC _).mono ?_; rintro e w4 ⟨rfl, hb⟩; (have HWD : Hid (Below W0.heap.size W0 w4) := Lib.hid (HWC.out.trans (hb.mono HWC.out.size))); clear hb))
  have HT4 := Lib.hid (HT0.out.below HWD.out)
  have t7 : w4.cell? ⟨w.heap.size, 7, none⟩ = some (.slice AC S.acks.length cC) := (HKT.out.below HWD.out HKT.out.lt).cell 7
  go_wp2_with (at_builtin; refine wpList_appS (P := Tryz.prog) (by rfl) _ _ _ (by rfl) w4.heap.size 60 i1 (.agg #[.int .i64 0, .string .empty, .int .i64 0, .int .i64 0, .int .i64 0]) 5 48 Tryz.underlying34 hi1 hk1 hk2 hk3 rfl (by decide) (.slice none 0 0) 0 [] (by rfl) (World.ownsRow_nil _ _ _ _) w4.heap.size AC S.acks.length cC (acksC S.acks) (by rfl) (acksC_len _) (by exact HT4.out.ar.row) (acksC_one _) (by have := HAC.out; unfold maxLen; omega) (by have := HAC.out; omega) (Nat.le_refl _) ?_)
  intro v' w5 hown hgr _
  have HB5 : Hid (Below w4.heap.size w4 w5) := Lib.hid ((Below.refl _ _).grown hgr (Nat.le_refl _) (fun g hg => by simp [Value.ownBlock] at hg))
  obtain ⟨A5, c5, rfl, _, _⟩ := ownShape hown
  have HKE5 := Lib.hid (HKE.out.below (HWD.out.trans (HB5.out.mono HWD.out.size)) HKE.out.lt)
  have d0 : w5.cell? ⟨w.heap.size + 1, 0, none⟩ = some (.string ⟨x.1.k.toArray⟩) := HKE5.out.cell 0
  have d1 : w5.cell? ⟨w.heap.size + 1, 1, none⟩ = some (.int .i64 x.1.s) := HKE5.out.cell 1
  have d2 : w5.cell? ⟨w.heap.size + 1, 2, none⟩ = some (.int .i64 x.1.u) := HKE5.out.cell 2
  have d3 : w5.cell? ⟨w.heap.size + 1, 3, none⟩ = some (.int .i64 x.1.o) := HKE5.out.cell 3
  have hal := (Below.refl w5.heap.size w5).alloc (Nat.le_refl _) (.cells ⟨ackC (ackOf x.1 who)⟩ 60)
  have HOA : Hid ((w5.alloc (.cells ⟨ackC (ackOf x.1 who)⟩ 60)).ownsRow w4.heap.size 60 5 (.slice A5 S.acks.length c5) S.acks.length (acksC S.acks)) := Lib.hid (ownLater hown hal)
  have HRL : Hid (Row (w5.alloc (.cells ⟨ackC (ackOf x.1 who)⟩ 60)) (w5.heap.size + 1) (some ⟨w5.heap.size, 0, none⟩) (acksC [ackOf x.1 who])) := Lib.hid (ack_lit (by exact Blk.new w5 60 ⟨ackC (ackOf x.1 who)⟩) (Nat.lt_succ_self _))
  have HB5A : Hid (Below w4.heap.size w4 (w5.alloc (.cells ⟨ackC (ackOf x.1 who)⟩ 60))) := Lib.hid (HB5.out.trans (hal.mono HB5.out.size))
  clear hown hgr hal t7
  go_wp2_with (at_builtin; refine wpList_appS (P := Tryz.prog) (by rfl) _ _ _ (by rfl) w4.heap.size 60 i1 (.agg #[.int .i64 0, .string .empty, .int .i64 0, .int .i64 0, .int .i64 0]) 5 48 Tryz.underlying34 hi1 hk1 hk2 hk3 rfl (by decide) _ S.acks.length (acksC S.acks) (by rfl) (by exact HOA.out) (w5.heap.size + 1) (some ⟨w5.heap.size, 0, none⟩) 1 1 (acksC [ackOf x.1 who]) (by rfl) (by rfl) (by exact HRL.out) (acksC_one _) (by have := HAC.out; unfold maxLen; omega) (by have := HAC.out; omega) (by exact HB5A.out.size) ?_)
  intro v' w6 hown hgr _
  have HB6 : Hid (Below w4.heap.size w4 w6) := Lib.hid (HB5A.out.grown hgr HB5A.out.size fun g hg => (HOA.out.lt g hg).1)
  rw [show acksC S.acks ++ ackC (ackOf x.1 who) = acksC (S.acks ++ [ackOf x.1 who]) by rw [acksC_app]; simp [acksC]] at hown
  obtain ⟨A6, c6, rfl, hc6, _⟩ := ownShape hown
  have HO6 := Lib.hid hown
  have HC6 : Hid (S.acks.length + 1 ≤ c6) := Lib.hid hc6
  have hb06 : Below W0.heap.size W0 w6 := HWD.out.trans (HB6.out.mono HWD.out.size)
  have HB06 := Lib.hid hb06
  have HKT6 := Lib.hid (HKT.out.below hb06 HKT.out.lt)
  have HKR6 := Lib.hid (HKR0.out.below hb06 HKR0.out.lt)
  have HZ1 : w.heap.size < w6.heap.size := HKT6.out.lt
  have HZ3 : w.heap.size + 1 + 1 < w6.heap.size := HKR6.out.lt
  have zt7 := HKT6.out.frozen 7
  have f0 : w6.cell? ⟨w.heap.size, 0, none⟩ = some (.slice AL (allB (S.rs.take S.m)).length cL) := HKT6.out.cell 0
  have f1 : w6.cell? ⟨w.heap.size, 1, none⟩ = some (.slice AT (allB (S.rs.drop S.m)).length cT) := HKT6.out.cell 1
  have f2 : w6.cell? ⟨w.heap.size, 2, none⟩ = some (.int .i64 (q : Int)) := HKT6.out.cell 2
  have f3 : w6.cell? ⟨w.heap.size, 3, none⟩ = some (.slice R vs.length c) := HKT6.out.cell 3
  have f4 : w6.cell? ⟨w.heap.size, 4, none⟩ = some (.int .i64 (S.m : Int)) := HKT6.out.cell 4
  have f5 : w6.cell? ⟨w.heap.size, 5, none⟩ = some (.slice AU us.length cU) := HKT6.out.cell 5
  have f6 : w6.cell? ⟨w.heap.size, 6, none⟩ = some (.slice AV ls.length cV) := HKT6.out.cell 6
  have f7 : w6.cell? ⟨w.heap.size, 7, none⟩ = some (.slice AC S.acks.length cC) := HKT6.out.cell 7
  have r0 := HKR6.out.cell 0
  have z0 := HKR6.out.frozen 0
  have r1 := HKR6.out.cell 1
  have z1 := HKR6.out.frozen 1
  have r2 := HKR6.out.cell 2
  have z2 := HKR6.out.frozen 2
  have r3 := HKR6.out.cell 3
  have z3 := HKR6.out.frozen 3
  have r4 := HKR6.out.cell 4
  have z4 := HKR6.out.frozen 4
  have r5 := HKR6.out.cell 5
  have z5 := HKR6.out.frozen 5
  have r6 := HKR6.out.cell 6
  have z6 := HKR6.out.frozen 6
  have r7 := HKR6.out.cell 7
  have z7 := HKR6.out.frozen 7
  have HF := Lib.hid (set8_fin (HKR6.out.far (p := ⟨w.heap.size, 7, none⟩) (by simp; omega) (.slice A6 (S.acks.length + 1) c6)) (.slice AL (allB (S.rs.take S.m)).length cL) (.slice AT (allB (S.rs.drop S.m)).length cT) (.int .i64 (q : Int)) (.slice R vs.length c) (.int .i64 (S.m : Int)) (.slice AU us.length cU) (.slice AV ls.length cV) (.slice A6 (S.acks.length + 1) c6))
  have HTC : Hid (Touch (AndB (AndB F w.heap.size) (w.heap.size + 1 + 1)) w6 (set8 (w6.setCell ⟨w.heap.size, 7, none⟩ (.slice A6 (S.acks.length + 1) c6)) (w.heap.size + 1 + 1) (.slice AL (allB (S.rs.take S.m)).length cL) (.slice AT (allB (S.rs.drop S.m)).length cT) (.int .i64 (q : Int)) (.slice R vs.length c) (.int .i64 (S.m : Int)) (.slice AU us.length cU) (.slice AV ls.length cV) (.slice A6 (S.acks.length + 1) c6))) := Lib.hid (((Touch.refl _ w6).set_ (p := ⟨w.heap.size, 7, none⟩) (Or.inl (Or.inl (Or.inr rfl))) _).trans (set8_touch (F := AndB F w.heap.size) _ _ _ _ _ _ _ _) fun k hk => Or.inl hk)
  clear hown hgr hb06 d0 d1 d2 d3 hc6
  go_wp2
  obtain ⟨W8, hW8⟩ : ∃ W, set8 (w6.setCell ⟨w.heap.size, 7, none⟩ (.slice A6 (S.acks.length + 1) c6)) (w.heap.size + 1 + 1) (.slice AL (allB (S.rs.take S.m)).length cL) (.slice AT (allB (S.rs.drop S.m)).length cT) (.int .i64 (q : Int)) (.slice R vs.length c) (.int .i64 (S.m : Int)) (.slice AU us.length cU) (.slice AV ls.length cV) (.slice A6 (S.acks.length + 1) c6) = W := ⟨_, rfl⟩
  rw [hW8] at HF HTC
  unfold set8 at hW8
  rw [hW8]
  have g0 := HF.out.1.cell 0
  have g1 := HF.out.1.cell 1
  have g2 := HF.out.1.cell 2
  have g3 := HF.out.1.cell 3
  have g4 := HF.out.1.cell 4
  have g5 := HF.out.1.cell 5
  have g6 := HF.out.1.cell 6
  have g7 := HF.out.1.cell 7
  refine bodyPost_ret (v := .tuple #[.agg #[.slice AL (allB (S.rs.take S.m)).length cL, .slice AT (allB (S.rs.drop S.m)).length cT, .int .i64 (q : Int), .slice R vs.length c, .int .i64 (S.m : Int), .slice AU us.length cU, .slice AV ls.length cV, .slice A6 (S.acks.length + 1) c6], .int .i64 0]) (by simp [results, Tryz.results20, go_sem, g0, g1, g2, g3, g4, g5, g6, g7]) rfl ?_
  have h9 := (HT0.out.below HB06.out).step HTC.out (F' := F) (fun k hk => Or.inl (Or.inl (Or.inl hk)))
  have ha9 := (rowN_own (F := AndB (AndB F w.heap.size) (w.heap.size + 1 + 1)) (fun k hk => Nat.lt_of_lt_of_le (HFF.out k hk) HWD.out.size) HO6.out).grow (F' := F) (fun k hk => Or.inl (Or.inl (Or.inl hk))) HTC.out
  refine ⟨_, rfl, ⟨AL, cL, AT, cT, R, c, vs, AU, cU, us, AV, cV, ls, A6, c6, ?_, ⟨h9.rs, h9.log, h9.un, h9.uc, h9.ue, h9.ln, h9.lc, h9.le, ha9, ?_⟩⟩, HF.out.2.2.1 _ ((HB0.out.trans (HB06.out.mono HB0.out.size)).setCell (p := ⟨w.heap.size, 7, none⟩) (Nat.le_refl _) _) (by omega)⟩
  · simp [pushS]
  · simp [pushS]; exact HC6.out
end Go.Proofs.YtndbggkpobcpjaaGreat
