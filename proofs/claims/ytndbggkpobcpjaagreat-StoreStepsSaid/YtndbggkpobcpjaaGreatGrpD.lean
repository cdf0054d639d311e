/- The reference's log: what is done to it. -/
/- The reference's log: Sync, Crash. Written by tools/gen_reflog7.py. -/
/- The reference's log: Snapshot. Written by tools/gen_reflog7s.py. -/
/- A snapshot that is too long, told by the reference: the log as it was. -/
/- The reference's records of one kind. -/
/- The reference's log: Append. Written by tools/gen_reflog7a.py. -/
/- An append that the disk has no room for, told by the reference: the log as it was (written by tools/gen_refapl.py). -/
import Derived.Test.YtndbggkpobcpjaaGreatRef7
import Derived.Test.YtndbggkpobcpjaaGreatRefOne5
import Derived.Test.YtndbggkpobcpjaaGreatGrpC
import Derived.Test.YtndbggkpobcpjaaGreatGrpH
namespace Go.Proofs.YtndbggkpobcpjaaGreat
open Go.RowKit Mem Be Word Frm
set_option maxRecDepth 100000
set_option maxHeartbeats 4000000
set_option linter.unusedVariables false
def AndB (F : Nat → Prop) (b : Nat) (k : Nat) : Prop := F k ∨ k = b
/-- The rows of a log of the reference lie outside of some blocks. -/
structure RefL (w : World) (F : Nat → Prop) (AL : Option Addr) (cL : Nat) (AT : Option Addr) (cT : Nat) (R : Option Addr) (c : Nat) (L T : List UInt8) (vs : List RecV) : Prop where
  hl : L.length ≤ cL
  ht : T.length ≤ cT
  hc : vs.length ≤ c
  rl : RowN F w AL (L.map byteV)
  rt : RowN F w AT (T.map byteV)
  rr : RowN F w R (recsC vs)
  rb : ∀ v ∈ vs, RowN F w v.2.1 (v.2.2.1.map byteV)
section
variable {w w1 : World} {F F' : Nat → Prop} {AL AT R : Option Addr} {cL cT c : Nat} {L T : List UInt8} {vs : List RecV}
theorem RefL.step (h : RefL w F AL cL AT cT R c L T vs) (ht : Touch F w w1) (hf : ∀ k, F' k → F k ∨ w.heap.size ≤ k) : RefL w1 F' AL cL AT cT R c L T vs :=
  ⟨h.hl, h.ht, h.hc, h.rl.step ht hf, h.rt.step ht hf, h.rr.step ht hf, fun v hv => (h.rb v hv).step ht hf⟩
theorem RefL.below (h : RefL w F AL cL AT cT R c L T vs) (hb : Below w.heap.size w w1) : RefL w1 F AL cL AT cT R c L T vs := h.step (Touch.ofBelow hb) fun k hk => Or.inl hk
theorem RefL.wide (h : RefL w F AL cL AT cT R c L T vs) (hb : Below w.heap.size w w1) {b : Nat} (hb2 : w.heap.size ≤ b) : RefL w1 (AndB F b) AL cL AT cT R c L T vs := h.step (Touch.ofBelow hb) fun k hk => by
  rcases hk with h1 | h1
  · exact Or.inl h1
  · exact Or.inr (by omega)
end
theorem ref_touch {w : World} {F : Nat → Prop} {b : Nat} {u0 u1 u2 u3 u4 : Value} : Touch (AndB F b) w (((((w.setCell ⟨b, 0, none⟩ u0).setCell ⟨b, 1, none⟩ u1).setCell ⟨b, 2, none⟩ u2).setCell ⟨b, 3, none⟩ u3).setCell ⟨b, 4, none⟩ u4) :=
  (((((Touch.refl (AndB F b) w).set_ (p := ⟨b, 0, none⟩) (Or.inl (Or.inr rfl)) _).set_ (p := ⟨b, 1, none⟩) (Or.inl (Or.inr rfl)) _).set_ (p := ⟨b, 2, none⟩) (Or.inl (Or.inr rfl)) _).set_ (p := ⟨b, 3, none⟩) (Or.inl (Or.inr rfl)) _).set_ (p := ⟨b, 4, none⟩) (Or.inl (Or.inr rfl)) _
theorem ref_w1 (w : World) (x0 x1 x2 x3 x4 : Value) :
    Below w.heap.size w ((w.alloc (.cells #[x0, x1, x2, x3, x4] 32)).alloc (.cells #[.slice none 0 0, .slice none 0 0, .int .i64 0, .slice none 0 0, .int .i64 0] 32)) ∧
    Blk ((w.alloc (.cells #[x0, x1, x2, x3, x4] 32)).alloc (.cells #[.slice none 0 0, .slice none 0 0, .int .i64 0, .slice none 0 0, .int .i64 0] 32)) w.heap.size 32 #[x0, x1, x2, x3, x4] ∧
    Blk ((w.alloc (.cells #[x0, x1, x2, x3, x4] 32)).alloc (.cells #[.slice none 0 0, .slice none 0 0, .int .i64 0, .slice none 0 0, .int .i64 0] 32)) (w.heap.size + 1) 32 #[.slice none 0 0, .slice none 0 0, .int .i64 0, .slice none 0 0, .int .i64 0] := by
  refine ⟨((Below.refl _ _).alloc (Nat.le_refl _) _).alloc (by simp) _, (Blk.new w _ _).alloc _, ?_⟩
  have := Blk.new (w.alloc (.cells #[x0, x1, x2, x3, x4] 32)) 32 #[.slice none 0 0, .slice none 0 0, .int .i64 0, .slice none 0 0, .int .i64 0]
  simp at this
  exact this
/-- What the reference leaves: a log, told in some way. -/
def RefP (F : Nat → Prop) (f : Value → Value) (L T : List UInt8) (q m : Nat) (rs : List Rc) (w : World) (e : Ending) (w' : World) : Prop :=
  ∃ AL cL AT cT R c vs, vs.map rcOf = rs ∧ e = .returned (f (.agg #[.slice AL L.length cL, .slice AT T.length cT, .int .i64 (q : Int), .slice R vs.length c, .int .i64 (m : Int)])) ∧ RefL w' F AL cL AT cT R c L T vs ∧ Below w.heap.size w w'
end Go.Proofs.YtndbggkpobcpjaaGreat
namespace Go.Proofs.YtndbggkpobcpjaaGreat
open Go.RowKit Mem Be Word Frm
set_option maxRecDepth 100000
set_option maxHeartbeats 8000000
set_option linter.unusedVariables false
theorem refsync_any (F : Nat → Prop) (AL AT R : Option Addr) (cL cT c m q : Nat) (L T : List UInt8) (vs : List RecV) (hmx : L.length + T.length ≤ 4194304) (hvm : vs.length ≤ 1000000) (hq : q ≤ 4611686018427387904) (w : World) (hF : ∀ k, F k → k < w.heap.size) (h : RefL w F AL cL AT cT R c L T vs) :
    Calls Tryz.prog 54 #[.agg #[.slice AL L.length cL, .slice AT T.length cT, .int .i64 (q : Int), .slice R vs.length c, .int .i64 (m : Int)]] w (RefP F id (L ++ T) [] (upN T q) vs.length (vs.map rcOf) w) := by
  obtain ⟨hb1, hk0, hk1⟩ := ref_w1 w (.slice AL L.length cL) (.slice AT T.length cT) (.int .i64 (q : Int)) (.slice R vs.length c) (.int .i64 (m : Int))
  obtain ⟨W1, hW1⟩ : ∃ W, (w.alloc (.cells #[.slice AL L.length cL, .slice AT T.length cT, .int .i64 (q : Int), .slice R vs.length c, .int .i64 (m : Int)] 32)).alloc (.cells #[.slice none 0 0, .slice none 0 0, .int .i64 0, .slice none 0 0, .int .i64 0] 32) = W := ⟨_, rfl⟩
  rw [hW1] at hb1 hk0 hk1
  have hl1 := h.wide hb1 (b := w.heap.size + 1) (by omega)
  have hF1 : ∀ k, AndB F (w.heap.size + 1) k → k < W1.heap.size := fun k hk => by
    rcases hk with h1 | h1
    · exact Nat.lt_of_lt_of_le (hF k h1) hb1.size
    · rw [h1]; exact hk1.lt
  have hst := step6_any (AndB F (w.heap.size + 1)) L T [] q 2 0 AL AT none L.length T.length 0 cL cT 0 rfl rfl rfl hl1.hl hl1.ht (by omega) hmx hq W1 hF1 hl1.rl hl1.rt (Or.inl rfl)
  rw [show doS L T q 2 [] 0 = (L ++ T, [], upN T q, 0) from rfl] at hst
  obtain ⟨X, hX⟩ : ∃ X, L ++ T = X := ⟨_, rfl⟩
  obtain ⟨nq, hnq⟩ : ∃ n, upN T q = n := ⟨_, rfl⟩
  rw [hX, hnq] at hst ⊢
  have HST := Lib.hid hst
  have HB1 := Lib.hid hb1
  have HK0 := Lib.hid hk0
  have HK1 := Lib.hid hk1
  have HL1 := Lib.hid hl1
  have HF1 := Lib.hid hF1
  have HW1 := Lib.hid hW1
  have f0 := hk0.cell 0
  have f1 := hk0.cell 1
  have f2 := hk0.cell 2
  have f3 := hk0.cell 3
  have f4 := hk0.cell 4
  have hvi : (vs.length : Int) ≤ 1000000 := by omega
  clear hmx hvm hq hF h hb1 hk0 hk1 hW1 hl1 hF1 hst hX hnq
  go_enter Tryz.func54, Tryz.ntmps54
  go_wp2_with fail
  rw [HW1.out]
  refine HST.out.mono ?_
  rintro e w2 ⟨A1, c1, A2, c2, rfl, h1, h2, hr1, hr2, hb2⟩
  simp only at h1 h2 hr1 hr2 ⊢
  have HB2 : Hid (Below w.heap.size w w2) := Lib.hid (HB1.out.trans (hb2.mono HB1.out.size))
  have hal : Below w2.heap.size w2 (w2.alloc (.cells #[.slice A1 X.length c1, .slice A2 0 c2, .int .i64 (nq : Int)] 29)) := (Below.refl _ _).alloc (Nat.le_refl _) _
  have HBT : Hid (Below w.heap.size w (w2.alloc (.cells #[.slice A1 X.length c1, .slice A2 0 c2, .int .i64 (nq : Int)] 29))) := Lib.hid (HB2.out.trans (hal.mono HB2.out.size))
  have HK3 := Lib.hid ((HK1.out.below hb2 HK1.out.lt).alloc (.cells #[.slice A1 X.length c1, .slice A2 0 c2, .int .i64 (nq : Int)] 29))
  have HKA := Lib.hid ((HK0.out.below hb2 HK0.out.lt).alloc (.cells #[.slice A1 X.length c1, .slice A2 0 c2, .int .i64 (nq : Int)] 29))
  have HL3 : Hid (RefL (w2.alloc (.cells #[.slice A1 X.length c1, .slice A2 0 c2, .int .i64 (nq : Int)] 29)) (AndB F (w.heap.size + 1)) A1 c1 A2 c2 R c X [] vs) :=
    Lib.hid (RefL.below (⟨h1, h2, HL1.out.hc, hr1, hr2, (HL1.out.below hb2).rr, (HL1.out.below hb2).rb⟩ : RefL w2 (AndB F (w.heap.size + 1)) A1 c1 A2 c2 R c X [] vs) hal)
  have b3 := HKA.out.cell 3
  clear f0 f1 f2 f3 f4 h1 h2 hr1 hr2 hb2 hal
  have HF := Lib.hid (refopen_fin (b := w.heap.size + 1) (u0 := .slice A1 X.length c1) (u1 := .slice A2 0 c2) (u2 := .int .i64 (nq : Int)) (u3 := .slice R vs.length c) (u4 := .int .i64 (vs.length : Int)) HK3.out)
  have HLF := Lib.hid (HL3.out.step (ref_touch (F := F) (b := w.heap.size + 1) (u0 := .slice A1 X.length c1) (u1 := .slice A2 0 c2) (u2 := .int .i64 (nq : Int)) (u3 := .slice R vs.length c) (u4 := .int .i64 (vs.length : Int))) (F' := F) (fun k hk => Or.inl (Or.inl hk)))
  obtain ⟨Z0, hZ0⟩ : ∃ z, w.heap.size + 1 = z := ⟨_, rfl⟩
  have r0 := HK3.out.cell 0
  have r1 := HK3.out.cell 1
  have r2 := HK3.out.cell 2
  have r3 := HK3.out.cell 3
  have r4 := HK3.out.cell 4
  have z0 := HK3.out.frozen 0
  have z1 := HK3.out.frozen 1
  have z2 := HK3.out.frozen 2
  have z3 := HK3.out.frozen 3
  have z4 := HK3.out.frozen 4
  clear hZ0
  go_wp2
  obtain ⟨W5, hW5⟩ : ∃ W, ((((((w2.alloc (.cells #[.slice A1 X.length c1, .slice A2 0 c2, .int .i64 (nq : Int)] 29)).setCell ⟨w.heap.size + 1, 0, none⟩ (.slice A1 X.length c1)).setCell ⟨w.heap.size + 1, 1, none⟩ (.slice A2 0 c2)).setCell ⟨w.heap.size + 1, 2, none⟩ (.int .i64 (nq : Int))).setCell ⟨w.heap.size + 1, 3, none⟩ (.slice R vs.length c)).setCell ⟨w.heap.size + 1, 4, none⟩ (.int .i64 (vs.length : Int))) = W := ⟨_, rfl⟩
  rw [hW5] at HF HLF
  rw [hW5]
  have g0 := HF.out.1.cell 0
  have g1 := HF.out.1.cell 1
  have g2 := HF.out.1.cell 2
  have g3 := HF.out.1.cell 3
  have g4 := HF.out.1.cell 4
  refine bodyPost_ret (v := .agg #[.slice A1 X.length c1, .slice A2 0 c2, .int .i64 (nq : Int), .slice R vs.length c, .int .i64 (vs.length : Int)]) (by simp [results, Tryz.results54, go_sem, g0, g1, g2, g3, g4]) rfl ?_
  exact ⟨A1, c1, A2, c2, R, c, vs, rfl, rfl, HLF.out, HF.out.2.2 _ HBT.out (by omega)⟩
theorem refcrash_any (F : Nat → Prop) (AL AT R : Option Addr) (cL cT c m q : Nat) (L T : List UInt8) (vs : List RecV) (hmx : L.length + T.length ≤ 4194304) (hvm : vs.length ≤ 1000000) (hq : q ≤ 4611686018427387904) (kp : Nat) (hkp : kp ≤ 9223372036854775807) (w : World) (hF : ∀ k, F k → k < w.heap.size) (h : RefL w F AL cL AT cT R c L T vs) (X : List UInt8) (hX : L ++ T.take kp = X) :
    Calls Tryz.prog 57 #[.agg #[.slice AL L.length cL, .slice AT T.length cT, .int .i64 (q : Int), .slice R vs.length c, .int .i64 (m : Int)], .int .i64 (kp : Int)] w (RefP F (fun v => .tuple #[v, .int .i64 0]) (X.take (scanS X).2.1) [] q (scanS X).1.length (scanS X).1 w) := by
  obtain ⟨s, hs⟩ : ∃ s, (scanS X).2.1 = s := ⟨_, rfl⟩
  obtain ⟨rs, hrs⟩ : ∃ rs, (scanS X).1 = rs := ⟨_, rfl⟩
  rw [hs, hrs]
  have hat := scan_at X
  rw [hs] at hat
  have HSS := Lib.hid (And.intro hs hrs)
  have HSL : Hid ((X.take s).length = s) := Lib.hid (by rw [List.length_take]; omega)
  clear hs hrs hat
  have hXl : X.length ≤ 4194304 := by rw [← hX, List.length_append, List.length_take]; omega
  obtain ⟨hb1, hk0, hk1⟩ := ref_w1 w (.slice AL L.length cL) (.slice AT T.length cT) (.int .i64 (q : Int)) (.slice R vs.length c) (.int .i64 (m : Int))
  obtain ⟨W1, hW1⟩ : ∃ W, (w.alloc (.cells #[.slice AL L.length cL, .slice AT T.length cT, .int .i64 (q : Int), .slice R vs.length c, .int .i64 (m : Int)] 32)).alloc (.cells #[.slice none 0 0, .slice none 0 0, .int .i64 0, .slice none 0 0, .int .i64 0] 32) = W := ⟨_, rfl⟩
  rw [hW1] at hb1 hk0 hk1
  have hl1 := h.wide hb1 (b := w.heap.size + 1) (by omega)
  have hF1 : ∀ k, AndB F (w.heap.size + 1) k → k < W1.heap.size := fun k hk => by
    rcases hk with h1 | h1
    · exact Nat.lt_of_lt_of_le (hF k h1) hb1.size
    · rw [h1]; exact hk1.lt
  have hst := step6_any (AndB F (w.heap.size + 1)) L T [] q 4 (kp : Int) AL AT none L.length T.length 0 cL cT 0 rfl rfl rfl hl1.hl hl1.ht (by omega) hmx hq W1 hF1 hl1.rl hl1.rt (Or.inl rfl)
  rw [show doS L T q 4 [] (kp : Int) = (L ++ T.take kp, [], q, 0) by unfold doS; rw [if_neg (by decide), if_neg (by decide), if_neg (by decide), if_neg (by omega)]; simp] at hst
  rw [hX] at hst
  have HST := Lib.hid hst
  have HB1 := Lib.hid hb1
  have HK0 := Lib.hid hk0
  have HK1 := Lib.hid hk1
  have HL1 := Lib.hid hl1
  have HF1 := Lib.hid hF1
  have HW1 := Lib.hid hW1
  have f0 := hk0.cell 0
  have f1 := hk0.cell 1
  have f2 := hk0.cell 2
  have f3 := hk0.cell 3
  have f4 := hk0.cell 4
  have hvi : (vs.length : Int) ≤ 1000000 := by omega
  clear hmx hvm hq hF h hb1 hk0 hk1 hW1 hl1 hF1 hst hX hkp
  go_enter Tryz.func57, Tryz.ntmps57
  go_wp2_with fail
  rw [HW1.out]
  refine HST.out.mono ?_
  rintro e w2 ⟨A1, c1, A2, c2, rfl, h1, h2, hr1, hr2, hb2⟩
  simp only at h1 h2 hr1 hr2 ⊢
  have HB2 : Hid (Below w.heap.size w w2) := Lib.hid (HB1.out.trans (hb2.mono HB1.out.size))
  have hal : Below w2.heap.size w2 (w2.alloc (.cells #[.slice A1 X.length c1, .slice A2 0 c2, .int .i64 (q : Int)] 29)) := (Below.refl _ _).alloc (Nat.le_refl _) _
  have HBT : Hid (Below w.heap.size w (w2.alloc (.cells #[.slice A1 X.length c1, .slice A2 0 c2, .int .i64 (q : Int)] 29))) := Lib.hid (HB2.out.trans (hal.mono HB2.out.size))
  have HK3 := Lib.hid ((HK1.out.below hb2 HK1.out.lt).alloc (.cells #[.slice A1 X.length c1, .slice A2 0 c2, .int .i64 (q : Int)] 29))
  have HKA := Lib.hid ((HK0.out.below hb2 HK0.out.lt).alloc (.cells #[.slice A1 X.length c1, .slice A2 0 c2, .int .i64 (q : Int)] 29))
  have HN2 := Lib.hid (Blk.new w2 29 #[.slice A1 X.length c1, .slice A2 0 c2, .int .i64 (q : Int)])
  have HR2 := Lib.hid (hr1.below hal)
  have HC1 := Lib.hid h1
  obtain ⟨W3, hW3⟩ : ∃ W, w2.alloc (.cells #[.slice A1 X.length c1, .slice A2 0 c2, .int .i64 (q : Int)] 29) = W := ⟨_, rfl⟩
  obtain ⟨b6, hb6⟩ : ∃ b, w2.heap.size = b := ⟨_, rfl⟩
  rw [hW3] at HBT HK3 HKA HN2 HR2
  rw [hb6] at HN2
  have hs2 := HB2.out.size
  have HS1 : Hid (W1.heap.size ≤ b6) := Lib.hid (by have := hb2.size; omega)
  have HSB : Hid (w.heap.size + 1 < b6) := Lib.hid (by have := HK1.out.lt; have := hb2.size; omega)
  have HRO := Lib.hid (refopen_any X.length c1 A1 X rfl HC1.out hXl W3 HR2.out.row)
  have HW3 := Lib.hid hW3
  have HB6 := Lib.hid hb6
  clear f0 f1 f2 f3 f4 h1 h2 hr1 hr2 hb2 hal hW3 hb6 hs2 HB2
  go_wp2_with fail
  rw [HW3.out]
  rw [HB6.out]
  refine HRO.out.mono ?_
  rintro e w4 ⟨AL4, cL4, us, R4, c4, hus, rfl, hoL, hoR, hrR, hb4⟩
  rw [HSS.out.1] at hoL ⊢
  have hF3 : ∀ k, AndB F (w.heap.size + 1) k → k < W3.heap.size := fun k hk => by
    have h1 := HK3.out.lt
    rcases hk with h2 | h2
    · have := HF1.out k (Or.inl h2); have := HN2.out.lt; have := HSB.out; have := HS1.out; omega
    · rw [h2]; exact h1
  have hcl := (own_cap hoL).1
  have hcr : us.length ≤ c4 := by
    obtain ⟨A', c', he, h2, _⟩ := ownShape hoR
    injection he with _ _ he
    omega
  have HUS := Lib.hid (show us.map rcOf = rs by rw [hus]; exact HSS.out.2)
  have HUL : Hid (rs.length = us.length) := Lib.hid (by rw [← HUS.out, List.length_map])
  have hl4 : RefL w4 (AndB F (w.heap.size + 1)) AL4 cL4 none 0 R4 c4 (X.take s) [] us := ⟨by rw [HSL.out]; exact hcl, Nat.le_refl _, hcr, rowN_own hF3 hoL, Or.inl rfl, rowN_own hF3 hoR, fun v hv => rowN_own hF3 (hrR v hv)⟩
  have c6 : ∀ o, (w4.alloc o).cell? ⟨b6, 2, none⟩ = some (.int .i64 (q : Int)) := fun o => cell_al o ((HN2.out.below hb4 HN2.out.lt).cell 2)
  have hal : Below w4.heap.size w4 (w4.alloc (.cells #[.slice AL4 s cL4, .slice none 0 0, .int .i64 (q : Int), .slice R4 us.length c4, .int .i64 (us.length : Int)] 32)) := (Below.refl _ _).alloc (Nat.le_refl _) _
  have HL3 := Lib.hid (hl4.below hal)
  have HB4 := Lib.hid (HBT.out.trans ((hb4.trans (hal.mono hb4.size)).mono HBT.out.size))
  have HK4 := Lib.hid ((HK3.out.below hb4 HK3.out.lt).alloc (.cells #[.slice AL4 s cL4, .slice none 0 0, .int .i64 (q : Int), .slice R4 us.length c4, .int .i64 (us.length : Int)] 32))
  clear hcl hcr hus hoL hoR hrR hb4 hal hl4 HRO HK3 HF1 hF3
  have HK3 := HK4
  have HF := Lib.hid (refopen_fin (b := w.heap.size + 1) (u0 := .slice AL4 s cL4) (u1 := .slice none 0 0) (u2 := .int .i64 (q : Int)) (u3 := .slice R4 us.length c4) (u4 := .int .i64 (us.length : Int)) HK3.out)
  have HLF := Lib.hid (HL3.out.step (ref_touch (F := F) (b := w.heap.size + 1) (u0 := .slice AL4 s cL4) (u1 := .slice none 0 0) (u2 := .int .i64 (q : Int)) (u3 := .slice R4 us.length c4) (u4 := .int .i64 (us.length : Int))) (F' := F) (fun k hk => Or.inl (Or.inl hk)))
  obtain ⟨Z0, hZ0⟩ : ∃ z, w.heap.size + 1 = z := ⟨_, rfl⟩
  have r0 := HK3.out.cell 0
  have r1 := HK3.out.cell 1
  have r2 := HK3.out.cell 2
  have r3 := HK3.out.cell 3
  have r4 := HK3.out.cell 4
  have z0 := HK3.out.frozen 0
  have z1 := HK3.out.frozen 1
  have z2 := HK3.out.frozen 2
  have z3 := HK3.out.frozen 3
  have z4 := HK3.out.frozen 4
  clear hZ0
  go_wp2
  obtain ⟨W5, hW5⟩ : ∃ W, ((((((w4.alloc (.cells #[.slice AL4 s cL4, .slice none 0 0, .int .i64 (q : Int), .slice R4 us.length c4, .int .i64 (us.length : Int)] 32)).setCell ⟨w.heap.size + 1, 0, none⟩ (.slice AL4 s cL4)).setCell ⟨w.heap.size + 1, 1, none⟩ (.slice none 0 0)).setCell ⟨w.heap.size + 1, 2, none⟩ (.int .i64 (q : Int))).setCell ⟨w.heap.size + 1, 3, none⟩ (.slice R4 us.length c4)).setCell ⟨w.heap.size + 1, 4, none⟩ (.int .i64 (us.length : Int))) = W := ⟨_, rfl⟩
  rw [hW5] at HF HLF
  rw [hW5]
  have g0 := HF.out.1.cell 0
  have g1 := HF.out.1.cell 1
  have g2 := HF.out.1.cell 2
  have g3 := HF.out.1.cell 3
  have g4 := HF.out.1.cell 4
  refine bodyPost_ret (v := .tuple #[.agg #[.slice AL4 s cL4, .slice none 0 0, .int .i64 (q : Int), .slice R4 us.length c4, .int .i64 (us.length : Int)], .int .i64 0]) (by simp [results, Tryz.results57, go_sem, g0, g1, g2, g3, g4]) rfl ?_
  exact ⟨AL4, cL4, none, 0, R4, c4, us, HUS.out, by rw [HSL.out, HUL.out]; rfl, HLF.out, HF.out.2.2 _ HB4.out (by omega)⟩
end Go.Proofs.YtndbggkpobcpjaaGreat
namespace Go.Proofs.YtndbggkpobcpjaaGreat
open Go.RowKit Mem Be Word Frm
set_option maxRecDepth 100000
set_option maxHeartbeats 8000000
set_option linter.unusedVariables false
theorem refsnap_any (F : Nat → Prop) (AL AT R : Option Addr) (cL cT c m q : Nat) (L T : List UInt8) (vs : List RecV) (hmx : L.length + T.length ≤ 4194304) (hvm : vs.length ≤ 1000000) (hq : q ≤ 4611686018427387904) (B : Option Addr) (bs : List UInt8) (cB : Nat) (hbs : bs.length ≤ 65536) (w : World) (hF : ∀ k, F k → k < w.heap.size) (h : RefL w F AL cL AT cT R c L T vs) (hB : RowN F w B (bs.map byteV)) :
    Calls Tryz.prog 56 #[.agg #[.slice AL L.length cL, .slice AT T.length cT, .int .i64 (q : Int), .slice R vs.length c, .int .i64 (m : Int)], .slice B bs.length cB] w (RefP F (fun v => .tuple #[v, .int .i64 0]) (frB (0, bs)) [] q 1 [(0, bs)] w) := by
  obtain ⟨Y, hY⟩ : ∃ Y, frB (0, bs) = Y := ⟨_, rfl⟩
  have hYl : Y.length ≤ 65546 := by rw [← hY, fr_len]; simp only; omega
  obtain ⟨hb1, hk0, hk1⟩ := ref_w1 w (.slice AL L.length cL) (.slice AT T.length cT) (.int .i64 (q : Int)) (.slice R vs.length c) (.int .i64 (m : Int))
  obtain ⟨W1, hW1⟩ : ∃ W, (w.alloc (.cells #[.slice AL L.length cL, .slice AT T.length cT, .int .i64 (q : Int), .slice R vs.length c, .int .i64 (m : Int)] 32)).alloc (.cells #[.slice none 0 0, .slice none 0 0, .int .i64 0, .slice none 0 0, .int .i64 0] 32) = W := ⟨_, rfl⟩
  rw [hW1] at hb1 hk0 hk1
  have hl1 := h.wide hb1 (b := w.heap.size + 1) (by omega)
  have hF1 : ∀ k, AndB F (w.heap.size + 1) k → k < W1.heap.size := fun k hk => by
    rcases hk with h1 | h1
    · exact Nat.lt_of_lt_of_le (hF k h1) hb1.size
    · rw [h1]; exact hk1.lt
  have hB1 : RowN (AndB F (w.heap.size + 1)) W1 B (bs.map byteV) := hB.step (Touch.ofBelow hb1) fun k hk => by
    rcases hk with h1 | h1
    · exact Or.inl h1
    · exact Or.inr (by omega)
  have hone := refone_any 0 W1.heap.size cB bs.length B bs rfl W1 hB1.row (Nat.le_refl _)
  rw [show oneS (0, bs) = (frB (0, bs), 0) from if_neg (by simp only; omega), hY, show (((0 : UInt8).toNat : Nat) : Int) = 0 from rfl] at hone
  rw [hY]
  have HONE := Lib.hid hone
  have HST : Hid (∀ W A c', Below W1.heap.size W1 W → RowN (AndB F (w.heap.size + 1)) W A (Y.map byteV) → Calls Tryz.prog 79 #[.agg #[.slice AL L.length cL, .slice AT T.length cT, .int .i64 (q : Int)], .agg #[.int .i64 3, .slice A Y.length c', .int .i64 0]] W (StepP (AndB F (w.heap.size + 1)) (Y, [], q, 0) W)) := Lib.hid fun W A c' hb hr => by
    have hst := step6_any (AndB F (w.heap.size + 1)) L T Y q 3 0 AL AT A L.length T.length Y.length cL cT c' rfl rfl rfl hl1.hl hl1.ht (by omega) hmx hq W (fun k hk => Nat.lt_of_lt_of_le (hF1 k hk) hb.size) (hl1.below hb).rl (hl1.below hb).rt hr
    rw [show doS L T q 3 Y 0 = (Y, [], q, 0) by unfold doS; rw [if_neg (by decide), if_neg (by decide), if_pos rfl, if_neg (by omega)]] at hst
    exact hst
  have HBB := Lib.hid hB1
  have hyi : (Y.length : Int) ≤ 65546 := by omega
  have HB1 := Lib.hid hb1
  have HK0 := Lib.hid hk0
  have HK1 := Lib.hid hk1
  have HL1 := Lib.hid hl1
  have HF1 := Lib.hid hF1
  have HW1 := Lib.hid hW1
  have f0 := hk0.cell 0
  have f1 := hk0.cell 1
  have f2 := hk0.cell 2
  have f3 := hk0.cell 3
  have f4 := hk0.cell 4
  have hvi : (vs.length : Int) ≤ 1000000 := by omega
  clear hmx hvm hq hF h hb1 hk0 hk1 hW1 hl1 hF1 hY hYl hone hB1 hB hbs
  go_enter Tryz.func56, Tryz.ntmps56
  go_wp2_with fail
  rw [HW1.out]
  refine HONE.out.mono ?_
  rintro e w2 ⟨Ay, cy, rfl, hoy, hb2⟩
  simp only at hoy ⊢
  have HK2 := Lib.hid (HK0.out.below hb2 HK0.out.lt)
  have HY2 := Lib.hid (rowN_own HF1.out hoy)
  have HBY := Lib.hid hb2
  clear f0 f1 f2 f3 f4 hoy hb2
  have f0 := HK2.out.cell 0
  have f1 := HK2.out.cell 1
  have f2 := HK2.out.cell 2
  go_wp2_with fail
  refine (HST.out w2 Ay cy HBY.out HY2.out).mono ?_
  rintro e w3 ⟨A1, c1, A2, c2, rfl, h1, h2, hr1, hr2, hb3⟩
  simp only at h1 h2 hr1 hr2 ⊢
  have hb13 : Below W1.heap.size W1 w3 := HBY.out.trans (hb3.mono HBY.out.size)
  have hal : Below w3.heap.size w3 (w3.alloc (.cells #[.slice A1 Y.length c1, .slice A2 0 c2, .int .i64 (q : Int)] 29)) := (Below.refl _ _).alloc (Nat.le_refl _) _
  have hal2 : Below w3.heap.size w3 ((w3.alloc (.cells #[.slice A1 Y.length c1, .slice A2 0 c2, .int .i64 (q : Int)] 29)).alloc (.cells #[.int .u8 0, .slice B bs.length cB] 145)) := hal.alloc (by simp) _
  have HBT : Hid (Below w.heap.size w ((w3.alloc (.cells #[.slice A1 Y.length c1, .slice A2 0 c2, .int .i64 (q : Int)] 29)).alloc (.cells #[.int .u8 0, .slice B bs.length cB] 145))) := Lib.hid (HB1.out.trans ((hb13.trans (hal2.mono hb13.size)).mono HB1.out.size))
  have HK3 := Lib.hid (((HK1.out.below hb13 HK1.out.lt).alloc (.cells #[.slice A1 Y.length c1, .slice A2 0 c2, .int .i64 (q : Int)] 29)).alloc (.cells #[.int .u8 0, .slice B bs.length cB] 145))
  have hnew := Blk.new (w3.alloc (.cells #[.slice A1 Y.length c1, .slice A2 0 c2, .int .i64 (q : Int)] 29)) 145 #[.int .u8 0, .slice B bs.length cB]
  rw [show (w3.alloc (.cells #[.slice A1 Y.length c1, .slice A2 0 c2, .int .i64 (q : Int)] 29)).heap.size = w3.heap.size + 1 by simp] at hnew
  have hrr : RowN (AndB F (w.heap.size + 1)) ((w3.alloc (.cells #[.slice A1 Y.length c1, .slice A2 0 c2, .int .i64 (q : Int)] 29)).alloc (.cells #[.int .u8 0, .slice B bs.length cB] 145)) (some ⟨w3.heap.size + 1, 0, none⟩) (recsC [(0, B, bs, cB)]) := rowN_blk hnew (fun hf => by have := HF1.out _ hf; have := hb13.size; omega) rfl
  have HL3 : Hid (RefL ((w3.alloc (.cells #[.slice A1 Y.length c1, .slice A2 0 c2, .int .i64 (q : Int)] 29)).alloc (.cells #[.int .u8 0, .slice B bs.length cB] 145)) (AndB F (w.heap.size + 1)) A1 c1 A2 c2 (some ⟨w3.heap.size + 1, 0, none⟩) 1 Y [] [(0, B, bs, cB)]) :=
    Lib.hid ⟨h1, h2, Nat.le_refl _, hr1.below hal2, hr2.below hal2, hrr, fun v hv => by
      obtain rfl : v = (0, B, bs, cB) := by simpa using hv
      exact (HBB.out.below hb13).below hal2⟩
  clear f0 f1 f2 h1 h2 hr1 hr2 hb3 hb13 hal hal2 hnew hrr HY2 HBY HK2 HST HONE
  have HF := Lib.hid (refopen_fin (b := w.heap.size + 1) (u0 := .slice A1 Y.length c1) (u1 := .slice A2 0 c2) (u2 := .int .i64 (q : Int)) (u3 := .slice (some ⟨w3.heap.size + 1, 0, none⟩) 1 1) (u4 := .int .i64 1) HK3.out)
  have HLF := Lib.hid (HL3.out.step (ref_touch (F := F) (b := w.heap.size + 1) (u0 := .slice A1 Y.length c1) (u1 := .slice A2 0 c2) (u2 := .int .i64 (q : Int)) (u3 := .slice (some ⟨w3.heap.size + 1, 0, none⟩) 1 1) (u4 := .int .i64 1)) (F' := F) (fun k hk => Or.inl (Or.inl hk)))
  obtain ⟨Z0, hZ0⟩ : ∃ z, w.heap.size + 1 = z := ⟨_, rfl⟩
  have r0 := HK3.out.cell 0
  have r1 := HK3.out.cell 1
  have r2 := HK3.out.cell 2
  have r3 := HK3.out.cell 3
  have r4 := HK3.out.cell 4
  have z0 := HK3.out.frozen 0
  have z1 := HK3.out.frozen 1
  have z2 := HK3.out.frozen 2
  have z3 := HK3.out.frozen 3
  have z4 := HK3.out.frozen 4
  clear hZ0
  go_wp2
  obtain ⟨W5, hW5⟩ : ∃ W, (((((((w3.alloc (.cells #[.slice A1 Y.length c1, .slice A2 0 c2, .int .i64 (q : Int)] 29)).alloc (.cells #[.int .u8 0, .slice B bs.length cB] 145)).setCell ⟨w.heap.size + 1, 0, none⟩ (.slice A1 Y.length c1)).setCell ⟨w.heap.size + 1, 1, none⟩ (.slice A2 0 c2)).setCell ⟨w.heap.size + 1, 2, none⟩ (.int .i64 (q : Int))).setCell ⟨w.heap.size + 1, 3, none⟩ (.slice (some ⟨w3.heap.size + 1, 0, none⟩) 1 1)).setCell ⟨w.heap.size + 1, 4, none⟩ (.int .i64 1)) = W := ⟨_, rfl⟩
  rw [hW5] at HF HLF
  rw [hW5]
  have g0 := HF.out.1.cell 0
  have g1 := HF.out.1.cell 1
  have g2 := HF.out.1.cell 2
  have g3 := HF.out.1.cell 3
  have g4 := HF.out.1.cell 4
  refine bodyPost_ret (v := .tuple #[.agg #[.slice A1 Y.length c1, .slice A2 0 c2, .int .i64 (q : Int), .slice (some ⟨w3.heap.size + 1, 0, none⟩) 1 1, .int .i64 1], .int .i64 0]) (by simp [results, Tryz.results56, go_sem, g0, g1, g2, g3, g4]) rfl ?_
  exact ⟨A1, c1, A2, c2, some ⟨w3.heap.size + 1, 0, none⟩, 1, [(0, B, bs, cB)], rfl, rfl, HLF.out, HF.out.2.2 _ HBT.out (by omega)⟩
end Go.Proofs.YtndbggkpobcpjaaGreat
namespace Go.Proofs.YtndbggkpobcpjaaGreat
open Go.RowKit Mem Be Word Frm
set_option maxRecDepth 100000
set_option maxHeartbeats 4000000
set_option linter.unusedVariables false
theorem refsnap_long (F : Nat → Prop) (AL AT R : Option Addr) (cL cT c m q : Nat) (L T : List UInt8) (vs : List RecV) (B : Option Addr) (bs : List UInt8) (cB : Nat) (hbs : 65536 < bs.length) (w : World) (hF : ∀ k, F k → k < w.heap.size) (h : RefL w F AL cL AT cT R c L T vs) (hB : Row w w.heap.size B (bs.map byteV)) :
    Calls Tryz.prog 56 #[.agg #[.slice AL L.length cL, .slice AT T.length cT, .int .i64 (q : Int), .slice R vs.length c, .int .i64 (m : Int)], .slice B bs.length cB] w (fun e w' => e = .returned (.tuple #[.agg #[.slice AL L.length cL, .slice AT T.length cT, .int .i64 (q : Int), .slice R vs.length c, .int .i64 (m : Int)], .int .i64 3]) ∧ RefL w' F AL cL AT cT R c L T vs ∧ Below w.heap.size w w') := by
  obtain ⟨hb1, hk0, hk1⟩ := ref_w1 w (.slice AL L.length cL) (.slice AT T.length cT) (.int .i64 (q : Int)) (.slice R vs.length c) (.int .i64 (m : Int))
  obtain ⟨W1, hW1⟩ : ∃ W, (w.alloc (.cells #[.slice AL L.length cL, .slice AT T.length cT, .int .i64 (q : Int), .slice R vs.length c, .int .i64 (m : Int)] 32)).alloc (.cells #[.slice none 0 0, .slice none 0 0, .int .i64 0, .slice none 0 0, .int .i64 0] 32) = W := ⟨_, rfl⟩
  rw [hW1] at hb1 hk0 hk1
  have hone := refone_any 0 W1.heap.size cB bs.length B bs rfl W1 ((hB.below hb1).more hb1.size) (Nat.le_refl _)
  rw [show oneS (0, bs) = ([], 3) from if_pos hbs, show (((0 : UInt8).toNat : Nat) : Int) = 0 from rfl] at hone
  have HONE := Lib.hid hone
  have HB1 := Lib.hid hb1
  have HK0 := Lib.hid hk0
  have HK1 := Lib.hid hk1
  have HT := Lib.hid h
  have HW1 := Lib.hid hW1
  clear hF h hb1 hk0 hk1 hW1 hone hB hbs
  go_enter Tryz.func56, Tryz.ntmps56
  go_wp2_with fail
  rw [HW1.out]
  refine HONE.out.mono ?_
  rintro e w2 ⟨Ay, cy, rfl, _, hb2⟩
  simp only [List.length_nil]
  have HK2 := Lib.hid (HK0.out.below hb2 HK0.out.lt)
  have HKR := Lib.hid (HK1.out.below hb2 HK1.out.lt)
  have HBB : Hid (Below w.heap.size w w2) := Lib.hid (HB1.out.trans (hb2.mono HB1.out.size))
  have HZ : w.heap.size + 1 < w2.heap.size := HKR.out.lt
  have f0 : w2.cell? ⟨w.heap.size, 0, none⟩ = some (.slice AL L.length cL) := HK2.out.cell 0
  have f1 : w2.cell? ⟨w.heap.size, 1, none⟩ = some (.slice AT T.length cT) := HK2.out.cell 1
  have f2 : w2.cell? ⟨w.heap.size, 2, none⟩ = some (.int .i64 (q : Int)) := HK2.out.cell 2
  have f3 : w2.cell? ⟨w.heap.size, 3, none⟩ = some (.slice R vs.length c) := HK2.out.cell 3
  have f4 : w2.cell? ⟨w.heap.size, 4, none⟩ = some (.int .i64 (m : Int)) := HK2.out.cell 4
  have r0 := HKR.out.cell 0
  have z0 := HKR.out.frozen 0
  have r1 := HKR.out.cell 1
  have z1 := HKR.out.frozen 1
  have r2 := HKR.out.cell 2
  have z2 := HKR.out.frozen 2
  have r3 := HKR.out.cell 3
  have z3 := HKR.out.frozen 3
  have r4 := HKR.out.cell 4
  have z4 := HKR.out.frozen 4
  have HF := Lib.hid (refopen_fin (b := w.heap.size + 1) (u0 := .slice AL L.length cL) (u1 := .slice AT T.length cT) (u2 := .int .i64 (q : Int)) (u3 := .slice R vs.length c) (u4 := .int .i64 (m : Int)) HKR.out)
  have HLF := Lib.hid ((HT.out.wide HBB.out (b := w.heap.size + 1) (by omega)).step (ref_touch (F := F) (b := w.heap.size + 1) (u0 := .slice AL L.length cL) (u1 := .slice AT T.length cT) (u2 := .int .i64 (q : Int)) (u3 := .slice R vs.length c) (u4 := .int .i64 (m : Int))) (F' := F) (fun k hk => Or.inl (Or.inl hk)))
  clear hb2
  go_wp2
  obtain ⟨W5, hW5⟩ : ∃ W, ((((w2.setCell ⟨w.heap.size + 1, 0, none⟩ (.slice AL L.length cL)).setCell ⟨w.heap.size + 1, 1, none⟩ (.slice AT T.length cT)).setCell ⟨w.heap.size + 1, 2, none⟩ (.int .i64 (q : Int))).setCell ⟨w.heap.size + 1, 3, none⟩ (.slice R vs.length c)).setCell ⟨w.heap.size + 1, 4, none⟩ (.int .i64 (m : Int)) = W := ⟨_, rfl⟩
  rw [hW5] at HF HLF
  rw [hW5]
  have g0 := HF.out.1.cell 0
  have g1 := HF.out.1.cell 1
  have g2 := HF.out.1.cell 2
  have g3 := HF.out.1.cell 3
  have g4 := HF.out.1.cell 4
  refine bodyPost_ret (v := .tuple #[.agg #[.slice AL L.length cL, .slice AT T.length cT, .int .i64 (q : Int), .slice R vs.length c, .int .i64 (m : Int)], .int .i64 3]) (by simp [results, Tryz.results56, go_sem, g0, g1, g2, g3, g4]) rfl ?_
  exact ⟨rfl, HLF.out, HF.out.2.2 _ HBB.out (by omega)⟩
end Go.Proofs.YtndbggkpobcpjaaGreat
namespace Go.Proofs.YtndbggkpobcpjaaGreat
open Go.RowKit Mem Be Word Frm
set_option maxRecDepth 100000
set_option maxHeartbeats 4000000
set_option linter.unusedVariables false
def recR (k : UInt8) (ls : List RowV) : List RecV := ls.map fun r => (k, r)
theorem recR_len (k : UInt8) (ls : List RowV) : (recR k ls).length = ls.length := by unfold recR; rw [List.length_map]
theorem recR_rc (k : UInt8) (ls : List RowV) : (recR k ls).map rcOf = newR k (bytesR ls) := by unfold recR newR bytesR; rw [List.map_map, List.map_map]; rfl
theorem recR_snoc (k : UInt8) (ls : List RowV) (j : Nat) (h : j < ls.length) : recR k (ls.take (j + 1)) = recR k (ls.take j) ++ [(k, ls[j])] := by
  unfold recR; rw [List.take_succ_eq_append_getElem h, List.map_append]; rfl
theorem refrecords_any (k : UInt8) (n c : Nat) (A0 : Option Addr) (ls : List RowV) (hn : n = ls.length) (hnl : n ≤ 100000) (w : World) (hr : Row w w.heap.size A0 (ls.map rowV)) :
    Calls Tryz.prog 77 #[.int .u8 (k.toNat : Int), .slice A0 n c] w (fun e w' => ∃ A c', e = .returned (.slice A n c') ∧ w'.ownsRow w.heap.size 145 2 (.slice A n c') n (recsC (recR k ls)) ∧ Below w.heap.size w w') := by
  have HR := Lib.hid hr
  have HN := Lib.hid hn
  have hni : (n : Int) ≤ 100000 := by omega
  have HNL := Lib.hid hnl
  clear hr hn hnl
  go_enter Tryz.func77, Tryz.ntmps77
  go_wp2
  go_loopw [5, 6] (fun z i wr => ∃ (j : Nat) (A : Option Addr) (c : Nat), j ≤ n ∧ i = .int .i64 j ∧ z = .slice A j c ∧ Hid (wr.ownsRow w.heap.size 145 2 (.slice A j c) j (recsC (recR k (ls.take j)))) ∧ Hid (Below w.heap.size w wr)) (fun _ i _ => n - (intOf i).toNat)
  case atStart => exact ⟨0, none, 0, by omega, rfl, rfl, Lib.hid (World.ownsRow_nil _ _ _ _), Lib.hid (Below.refl _ _)⟩
  case round =>
    obtain ⟨j, A, cA, hj, rfl, rfl, HO, HB⟩ := hrel
    by_cases hlt : j < n
    · have hj1 : j < ls.length := by rw [← HN.out]; exact hlt
      obtain ⟨b, o, rfl, hbl, hc⟩ := HR.out.open_ (by simp; omega)
      have hcell0 : w.cell? ⟨b, o + j, none⟩ = some (rowV ls[j]) := (hc j (by simpa using hj1)).trans (congrArg some (List.getElem_map (f := rowV) (h := by simpa using hj1)))
      have hcell : wr.cell? ⟨b, o + j, none⟩ = some (rowV ls[j]) := (HB.out.cell (p := ⟨b, o + j, none⟩) hbl).trans hcell0
      have HSN := Lib.hid (recR_snoc k ls j hj1)
      obtain ⟨⟨A1, y, c1⟩, hy⟩ : ∃ y, ls[j] = y := ⟨_, rfl⟩
      rw [hy] at hcell HSN
      unfold rowV at hcell
      simp only at hcell
      have hji : (0 : Int) ≤ (j : Int) := by omega
      have hji2 : (j : Int) < (n : Int) := by omega
      have HB2 : Hid (∀ o, Below w.heap.size w (wr.alloc o)) := Lib.hid fun o => HB.out.alloc HB.out.size o
      have HO2 : Hid (∀ o, (wr.alloc o).ownsRow w.heap.size 145 2 (.slice A j cA) j (recsC (recR k (ls.take j)))) := Lib.hid fun o => ownLater HO.out ((Below.refl _ _).alloc (Nat.le_refl _) o)
      have hsz : w.heap.size ≤ wr.heap.size := HB.out.size
      clear hc hcell0 hy HO
      go_wp2_with (at_builtin; refine wpList_appR rfl _ _ rfl w.heap.size _ j (recR k (ls.take j)) rfl (HO2.out _) (wr.heap.size + 1) _ 1 1 [(k, A1, y, c1)] rfl rfl (rec_lit (r := (k, A1, y, c1)) rfl rfl rfl) (by have := HNL.out; omega) (by simp; omega) ?_)
      intro A3 c3 w3 hown hgr
      have HB3 : Hid (Below w.heap.size w w3) := Lib.hid ((HB2.out _).grown hgr (HB2.out _).size fun g hg => ((HO2.out (.cells #[.int .u8 (k.toNat : Int), .slice A1 y.length c1] 145)).lt g hg).1)
      have HO3 := Lib.hid hown
      clear hown hgr HB2 HO2 HB
      go_wp2
      go_roundw
      case rel => exact ⟨j + 1, A3, c3, by omega, by go_num, rfl, Lib.hid (by rw [HSN.out]; simpa [recsC, List.flatMap_append] using HO3.out), HB3⟩
      case measure => simp [intOf]; omega
    · obtain rfl : j = n := by omega
      have ht : ls.take j = ls := List.take_of_length_le (by rw [← HN.out]; omega)
      rw [ht] at HO
      clear ht
      go_wp2
      go_ret
      exact ⟨A, cA, rfl, HO.out, HB.out⟩
end Go.Proofs.YtndbggkpobcpjaaGreat
namespace Go.Proofs.YtndbggkpobcpjaaGreat
open Go.RowKit Mem Be Word Frm
set_option maxRecDepth 100000
set_option maxHeartbeats 8000000
set_option linter.unusedVariables false
theorem refapp_any (F : Nat → Prop) (AL AT R : Option Addr) (cL cT c m q : Nat) (L T : List UInt8) (vs : List RecV) (hmx : L.length + T.length ≤ 4194304) (hvm : vs.length ≤ 1000000) (hq : q ≤ 4611686018427387904) (k : UInt8) (hk : k ≠ 0) (A0 : Option Addr) (c0 : Nat) (ls : List RowV) (hll : ls.length ≤ 100000) (hls : ∀ b ∈ bytesR ls, b.length ≤ 65536) (hlb : L.length + T.length + (allB (newR k (bytesR ls))).length ≤ 4194304) (w : World) (hF : ∀ k, F k → k < w.heap.size) (h : RefL w F AL cL AT cT R c L T vs) (h0 : RowN F w A0 (ls.map rowV)) (hrs : ∀ r ∈ ls, RowN F w r.1 (r.2.1.map byteV)) :
    Calls Tryz.prog 52 #[.agg #[.slice AL L.length cL, .slice AT T.length cT, .int .i64 (q : Int), .slice R vs.length c, .int .i64 (m : Int)], .int .u8 (k.toNat : Int), .slice A0 ls.length c0] w (RefP F (fun v => .tuple #[v, .int .i64 0]) L (T ++ allB (newR k (bytesR ls))) q m (vs.map rcOf ++ newR k (bytesR ls)) w) := by
  have hkz := u8_zero hk
  obtain ⟨Y, hY⟩ : ∃ Y, allB (newR k (bytesR ls)) = Y := ⟨_, rfl⟩
  obtain ⟨Z, hZ⟩ : ∃ Z, T ++ Y = Z := ⟨_, rfl⟩
  rw [hY] at hlb ⊢
  rw [hZ]
  obtain ⟨hb1, hk0, hk1⟩ := ref_w1 w (.slice AL L.length cL) (.slice AT T.length cT) (.int .i64 (q : Int)) (.slice R vs.length c) (.int .i64 (m : Int))
  obtain ⟨W1, hW1⟩ : ∃ W, (w.alloc (.cells #[.slice AL L.length cL, .slice AT T.length cT, .int .i64 (q : Int), .slice R vs.length c, .int .i64 (m : Int)] 32)).alloc (.cells #[.slice none 0 0, .slice none 0 0, .int .i64 0, .slice none 0 0, .int .i64 0] 32) = W := ⟨_, rfl⟩
  rw [hW1] at hb1 hk0 hk1
  have hl1 := h.wide hb1 (b := w.heap.size + 1) (by omega)
  have hF1 : ∀ k, AndB F (w.heap.size + 1) k → k < W1.heap.size := fun k hk => by
    rcases hk with h1 | h1
    · exact Nat.lt_of_lt_of_le (hF k h1) hb1.size
    · rw [h1]; exact hk1.lt
  have hw1 : ∀ {A : Option Addr} {xs : List Value}, RowN F w A xs → RowN (AndB F (w.heap.size + 1)) W1 A xs := fun hx => hx.step (Touch.ofBelow hb1) fun j hj => by
    rcases hj with h1 | h1
    · exact Or.inl h1
    · exact Or.inr (by omega)
  have HRS : Hid (∀ r ∈ ls, RowN (AndB F (w.heap.size + 1)) W1 r.1 (r.2.1.map byteV)) := Lib.hid fun r hr => hw1 (hrs r hr)
  have HREC := Lib.hid (refrecords_any k ls.length c0 A0 ls rfl hll W1 (hw1 h0).row)
  have hlong : longN ((recR k ls).map rcOf) ≤ 10000000 := by
    have h1 : longN ((recR k ls).map rcOf) = (allB ((recR k ls).map rcOf)).length := rfl
    rw [h1, recR_rc, hY]; omega
  have hshort : Short ((recR k ls).map rcOf) := by
    rw [recR_rc]
    intro r hr
    obtain ⟨b, hb, rfl⟩ := List.mem_map.1 hr
    exact hls b hb
  have HALL : Hid (∀ W A c', Below W1.heap.size W1 W → Row W W.heap.size A (recsC (recR k ls)) → Calls Tryz.prog 78 #[.slice A ls.length c'] W (MadeF W.heap.size (Y, 0) W)) := Lib.hid fun W A c' hb hr => by
    have := refall5_any ls.length c' A (recR k ls) (recR_len k ls).symm W hr (fun r hr => by
      obtain ⟨x, hx, rfl⟩ := List.mem_map.1 hr
      exact ((HRS.out x hx).below hb).row) hshort hlong (by omega)
    rw [recR_rc, hY] at this
    exact this
  have HST : Hid (∀ W A c', Below W1.heap.size W1 W → RowN (AndB F (w.heap.size + 1)) W A (Y.map byteV) → Calls Tryz.prog 79 #[.agg #[.slice AL L.length cL, .slice AT T.length cT, .int .i64 (q : Int)], .agg #[.int .i64 1, .slice A Y.length c', .int .i64 0]] W (StepP (AndB F (w.heap.size + 1)) (L, Z, q, 0) W)) := Lib.hid fun W A c' hb hr => by
    have hst := step6_any (AndB F (w.heap.size + 1)) L T Y q 1 0 AL AT A L.length T.length Y.length cL cT c' rfl rfl rfl hl1.hl hl1.ht (by omega) hmx hq W (fun j hj => Nat.lt_of_lt_of_le (hF1 j hj) hb.size) (hl1.below hb).rl (hl1.below hb).rt hr
    rw [show doS L T q 1 Y 0 = (L, Z, q, 0) by unfold doS; rw [if_pos rfl, if_neg (by omega), hZ]] at hst
    exact hst
  have hyi : (Y.length : Int) ≤ 4194304 := by omega
  have hli : (ls.length : Int) ≤ 100000 := by omega
  have HNN : Hid (vs.length ≤ 1000000 ∧ ls.length ≤ 100000) := Lib.hid ⟨hvm, hll⟩
  have HYY := Lib.hid hY
  have HB1 := Lib.hid hb1
  have HK0 := Lib.hid hk0
  have HK1 := Lib.hid hk1
  have HL1 := Lib.hid hl1
  have HF1 := Lib.hid hF1
  have HW1 := Lib.hid hW1
  have f0 := hk0.cell 0
  have f1 := hk0.cell 1
  have f2 := hk0.cell 2
  have f3 := hk0.cell 3
  have f4 := hk0.cell 4
  have hvi : (vs.length : Int) ≤ 1000000 := by omega
  clear hmx hvm hq hF h hb1 hk0 hk1 hW1 hl1 hF1 hY hZ hlong hshort hw1 h0 hrs hlb hls hll hk
  go_enter Tryz.func52, Tryz.ntmps52
  go_wp2_with fail
  rw [HW1.out]
  refine HREC.out.mono ?_
  rintro e w2 ⟨A2, c2, rfl, ho2, hb2⟩
  have HB2 := Lib.hid hb2
  have HO2 := Lib.hid ho2
  clear f0 f1 f2 f3 f4 ho2 hb2 HREC
  go_wp2_with fail
  refine (HALL.out w2 A2 c2 HB2.out (ownRow HO2.out)).mono ?_
  rintro e w3 ⟨Ay, cy, rfl, hoy, hb3⟩
  simp only at hoy ⊢
  have HB3 := Lib.hid (HB2.out.trans (hb3.mono HB2.out.size))
  have HO3 := Lib.hid (ownLater HO2.out hb3)
  have HY3 := Lib.hid (rowN_own (fun j hj => Nat.lt_of_lt_of_le (HF1.out j hj) HB2.out.size) hoy)
  have HKA := Lib.hid (HK0.out.below HB3.out HK0.out.lt)
  have f0 := HKA.out.cell 0
  have f1 := HKA.out.cell 1
  have f2 := HKA.out.cell 2
  clear hoy hb3 HB2 HO2 HALL
  go_wp2_with fail
  refine (HST.out w3 Ay cy HB3.out HY3.out).mono ?_
  rintro e w4 ⟨A1, c1, A3, c3, rfl, h1, h2, hr1, hr2, hb4⟩
  simp only at h1 h2 hr1 hr2 ⊢
  have hb14 : Below W1.heap.size W1 w4 := HB3.out.trans (hb4.mono HB3.out.size)
  have hal : Below w4.heap.size w4 (w4.alloc (.cells #[.slice A1 L.length c1, .slice A3 Z.length c3, .int .i64 (q : Int)] 29)) := (Below.refl _ _).alloc (Nat.le_refl _) _
  have HB4 : Hid (Below W1.heap.size W1 (w4.alloc (.cells #[.slice A1 L.length c1, .slice A3 Z.length c3, .int .i64 (q : Int)] 29))) := Lib.hid (hb14.trans (hal.mono hb14.size))
  have HO4 : Hid ((w4.alloc (.cells #[.slice A1 L.length c1, .slice A3 Z.length c3, .int .i64 (q : Int)] 29)).ownsRow W1.heap.size 145 2 (.slice A2 ls.length c2) ls.length (recsC (recR k ls))) := Lib.hid (ownLater (ownLater HO3.out hb4) hal)
  have HN4 := Lib.hid (Blk.new w4 29 #[.slice A1 L.length c1, .slice A3 Z.length c3, .int .i64 (q : Int)])
  have HRL := Lib.hid (And.intro h1 (And.intro h2 (And.intro (hr1.below hal) (hr2.below hal))))
  obtain ⟨W4, hW4⟩ : ∃ W, w4.alloc (.cells #[.slice A1 L.length c1, .slice A3 Z.length c3, .int .i64 (q : Int)] 29) = W := ⟨_, rfl⟩
  obtain ⟨b6, hb6⟩ : ∃ b, w4.heap.size = b := ⟨_, rfl⟩
  rw [hW4] at HB4 HO4 HN4 HRL
  rw [hb6] at HN4
  have HKB := Lib.hid (HK0.out.below HB4.out HK0.out.lt)
  have HLB := Lib.hid (HL1.out.below HB4.out)
  have HW4 := Lib.hid hW4
  have HB6 := Lib.hid hb6
  have HSB : Hid (w.heap.size + 1 < b6) := Lib.hid (by have := HK1.out.lt; have := hb14.size; omega)
  clear f0 f1 f2 h1 h2 hr1 hr2 hb4 hb14 hal hW4 hb6 HB3 HO3 HY3 HKA HST
  have g3 : (w4.alloc (.cells #[.slice A1 L.length c1, .slice A3 Z.length c3, .int .i64 (q : Int)] 29)).cell? ⟨w.heap.size, 3, none⟩ = some (.slice R vs.length c) := by rw [HW4.out]; exact HKB.out.cell 3
  go_wp2_with (at_builtin; rw [HW4.out]; rw [HB6.out]; refine wpList_appR rfl _ _ rfl W4.heap.size (.slice none 0 0) 0 [] rfl (World.ownsRow_nil _ _ _ _) W4.heap.size R vs.length c vs rfl rfl HLB.out.rr.row (by have := HNN.out; omega) (Nat.le_refl _) ?_)
  intro A5 c5 w5 hown hgr
  have HB5 : Hid (Below W4.heap.size W4 w5) := Lib.hid ((Below.refl _ _).grown hgr (Nat.le_refl _) (fun g hg => by simp [Value.ownBlock] at hg))
  have HO5 : Hid (w5.ownsRow W4.heap.size 145 2 (.slice A5 vs.length c5) vs.length (recsC vs)) := Lib.hid (by simpa using hown)
  have HM5 := Lib.hid (ownRow (ownLater HO4.out HB5.out))
  clear hown hgr g3
  go_wp2_with (at_builtin; refine wpList_appR rfl _ _ rfl W4.heap.size _ vs.length vs rfl HO5.out w5.heap.size A2 ls.length c2 (recR k ls) rfl (recR_len k ls) HM5.out (by have := HNN.out; omega) HB5.out.size ?_)
  intro A6 c6 w6 hown hgr
  obtain ⟨kk, hkk⟩ : ∃ x, vs.length + ls.length = x := ⟨_, rfl⟩
  rw [hkk] at hown ⊢
  have hkl : (vs ++ recR k ls).length = kk := by rw [List.length_append, recR_len]; exact hkk
  have hb6w : Below W4.heap.size W4 w6 := HB5.out.grown hgr HB5.out.size fun g hg => (HO5.out.lt g hg).1
  have ho6 : w6.ownsRow W4.heap.size 145 2 (.slice A6 kk c6) kk (recsC (vs ++ recR k ls)) := by rw [recsC_app]; simpa [recsC] using hown
  have hcr : kk ≤ c6 := by
    obtain ⟨A', c', he, h2, _⟩ := ownShape ho6
    injection he with _ _ he
    omega
  have hF4 : ∀ j, AndB F (w.heap.size + 1) j → j < W4.heap.size := fun j hj => Nat.lt_of_lt_of_le (HF1.out j hj) HB4.out.size
  have hb16 : Below W1.heap.size W1 w6 := HB4.out.trans (hb6w.mono HB4.out.size)
  have HBT : Hid (Below w.heap.size w w6) := Lib.hid (HB1.out.trans (hb16.mono HB1.out.size))
  have HK3 := Lib.hid (HK1.out.below hb16 HK1.out.lt)
  have HL3 : Hid (RefL w6 (AndB F (w.heap.size + 1)) A1 c1 A3 c3 A6 c6 L Z (vs ++ recR k ls)) := Lib.hid ⟨HRL.out.1, HRL.out.2.1, by rw [hkl]; exact hcr, HRL.out.2.2.1.below hb6w, HRL.out.2.2.2.below hb6w, rowN_own hF4 ho6, fun v hv => by
    rcases List.mem_append.1 hv with hv | hv
    · exact (HL1.out.rb v hv).below hb16
    · obtain ⟨x, hx, rfl⟩ := List.mem_map.1 hv
      exact (HRS.out x hx).below hb16⟩
  have HKL := Lib.hid hkl
  have hn6 := HN4.out.below hb6w HN4.out.lt
  have d0 := hn6.cell 0
  have d1 := hn6.cell 1
  have d2 := hn6.cell 2
  have f4 := (HK0.out.below hb16 HK0.out.lt).cell 4
  have hki : (kk : Int) ≤ 1100000 := by have := HNN.out; omega
  clear hown hgr hkk hkl hb6w ho6 hcr hF4 hb16 hn6 HB5 HO5 HM5 HO4 HN4 HRL HKB HLB HB4 HRS
  have HF := Lib.hid (refopen_fin (b := w.heap.size + 1) (u0 := .slice A1 L.length c1) (u1 := .slice A3 Z.length c3) (u2 := .int .i64 (q : Int)) (u3 := .slice A6 kk c6) (u4 := .int .i64 (m : Int)) HK3.out)
  have HLF := Lib.hid (HL3.out.step (ref_touch (F := F) (b := w.heap.size + 1) (u0 := .slice A1 L.length c1) (u1 := .slice A3 Z.length c3) (u2 := .int .i64 (q : Int)) (u3 := .slice A6 kk c6) (u4 := .int .i64 (m : Int))) (F' := F) (fun k hk => Or.inl (Or.inl hk)))
  obtain ⟨Z0, hZ0⟩ : ∃ z, w.heap.size + 1 = z := ⟨_, rfl⟩
  have r0 := HK3.out.cell 0
  have r1 := HK3.out.cell 1
  have r2 := HK3.out.cell 2
  have r3 := HK3.out.cell 3
  have r4 := HK3.out.cell 4
  have z0 := HK3.out.frozen 0
  have z1 := HK3.out.frozen 1
  have z2 := HK3.out.frozen 2
  have z3 := HK3.out.frozen 3
  have z4 := HK3.out.frozen 4
  clear hZ0
  go_wp2
  obtain ⟨W5, hW5⟩ : ∃ W, ((((((w6).setCell ⟨w.heap.size + 1, 0, none⟩ (.slice A1 L.length c1)).setCell ⟨w.heap.size + 1, 1, none⟩ (.slice A3 Z.length c3)).setCell ⟨w.heap.size + 1, 2, none⟩ (.int .i64 (q : Int))).setCell ⟨w.heap.size + 1, 3, none⟩ (.slice A6 kk c6)).setCell ⟨w.heap.size + 1, 4, none⟩ (.int .i64 (m : Int))) = W := ⟨_, rfl⟩
  rw [hW5] at HF HLF
  rw [hW5]
  have g0 := HF.out.1.cell 0
  have g1 := HF.out.1.cell 1
  have g2 := HF.out.1.cell 2
  have g3 := HF.out.1.cell 3
  have g4 := HF.out.1.cell 4
  refine bodyPost_ret (v := .tuple #[.agg #[.slice A1 L.length c1, .slice A3 Z.length c3, .int .i64 (q : Int), .slice A6 kk c6, .int .i64 (m : Int)], .int .i64 0]) (by simp [results, Tryz.results52, go_sem, g0, g1, g2, g3, g4]) rfl ?_
  exact ⟨A1, c1, A3, c3, A6, c6, vs ++ recR k ls, by rw [List.map_append, recR_rc], by rw [HKL.out], HLF.out, HF.out.2.2 _ HBT.out (by omega)⟩
end Go.Proofs.YtndbggkpobcpjaaGreat
namespace Go.Proofs.YtndbggkpobcpjaaGreat
open Go.RowKit Mem Be Word Frm
set_option maxRecDepth 100000
set_option maxHeartbeats 8000000
set_option linter.unusedVariables false
theorem refapp_full (F : Nat → Prop) (AL AT R : Option Addr) (cL cT c m q : Nat) (L T : List UInt8) (vs : List RecV) (hmx : L.length + T.length ≤ 4194304) (hvm : vs.length ≤ 1000000) (hq : q ≤ 4611686018427387904) (k : UInt8) (hk : k ≠ 0) (A0 : Option Addr) (c0 : Nat) (ls : List RowV) (hll : ls.length ≤ 100000) (hls : ∀ b ∈ bytesR ls, b.length ≤ 65536) (hyl : (allB (newR k (bytesR ls))).length ≤ 1000000) (hlb : 4194304 < L.length + T.length + (allB (newR k (bytesR ls))).length) (w : World) (hF : ∀ k, F k → k < w.heap.size) (h : RefL w F AL cL AT cT R c L T vs) (h0 : RowN F w A0 (ls.map rowV)) (hrs : ∀ r ∈ ls, RowN F w r.1 (r.2.1.map byteV)) :
    Calls Tryz.prog 52 #[.agg #[.slice AL L.length cL, .slice AT T.length cT, .int .i64 (q : Int), .slice R vs.length c, .int .i64 (m : Int)], .int .u8 (k.toNat : Int), .slice A0 ls.length c0] w (fun e w' => e = .returned (.tuple #[.agg #[.slice AL L.length cL, .slice AT T.length cT, .int .i64 (q : Int), .slice R vs.length c, .int .i64 (m : Int)], .int .i64 3]) ∧ RefL w' F AL cL AT cT R c L T vs ∧ Below w.heap.size w w') := by
  have hkz := u8_zero hk
  obtain ⟨Y, hY⟩ : ∃ Y, allB (newR k (bytesR ls)) = Y := ⟨_, rfl⟩
  rw [hY] at hlb hyl
  obtain ⟨hb1, hk0, hk1⟩ := ref_w1 w (.slice AL L.length cL) (.slice AT T.length cT) (.int .i64 (q : Int)) (.slice R vs.length c) (.int .i64 (m : Int))
  obtain ⟨W1, hW1⟩ : ∃ W, (w.alloc (.cells #[.slice AL L.length cL, .slice AT T.length cT, .int .i64 (q : Int), .slice R vs.length c, .int .i64 (m : Int)] 32)).alloc (.cells #[.slice none 0 0, .slice none 0 0, .int .i64 0, .slice none 0 0, .int .i64 0] 32) = W := ⟨_, rfl⟩
  rw [hW1] at hb1 hk0 hk1
  have hl1 := h.wide hb1 (b := w.heap.size + 1) (by omega)
  have hF1 : ∀ k, AndB F (w.heap.size + 1) k → k < W1.heap.size := fun k hk => by
    rcases hk with h1 | h1
    · exact Nat.lt_of_lt_of_le (hF k h1) hb1.size
    · rw [h1]; exact hk1.lt
  have hw1 : ∀ {A : Option Addr} {xs : List Value}, RowN F w A xs → RowN (AndB F (w.heap.size + 1)) W1 A xs := fun hx => hx.step (Touch.ofBelow hb1) fun j hj => by
    rcases hj with h1 | h1
    · exact Or.inl h1
    · exact Or.inr (by omega)
  have HRS : Hid (∀ r ∈ ls, RowN (AndB F (w.heap.size + 1)) W1 r.1 (r.2.1.map byteV)) := Lib.hid fun r hr => hw1 (hrs r hr)
  have HREC := Lib.hid (refrecords_any k ls.length c0 A0 ls rfl hll W1 (hw1 h0).row)
  have hlong : longN ((recR k ls).map rcOf) ≤ 10000000 := by
    have h1 : longN ((recR k ls).map rcOf) = (allB ((recR k ls).map rcOf)).length := rfl
    rw [h1, recR_rc, hY]; omega
  have hshort : Short ((recR k ls).map rcOf) := by
    rw [recR_rc]
    intro r hr
    obtain ⟨b, hb, rfl⟩ := List.mem_map.1 hr
    exact hls b hb
  have HALL : Hid (∀ W A c', Below W1.heap.size W1 W → Row W W.heap.size A (recsC (recR k ls)) → Calls Tryz.prog 78 #[.slice A ls.length c'] W (MadeF W.heap.size (Y, 0) W)) := Lib.hid fun W A c' hb hr => by
    have := refall5_any ls.length c' A (recR k ls) (recR_len k ls).symm W hr (fun r hr => by
      obtain ⟨x, hx, rfl⟩ := List.mem_map.1 hr
      exact ((HRS.out x hx).below hb).row) hshort hlong (by omega)
    rw [recR_rc, hY] at this
    exact this
  have HST : Hid (∀ W A c', Below W1.heap.size W1 W → RowN (AndB F (w.heap.size + 1)) W A (Y.map byteV) → Calls Tryz.prog 79 #[.agg #[.slice AL L.length cL, .slice AT T.length cT, .int .i64 (q : Int)], .agg #[.int .i64 1, .slice A Y.length c', .int .i64 0]] W (StepP (AndB F (w.heap.size + 1)) (L, T, q, 3) W)) := Lib.hid fun W A c' hb hr => by
    have hst := step6_any (AndB F (w.heap.size + 1)) L T Y q 1 0 AL AT A L.length T.length Y.length cL cT c' rfl rfl rfl hl1.hl hl1.ht (by omega) hmx hq W (fun j hj => Nat.lt_of_lt_of_le (hF1 j hj) hb.size) (hl1.below hb).rl (hl1.below hb).rt hr
    rw [show doS L T q 1 Y 0 = (L, T, q, 3) by unfold doS; rw [if_pos rfl, if_pos (by omega)]] at hst
    exact hst
  have hyi : (Y.length : Int) ≤ 1000000 := by omega
  have HTT := Lib.hid h
  have hli : (ls.length : Int) ≤ 100000 := by omega
  have HNN : Hid (vs.length ≤ 1000000 ∧ ls.length ≤ 100000) := Lib.hid ⟨hvm, hll⟩
  have HYY := Lib.hid hY
  have HB1 := Lib.hid hb1
  have HK0 := Lib.hid hk0
  have HK1 := Lib.hid hk1
  have HL1 := Lib.hid hl1
  have HF1 := Lib.hid hF1
  have HW1 := Lib.hid hW1
  have f0 := hk0.cell 0
  have f1 := hk0.cell 1
  have f2 := hk0.cell 2
  have f3 := hk0.cell 3
  have f4 := hk0.cell 4
  have hvi : (vs.length : Int) ≤ 1000000 := by omega
  clear hmx hvm hq hF h hb1 hk0 hk1 hW1 hl1 hF1 hY hlong hshort hw1 h0 hrs hlb hyl hls hll hk
  go_enter Tryz.func52, Tryz.ntmps52
  go_wp2_with fail
  rw [HW1.out]
  refine HREC.out.mono ?_
  rintro e w2 ⟨A2, c2, rfl, ho2, hb2⟩
  have HB2 := Lib.hid hb2
  have HO2 := Lib.hid ho2
  clear f0 f1 f2 f3 f4 ho2 hb2 HREC
  go_wp2_with fail
  refine (HALL.out w2 A2 c2 HB2.out (ownRow HO2.out)).mono ?_
  rintro e w3 ⟨Ay, cy, rfl, hoy, hb3⟩
  simp only at hoy ⊢
  have HB3 := Lib.hid (HB2.out.trans (hb3.mono HB2.out.size))
  have HO3 := Lib.hid (ownLater HO2.out hb3)
  have HY3 := Lib.hid (rowN_own (fun j hj => Nat.lt_of_lt_of_le (HF1.out j hj) HB2.out.size) hoy)
  have HKA := Lib.hid (HK0.out.below HB3.out HK0.out.lt)
  have f0 := HKA.out.cell 0
  have f1 := HKA.out.cell 1
  have f2 := HKA.out.cell 2
  clear hoy hb3 HB2 HO2 HALL
  go_wp2_with fail
  refine (HST.out w3 Ay cy HB3.out HY3.out).mono ?_
  rintro e w4 ⟨A1, c1, A3, c3, rfl, h1, h2, hr1, hr2, hb4⟩
  simp only
  have HK4 := Lib.hid (HKA.out.below hb4 HKA.out.lt)
  have hb14 : Below W1.heap.size W1 w4 := HB3.out.trans (hb4.mono HB3.out.size)
  have HKR := Lib.hid (HK1.out.below hb14 HK1.out.lt)
  have HBB : Hid (Below w.heap.size w w4) := Lib.hid (HB1.out.trans (hb14.mono HB1.out.size))
  have HZ : w.heap.size + 1 < w4.heap.size := HKR.out.lt
  have HZ1 : w.heap.size < w4.heap.size := HK4.out.lt
  clear f0 f1 f2
  have f0 : w4.cell? ⟨w.heap.size, 0, none⟩ = some (.slice AL L.length cL) := HK4.out.cell 0
  have f1 : w4.cell? ⟨w.heap.size, 1, none⟩ = some (.slice AT T.length cT) := HK4.out.cell 1
  have f2 : w4.cell? ⟨w.heap.size, 2, none⟩ = some (.int .i64 (q : Int)) := HK4.out.cell 2
  have f3 : w4.cell? ⟨w.heap.size, 3, none⟩ = some (.slice R vs.length c) := HK4.out.cell 3
  have f4 : w4.cell? ⟨w.heap.size, 4, none⟩ = some (.int .i64 (m : Int)) := HK4.out.cell 4
  have r0 := HKR.out.cell 0
  have z0 := HKR.out.frozen 0
  have r1 := HKR.out.cell 1
  have z1 := HKR.out.frozen 1
  have r2 := HKR.out.cell 2
  have z2 := HKR.out.frozen 2
  have r3 := HKR.out.cell 3
  have z3 := HKR.out.frozen 3
  have r4 := HKR.out.cell 4
  have z4 := HKR.out.frozen 4
  have HF := Lib.hid (refopen_fin (b := w.heap.size + 1) (u0 := .slice AL L.length cL) (u1 := .slice AT T.length cT) (u2 := .int .i64 (q : Int)) (u3 := .slice R vs.length c) (u4 := .int .i64 (m : Int)) HKR.out)
  have HLF := Lib.hid ((HTT.out.wide HBB.out (b := w.heap.size + 1) (by omega)).step (ref_touch (F := F) (b := w.heap.size + 1) (u0 := .slice AL L.length cL) (u1 := .slice AT T.length cT) (u2 := .int .i64 (q : Int)) (u3 := .slice R vs.length c) (u4 := .int .i64 (m : Int))) (F' := F) (fun k hk => Or.inl (Or.inl hk)))
  clear h1 h2 hr1 hr2 hb4 hb14
  go_wp2
  obtain ⟨W5, hW5⟩ : ∃ W, ((((w4.setCell ⟨w.heap.size + 1, 0, none⟩ (.slice AL L.length cL)).setCell ⟨w.heap.size + 1, 1, none⟩ (.slice AT T.length cT)).setCell ⟨w.heap.size + 1, 2, none⟩ (.int .i64 (q : Int))).setCell ⟨w.heap.size + 1, 3, none⟩ (.slice R vs.length c)).setCell ⟨w.heap.size + 1, 4, none⟩ (.int .i64 (m : Int)) = W := ⟨_, rfl⟩
  rw [hW5] at HF HLF
  rw [hW5]
  obtain ⟨W9, hW9⟩ : ∃ W, W5.alloc (.cells #[.slice A1 L.length c1, .slice A3 T.length c3, .int .i64 (q : Int)] 29) = W := ⟨_, rfl⟩
  have hb9 : Below W5.heap.size W5 W9 := by rw [← hW9]; exact (Below.refl _ _).alloc (Nat.le_refl _) _
  have HF9 := Lib.hid (HF.out.1.below hb9 HF.out.1.lt)
  have hb9w : Below w.heap.size w W9 := (HF.out.2.2 _ HBB.out (by omega)).trans (hb9.mono (HF.out.2.2 _ HBB.out (by omega)).size)
  rw [hW9]
  have g0 := HF9.out.cell 0
  have g1 := HF9.out.cell 1
  have g2 := HF9.out.cell 2
  have g3 := HF9.out.cell 3
  have g4 := HF9.out.cell 4
  refine bodyPost_ret (v := .tuple #[.agg #[.slice AL L.length cL, .slice AT T.length cT, .int .i64 (q : Int), .slice R vs.length c, .int .i64 (m : Int)], .int .i64 3]) (by simp [results, Tryz.results52, go_sem, g0, g1, g2, g3, g4]) rfl ?_
  exact ⟨rfl, HLF.out.below hb9, hb9w⟩
end Go.Proofs.YtndbggkpobcpjaaGreat
