/- SvN: Something that is done to a server, by the statements' own call (written by tools/gen_svn.py). -/
/- SvM: A server of a statement's own; a message that looks; what the chapter's example fixes (written by tools/gen_svm.py). -/
/- SvMk: What the chapter's example fixes, of a server (written by tools/gen_svm.py). -/
import Derived.Test.YtkdpfjenjcpcfaaGreatDoorSZ3
namespace Go.Proofs.YtkdpfjenjcpcfaaGreatDoor
open Go.RowKit Mem Be Word Frm Go.Maps Rg
set_option maxRecDepth 100000
set_option maxHeartbeats 8000000
set_option linter.unusedVariables false
theorem rowN_off {F : Nat → Prop} {w : World} {B : Nat} {A : Option Addr} {n c s : Nat} {e : TypeId} {xs : List Value} (ho : w.ownsRow B e s (.slice A n c) n xs) (hx : ∀ a, A = some a → ¬ F a.block) : RowN F w A xs := by
  rcases ownRow ho with h | ⟨b, o, rfl, hb, hc⟩
  · exact Or.inl h
  · exact Or.inr ⟨b, o, rfl, hx _ rfl, hb, hc⟩
def fmMV (a : AckP) : MV := ⟨11, 1, a.who, 0, 0, 0, false, (⟨a.k, a.s, a.u, a.o, false, []⟩, none, 0), none, [], 0, none, [], 0, 0, 0⟩
theorem fms_msC (l : List AckP) : msC (l.map fmMV) = fmsC l := by
  unfold msC fmsC
  rw [List.flatMap_map]
  rfl
theorem fm_told (l : List AckP) : (l.map fmMV).map mP = l.map toldM := by
  rw [List.map_map]; rfl
theorem fm_msN {F : Nat → Prop} {w : World} {A : Option Addr} {l : List AckP} (h : RowN F w A (fmsC l)) (hk : ∀ a ∈ l, a.k.length ≤ maxLen) : MsN F w A (l.map fmMV) := by
  refine ⟨by rw [fms_msC]; exact h, fun x hx => ?_⟩
  obtain ⟨a, ha, rfl⟩ := List.mem_map.1 hx
  exact ⟨Or.inl rfl, Nat.zero_le _, hk a ha, Nat.le_refl _, rfl, rfl⟩
/-- The keys of what waits to be acknowledged are short. -/
def KeyS (S : St8) : Prop := ∀ a ∈ S.acks, 0 < a.k.length ∧ a.k.length ≤ 250
theorem keyS_st0 : KeyS st0 := fun a ha => by cases ha
end Go.Proofs.YtkdpfjenjcpcfaaGreatDoor
namespace Go.Proofs.YtkdpfjenjcpcfaaGreatDoor
open Go.RowKit Mem Be Word Frm Go.Maps Rg
set_option maxRecDepth 100000
set_option maxHeartbeats 2000000
set_option linter.unusedVariables false
/-- A server of a statement's own, in blocks that are new since w0. -/
structure Sv1 (w0 w : World) (F : Nat → Prop) (g : Nat) (S : St8) (ps : Ps14) (q : Nat) : Prop where
  new : ∀ k, F k → w0.heap.size ≤ k
  at_ : SvAt w F g S ps q
  bel : Below w0.heap.size w0 w
section
variable {w0 w w1 : World} {F F' G : Nat → Prop} {g g' q q' : Nat} {S S' : St8} {ps ps' : Ps14}
theorem Sv1.below (h : Sv1 w0 w F g S ps q) (hb : Below w.heap.size w w1) : Sv1 w0 w1 F g S ps q := ⟨h.new, h.at_.below hb, h.bel.trans (hb.mono h.bel.size)⟩
theorem Sv1.to (h : Sv1 w0 w F g S ps q) (hf : ∀ k, F' k → F k ∨ w.heap.size ≤ k) (hl : SvAt w1 F' g' S' ps' q') (ht : Touch F w w1) : Sv1 w0 w1 F' g' S' ps' q' :=
  ⟨fun k hk => (by
    rcases hf k hk with h1 | h1
    · exact h.new k h1
    · exact Nat.le_trans h.bel.size h1), hl, h.bel.trans (ht.below h.bel.size h.new)⟩
theorem Sv1.touch (h : Sv1 w0 w F g S ps q) (ht : Touch G w w1) (hd : ∀ k, F k → ¬ G k) (hG : ∀ k, G k → w0.heap.size ≤ k) : Sv1 w0 w1 F g S ps q := ⟨h.new, h.at_.touch ht hd, h.bel.trans (ht.below h.bel.size hG)⟩
theorem Sv1.lt (h : Sv1 w0 w F g S ps q) : g < w.heap.size := by
  obtain ⟨K, FS, hs⟩ := h.at_.stAt
  exact st_glt hs
theorem SvAt.ok (h : SvAt w F g S ps q) : Ok8 S := by
  obtain ⟨K, FS, hs⟩ := h.stAt
  exact hs.ok
theorem SvAt.short (h : SvAt w F g S ps q) : Short S.rs := by
  obtain ⟨K, FS, hs⟩ := h.stAt
  obtain ⟨h0, FL, FS, lm, fm, TL, TF, A, c, h1, h2, hfl, h⟩ := hs
  exact h.lg.short
end
def lkMV (k : List UInt8) : MV := ⟨7, 9, 1, 0, 4, 0, false, (⟨k, 0, 0, 0, false, []⟩, none, 0), none, [], 0, none, [], 0, 0, 0⟩
theorem lkMV_m (k : List UInt8) (hk : k.length ≤ maxLen) (w : World) : MsgM w (lkMV k) := ⟨⟨Row.nil _ _ _, by show (0 : Nat) ≤ _; omega, hk, by show (0 : Nat) ≤ _; omega⟩, ⟨Row.nil _ _ _, by intro x hx; cases hx⟩, by show (0 : Nat) ≤ _; omega, Row.nil _ _ _, by show (0 : Nat) ≤ _; omega⟩
theorem lk_check (k : List UInt8) (h0 : 0 < k.length) (h1 : k.length ≤ 250) : checkM (mP (lkMV k)) = 0 := by
  have hok : okE (⟨k, 0, 0, 0, false, []⟩ : EntP) := by
    unfold okE
    show rightE k.length 0 0 0 0 false = 0
    rw [rightE_check ⟨h0, h1, by omega, Or.inr rfl, by simp⟩]
    rfl
  have h2 : rE (mP (lkMV k)) = true := decide_eq_true hok
  have hm : okM (mP (lkMV k)) = true := by
    unfold okM
    rw [show fldB (hasE (mP (lkMV k)).kind) (rE (mP (lkMV k))) (bE (mP (lkMV k))) = true from h2]
    rfl
  unfold checkM
  rw [if_pos hm]
theorem look14 (k : List UInt8) (w : World) :
    Calls Tryz.prog 21 #[.string ⟨k.toArray⟩] w fun e w' => e = .returned (.agg #[.int .i64 7, .int .i64 9, .int .i64 1, .int .i64 0, .int .i64 4, .int .i64 0, .bool false, .string ⟨k.toArray⟩, .int .i64 0, .int .i64 0, .int .i64 0, .bool false, .slice none 0 0, .slice none 0 0, .slice none 0 0, .int .i64 0, .int .i64 0]) ∧ Below w.heap.size w w' := by
  have HB : Hid (Below w.heap.size w (w.alloc (.cells #[.int .i64 7, .int .i64 9, .int .i64 1, .int .i64 0, .int .i64 4, .int .i64 0, .bool false, .string ⟨k.toArray⟩, .int .i64 0, .int .i64 0, .int .i64 0, .bool false, .slice none 0 0, .slice none 0 0, .slice none 0 0, .int .i64 0, .int .i64 0] 51))) := Lib.hid ((Below.refl _ _).alloc (Nat.le_refl _) _)
  have HK : Hid (Blk (w.alloc (.cells #[.int .i64 7, .int .i64 9, .int .i64 1, .int .i64 0, .int .i64 4, .int .i64 0, .bool false, .string ⟨k.toArray⟩, .int .i64 0, .int .i64 0, .int .i64 0, .bool false, .slice none 0 0, .slice none 0 0, .slice none 0 0, .int .i64 0, .int .i64 0] 51)) w.heap.size 51 #[.int .i64 7, .int .i64 9, .int .i64 1, .int .i64 0, .int .i64 4, .int .i64 0, .bool false, .string ⟨k.toArray⟩, .int .i64 0, .int .i64 0, .int .i64 0, .bool false, .slice none 0 0, .slice none 0 0, .slice none 0 0, .int .i64 0, .int .i64 0]) := Lib.hid (Blk.new w _ _)
  go_enter Tryz.func21, Tryz.ntmps21
  go_wp2
  exact bodyPost_ret (v := .agg #[.int .i64 7, .int .i64 9, .int .i64 1, .int .i64 0, .int .i64 4, .int .i64 0, .bool false, .string ⟨k.toArray⟩, .int .i64 0, .int .i64 0, .int .i64 0, .bool false, .slice none 0 0, .slice none 0 0, .slice none 0 0, .int .i64 0, .int .i64 0]) (results_cell_row (p := 2) (ty := 51) Tryz.results21 _ _ w.heap.size 51 #[.int .i64 7, .int .i64 9, .int .i64 1, .int .i64 0, .int .i64 4, .int .i64 0, .bool false, .string ⟨k.toArray⟩, .int .i64 0, .int .i64 0, .int .i64 0, .bool false, .slice none 0 0, .slice none 0 0, .slice none 0 0, .int .i64 0, .int .i64 0] (0, 0) _ rfl HK.out Tryz.underlying51 rfl (by kernel_rfl)) rfl ⟨rfl, HB.out⟩
/-- What a server tells of a key. -/
theorem svlook_any (F : Nat → Prop) (g q : Nat) (S : St8) (ps : Ps14) (k : List UInt8) (h0 : 0 < k.length) (h1 : k.length ≤ 250) (w : World) (ht : KT w) (h : SvAt w F g S ps q) :
    Calls Tryz.prog 20 #[.pointer (some ⟨g, 0, none⟩), .agg #[.int .i64 7, .int .i64 9, .int .i64 1, .int .i64 0, .int .i64 4, .int .i64 0, .bool false, .string ⟨k.toArray⟩, .int .i64 0, .int .i64 0, .int .i64 0, .bool false, .slice none 0 0, .slice none 0 0, .slice none 0 0, .int .i64 0, .int .i64 0]] w (HandP F g S ps q [foundM S (mP (lkMV k))] S ps w) :=
  svhand_look F g q S ps (lkMV k) rfl (lk_check k h0 h1) rfl w ht h (lkMV_m k (by unfold maxLen; omega) w)
def mk14 : MV := ⟨10, 7, 1, 0, 0, 0, false, (⟨[107], 2, 0, 0, false, []⟩, none, 0), none, [], 0, none, [], 0, 0, 0⟩
theorem mk14_m (w : World) : MsgM w mk14 := ⟨⟨Row.nil _ _ _, by decide, by decide, by decide⟩, ⟨Row.nil _ _ _, by intro x hx; cases hx⟩, by decide, Row.nil _ _ _, by decide⟩
def k14S : St8 := ⟨[(1, putE e2)], 0, [], [e2], [⟨7, [107], 2, 0, 0⟩]⟩
theorem known14_put : putS st0 e2 7 = (k14S, 0) := by
  have h1 : mayP e2 7 := ⟨okE2, by decide, by decide, by decide⟩
  have h2 : 0 < cmpE e2 (ofT st0.N e2.k) := by decide
  have h3 : (allB (st0.rs ++ [(1, putE e2)])).length ≤ 4194304 := by
    have := putE_len okE2
    show (allB [(1, putE e2)]).length ≤ _
    rw [all_one, fr_len]; simp only; omega
  have h4 : writeS st0 e2 = (⟨st0.rs ++ [(1, putE e2)], st0.m, st0.L, putK kE st0.N e2, st0.acks⟩, 0) := if_pos h3
  unfold putS
  rw [if_pos h1, if_pos h2, h4, if_pos rfl]
  rfl
theorem k14_put (F : Nat → Prop) (g q : Nat) (w : World) (ht : KT w) (h : SvAt w F g st0 [] q) :
    Calls Tryz.prog 20 #[.pointer (some ⟨g, 0, none⟩), .agg #[.int .i64 10, .int .i64 7, .int .i64 1, .int .i64 0, .int .i64 0, .int .i64 0, .bool false, .string ⟨#[107]⟩, .int .i64 2, .int .i64 0, .int .i64 0, .bool false, .slice none 0 0, .slice none 0 0, .slice none 0 0, .int .i64 0, .int .i64 0]] w (HandP F g st0 [] q [] k14S [(e2, 7)] w) := by
  have hc : checkM (mP mk14) = 0 := by decide +kernel
  have := svhand_flush F g q st0 [] mk14 rfl hc rfl (by simp [st0]) (by simp) w ht h (mk14_m w) (Or.inl rfl)
  have e1 : (putS st0 mk14.e.1 mk14.fr).1 = k14S := by show (putS st0 e2 7).1 = _; rw [known14_put]
  have e3 : putP st0 [] mk14.e.1 mk14.fr = [(e2, 7)] := by show putP st0 [] e2 7 = _; unfold putP; rw [known14_put]; rfl
  rw [e1, e3] at this
  have e4 : mk14.e.1.k = [107] := rfl
  unfold mk14 at this
  simp only [List.length_nil] at this
  exact this
theorem k14_look (F : Nat → Prop) (g q : Nat) (S : St8) (ps : Ps14) (w : World) (ht : KT w) (h : SvAt w F g S ps q) :
    Calls Tryz.prog 20 #[.pointer (some ⟨g, 0, none⟩), .agg #[.int .i64 7, .int .i64 9, .int .i64 1, .int .i64 0, .int .i64 4, .int .i64 0, .bool false, .string ⟨#[107]⟩, .int .i64 0, .int .i64 0, .int .i64 0, .bool false, .slice none 0 0, .slice none 0 0, .slice none 0 0, .int .i64 0, .int .i64 0]] w (HandP F g S ps q [foundM S (mP (lkMV [107]))] S ps w) := svlook_any F g q S ps [107] (by decide) (by decide) w ht h
/-- A row of one message. -/
theorem msN_one {F : Nat → Prop} {w : World} {A : Option Addr} {us : List MV} {m : MsgP} (h : MsN F w A us) (hu : us.map mP = [m]) :
    us.length = 1 ∧ ∃ b o, A = some ⟨b, o, none⟩ ∧ w.cell? ⟨b, o, none⟩ = some (.int .i64 m.kind) ∧ w.cell? ⟨b, o + 1, none⟩ = some (.int .i64 m.fr) ∧ w.cell? ⟨b, o + 2, none⟩ = some (.int .i64 m.dst) ∧ w.cell? ⟨b, o + 7, none⟩ = some (.string ⟨m.e.k.toArray⟩) ∧ w.cell? ⟨b, o + 8, none⟩ = some (.int .i64 m.e.s) ∧ w.cell? ⟨b, o + 9, none⟩ = some (.int .i64 m.e.u) ∧ w.cell? ⟨b, o + 10, none⟩ = some (.int .i64 m.e.o) := by
  have hl : us.length = 1 := by simpa using congrArg List.length hu
  obtain ⟨u, rfl⟩ := List.length_eq_one_iff.1 hl
  have hm : mP u = m := by simpa using hu
  obtain ⟨b, o, hA, _, hc⟩ := ms_open h.row.row (by simp)
  have hc0 := hc 0 (by simp)
  simp only [Nat.zero_mul, Nat.add_zero, List.getElem_cons_zero] at hc0
  have k0 := hc0 0 (.int .i64 u.kind) rfl
  rw [Nat.add_zero] at k0
  have k1 := hc0 1 (.int .i64 u.fr) rfl
  have k2 := hc0 2 (.int .i64 u.dst) rfl
  have k7 := hc0 7 (.string ⟨u.e.1.k.toArray⟩) rfl
  have k8 := hc0 8 (.int .i64 u.e.1.s) rfl
  have k9 := hc0 9 (.int .i64 u.e.1.u) rfl
  have k10 := hc0 10 (.int .i64 u.e.1.o) rfl
  subst hm
  exact ⟨rfl, b, o, hA, k0, k1, k2, k7, k8, k9, k10⟩
theorem msN_none {F : Nat → Prop} {w : World} {A : Option Addr} {us : List MV} (hu : us.map mP = []) : us = [] := by
  cases us with
  | nil => rfl
  | cons a l => cases hu
def IsT14 (w : World) (e : Ending) (w' : World) : Prop := e = .returned (.bool true) ∧ Below w.heap.size w w'
end Go.Proofs.YtkdpfjenjcpcfaaGreatDoor
namespace Go.Proofs.YtkdpfjenjcpcfaaGreatDoor
open Go.RowKit Mem Be Word Frm Go.Maps Rg
set_option maxRecDepth 100000
set_option maxHeartbeats 2000000
set_option linter.unusedVariables false
theorem known14_any (w : World) (ht : KT w) : Calls Tryz.prog 10 #[] w (IsT14 w) := by
  have HT := Lib.hid ht
  clear ht
  go_enter Tryz.func10, Tryz.ntmps10
  go_wp2_with fail
  refine (newsv_any w).mono ?_
  rintro e w1 ⟨g, F, rfl, hF, hd, hb⟩
  have HL0 := Lib.hid (show Sv1 w w1 F g st0 [] 0 from ⟨hF, hd, hb⟩)
  simp only [id]
  clear hF hd hb
  have HL := Lib.hid (HL0.out.below ((Below.refl _ _).alloc (Nat.le_refl _) (.cells #[.string ⟨#[107]⟩, .int .i64 2, .int .i64 0, .int .i64 0, .bool false, .slice none 0 0] 46)))
  clear HL0
  go_wp2_with fail
  refine (k14_put F g 0 _ (HT.out.below HL.out.bel) HL.out.at_).mono ?_
  rintro e w2 ⟨F2, us, A2, c2, rfl, hu, hn, hf, hs, htt⟩
  have HL2 := Lib.hid (HL.out.to hf hs htt)
  obtain rfl := msN_none (F := F2) (w := w2) (A := A2) hu
  clear hu hn hf hs htt HL
  go_wp2_with fail
  refine (look14 [107] w2).mono ?_
  rintro e w3 ⟨rfl, hb3⟩
  have HL3 := Lib.hid (HL2.out.below hb3)
  clear hb3 HL2
  go_wp2_with fail
  refine (k14_look F2 g 0 k14S _ w3 (HT.out.below HL3.out.bel) HL3.out.at_).mono ?_
  rintro e w4 ⟨F4, ua, A4, c4, rfl, hu, hn, hf, hs, htt⟩
  have HL4 := Lib.hid (HL3.out.to hf hs htt)
  have HUA := Lib.hid hu
  have HNA := Lib.hid (hn.mono fun k hk => Or.inl hk)
  have hl := (msN_one hn hu).1
  rw [hl]
  clear hu hn hf hs htt hl HL3
  go_wp2_with fail
  refine (svtick_any F4 g 0 k14S _ (by omega) (by simp [k14S]) w4 HL4.out.at_).mono ?_
  rintro e w5 ⟨F5, A5, c5, q5, rfl, ho, hA, hf, hq, hs, htt⟩
  have HL5 := Lib.hid (HL4.out.to hf hs htt)
  have HQ5 := Lib.hid hq
  have HNA5 := Lib.hid (HNA.out.to hf htt)
  have HNB : Hid (MsN F5 w5 A5 (k14S.acks.map fmMV)) := Lib.hid (fm_msN (rowN_off ho hA) fun a ha => by
    obtain rfl : a = ⟨7, [107], 2, 0, 0⟩ := by simpa [k14S] using ha
    decide)
  simp only [k14S, List.length_cons, List.length_nil]
  clear ho hA hf hq hs htt HL4 HNA
  go_wp2_with fail
  refine (look14 [107] w5).mono ?_
  rintro e w6 ⟨rfl, hb6⟩
  have HL6 := Lib.hid (HL5.out.below hb6)
  have HNA6 := Lib.hid (HNA5.out.below hb6)
  have HNB6 := Lib.hid (HNB.out.below hb6)
  clear hb6 HL5 HNA5 HNB
  go_wp2_with fail
  refine (k14_look F5 g q5 (tickS k14S) _ w6 (HT.out.below HL6.out.bel) HL6.out.at_).mono ?_
  rintro e w7 ⟨F7, uc, A7, c7, rfl, hu, hn, hf, hs, htt⟩
  have HL7 := Lib.hid (HL6.out.to hf hs htt)
  obtain ⟨hlc, bc, oc, rfl, x0, _, _, _, x8, _, _⟩ := msN_one hn hu
  obtain ⟨_, ba, oa, rfl, _, _, _, _, y8, _, _⟩ := msN_one (HNA6.out.to hf htt) HUA.out
  obtain ⟨_, bb, ob, rfl, z0, _, z2, _, _, _, _⟩ := msN_one (HNB6.out.to hf htt) (m := toldM ⟨7, [107], 2, 0, 0⟩) (by rw [fm_told]; rfl)
  have e1 : (foundM (tickS k14S) (mP (lkMV [107]))).kind = 8 := rfl
  have e2 : (foundM (tickS k14S) (mP (lkMV [107]))).e.s = 2 := by decide +kernel
  have e3 : (foundM k14S (mP (lkMV [107]))).e.s = 0 := by decide +kernel
  have e4 : (toldM ⟨7, [107], 2, 0, 0⟩).kind = 11 := rfl
  have e5 : (toldM ⟨7, [107], 2, 0, 0⟩).dst = 7 := rfl
  rw [e1] at x0
  rw [e2] at x8
  rw [e3] at y8
  rw [e4] at z0
  rw [e5] at z2
  rw [hlc]
  clear hu hn hf hs htt HL6 HNA6 HNB6 e1 e2 e3 e4 e5 hlc HUA
  go_wp2_with fail
  refine (svcompact_nil w7).mono ?_
  rintro e w8 ⟨rfl, rfl⟩
  go_wp2
  go_ret
  exact ⟨rfl, HL7.out.bel⟩
end Go.Proofs.YtkdpfjenjcpcfaaGreatDoor
