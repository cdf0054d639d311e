/- SvP: A server, pure: what a message, a tick, a compaction, a crash make of it; what was put since the last tick, put again, makes the same state. -/
/- Whether values and entries of any length are the same, told by the reference. -/
/- MsSm: Whether rows of entries, and messages, are the same, told by the reference, of any length. -/
/- SvR: Messages in a row of memory; the reference's SameAll of such that are the same. -/
import Derived.Test.YtkdpfjenjcpcfaaGreatDoorSZ1
import Derived.Test.YtkdpfjenjcpcfaaGreatDoorMsP
import Derived.Test.YtkdpfjenjcpcfaaGreatDoorTg
import Derived.Test.YtkdpfjenjcpcfaaGreatDoorMsE
import Derived.Test.YtkdpfjenjcpcfaaGreatDoorMsC
namespace Go.Proofs.YtkdpfjenjcpcfaaGreatDoor
open Go.RowKit Mem Be Word Frm Go.Maps Rg
set_option maxRecDepth 10000
set_option maxHeartbeats 2000000
set_option linter.unusedVariables false
abbrev Ps14 := List (EntP × Int)
/-- What a message makes of a server, and what is sent. -/
def handS (S : St8) (ps : Ps14) (m : MsgP) : St8 × Ps14 := if checkM m = 0 ∧ m.dst = 1 ∧ m.kind = 10 then ((putS S m.e m.fr).1, putP S ps m.e m.fr) else (S, ps)
def foundM (S : St8) (m : MsgP) : MsgP := ⟨8, m.dst, m.fr, m.ep, m.op, 0, false, ofT S.L m.e.k, [], [], 0, 0⟩
def handM (S : St8) (m : MsgP) : List MsgP := if checkM m = 0 ∧ m.dst = 1 ∧ m.kind = 7 then [foundM S m] else []
def toldM (a : AckP) : MsgP := ⟨11, 1, a.who, 0, 0, 0, false, ⟨a.k, a.s, a.u, a.o, false, []⟩, [], [], 0, 0⟩
/-- Something that is done to a server: the server then, what was put since the last tick, what is sent, the error. -/
structure R14 where
  S : St8
  ps : Ps14
  out : List MsgP
  err : Int
def opS (S : St8) (ps : Ps14) (kind : Int) (m : MsgP) (kept : Int) : R14 :=
  if kind = 1 then ⟨(handS S ps m).1, (handS S ps m).2, handM S m, 0⟩
  else if kind = 2 then ⟨tickS S, [], S.acks.map toldM, 0⟩
  else if kind = 3 then ⟨(compS S).1, ps, [], (compS S).2⟩
  else if kept < 0 then ⟨S, ps, [], 2⟩
  else ⟨crash8S S kept.toNat, [], [], 0⟩
theorem crash0 {S : St8} (ok : Ok8 S) (hs : Short S.rs) : crash8S S 0 = ⟨S.rs.take S.m, S.m, S.L, S.L, []⟩ := by
  have hsh : Short (S.rs.take S.m) := fun r hr => hs r (List.mem_of_mem_take hr)
  have e : crashR S 0 = S.rs.take S.m := by
    unfold crashR
    rw [List.take_zero, scan_laid _ hsh]
    show S.rs.take S.m ++ (scanS []).1 = _
    rw [show (scanS []).1 = [] from by decide +kernel, List.append_nil]
  have hl : (S.rs.take S.m).length = S.m := by rw [List.length_take]; exact Nat.min_eq_left ok.le
  unfold crash8S
  rw [e, ok.lasts, hl]
  rfl
def putY (Y : St8 × Ps14) (p : EntP × Int) : St8 × Ps14 := ((putS Y.1 p.1 p.2).1, putP Y.1 Y.2 p.1 p.2)
def redo2 (S : St8) (ps : Ps14) : St8 × Ps14 := ps.foldl putY (S, [])
/-- What was put since the last tick, put again, makes what there is. -/
structure CpI (S : St8) (ps : Ps14) : Prop where
  redo : redo2 (crash8S S 0) ps = (S, ps)
  acks : S.acks = ps.map fun p => ackOf p.1 p.2
  old : ∀ p ∈ ps, mayP p.1 p.2 ∧ GeE (ofT S.N p.1.k) p.1
theorem put_code (S : St8) (e : EntP) (who : Int) : ((putS S e who).2 = 0 ∧ mayP e who ∧ (putS S e who).1.acks = S.acks ++ [ackOf e who] ∧ (putS S e who).1.m = S.m ∧ (putS S e who).1.L = S.L ∧ (∃ more, (putS S e who).1.rs = S.rs ++ more) ∧ GeE (ofT (putS S e who).1.N e.k) e ∧ ∀ k, GeE (ofT (putS S e who).1.N k) (ofT S.N k)) ∨ ((putS S e who).2 ≠ 0 ∧ (putS S e who).1 = S) := by
  unfold putS
  split
  · rename_i hmay
    split
    · rename_i hgt
      split
      · rename_i hw
        unfold writeS at hw ⊢
        split
        · refine Or.inl ⟨rfl, hmay, rfl, rfl, rfl, ⟨_, rfl⟩, ?_, fun k => ?_⟩
          · show GeE (ofT (putK kE S.N e) e.k) e
            rw [ofT_put, if_pos rfl]; exact GeE.refl _
          · show GeE (ofT (putK kE S.N e) k) (ofT S.N k)
            rw [ofT_put]
            split
            · rename_i he
              subst he
              exact geE_of hgt
            · exact GeE.refl _
        · rename_i h0
          rw [if_neg h0] at hw
          exact absurd hw (show ¬ ((3 : Int) = 0) by decide)
      · rename_i hw
        exact Or.inr ⟨hw, rfl⟩
    · rename_i hgt
      exact Or.inl ⟨rfl, hmay, rfl, rfl, rfl, ⟨[], by simp [pushS]⟩, (by
        have := (cmpE_le e (ofT S.N e.k)).1 (by omega)
        show GeE (ofT S.N e.k) e
        unfold GeE; omega), fun k => GeE.refl _⟩
  · exact Or.inr ⟨show ((2 : Int)) ≠ 0 by decide, rfl⟩
theorem put_old {S : St8} {e : EntP} {who : Int} (hm : mayP e who) (h : GeE (ofT S.N e.k) e) : putS S e who = (pushS S (ackOf e who), 0) := by
  unfold putS
  rw [if_pos hm, if_neg]
  have := GeE.le h
  omega
theorem cp_put {S : St8} {ps : Ps14} {e : EntP} {who : Int} (h : CpI S ps) (ok : Ok8 S) (hs : Short S.rs) (ok' : Ok8 (putS S e who).1) (hs' : Short (putS S e who).1.rs) : CpI (putS S e who).1 (putP S ps e who) := by
  rcases put_code S e who with ⟨h0, hmay, ha, hm, hL, ⟨more, hr⟩, hg, hN⟩ | ⟨h0, hS⟩
  · have hps : putP S ps e who = ps ++ [(e, who)] := if_pos h0
    have hc : crash8S (putS S e who).1 0 = crash8S S 0 := by
      rw [crash0 ok hs, crash0 ok' hs', hm, hL, hr, List.take_append_of_le_length ok.le]
    refine ⟨?_, ?_, fun p hp => ?_⟩
    · rw [hps, hc]
      unfold redo2
      rw [List.foldl_append]
      have := h.redo
      unfold redo2 at this
      rw [this]
      show putY (S, ps) (e, who) = _
      unfold putY
      rw [← hps]
    · rw [hps, ha, h.acks, List.map_append]; rfl
    · rw [hps] at hp
      rcases List.mem_append.1 hp with hp | hp
      · exact ⟨(h.old p hp).1, (hN _).trans (h.old p hp).2⟩
      · obtain rfl : p = (e, who) := by simpa using hp
        exact ⟨hmay, hg⟩
  · have hps : putP S ps e who = ps := if_neg h0
    rw [hS, hps]; exact h
theorem cp_tick {S : St8} (ok : Ok8 S) (hs : Short S.rs) : CpI (tickS S) [] := by
  refine ⟨?_, rfl, fun p hp => by cases hp⟩
  show (crash8S (tickS S) 0, []) = (tickS S, [])
  rw [crash0 (ok8_tick ok) hs]
  show ((⟨S.rs.take S.rs.length, S.rs.length, S.N, S.N, []⟩ : St8), ([] : Ps14)) = _
  rw [List.take_length]; rfl
theorem cp_crash {S : St8} (k : Nat) (ok : Ok8 (crash8S S k)) (hs : Short (crash8S S k).rs) : CpI (crash8S S k) [] := by
  refine ⟨?_, rfl, fun p hp => by cases hp⟩
  show (crash8S (crash8S S k) 0, []) = (crash8S S k, [])
  rw [crash0 ok hs]
  show ((⟨(crashR S k).take (crashR S k).length, (crashR S k).length, (recS (crashR S k)).getD [], (recS (crashR S k)).getD [], []⟩ : St8), ([] : Ps14)) = _
  rw [List.take_length]; rfl
theorem redo_old : ∀ (ps : Ps14) (X : St8) (l : Ps14), (∀ p ∈ ps, mayP p.1 p.2 ∧ GeE (ofT X.N p.1.k) p.1) → ps.foldl putY (X, l) = (⟨X.rs, X.m, X.L, X.N, X.acks ++ ps.map fun p => ackOf p.1 p.2⟩, l ++ ps)
  | [], X, l, _ => by simp
  | p :: ps, X, l, h => by
    have h1 := h p (by simp)
    have e := put_old (who := p.2) h1.1 h1.2
    have e2 : putY (X, l) p = (pushS X (ackOf p.1 p.2), l ++ [p]) := by
      unfold putY putP
      rw [e, if_pos rfl]
    rw [List.foldl_cons, e2, redo_old ps (pushS X (ackOf p.1 p.2)) (l ++ [p]) (fun q hq => h q (by simp [hq]))]
    simp [pushS]
theorem cp_comp {S : St8} {ps : Ps14} (h : CpI S ps) (ok' : Ok8 (compS S).1) (hs' : Short (compS S).1.rs) : CpI (compS S).1 ps := by
  unfold compS at ok' hs' ⊢
  split
  · exact h
  · rename_i hlt
    rw [if_neg hlt] at ok' hs'
    have hc := crash0 ok' hs'
    refine ⟨?_, h.acks, h.old⟩
    unfold redo2
    rw [hc]
    have e3 := redo_old ps ⟨[(0, rowsT S.N)], 1, S.N, S.N, []⟩ [] h.old
    show List.foldl putY (⟨[(0, rowsT S.N)], 1, S.N, S.N, []⟩, []) ps = _
    rw [e3, ← h.acks]
    simp
theorem cp_new : CpI st0 [] := by
  refine ⟨?_, rfl, fun p hp => by cases hp⟩
  have e : crashR st0 0 = [] := by
    unfold crashR
    show (scanS []).1 = []
    decide +kernel
  have e2 : crash8S st0 0 = st0 := by
    unfold crash8S
    rw [e]; rfl
  show (crash8S st0 0, []) = (st0, [])
  rw [e2]
theorem put_acks_le (S : St8) (e : EntP) (who : Int) : (putS S e who).1.acks.length ≤ S.acks.length + 1 := by
  rcases put_code S e who with ⟨_, _, ha, _⟩ | ⟨_, hS⟩
  · rw [ha]; simp
  · rw [hS]; omega
theorem putP_le (S : St8) (ps : Ps14) (e : EntP) (who : Int) : (putP S ps e who).length ≤ ps.length + 1 := by
  unfold putP
  split <;> simp
theorem opS_le (S : St8) (ps : Ps14) (kind : Int) (m : MsgP) (kept : Int) : (opS S ps kind m kept).S.acks.length ≤ S.acks.length + 1 ∧ (opS S ps kind m kept).ps.length ≤ ps.length + 1 := by
  unfold opS
  split
  · unfold handS
    split
    · exact ⟨put_acks_le _ _ _, putP_le _ _ _ _⟩
    · exact ⟨Nat.le_succ _, Nat.le_succ _⟩
  split
  · exact ⟨Nat.zero_le _, Nat.zero_le _⟩
  split
  · refine ⟨?_, Nat.le_succ _⟩
    show (compS S).1.acks.length ≤ _
    unfold compS
    split <;> exact Nat.le_succ _
  split
  · exact ⟨Nat.le_succ _, Nat.le_succ _⟩
  · exact ⟨Nat.zero_le _, Nat.zero_le _⟩
theorem opS_cp {S : St8} {ps : Ps14} {kind kept : Int} {m : MsgP} (h : CpI S ps) (ok : Ok8 S) (hs : Short S.rs) (ok' : Ok8 (opS S ps kind m kept).S) (hs' : Short (opS S ps kind m kept).S.rs) : CpI (opS S ps kind m kept).S (opS S ps kind m kept).ps := by
  unfold opS at ok' hs' ⊢
  split
  · rename_i h1
    rw [if_pos h1] at ok' hs'
    unfold handS at ok' hs' ⊢
    split
    · rename_i h2
      rw [if_pos h2] at ok' hs'
      exact cp_put h ok hs ok' hs'
    · exact h
  · rename_i h1
    rw [if_neg h1] at ok' hs'
    split
    · exact cp_tick ok hs
    · rename_i h2
      rw [if_neg h2] at ok' hs'
      split
      · rename_i h3
        rw [if_pos h3] at ok' hs'
        exact cp_comp h ok' hs'
      · rename_i h3
        rw [if_neg h3] at ok' hs'
        split
        · exact h
        · rename_i h4
          rw [if_neg h4] at ok' hs'
          exact cp_crash _ ok' hs'
end Go.Proofs.YtkdpfjenjcpcfaaGreatDoor
namespace Go.Proofs.YtkdpfjenjcpcfaaGreatDoor
open Go.RowKit Mem Be
set_option maxRecDepth 100000
set_option maxHeartbeats 4000000
set_option linter.unusedVariables false
structure ValB (w : World) (A : Option Addr) (xs : List UInt8) (c : Nat) : Prop where
  row : Row w w.heap.size A (xs.map byteV)
  len : (xs.length : Int) ≤ 9223372036854775807
theorem ValB.below {w w' : World} {A : Option Addr} {xs : List UInt8} {c : Nat} (h : ValB w A xs c) (hb : Below w.heap.size w w') : ValB w' A xs c := ⟨(h.row.below hb).more hb.size, h.len⟩
end Go.Proofs.YtkdpfjenjcpcfaaGreatDoor
namespace Go.Proofs.YtkdpfjenjcpcfaaGreatDoor
open Go.RowKit Mem Be Rg
set_option maxRecDepth 100000
set_option maxHeartbeats 8000000
set_option linter.unusedVariables false
end Go.Proofs.YtkdpfjenjcpcfaaGreatDoor
namespace Go.Proofs.YtkdpfjenjcpcfaaGreatDoor
open Go.RowKit Go.ChangeShapes Mem Be Rg
set_option maxRecDepth 100000
set_option maxHeartbeats 4000000
set_option linter.unusedVariables false
def mL (x : MV) : List Value := [.int .i64 x.kind, .int .i64 x.fr, .int .i64 x.dst, .int .i64 x.ep, .int .i64 x.op, .int .i64 x.n, .bool x.flag, .string ⟨x.e.1.k.toArray⟩, .int .i64 x.e.1.s, .int .i64 x.e.1.u, .int .i64 x.e.1.o, .bool x.e.1.has, .slice x.e.2.1 x.e.1.v.length x.e.2.2, .slice x.lA x.l.length x.lc, .slice x.rA x.ns.length x.rc, .int .i64 x.each, .int .i64 x.keep]
abbrev msC (us : List MV) : List Value := us.flatMap mL
theorem mL_one (x : MV) : ∀ u ∈ mL x, u.oneCell' = true := by
  intro u hu
  simp only [mL, List.mem_cons, List.not_mem_nil, or_false] at hu
  rcases hu with rfl | rfl | rfl | rfl | rfl | rfl | rfl | rfl | rfl | rfl | rfl | rfl | rfl | rfl | rfl | rfl | rfl <;> rfl
theorem msC_one (l : List MV) : ∀ u ∈ msC l, u.oneCell' = true := by
  intro u hu
  obtain ⟨x, _, hx⟩ := List.mem_flatMap.1 hu
  exact mL_one x u hx
theorem msC_len (rs : List MV) : (msC rs).length = rs.length * 17 := by
  induction rs with
  | nil => rfl
  | cons p rs ih => simp only [msC, List.flatMap_cons, List.length_append, mL, List.length_cons, List.length_nil]; have := ih; unfold msC at this; omega
theorem msC_at (rs : List MV) (i : Nat) (h : i < rs.length) (j : Nat) (hj : j < 17) : (msC rs)[i * 17 + j]? = (mL rs[i])[j]? := by
  induction rs generalizing i with
  | nil => simp at h
  | cons p rs ih =>
    have hc : msC (p :: rs) = mL p ++ msC rs := rfl
    rw [hc]
    have hl : (mL p).length = 17 := rfl
    rcases i with _ | i
    · rw [List.getElem?_append_left (by omega), Nat.zero_mul, Nat.zero_add]; rfl
    · rw [List.getElem?_append_right (by omega), hl, show (i + 1) * 17 + j - 17 = i * 17 + j by omega, ih i (by simpa using h)]
      rfl
theorem ms_open {w : World} {B : Nat} {A : Option Addr} {rs : List MV} (h : Row w B A (msC rs)) (hn : 0 < rs.length) :
    ∃ b o, A = some ⟨b, o, none⟩ ∧ b < B ∧ ∀ i (hi : i < rs.length), ∀ j v, (mL rs[i])[j]? = some v → w.cell? ⟨b, o + i * 17 + j, none⟩ = some v := by
  obtain ⟨b, o, hA, hb, hc⟩ := h.open_ (by rw [msC_len]; omega)
  refine ⟨b, o, hA, hb, fun i hi j v hv => ?_⟩
  have hj : j < 17 := (List.getElem?_eq_some_iff.1 hv).1
  have hlt : i * 17 + j < (msC rs).length := by rw [msC_len]; omega
  rw [show o + i * 17 + j = o + (i * 17 + j) by omega, hc (i * 17 + j) hlt, ← hv, ← msC_at rs i hi j hj, List.getElem?_eq_getElem hlt]
/-- Messages in a row. -/
structure MsR (w : World) (A : Option Addr) (us : List MV) : Prop where
  row : Row w w.heap.size A (msC us)
  val : ∀ x ∈ us, MsgM w x
theorem MsR.below {w w' : World} {A : Option Addr} {us : List MV} (h : MsR w A us) (hb : Below w.heap.size w w') : MsR w' A us := ⟨(h.row.below hb).more hb.size, fun x hx => (h.val x hx).below hb⟩
/-- Messages that lie in a row, apart from F; without rows of their own but their values. -/
structure MsN (F : Nat → Prop) (w : World) (A : Option Addr) (us : List MV) : Prop where
  row : RowN F w A (msC us)
  val : ∀ x ∈ us, RowN F w x.e.2.1 (x.e.1.v.map byteV) ∧ x.e.1.v.length ≤ maxLen ∧ x.e.1.k.length ≤ maxLen ∧ x.e.1.v.length ≤ x.e.2.2 ∧ x.l = [] ∧ x.ns = []
theorem MsN.msR {F : Nat → Prop} {w : World} {A : Option Addr} {us : List MV} (h : MsN F w A us) : MsR w A us := ⟨h.row.row, fun x hx => by
  obtain ⟨h1, h2, h3, h4, h5, h6⟩ := h.val x hx
  refine ⟨⟨h1.row, h2, h3, h4⟩, ⟨?_, ?_⟩, ?_, ?_, ?_⟩
  · rw [h5]; exact Row.nil _ _ _
  · rw [h5]; intro y hy; cases hy
  · rw [h5]; exact Nat.zero_le _
  · rw [h6]; exact Row.nil _ _ _
  · rw [h6]; exact Nat.zero_le _⟩
theorem MsN.to {F F' : Nat → Prop} {w w' : World} {A : Option Addr} {us : List MV} (h : MsN F w A us) (hf : ∀ k, F' k → F k ∨ w.heap.size ≤ k) (ht : Touch F w w') : MsN F' w' A us :=
  ⟨h.row.grow hf ht, fun x hx => ⟨(h.val x hx).1.grow hf ht, (h.val x hx).2⟩⟩
theorem MsN.below {F : Nat → Prop} {w w' : World} {A : Option Addr} {us : List MV} (h : MsN F w A us) (hb : Below w.heap.size w w') : MsN F w' A us := h.to (fun k hk => Or.inl hk) (Touch.ofBelow hb)
theorem msN_nil (F : Nat → Prop) (w : World) (A : Option Addr) : MsN F w A [] := ⟨Or.inl rfl, fun x hx => by cases hx⟩
end Go.Proofs.YtkdpfjenjcpcfaaGreatDoor
