/- SvP: A server, pure: what a message, a tick, a compaction, a crash make of it; what was put since the last tick, put again, makes the same state. -/
/- Whether values and entries of any length are the same, told by the reference. -/
/- MsSm: Whether rows of entries, and messages, are the same, told by the reference, of any length. -/
/- SvR: Messages in a row of memory; the reference's SameAll of such that are the same. -/
import Derived.Test.YtkdpfjenjcpcfaaGreatDoorSZ1
import Derived.Test.YtkdpfjenjcpcfaaGreatDoorMsP
import Derived.Test.YtkdpfjenjcpcfaaGreatDoorTg
import Derived.Test.YtkdpfjenjcpcfaaGreatDoorMsE
import Derived.Test.YtkdpfjenjcpcfaaGreatDoorMsC
namespace Go.Proofs.YtkdpfjenjcpcfaaGreatDoor
open Go.RowKit Mem Be Word Frm Go.Maps Rg
set_option maxRecDepth 10000
set_option maxHeartbeats 2000000
set_option linter.unusedVariables false
abbrev Ps14 := List (EntP × Int)
/-- What a message makes of a server, and what is sent. -/
def handS (S : St8) (ps : Ps14) (m : MsgP) : St8 × Ps14 := if checkM m = 0 ∧ m.dst = 1 ∧ m.kind = 10 then ((putS S m.e m.fr).1, putP S ps m.e m.fr) else (S, ps)
def foundM (S : St8) (m : MsgP) : MsgP := ⟨8, m.dst, m.fr, m.ep, m.op, 0, false, ofT S.L m.e.k, [], [], 0, 0⟩
def handM (S : St8) (m : MsgP) : List MsgP := if checkM m = 0 ∧ m.dst = 1 ∧ m.kind = 7 then [foundM S m] else []
def toldM (a : AckP) : MsgP := ⟨11, 1, a.who, 0, 0, 0, false, ⟨a.k, a.s, a.u, a.o, false, []⟩, [], [], 0, 0⟩
/-- Something that is done to a server: the server then, what was put since the last tick, what is sent, the error. -/
structure R14 where
  S : St8
  ps : Ps14
  out : List MsgP
  err : Int
def opS (S : St8) (ps : Ps14) (kind : Int) (m : MsgP) (kept : Int) : R14 :=
  if kind = 1 then ⟨(handS S ps m).1, (handS S ps m).2, handM S m, 0⟩
  else if kind = 2 then ⟨tickS S, [], S.acks.map toldM, 0⟩
  else if kind = 3 then ⟨(compS S).1, ps, [], (compS S).2⟩
  else if kept < 0 then ⟨S, ps, [], 2⟩
  else ⟨crash8S S kept.toNat, [], [], 0⟩
theorem crash0 {S : St8} (ok : Ok8 S) (hs : Short S.rs) : crash8S S 0 = ⟨S.rs.take S.m, S.m, S.L, S.L, []⟩ := by
  have hsh : Short (S.rs.take S.m) := fun r hr => hs r (List.mem_of_mem_take hr)
  have e : crashR S 0 = S.rs.take S.m := by
    unfold crashR
    rw [List.take_zero, scan_laid _ hsh]
    show S.rs.take S.m ++ (scanS []).1 = _
    rw [show (scanS []).1 = [] from by decide +kernel, List.append_nil]
  have hl : (S.rs.take S.m).length = S.m := by rw [List.length_take]; exact Nat.min_eq_left ok.le
  unfold crash8S
  rw [e, ok.lasts, hl]
  rfl
def putY (Y : St8 × Ps14) (p : EntP × Int) : St8 × Ps14 := ((putS Y.1 p.1 p.2).1, putP Y.1 Y.2 p.1 p.2)
def redo2 (S : St8) (ps : Ps14) : St8 × Ps14 := ps.foldl putY (S, [])
/-- What was put since the last tick, put again, makes what there is. -/
structure CpI (S : St8) (ps : Ps14) : Prop where
  redo : redo2 (crash8S S 0) ps = (S, ps)
  acks : S.acks = ps.map fun p => ackOf p.1 p.2
  old : ∀ p ∈ ps, mayP p.1 p.2 ∧ GeE (ofT S.N p.1.k) p.1
theorem put_code (S : St8) (e : EntP) (who : Int) : ((putS S e who).2 = 0 ∧ mayP e who ∧ (putS S e who).1.acks = S.acks ++ [ackOf e who] ∧ (putS S e who).1.m = S.m ∧ (putS S e who).1.L = S.L ∧ (∃ more, (putS S e who).1.rs = S.rs ++ more) ∧ GeE (ofT (putS S e who).1.N e.k) e ∧ ∀ k, GeE (ofT (putS S e who).1.N k) (ofT S.N k)) ∨ ((putS S e who).2 ≠ 0 ∧ (putS S e who).1 = S) := by
  unfold putS
  split
  · rename_i hmay
    split
    · rename_i hgt
      split
      · rename_i hw
        unfold writeS at hw ⊢
        split
        · refine Or.inl ⟨rfl, hmay, rfl, rfl, rfl, ⟨_, rfl⟩, ?_, fun k => ?_⟩
          · show GeE (ofT (putK kE S.N e) e.k) e
            rw [ofT_put, if_pos rfl]; exact GeE.refl _
          · show GeE (ofT (putK kE S.N e) k) (ofT S.N k)
            rw [ofT_put]
            split
            · rename_i he
              subst he
              exact geE_of hgt
            · exact GeE.refl _
        · rename_i h0
          rw [if_neg h0] at hw
          exact absurd hw (show ¬ ((3 : Int) = 0) by decide)
      · rename_i hw
        exact Or.inr ⟨hw, rfl⟩
    · rename_i hgt
      exact Or.inl ⟨rfl, hmay, rfl, rfl, rfl, ⟨[], by simp [pushS]⟩, (by
        have := (cmpE_le e (ofT S.N e.k)).1 (by omega)
        show GeE (ofT S.N e.k) e
        unfold GeE; omega), fun k => GeE.refl _⟩
  · exact Or.inr ⟨show ((2 : Int)) ≠ 0 by decide, rfl⟩
theorem put_old {S : St8} {e : EntP} {who : Int} (hm : mayP e who) (h : GeE (ofT S.N e.k) e) : putS S e who = (pushS S (ackOf e who), 0) := by
  unfold putS
  rw [if_pos hm, if_neg]
  have := GeE.le h
  omega
theorem cp_put {S : St8} {ps : Ps14} {e : EntP} {who : Int} (h : CpI S ps) (ok : Ok8 S) (hs : Short S.rs) (ok' : Ok8 (putS S e who).1) (hs' : Short (putS S e who).1.rs) : CpI (putS S e who).1 (putP S ps e who) := by
  rcases put_code S e who with ⟨h0, hmay, ha, hm, hL, ⟨more, hr⟩, hg, hN⟩ | ⟨h0, hS⟩
  · have hps : putP S ps e who = ps ++ [(e, who)] := if_pos h0
    have hc : crash8S (putS S e who).1 0 = crash8S S 0 := by
      rw [crash0 ok hs, crash0 ok' hs', hm, hL, hr, List.take_append_of_le_length ok.le]
    refine ⟨?_, ?_, fun p hp => ?_⟩
    · rw [hps, hc]
      unfold redo2
      rw [List.foldl_append]
      have := h.redo
      unfold redo2 at this
      rw [this]
      show putY (S, ps) (e, who) = _
      unfold putY
      rw [← hps]
    · rw [hps, ha, h.acks, List.map_append]; rfl
    · rw [hps] at hp
      rcases List.mem_append.1 hp with hp | hp
      · exact ⟨(h.old p hp).1, (hN _).trans (h.old p hp).2⟩
      · obtain rfl : p = (e, who) := by simpa using hp
        exact ⟨hmay, hg⟩
  · have hps : putP S ps e who = ps := if_neg h0
    rw [hS, hps]; exact h
theorem cp_tick {S : St8} (ok : Ok8 S) (hs : Short S.rs) : CpI (tickS S) [] := by
  refine ⟨?_, rfl, fun p hp => by cases hp⟩
  show (crash8S (tickS S) 0, []) = (tickS S, [])
  rw [crash0 (ok8_tick ok) hs]
  show ((⟨S.rs.take S.rs.length, S.rs.length, S.N, S.N, []⟩ : St8), ([] : Ps14)) = _
  rw [List.take_length]; rfl
theorem cp_crash {S : St8} (k : Nat) (ok : Ok8 (crash8S S k)) (hs : Short (crash8S S k).rs) : CpI (crash8S S k) [] := by
  refine ⟨?_, rfl, fun p hp => by cases hp⟩
  show (crash8S (crash8S S k) 0, []) = (crash8S S k, [])
  rw [crash0 ok hs]
  show ((⟨(crashR S k).take (crashR S k).length, (crashR S k).length, (recS (crashR S k)).getD [], (recS (crashR S k)).getD [], []⟩ : St8), ([] : Ps14)) = _
  rw [List.take_length]; rfl
theorem redo_old : ∀ (ps : Ps14) (X : St8) (l : Ps14), (∀ p ∈ ps, mayP p.1 p.2 ∧ GeE (ofT X.N p.1.k) p.1) → ps.foldl putY (X, l) = (⟨X.rs, X.m, X.L, X.N, X.acks ++ ps.map fun p => ackOf p.1 p.2⟩, l ++ ps)
  | [], X, l, _ => by simp
  | p :: ps, X, l, h => by
    have h1 := h p (by simp)
    have e := put_old (who := p.2) h1.1 h1.2
    have e2 : putY (X, l) p = (pushS X (ackOf p.1 p.2), l ++ [p]) := by
      unfold putY putP
      rw [e, if_pos rfl]
    rw [List.foldl_cons, e2, redo_old ps (pushS X (ackOf p.1 p.2)) (l ++ [p]) (fun q hq => h q (by simp [hq]))]
    simp [pushS]
theorem cp_comp {S : St8} {ps : Ps14} (h : CpI S ps) (ok' : Ok8 (compS S).1) (hs' : Short (compS S).1.rs) : CpI (compS S).1 ps := by
  unfold compS at ok' hs' ⊢
  split
  · exact h
  · rename_i hlt
    rw [if_neg hlt] at ok' hs'
    have hc := crash0 ok' hs'
    refine ⟨?_, h.acks, h.old⟩
    unfold redo2
    rw [hc]
    have e3 := redo_old ps ⟨[(0, rowsT S.N)], 1, S.N, S.N, []⟩ [] h.old
    show List.foldl putY (⟨[(0, rowsT S.N)], 1, S.N, S.N, []⟩, []) ps = _
    rw [e3, ← h.acks]
    simp
theorem cp_new : CpI st0 [] := by
  refine ⟨?_, rfl, fun p hp => by cases hp⟩
  have e : crashR st0 0 = [] := by
    unfold crashR
    show (scanS []).1 = []
    decide +kernel
  have e2 : crash8S st0 0 = st0 := by
    unfold crash8S
    rw [e]; rfl
  show (crash8S st0 0, []) = (st0, [])
  rw [e2]
theorem redo_len : ∀ (ps : Ps14) (X : St8) (l : Ps14), (ps.foldl putY (X, l)).1.acks.length ≤ X.acks.length + ps.length ∧ (ps.foldl putY (X, l)).2.length ≤ l.length + ps.length
  | [], X, l => ⟨Nat.le_refl _, Nat.le_refl _⟩
  | p :: ps, X, l => by
    have ha : (putY (X, l) p).1.acks.length ≤ X.acks.length + 1 := by
      show (putS X p.1 p.2).1.acks.length ≤ _
      rcases put_code X p.1 p.2 with ⟨_, _, ha, _⟩ | ⟨_, hS⟩
      · rw [ha]; simp
      · rw [hS]; omega
    have hp : (putY (X, l) p).2.length ≤ l.length + 1 := by
      show (putP X l p.1 p.2).length ≤ _
      unfold putP
      split <;> simp
    obtain ⟨⟨Z, z⟩, hz⟩ : ∃ Q, putY (X, l) p = Q := ⟨_, rfl⟩
    rw [hz] at ha hp
    have h := redo_len ps Z z
    simp only at ha hp
    rw [List.foldl_cons, List.length_cons, hz]
    exact ⟨by omega, by omega⟩
theorem put_acks_le (S : St8) (e : EntP) (who : Int) : (putS S e who).1.acks.length ≤ S.acks.length + 1 := by
  rcases put_code S e who with ⟨_, _, ha, _⟩ | ⟨_, hS⟩
  · rw [ha]; simp
  · rw [hS]; omega
theorem putP_le (S : St8) (ps : Ps14) (e : EntP) (who : Int) : (putP S ps e who).length ≤ ps.length + 1 := by
  unfold putP
  split <;> simp
theorem opS_le (S : St8) (ps : Ps14) (kind : Int) (m : MsgP) (kept : Int) : (opS S ps kind m kept).S.acks.length ≤ S.acks.length + 1 ∧ (opS S ps kind m kept).ps.length ≤ ps.length + 1 := by
  unfold opS
  split
  · unfold handS
    split
    · exact ⟨put_acks_le _ _ _, putP_le _ _ _ _⟩
    · exact ⟨Nat.le_succ _, Nat.le_succ _⟩
  split
  · exact ⟨Nat.zero_le _, Nat.zero_le _⟩
  split
  · refine ⟨?_, Nat.le_succ _⟩
    show (compS S).1.acks.length ≤ _
    unfold compS
    split <;> exact Nat.le_succ _
  split
  · exact ⟨Nat.le_succ _, Nat.le_succ _⟩
  · exact ⟨Nat.zero_le _, Nat.zero_le _⟩
theorem opS_cp {S : St8} {ps : Ps14} {kind kept : Int} {m : MsgP} (h : CpI S ps) (ok : Ok8 S) (hs : Short S.rs) (ok' : Ok8 (opS S ps kind m kept).S) (hs' : Short (opS S ps kind m kept).S.rs) : CpI (opS S ps kind m kept).S (opS S ps kind m kept).ps := by
  unfold opS at ok' hs' ⊢
  split
  · rename_i h1
    rw [if_pos h1] at ok' hs'
    unfold handS at ok' hs' ⊢
    split
    · rename_i h2
      rw [if_pos h2] at ok' hs'
      exact cp_put h ok hs ok' hs'
    · exact h
  · rename_i h1
    rw [if_neg h1] at ok' hs'
    split
    · exact cp_tick ok hs
    · rename_i h2
      rw [if_neg h2] at ok' hs'
      split
      · rename_i h3
        rw [if_pos h3] at ok' hs'
        exact cp_comp h ok' hs'
      · rename_i h3
        rw [if_neg h3] at ok' hs'
        split
        · exact h
        · rename_i h4
          rw [if_neg h4] at ok' hs'
          exact cp_crash _ ok' hs'
end Go.Proofs.YtkdpfjenjcpcfaaGreatDoor
namespace Go.Proofs.YtkdpfjenjcpcfaaGreatDoor
open Go.RowKit Mem Be
set_option maxRecDepth 100000
set_option maxHeartbeats 4000000
set_option linter.unusedVariables false
structure ValB (w : World) (A : Option Addr) (xs : List UInt8) (c : Nat) : Prop where
  row : Row w w.heap.size A (xs.map byteV)
  len : (xs.length : Int) ≤ 9223372036854775807
theorem ValB.below {w w' : World} {A : Option Addr} {xs : List UInt8} {c : Nat} (h : ValB w A xs c) (hb : Below w.heap.size w w') : ValB w' A xs c := ⟨(h.row.below hb).more hb.size, h.len⟩
theorem refsameval_big (h1 h2 : Bool) (A A' : Option Addr) (xs ys : List UInt8) (c c' n n' : Nat) (hn : n = xs.length) (hn' : n' = ys.length) (w : World) (h : ValB w A xs c) (h' : ValB w A' ys c') :
    Calls Tryz.prog 43 #[valV h1 A n c, valV h2 A' n' c'] w (IsB (sameV h1 h2 xs ys) w) := by
  have hl := h.len
  have hl' := h'.len
  have HB : Hid (Below w.heap.size w ((w.alloc (.cells #[.bool h1, .slice A n c] 44)).alloc (.cells #[.bool h2, .slice A' n' c'] 44))) := Lib.hid (((Below.refl _ _).alloc (Nat.le_refl _) _).alloc (by simp) _)
  have HR := Lib.hid (h.row.below HB.out)
  have HR' := Lib.hid (h'.row.below HB.out)
  clear h h'
  have hnl : (n : Int) ≤ 9223372036854775807 := by omega
  have HN := Lib.hid hn
  have HN' := Lib.hid hn'
  clear hn hn' hl hl'
  cases h1 <;> cases h2
  · go_enter Tryz.func43, Tryz.ntmps43
    go_wp2
    go_ret
    exact isB_of rfl HB.out
  · go_enter Tryz.func43, Tryz.ntmps43
    go_wp2
    go_ret
    exact isB_of rfl HB.out
  · go_enter Tryz.func43, Tryz.ntmps43
    go_wp2
    go_ret
    exact isB_of rfl HB.out
  · by_cases hlen : n = n'
    · subst hlen
      go_enter Tryz.func43, Tryz.ntmps43
      go_wp2
      go_loopw [5] (fun i wr => ∃ k : Nat, k ≤ n ∧ i = .int .i64 k ∧ Hid (xs.take k = ys.take k) ∧ Hid (∃ q, wr = ((w.alloc (.cells #[.bool true, .slice A n c] 44)).alloc (.cells #[.bool true, .slice A' n c'] 44)).drewN q)) (fun i _ => n - (intOf i).toNat)
      case atStart => exact ⟨0, by omega, rfl, Lib.hid (by simp), Lib.hid ⟨0, rfl⟩⟩
      case round =>
        obtain ⟨k, hk, rfl, HT, HQ⟩ := hrel
        have HW : Hid (Below w.heap.size w wr) := Lib.hid (by obtain ⟨q, rfl⟩ := HQ.out; exact HB.out.trans ⟨rfl, rfl, rfl, Nat.le_refl _, fun _ _ => rfl⟩)
        have c0 : wr.cell? ⟨w.heap.size, 1, none⟩ = some (.slice A n c) := by obtain ⟨q, rfl⟩ := HQ.out; go_simp
        have c1 : wr.cell? ⟨w.heap.size + 1, 1, none⟩ = some (.slice A' n c') := by obtain ⟨q, rfl⟩ := HQ.out; go_simp
        by_cases hlt : k < n
        · have hk1 : k < xs.length := by rw [← HN.out]; exact hlt
          have hk2 : k < ys.length := by rw [← HN'.out]; exact hlt
          have hrx : Row wr w.heap.size A (xs.map byteV) := by obtain ⟨q, rfl⟩ := HQ.out; exact HR.out.drewN q
          have hry : Row wr w.heap.size A' (ys.map byteV) := by obtain ⟨q, rfl⟩ := HQ.out; exact HR'.out.drewN q
          obtain ⟨b, o, rfl, _, hc⟩ := hrx.open_ (by simp; omega)
          obtain ⟨b', o', rfl, _, hc'⟩ := hry.open_ (by simp; omega)
          have hcell : wr.cell? ⟨b, o + k, none⟩ = some (.int .u8 (xs[k].toNat : Int)) := (hc k (by simpa using hk1)).trans (congrArg some (by rw [List.getElem_map]; rfl))
          have hcell' : wr.cell? ⟨b', o' + k, none⟩ = some (.int .u8 (ys[k].toNat : Int)) := (hc' k (by simpa using hk2)).trans (congrArg some (by rw [List.getElem_map]; rfl))
          have hki : (0 : Int) ≤ (k : Int) := by omega
          have hki2 : (k : Int) < (n : Int) := by omega
          clear hc hc' hrx hry
          obtain ⟨p, hp⟩ : ∃ p : Int, (xs[k].toNat : Int) = p := ⟨_, rfl⟩
          obtain ⟨q, hq⟩ : ∃ q : Int, (ys[k].toNat : Int) = q := ⟨_, rfl⟩
          rw [hp] at hcell
          rw [hq] at hcell'
          have HP := Lib.hid hp
          have HQ2 := Lib.hid hq
          clear hp hq
          by_cases heq : p = q
          · subst heq
            have HT2 : Hid (xs.take (k + 1) = ys.take (k + 1)) := Lib.hid (take_next hk1 hk2 HT.out (by rw [HP.out, HQ2.out]))
            have hb : (p != p) = false := by simp
            go_wp2
            go_quiet (fail)
            go_wp2
            go_roundw
            case rel => exact ⟨k + 1, by omega, by go_num, HT2, Lib.hid (by obtain ⟨q, rfl⟩ := HQ.out; exact ⟨_, by rw [World.drewN_drewN]⟩)⟩
            case measure => simp [intOf]; omega
          · have hb : (p != q) = true := by simpa using heq
            have HV : Hid (sameV true true xs ys = false) := Lib.hid (sameV_at k hk1 hk2 (by rw [HP.out, HQ2.out]; exact heq))
            clear heq
            go_wp2
            go_quiet (fail)
            go_wp2
            go_ret
            exact isB_of HV.out.symm (HW.out.trans ⟨rfl, rfl, rfl, Nat.le_refl _, fun _ _ => rfl⟩)
        · obtain rfl : k = n := by omega
          have HV : Hid (sameV true true xs ys = true) := Lib.hid (by
            have := HT.out
            rw [List.take_of_length_le (by rw [← HN.out]; omega), List.take_of_length_le (by rw [← HN'.out]; omega)] at this
            rw [this]; simp [sameV])
          go_wp2
          go_ret
          exact isB_of HV.out.symm HW.out
    · have HV : Hid (sameV true true xs ys = false) := Lib.hid (sameV_len (by rw [← HN.out, ← HN'.out]; exact hlen))
      have hb : (n != n') = true := by simpa using hlen
      have hb' : ((n : Int) != (n' : Int)) = true := by simp; omega
      clear hlen
      go_enter Tryz.func43, Tryz.ntmps43
      go_wp2
      go_ret
      exact isB_of HV.out.symm HB.out
theorem refsame_big (k1 k2 : ByteArray) (s u o s' u' o' : Int) (h1 h2 : Bool) (A A' : Option Addr) (xs ys : List UInt8) (c c' n n' : Nat) (hn : n = xs.length) (hn' : n' = ys.length) (w : World) (h : ValB w A xs c) (h' : ValB w A' ys c') :
    Calls Tryz.prog 16 #[entV k1 s u o h1 A n c, entV k2 s' u' o' h2 A' n' c'] w (IsB (sameE k1 k2 s u o s' u' o' h1 h2 xs ys) w) := by
  have HB : Hid (Below w.heap.size w ((w.alloc (entO k1 s u o h1 A n c)).alloc (entO k2 s' u' o' h2 A' n' c'))) := Lib.hid (((Below.refl _ _).alloc (Nat.le_refl _) _).alloc (by simp) _)
  have HR := Lib.hid (h.below HB.out)
  have HR' := Lib.hid (h'.below HB.out)
  have HN := Lib.hid hn
  have HN' := Lib.hid hn'
  clear h h' hn hn'
  by_cases hk : k1 = k2
  · subst hk
    have HV1 : Hid (sameE k1 k1 s u o s' u' o' h1 h2 xs ys = (eqT s u o s' u' o' && sameV h1 h2 xs ys)) := Lib.hid (by unfold sameE; simp)
    have hq := run_eqT s u o s' u' o'
    cases he : eqT s u o s' u' o'
    · rw [he] at hq
      have HV : Hid (sameE k1 k1 s u o s' u' o' h1 h2 xs ys = false) := Lib.hid (by rw [HV1.out, he]; rfl)
      clear he
      go_enter Tryz.func16, Tryz.ntmps16
      go_wp2
      go_ret
      exact isB_of HV.out.symm HB.out
    · rw [he] at hq
      have HV : Hid (sameE k1 k1 s u o s' u' o' h1 h2 xs ys = sameV h1 h2 xs ys) := Lib.hid (by rw [HV1.out, he]; rfl)
      clear he
      go_enter Tryz.func16, Tryz.ntmps16
      go_wp2_with (go_at_call 43; refine (refsameval_big _ _ _ _ xs ys _ _ _ _ HN.out HN'.out _ HR.out HR'.out).mono ?_; rintro e w2 ⟨rfl, hb⟩; have HB2 := Lib.hid (HB.out.trans (hb.mono HB.out.size)); clear hb)
      go_ret
      exact isB_of HV.out.symm HB2.out
  · have hb2 : (k1.toList == k2.toList) = false := list_ne hk
    have HV : Hid (sameE k1 k2 s u o s' u' o' h1 h2 xs ys = false) := Lib.hid (by unfold sameE; rw [decide_eq_false hk]; rfl)
    clear hk
    go_enter Tryz.func16, Tryz.ntmps16
    go_wp2
    go_ret
    exact isB_of HV.out.symm HB.out
end Go.Proofs.YtkdpfjenjcpcfaaGreatDoor
namespace Go.Proofs.YtkdpfjenjcpcfaaGreatDoor
open Go.RowKit Mem Be Rg
set_option maxRecDepth 100000
set_option maxHeartbeats 8000000
set_option linter.unusedVariables false
def sEB (a b : EntP) : Bool := sameE ⟨a.k.toArray⟩ ⟨b.k.toArray⟩ a.s a.u a.o b.s b.u b.o a.has b.has a.v b.v
def sAllB : List EntP → List EntP → Bool
  | [], [] => true
  | a :: r, b :: q => sEB a b && sAllB r q
  | _, _ => false
theorem sAllB_len : ∀ {l m : List EntP}, sAllB l m = true → l.length = m.length
  | [], [], _ => rfl
  | a :: r, b :: q, h => by
    unfold sAllB at h
    simp only [Bool.and_eq_true] at h
    simp [sAllB_len h.2]
  | [], b :: q, h => by cases h
  | a :: r, [], h => by cases h
theorem sAllB_at : ∀ {l m : List EntP} (k : Nat) (h1 : k < l.length) (h2 : k < m.length), sAllB l m = true → sEB l[k] m[k] = true
  | a :: r, b :: q, 0, _, _, h => by
    unfold sAllB at h
    simp only [Bool.and_eq_true] at h
    exact h.1
  | a :: r, b :: q, k + 1, h1, h2, h => by
    unfold sAllB at h
    simp only [Bool.and_eq_true] at h
    exact sAllB_at k (by simpa using h1) (by simpa using h2) h.2
  | [], _, k, h1, _, _ => absurd h1 (Nat.not_lt_zero _)
  | a :: r, [], k, _, h2, _ => absurd h2 (Nat.not_lt_zero _)
theorem sAllB_of : ∀ {l m : List EntP}, l.length = m.length → (∀ (k : Nat) (h1 : k < l.length) (h2 : k < m.length), sEB l[k] m[k] = true) → sAllB l m = true
  | [], [], _, _ => rfl
  | a :: r, b :: q, hl, h => by
    unfold sAllB
    rw [Bool.and_eq_true]
    exact ⟨h 0 (by simp) (by simp), sAllB_of (by simpa using hl) fun k h1 h2 => h (k + 1) (by simpa using h1) (by simpa using h2)⟩
  | [], b :: q, hl, _ => by simp at hl
  | a :: r, [], hl, _ => by simp at hl
theorem bytesArr {a b : List UInt8} : ((⟨a.toArray⟩ : ByteArray) = ⟨b.toArray⟩) ↔ a = b := Mem.bytes_eq a b
theorem sEB_iff {a b : EntP} : sEB a b = true ↔ a.k = b.k ∧ a.s = b.s ∧ a.u = b.u ∧ a.o = b.o ∧ a.has = b.has ∧ (a.has = true → a.v = b.v) := by
  unfold sEB sameE eqT sameV
  simp only [Bool.and_eq_true, decide_eq_true_eq, bytesArr, beq_iff_eq, Bool.or_eq_true, Bool.not_eq_true']
  constructor
  · rintro ⟨h1, ⟨⟨h2, h3⟩, h4⟩, h5, h6⟩
    exact ⟨h1, h2, h3, h4, h5, fun h => by rcases h6 with h6 | h6; (rw [h] at h6; cases h6); exact h6⟩
  · rintro ⟨h1, h2, h3, h4, h5, h6⟩
    refine ⟨h1, ⟨⟨h2, h3⟩, h4⟩, h5, ?_⟩
    cases h : a.has
    · exact Or.inl rfl
    · exact Or.inr (h6 h)
theorem sEB_refl (a : EntP) : sEB a a = true := sEB_iff.2 ⟨rfl, rfl, rfl, rfl, rfl, fun _ => rfl⟩
theorem sAllB_refl (l : List EntP) : sAllB l l = true := sAllB_of rfl fun k _ _ => sEB_refl _
theorem refsameall_big (n c m c' : Nat) (A A' : Option Addr) (us vs : List EV) (hn : n = us.length) (hm : m = vs.length) (hl : n ≤ maxLen) (hl' : m ≤ maxLen) (w : World) (h : EntsB w A us) (h' : EntsB w A' vs) :
    Calls Tryz.prog 25 #[.slice A n c, .slice A' m c'] w (IsB (sAllB (us.map Prod.fst) (vs.map Prod.fst)) w) := by
  unfold maxLen at hl hl'
  obtain ⟨R, hR⟩ : ∃ R, sAllB (us.map Prod.fst) (vs.map Prod.fst) = R := ⟨_, rfl⟩
  rw [hR]
  have HV := Lib.hid hR
  have HN := Lib.hid hn
  have HM := Lib.hid hm
  have HU := Lib.hid h
  have HVV := Lib.hid h'
  have hni0 : (0 : Int) ≤ (n : Int) := by omega
  have hni1 : (n : Int) ≤ 9223372036854775807 := by omega
  have hmi1 : (m : Int) ≤ 9223372036854775807 := by omega
  clear h h' hR hl hl'
  by_cases hnm : n = m
  · subst hnm
    clear hn hm
    go_enter Tryz.func25, Tryz.ntmps25
    go_wp2
    go_loopw [5] (fun i wr => ∃ k : Nat, k ≤ n ∧ i = .int .i64 k ∧ Hid (Below w.heap.size w wr) ∧ Hid (∀ j (h1 : j < us.length) (h2 : j < vs.length), j < k → sEB us[j].1 vs[j].1 = true)) (fun i _ => n - (intOf i).toNat)
    case atStart => exact ⟨0, by omega, rfl, Lib.hid (Below.refl _ _), Lib.hid fun j _ _ h => absurd h (Nat.not_lt_zero _)⟩
    case round =>
      obtain ⟨k, hk, rfl, HB, HS⟩ := hrel
      by_cases hlt : k < n
      · have hk1 : k < us.length := by rw [← HN.out]; exact hlt
        have hk2 : k < vs.length := by rw [← HM.out]; exact hlt
        obtain ⟨b, o, rfl, hb, hc⟩ := ents_open (HU.out.below HB.out).row (by omega)
        obtain ⟨b', o', rfl, hb', hc'⟩ := ents_open (HVV.out.below HB.out).row (by omega)
        obtain ⟨a0, a1, a2, a3, a4, a5⟩ := hc k hk1
        obtain ⟨b0, b1, b2, b3, b4, b5⟩ := hc' k hk2
        have v1 := (HU.out.below HB.out).val us[k] (List.getElem_mem hk1)
        have v2 := (HVV.out.below HB.out).val vs[k] (List.getElem_mem hk2)
        obtain ⟨q, hq⟩ : ∃ q, sEB (us[k]'hk1).1 (vs[k]'hk2).1 = q := ⟨_, rfl⟩
        have HQ : Hid ((q = true → ∀ j (h1 : j < us.length) (h2 : j < vs.length), j < k + 1 → sEB us[j].1 vs[j].1 = true) ∧ (q = false → R = false)) := Lib.hid ⟨fun hq' j h1 h2 hj => by
          by_cases hjk : j = k
          · subst hjk; exact hq.trans hq'
          · exact HS.out j h1 h2 (by omega), fun hq' => by
          rw [← HV.out]
          cases hs : sAllB (us.map Prod.fst) (vs.map Prod.fst)
          · rfl
          · have := sAllB_at k (by simpa using hk1) (by simpa using hk2) hs
            simp only [List.getElem_map] at this
            rw [hq, hq'] at this; cases this⟩
        obtain ⟨⟨x, A1, c1⟩, hx⟩ : ∃ p, us[k]'hk1 = p := ⟨_, rfl⟩
        obtain ⟨⟨y, A2, c2⟩, hy⟩ : ∃ p, vs[k]'hk2 = p := ⟨_, rfl⟩
        rw [hx] at a0 a1 a2 a3 a4 a5 v1 hq
        rw [hy] at b0 b1 b2 b3 b4 b5 v2 hq
        simp only at a0 a1 a2 a3 a4 a5 b0 b1 b2 b3 b4 b5 v1 v2 hq
        have HC := Lib.hid (fun p : Later wr => refsame_big ⟨x.k.toArray⟩ ⟨y.k.toArray⟩ x.s x.u x.o y.s y.u y.o x.has y.has A1 A2 x.v y.v c1 c2 x.v.length y.v.length rfl rfl p.world ⟨(v1.below p.bel).row, v1.leni⟩ ⟨(v2.below p.bel).row, v2.leni⟩)
        unfold sEB at hq
        rw [hq] at HC
        have l0 := later_cell a0
        have l1 := later_cell a1
        have l2 := later_cell a2
        have l3 := later_cell a3
        have l4 := later_cell a4
        have l5 := later_cell a5
        have m0 := later_cell b0
        have m1 := later_cell b1
        have m2 := later_cell b2
        have m3 := later_cell b3
        have m4 := later_cell b4
        have m5 := later_cell b5
        have hki : (0 : Int) ≤ (k : Int) := by omega
        have hki2 : (k : Int) < (n : Int) := by omega
        clear hc hc' a0 a1 a2 a3 a4 a5 b0 b1 b2 b3 b4 b5 hx hy v1 v2 hq HS
        cases q
        · have HR : Hid (R = false) := Lib.hid (HQ.out.2 rfl)
          clear HQ
          go_wp2_with fail
          refine wp_region_later (by kernel_rfl) (by kernel_rfl) ?_
          repeat (go_big_quiet_step (first
            | (go_at_call 16; exact later_of (HC.out _))))
          refine wpQuiet_nil ?_
          intro w' hw'
          obtain ⟨p, rfl⟩ := hw'
          go_wp2
          go_ret
          exact isB_of HR.out.symm (HB.out.trans (p.bel.mono HB.out.size))
        · have HS := Lib.hid (HQ.out.1 rfl)
          clear HQ
          go_wp2_with fail
          refine wp_region_later (by kernel_rfl) (by kernel_rfl) ?_
          repeat (go_big_quiet_step (first
            | (go_at_call 16; exact later_of (HC.out _))))
          refine wpQuiet_nil ?_
          intro w' hw'
          obtain ⟨p, rfl⟩ := hw'
          go_wp2
          go_roundw
          case rel => exact ⟨k + 1, by omega, by go_num, Lib.hid (HB.out.trans (p.bel.mono HB.out.size)), HS⟩
          case measure => simp [intOf]; omega
      · obtain rfl : k = n := by omega
        have HR : Hid (R = true) := Lib.hid (by
          rw [← HV.out]
          have e1 := HN.out
          have e2 := HM.out
          exact sAllB_of (by simp; omega) fun j h1 h2 => by
            simp only [List.getElem_map]
            exact HS.out j (by simpa using h1) (by simpa using h2) (by simp at h1; omega))
        go_wp2
        go_ret
        exact isB_of HR.out.symm HB.out
  · have HR : Hid (R = false) := Lib.hid (by
      rw [← HV.out]
      cases hs : sAllB (us.map Prod.fst) (vs.map Prod.fst)
      · rfl
      · have := sAllB_len hs
        simp at this
        exact absurd (by omega) hnm)
    have hb : ((n : Int) == (m : Int)) = false := by rw [beq_eq_false_iff_ne]; omega
    have hb2 : ((n : Int) != (m : Int)) = true := by rw [bne_iff_ne]; omega
    clear hn hm
    go_enter Tryz.func25, Tryz.ntmps25
    go_wp2
    go_ret
    exact isB_of HR.out.symm (Below.refl _ _)
def sameM (a b : MsgP) : Bool := (a.kind == b.kind && (a.fr == b.fr && (a.dst == b.dst && (a.ep == b.ep && (a.op == b.op && (a.n == b.n && a.flag == b.flag)))))) && (sEB a.e b.e && (sAllB a.l b.l && decide (a.ns = b.ns ∧ a.each = b.each ∧ a.keep = b.keep)))
theorem sameM_refl (a : MsgP) : sameM a a = true := by
  unfold sameM
  rw [sEB_refl, sAllB_refl]
  simp
theorem sameM_no {a b : MsgP} (h : ¬ (a.kind = b.kind ∧ a.fr = b.fr ∧ a.dst = b.dst ∧ a.ep = b.ep ∧ a.op = b.op ∧ a.n = b.n ∧ a.flag = b.flag)) : sameM a b = false := by
  cases hs : sameM a b
  · rfl
  · unfold sameM at hs
    simp only [Bool.and_eq_true, beq_iff_eq] at hs
    exact absurd ⟨hs.1.1, hs.1.2.1, hs.1.2.2.1, hs.1.2.2.2.1, hs.1.2.2.2.2.1, hs.1.2.2.2.2.2.1, hs.1.2.2.2.2.2.2⟩ h
theorem sameM_yes {a b : MsgP} (h : a.kind = b.kind ∧ a.fr = b.fr ∧ a.dst = b.dst ∧ a.ep = b.ep ∧ a.op = b.op ∧ a.n = b.n ∧ a.flag = b.flag) : sameM a b = (sEB a.e b.e && (sAllB a.l b.l && decide (a.ns = b.ns ∧ a.each = b.each ∧ a.keep = b.keep))) := by
  obtain ⟨h1, h2, h3, h4, h5, h6, h7⟩ := h
  unfold sameM
  rw [h1, h2, h3, h4, h5, h6, h7]
  simp
theorem refsame12 (x y : MV) (w : World) (h : MsgM w x) (h' : MsgM w y) : Calls Tryz.prog 40 #[.agg #[.int .i64 x.kind, .int .i64 x.fr, .int .i64 x.dst, .int .i64 x.ep, .int .i64 x.op, .int .i64 x.n, .bool x.flag, .string ⟨x.e.1.k.toArray⟩, .int .i64 x.e.1.s, .int .i64 x.e.1.u, .int .i64 x.e.1.o, .bool x.e.1.has, .slice x.e.2.1 x.e.1.v.length x.e.2.2, .slice x.lA x.l.length x.lc, .slice x.rA x.ns.length x.rc, .int .i64 x.each, .int .i64 x.keep], .agg #[.int .i64 y.kind, .int .i64 y.fr, .int .i64 y.dst, .int .i64 y.ep, .int .i64 y.op, .int .i64 y.n, .bool y.flag, .string ⟨y.e.1.k.toArray⟩, .int .i64 y.e.1.s, .int .i64 y.e.1.u, .int .i64 y.e.1.o, .bool y.e.1.has, .slice y.e.2.1 y.e.1.v.length y.e.2.2, .slice y.lA y.l.length y.lc, .slice y.rA y.ns.length y.rc, .int .i64 y.each, .int .i64 y.keep]] w (IsB (sameM (mP x) (mP y)) w) := by
  have hb : Below w.heap.size w ((w.alloc (.cells #[.int .i64 x.kind, .int .i64 x.fr, .int .i64 x.dst, .int .i64 x.ep, .int .i64 x.op, .int .i64 x.n, .bool x.flag, .string ⟨x.e.1.k.toArray⟩, .int .i64 x.e.1.s, .int .i64 x.e.1.u, .int .i64 x.e.1.o, .bool x.e.1.has, .slice x.e.2.1 x.e.1.v.length x.e.2.2, .slice x.lA x.l.length x.lc, .slice x.rA x.ns.length x.rc, .int .i64 x.each, .int .i64 x.keep] 51)).alloc (.cells #[.int .i64 y.kind, .int .i64 y.fr, .int .i64 y.dst, .int .i64 y.ep, .int .i64 y.op, .int .i64 y.n, .bool y.flag, .string ⟨y.e.1.k.toArray⟩, .int .i64 y.e.1.s, .int .i64 y.e.1.u, .int .i64 y.e.1.o, .bool y.e.1.has, .slice y.e.2.1 y.e.1.v.length y.e.2.2, .slice y.lA y.l.length y.lc, .slice y.rA y.ns.length y.rc, .int .i64 y.each, .int .i64 y.keep] 51)) := ((Below.refl _ _).alloc (Nat.le_refl _) _).alloc (by simp) _
  have HX := Lib.hid ((Blk.new w 51 #[.int .i64 x.kind, .int .i64 x.fr, .int .i64 x.dst, .int .i64 x.ep, .int .i64 x.op, .int .i64 x.n, .bool x.flag, .string ⟨x.e.1.k.toArray⟩, .int .i64 x.e.1.s, .int .i64 x.e.1.u, .int .i64 x.e.1.o, .bool x.e.1.has, .slice x.e.2.1 x.e.1.v.length x.e.2.2, .slice x.lA x.l.length x.lc, .slice x.rA x.ns.length x.rc, .int .i64 x.each, .int .i64 x.keep]).alloc (.cells #[.int .i64 y.kind, .int .i64 y.fr, .int .i64 y.dst, .int .i64 y.ep, .int .i64 y.op, .int .i64 y.n, .bool y.flag, .string ⟨y.e.1.k.toArray⟩, .int .i64 y.e.1.s, .int .i64 y.e.1.u, .int .i64 y.e.1.o, .bool y.e.1.has, .slice y.e.2.1 y.e.1.v.length y.e.2.2, .slice y.lA y.l.length y.lc, .slice y.rA y.ns.length y.rc, .int .i64 y.each, .int .i64 y.keep] 51))
  have HY : Hid (Blk ((w.alloc (.cells #[.int .i64 x.kind, .int .i64 x.fr, .int .i64 x.dst, .int .i64 x.ep, .int .i64 x.op, .int .i64 x.n, .bool x.flag, .string ⟨x.e.1.k.toArray⟩, .int .i64 x.e.1.s, .int .i64 x.e.1.u, .int .i64 x.e.1.o, .bool x.e.1.has, .slice x.e.2.1 x.e.1.v.length x.e.2.2, .slice x.lA x.l.length x.lc, .slice x.rA x.ns.length x.rc, .int .i64 x.each, .int .i64 x.keep] 51)).alloc (.cells #[.int .i64 y.kind, .int .i64 y.fr, .int .i64 y.dst, .int .i64 y.ep, .int .i64 y.op, .int .i64 y.n, .bool y.flag, .string ⟨y.e.1.k.toArray⟩, .int .i64 y.e.1.s, .int .i64 y.e.1.u, .int .i64 y.e.1.o, .bool y.e.1.has, .slice y.e.2.1 y.e.1.v.length y.e.2.2, .slice y.lA y.l.length y.lc, .slice y.rA y.ns.length y.rc, .int .i64 y.each, .int .i64 y.keep] 51)) (w.heap.size + 1) 51 #[.int .i64 y.kind, .int .i64 y.fr, .int .i64 y.dst, .int .i64 y.ep, .int .i64 y.op, .int .i64 y.n, .bool y.flag, .string ⟨y.e.1.k.toArray⟩, .int .i64 y.e.1.s, .int .i64 y.e.1.u, .int .i64 y.e.1.o, .bool y.e.1.has, .slice y.e.2.1 y.e.1.v.length y.e.2.2, .slice y.lA y.l.length y.lc, .slice y.rA y.ns.length y.rc, .int .i64 y.each, .int .i64 y.keep]) := Lib.hid (blk_at (by simp) (Blk.new _ _ _))
  have HM1 := Lib.hid (h.below hb)
  have HM2 := Lib.hid (h'.below hb)
  have HB := Lib.hid hb
  have HSN := Lib.hid (@sameM_no (mP x) (mP y))
  have HSY := Lib.hid (@sameM_yes (mP x) (mP y))
  obtain ⟨R, hR⟩ : ∃ R, sameM (mP x) (mP y) = R := ⟨_, rfl⟩
  rw [hR] at HSN HSY ⊢
  obtain ⟨qe, hqe⟩ : ∃ q, sEB (mP x).e (mP y).e = q := ⟨_, rfl⟩
  obtain ⟨ql, hql⟩ : ∃ q, sAllB (mP x).l (mP y).l = q := ⟨_, rfl⟩
  obtain ⟨qr, hqr⟩ : ∃ q, decide ((mP x).ns = (mP y).ns ∧ (mP x).each = (mP y).each ∧ (mP x).keep = (mP y).keep) = q := ⟨_, rfl⟩
  rw [hqe, hql, hqr] at HSY
  obtain ⟨W, hW⟩ : ∃ W, (w.alloc (.cells #[.int .i64 x.kind, .int .i64 x.fr, .int .i64 x.dst, .int .i64 x.ep, .int .i64 x.op, .int .i64 x.n, .bool x.flag, .string ⟨x.e.1.k.toArray⟩, .int .i64 x.e.1.s, .int .i64 x.e.1.u, .int .i64 x.e.1.o, .bool x.e.1.has, .slice x.e.2.1 x.e.1.v.length x.e.2.2, .slice x.lA x.l.length x.lc, .slice x.rA x.ns.length x.rc, .int .i64 x.each, .int .i64 x.keep] 51)).alloc (.cells #[.int .i64 y.kind, .int .i64 y.fr, .int .i64 y.dst, .int .i64 y.ep, .int .i64 y.op, .int .i64 y.n, .bool y.flag, .string ⟨y.e.1.k.toArray⟩, .int .i64 y.e.1.s, .int .i64 y.e.1.u, .int .i64 y.e.1.o, .bool y.e.1.has, .slice y.e.2.1 y.e.1.v.length y.e.2.2, .slice y.lA y.l.length y.lc, .slice y.rA y.ns.length y.rc, .int .i64 y.each, .int .i64 y.keep] 51) = W := ⟨_, rfl⟩
  rw [hW] at HX HY HM1 HM2 HB
  have HE : Hid (∀ W', Below W.heap.size W W' → Calls Tryz.prog 16 #[entV ⟨x.e.1.k.toArray⟩ x.e.1.s x.e.1.u x.e.1.o x.e.1.has x.e.2.1 x.e.1.v.length x.e.2.2, entV ⟨y.e.1.k.toArray⟩ y.e.1.s y.e.1.u y.e.1.o y.e.1.has y.e.2.1 y.e.1.v.length y.e.2.2] W' (IsB qe W')) := Lib.hid fun W' hb' => by
    have v1 := HM1.out.ev.below hb'
    have v2 := HM2.out.ev.below hb'
    have := refsame_big ⟨x.e.1.k.toArray⟩ ⟨y.e.1.k.toArray⟩ x.e.1.s x.e.1.u x.e.1.o y.e.1.s y.e.1.u y.e.1.o x.e.1.has y.e.1.has x.e.2.1 y.e.2.1 x.e.1.v y.e.1.v x.e.2.2 y.e.2.2 _ _ rfl rfl W' ⟨v1.row, v1.leni⟩ ⟨v2.row, v2.leni⟩
    rw [← hqe]; exact this
  have HL : Hid (∀ W', Below W.heap.size W W' → Calls Tryz.prog 25 #[.slice x.lA x.l.length x.lc, .slice y.lA y.l.length y.lc] W' (IsB ql W')) := Lib.hid fun W' hb' => by
    have := refsameall_big x.l.length x.lc y.l.length y.lc x.lA y.lA x.l y.l rfl rfl HM1.out.ln HM2.out.ln W' (HM1.out.en.below hb') (HM2.out.en.below hb')
    rw [← hql]; exact this
  have HRG : Hid (∀ W', Below W.heap.size W W' → Calls Tryz.prog 49 #[.agg #[.slice x.rA x.ns.length x.rc, .int .i64 x.each, .int .i64 x.keep], .agg #[.slice y.rA y.ns.length y.rc, .int .i64 y.each, .int .i64 y.keep]] W' (IsB qr W')) := Lib.hid fun W' hb' => by
    have := refringsame_gen x.rA y.rA x.ns.length y.ns.length x.rc y.rc x.ns y.ns x.each x.keep y.each y.keep rfl rfl HM1.out.rl HM2.out.rl W' ((HM1.out.rn.below hb').more hb'.size) ((HM2.out.rn.below hb').more hb'.size)
    rw [← hqr]; exact this
  have a0 : W.cell? ⟨w.heap.size, 0, none⟩ = some (.int .i64 x.kind) := HX.out.cell 0
  have b0 : W.cell? ⟨w.heap.size + 1, 0, none⟩ = some (.int .i64 y.kind) := HY.out.cell 0
  have a1 : W.cell? ⟨w.heap.size, 1, none⟩ = some (.int .i64 x.fr) := HX.out.cell 1
  have b1 : W.cell? ⟨w.heap.size + 1, 1, none⟩ = some (.int .i64 y.fr) := HY.out.cell 1
  have a2 : W.cell? ⟨w.heap.size, 2, none⟩ = some (.int .i64 x.dst) := HX.out.cell 2
  have b2 : W.cell? ⟨w.heap.size + 1, 2, none⟩ = some (.int .i64 y.dst) := HY.out.cell 2
  have a3 : W.cell? ⟨w.heap.size, 3, none⟩ = some (.int .i64 x.ep) := HX.out.cell 3
  have b3 : W.cell? ⟨w.heap.size + 1, 3, none⟩ = some (.int .i64 y.ep) := HY.out.cell 3
  have a4 : W.cell? ⟨w.heap.size, 4, none⟩ = some (.int .i64 x.op) := HX.out.cell 4
  have b4 : W.cell? ⟨w.heap.size + 1, 4, none⟩ = some (.int .i64 y.op) := HY.out.cell 4
  have a5 : W.cell? ⟨w.heap.size, 5, none⟩ = some (.int .i64 x.n) := HX.out.cell 5
  have b5 : W.cell? ⟨w.heap.size + 1, 5, none⟩ = some (.int .i64 y.n) := HY.out.cell 5
  have a6 : W.cell? ⟨w.heap.size, 6, none⟩ = some (.bool x.flag) := HX.out.cell 6
  have b6 : W.cell? ⟨w.heap.size + 1, 6, none⟩ = some (.bool y.flag) := HY.out.cell 6
  clear h h' hb hR hqe hql hqr HM1 HM2
  by_cases hh : ¬ x.kind = y.kind
  · have n1 : (x.kind == y.kind) = false := by simpa using hh
    have n2 : (x.kind != y.kind) = true := by simpa using hh
    have HR : Hid (R = false) := Lib.hid (HSN.out fun h => hh h.1)
    as_aux_lemma =>
    clear HSN HSY HE HL HRG HX HY
    go_enter Tryz.func40, Tryz.ntmps40
    go_wp2
    go_ret
    exact isB_of HR.out.symm HB.out
  have h0 : Hid (x.kind = y.kind) := Lib.hid (Decidable.not_not.1 hh)
  clear hh
  rw [← h0.out] at b0
  by_cases hh : ¬ x.fr = y.fr
  · have n1 : (x.fr == y.fr) = false := by simpa using hh
    have n2 : (x.fr != y.fr) = true := by simpa using hh
    have HR : Hid (R = false) := Lib.hid (HSN.out fun h => hh h.2.1)
    as_aux_lemma =>
    clear HSN HSY HE HL HRG HX HY
    go_enter Tryz.func40, Tryz.ntmps40
    go_wp2
    go_ret
    exact isB_of HR.out.symm HB.out
  have h1 : Hid (x.fr = y.fr) := Lib.hid (Decidable.not_not.1 hh)
  clear hh
  rw [← h1.out] at b1
  by_cases hh : ¬ x.dst = y.dst
  · have n1 : (x.dst == y.dst) = false := by simpa using hh
    have n2 : (x.dst != y.dst) = true := by simpa using hh
    have HR : Hid (R = false) := Lib.hid (HSN.out fun h => hh h.2.2.1)
    as_aux_lemma =>
    clear HSN HSY HE HL HRG HX HY
    go_enter Tryz.func40, Tryz.ntmps40
    go_wp2
    go_ret
    exact isB_of HR.out.symm HB.out
  have h2 : Hid (x.dst = y.dst) := Lib.hid (Decidable.not_not.1 hh)
  clear hh
  rw [← h2.out] at b2
  by_cases hh : ¬ x.ep = y.ep
  · have n1 : (x.ep == y.ep) = false := by simpa using hh
    have n2 : (x.ep != y.ep) = true := by simpa using hh
    have HR : Hid (R = false) := Lib.hid (HSN.out fun h => hh h.2.2.2.1)
    as_aux_lemma =>
    clear HSN HSY HE HL HRG HX HY
    go_enter Tryz.func40, Tryz.ntmps40
    go_wp2
    go_ret
    exact isB_of HR.out.symm HB.out
  have h3 : Hid (x.ep = y.ep) := Lib.hid (Decidable.not_not.1 hh)
  clear hh
  rw [← h3.out] at b3
  by_cases hh : ¬ x.op = y.op
  · have n1 : (x.op == y.op) = false := by simpa using hh
    have n2 : (x.op != y.op) = true := by simpa using hh
    have HR : Hid (R = false) := Lib.hid (HSN.out fun h => hh h.2.2.2.2.1)
    as_aux_lemma =>
    clear HSN HSY HE HL HRG HX HY
    go_enter Tryz.func40, Tryz.ntmps40
    go_wp2
    go_ret
    exact isB_of HR.out.symm HB.out
  have h4 : Hid (x.op = y.op) := Lib.hid (Decidable.not_not.1 hh)
  clear hh
  rw [← h4.out] at b4
  by_cases hh : ¬ x.n = y.n
  · have n1 : (x.n == y.n) = false := by simpa using hh
    have n2 : (x.n != y.n) = true := by simpa using hh
    have HR : Hid (R = false) := Lib.hid (HSN.out fun h => hh h.2.2.2.2.2.1)
    as_aux_lemma =>
    clear HSN HSY HE HL HRG HX HY
    go_enter Tryz.func40, Tryz.ntmps40
    go_wp2
    go_ret
    exact isB_of HR.out.symm HB.out
  have h5 : Hid (x.n = y.n) := Lib.hid (Decidable.not_not.1 hh)
  clear hh
  rw [← h5.out] at b5
  by_cases hh : ¬ x.flag = y.flag
  · have n1 : (x.flag == y.flag) = false := by simpa using hh
    have n2 : (x.flag != y.flag) = true := by simpa using hh
    have HR : Hid (R = false) := Lib.hid (HSN.out fun h => hh h.2.2.2.2.2.2)
    as_aux_lemma =>
    clear HSN HSY HE HL HRG HX HY
    go_enter Tryz.func40, Tryz.ntmps40
    go_wp2
    go_ret
    exact isB_of HR.out.symm HB.out
  have h6 : Hid (x.flag = y.flag) := Lib.hid (Decidable.not_not.1 hh)
  clear hh
  rw [← h6.out] at b6
  have HRY : Hid (R = (qe && (ql && qr))) := Lib.hid (HSY.out ⟨h0.out, h1.out, h2.out, h3.out, h4.out, h5.out, h6.out⟩)
  clear HSN HSY h0 h1 h2 h3 h4 h5 h6
  have a7 : W.cell? ⟨w.heap.size, 7, none⟩ = some (.string ⟨x.e.1.k.toArray⟩) := HX.out.cell 7
  have b7 : W.cell? ⟨w.heap.size + 1, 7, none⟩ = some (.string ⟨y.e.1.k.toArray⟩) := HY.out.cell 7
  have a8 : W.cell? ⟨w.heap.size, 8, none⟩ = some (.int .i64 x.e.1.s) := HX.out.cell 8
  have b8 : W.cell? ⟨w.heap.size + 1, 8, none⟩ = some (.int .i64 y.e.1.s) := HY.out.cell 8
  have a9 : W.cell? ⟨w.heap.size, 9, none⟩ = some (.int .i64 x.e.1.u) := HX.out.cell 9
  have b9 : W.cell? ⟨w.heap.size + 1, 9, none⟩ = some (.int .i64 y.e.1.u) := HY.out.cell 9
  have a10 : W.cell? ⟨w.heap.size, 10, none⟩ = some (.int .i64 x.e.1.o) := HX.out.cell 10
  have b10 : W.cell? ⟨w.heap.size + 1, 10, none⟩ = some (.int .i64 y.e.1.o) := HY.out.cell 10
  have a11 : W.cell? ⟨w.heap.size, 11, none⟩ = some (.bool x.e.1.has) := HX.out.cell 11
  have b11 : W.cell? ⟨w.heap.size + 1, 11, none⟩ = some (.bool y.e.1.has) := HY.out.cell 11
  have a12 : W.cell? ⟨w.heap.size, 12, none⟩ = some (.slice x.e.2.1 x.e.1.v.length x.e.2.2) := HX.out.cell 12
  have b12 : W.cell? ⟨w.heap.size + 1, 12, none⟩ = some (.slice y.e.2.1 y.e.1.v.length y.e.2.2) := HY.out.cell 12
  go_enter Tryz.func40, Tryz.ntmps40
  go_wp2_with fail
  refine (HE.out W (Below.refl _ _)).mono ?_
  rintro e w1 ⟨rfl, hb1⟩
  have HB1 := Lib.hid hb1
  have HX1 := Lib.hid (HX.out.below hb1 HX.out.lt)
  have HY1 := Lib.hid (HY.out.below hb1 HY.out.lt)
  clear hb1 HE HX HY a0 b0 a1 b1 a2 b2 a3 b3 a4 b4 a5 b5 a6 b6 a7 b7 a8 b8 a9 b9 a10 b10 a11 b11 a12 b12
  have a13 : w1.cell? ⟨w.heap.size, 13, none⟩ = some (.slice x.lA x.l.length x.lc) := HX1.out.cell 13
  have b13 : w1.cell? ⟨w.heap.size + 1, 13, none⟩ = some (.slice y.lA y.l.length y.lc) := HY1.out.cell 13
  cases qe
  · go_wp2
    go_ret
    exact isB_of (by rw [HRY.out]; rfl) (HB.out.trans (HB1.out.mono HB.out.size))
  go_wp2_with fail
  refine (HL.out w1 HB1.out).mono ?_
  rintro e w2 ⟨rfl, hb2⟩
  have HB2 := Lib.hid (HB1.out.trans (hb2.mono HB1.out.size))
  have HX2 := Lib.hid (HX1.out.below hb2 HX1.out.lt)
  have HY2 := Lib.hid (HY1.out.below hb2 HY1.out.lt)
  clear hb2 HL HX1 HY1 HB1 a13 b13
  have a14 : w2.cell? ⟨w.heap.size, 14, none⟩ = some (.slice x.rA x.ns.length x.rc) := HX2.out.cell 14
  have b14 : w2.cell? ⟨w.heap.size + 1, 14, none⟩ = some (.slice y.rA y.ns.length y.rc) := HY2.out.cell 14
  have a15 : w2.cell? ⟨w.heap.size, 15, none⟩ = some (.int .i64 x.each) := HX2.out.cell 15
  have b15 : w2.cell? ⟨w.heap.size + 1, 15, none⟩ = some (.int .i64 y.each) := HY2.out.cell 15
  have a16 : w2.cell? ⟨w.heap.size, 16, none⟩ = some (.int .i64 x.keep) := HX2.out.cell 16
  have b16 : w2.cell? ⟨w.heap.size + 1, 16, none⟩ = some (.int .i64 y.keep) := HY2.out.cell 16
  cases ql
  · go_wp2
    go_ret
    exact isB_of (by rw [HRY.out]; rfl) (HB.out.trans (HB2.out.mono HB.out.size))
  go_wp2_with fail
  refine (HRG.out w2 HB2.out).mono ?_
  rintro e w3 ⟨rfl, hb3⟩
  have HB3 := Lib.hid (HB2.out.trans (hb3.mono HB2.out.size))
  clear hb3
  go_wp2
  go_ret
  exact isB_of (by rw [HRY.out]; cases qr <;> rfl) (HB.out.trans (HB3.out.mono HB.out.size))
end Go.Proofs.YtkdpfjenjcpcfaaGreatDoor
namespace Go.Proofs.YtkdpfjenjcpcfaaGreatDoor
open Go.RowKit Go.ChangeShapes Mem Be Rg
set_option maxRecDepth 100000
set_option maxHeartbeats 4000000
set_option linter.unusedVariables false
def mL (x : MV) : List Value := [.int .i64 x.kind, .int .i64 x.fr, .int .i64 x.dst, .int .i64 x.ep, .int .i64 x.op, .int .i64 x.n, .bool x.flag, .string ⟨x.e.1.k.toArray⟩, .int .i64 x.e.1.s, .int .i64 x.e.1.u, .int .i64 x.e.1.o, .bool x.e.1.has, .slice x.e.2.1 x.e.1.v.length x.e.2.2, .slice x.lA x.l.length x.lc, .slice x.rA x.ns.length x.rc, .int .i64 x.each, .int .i64 x.keep]
abbrev msC (us : List MV) : List Value := us.flatMap mL
theorem msC_len (rs : List MV) : (msC rs).length = rs.length * 17 := by
  induction rs with
  | nil => rfl
  | cons p rs ih => simp only [msC, List.flatMap_cons, List.length_append, mL, List.length_cons, List.length_nil]; have := ih; unfold msC at this; omega
theorem msC_at (rs : List MV) (i : Nat) (h : i < rs.length) (j : Nat) (hj : j < 17) : (msC rs)[i * 17 + j]? = (mL rs[i])[j]? := by
  induction rs generalizing i with
  | nil => simp at h
  | cons p rs ih =>
    have hc : msC (p :: rs) = mL p ++ msC rs := rfl
    rw [hc]
    have hl : (mL p).length = 17 := rfl
    rcases i with _ | i
    · rw [List.getElem?_append_left (by omega), Nat.zero_mul, Nat.zero_add]; rfl
    · rw [List.getElem?_append_right (by omega), hl, show (i + 1) * 17 + j - 17 = i * 17 + j by omega, ih i (by simpa using h)]
      rfl
theorem ms_open {w : World} {B : Nat} {A : Option Addr} {rs : List MV} (h : Row w B A (msC rs)) (hn : 0 < rs.length) :
    ∃ b o, A = some ⟨b, o, none⟩ ∧ b < B ∧ ∀ i (hi : i < rs.length), ∀ j v, (mL rs[i])[j]? = some v → w.cell? ⟨b, o + i * 17 + j, none⟩ = some v := by
  obtain ⟨b, o, hA, hb, hc⟩ := h.open_ (by rw [msC_len]; omega)
  refine ⟨b, o, hA, hb, fun i hi j v hv => ?_⟩
  have hj : j < 17 := (List.getElem?_eq_some_iff.1 hv).1
  have hlt : i * 17 + j < (msC rs).length := by rw [msC_len]; omega
  rw [show o + i * 17 + j = o + (i * 17 + j) by omega, hc (i * 17 + j) hlt, ← hv, ← msC_at rs i hi j hj, List.getElem?_eq_getElem hlt]
/-- Messages in a row. -/
structure MsR (w : World) (A : Option Addr) (us : List MV) : Prop where
  row : Row w w.heap.size A (msC us)
  val : ∀ x ∈ us, MsgM w x
theorem MsR.below {w w' : World} {A : Option Addr} {us : List MV} (h : MsR w A us) (hb : Below w.heap.size w w') : MsR w' A us := ⟨(h.row.below hb).more hb.size, fun x hx => (h.val x hx).below hb⟩
theorem refsameallm (n c m c' : Nat) (A A' : Option Addr) (us vs : List MV) (hn : n = us.length) (hm : m = vs.length) (hl : n ≤ maxLen) (hP : us.map mP = vs.map mP) (w : World) (h : MsR w A us) (h' : MsR w A' vs) :
    Calls Tryz.prog 14 #[.slice A n c, .slice A' m c'] w (IsB true w) := by
  unfold maxLen at hl
  have hnm : n = m := by have := congrArg List.length hP; simp at this; omega
  subst hnm
  have HP := Lib.hid hP
  have HN := Lib.hid hn
  have HM := Lib.hid hm
  have HU := Lib.hid h
  have HVV := Lib.hid h'
  have hni0 : (0 : Int) ≤ (n : Int) := by omega
  have hni1 : (n : Int) ≤ 9223372036854775807 := by omega
  clear h h' hP hl hn hm
  go_enter Tryz.func14, Tryz.ntmps14
  go_wp2
  go_loopw [5] (fun i wr => ∃ k : Nat, k ≤ n ∧ i = .int .i64 k ∧ Hid (Below w.heap.size w wr)) (fun i _ => n - (intOf i).toNat)
  case atStart => exact ⟨0, by omega, rfl, Lib.hid (Below.refl _ _)⟩
  case round =>
    obtain ⟨k, hk, rfl, HB⟩ := hrel
    by_cases hlt : k < n
    · have hk1 : k < us.length := by rw [← HN.out]; exact hlt
      have hk2 : k < vs.length := by rw [← HM.out]; exact hlt
      obtain ⟨b, o, rfl, hb, hc0⟩ := ms_open (HU.out.below HB.out).row (by omega)
      obtain ⟨b', o', rfl, hb', hc0'⟩ := ms_open (HVV.out.below HB.out).row (by omega)
      have hc := hc0 k hk1
      have hc' := hc0' k hk2
      have v1 := (HU.out.below HB.out).val us[k] (List.getElem_mem hk1)
      have v2 := (HVV.out.below HB.out).val vs[k] (List.getElem_mem hk2)
      have hq : mP us[k] = mP vs[k] := by
        have := HP.out
        have h1 : (us.map mP)[k]'(by simpa using hk1) = (vs.map mP)[k]'(by simpa using hk2) := List.getElem_of_eq this _
        simpa using h1
      obtain ⟨x, hx⟩ : ∃ p, us[k]'hk1 = p := ⟨_, rfl⟩
      obtain ⟨y, hy⟩ : ∃ p, vs[k]'hk2 = p := ⟨_, rfl⟩
      rw [hx] at hc v1 hq
      rw [hy] at hc' v2 hq
      have HC := Lib.hid (fun p : Later wr => refsame12 x y p.world (v1.below p.bel) (v2.below p.bel))
      rw [hq, sameM_refl] at HC
      have xa0 := hc 0 (.int .i64 x.kind) rfl
      rw [Nat.add_zero] at xa0
      have la0 := later_cell xa0
      have la1 := later_cell (hc 1 (.int .i64 x.fr) rfl)
      have la2 := later_cell (hc 2 (.int .i64 x.dst) rfl)
      have la3 := later_cell (hc 3 (.int .i64 x.ep) rfl)
      have la4 := later_cell (hc 4 (.int .i64 x.op) rfl)
      have la5 := later_cell (hc 5 (.int .i64 x.n) rfl)
      have la6 := later_cell (hc 6 (.bool x.flag) rfl)
      have la7 := later_cell (hc 7 (.string ⟨x.e.1.k.toArray⟩) rfl)
      have la8 := later_cell (hc 8 (.int .i64 x.e.1.s) rfl)
      have la9 := later_cell (hc 9 (.int .i64 x.e.1.u) rfl)
      have la10 := later_cell (hc 10 (.int .i64 x.e.1.o) rfl)
      have la11 := later_cell (hc 11 (.bool x.e.1.has) rfl)
      have la12 := later_cell (hc 12 (.slice x.e.2.1 x.e.1.v.length x.e.2.2) rfl)
      have la13 := later_cell (hc 13 (.slice x.lA x.l.length x.lc) rfl)
      have la14 := later_cell (hc 14 (.slice x.rA x.ns.length x.rc) rfl)
      have la15 := later_cell (hc 15 (.int .i64 x.each) rfl)
      have la16 := later_cell (hc 16 (.int .i64 x.keep) rfl)
      have xb0 := hc' 0 (.int .i64 y.kind) rfl
      rw [Nat.add_zero] at xb0
      have lb0 := later_cell xb0
      have lb1 := later_cell (hc' 1 (.int .i64 y.fr) rfl)
      have lb2 := later_cell (hc' 2 (.int .i64 y.dst) rfl)
      have lb3 := later_cell (hc' 3 (.int .i64 y.ep) rfl)
      have lb4 := later_cell (hc' 4 (.int .i64 y.op) rfl)
      have lb5 := later_cell (hc' 5 (.int .i64 y.n) rfl)
      have lb6 := later_cell (hc' 6 (.bool y.flag) rfl)
      have lb7 := later_cell (hc' 7 (.string ⟨y.e.1.k.toArray⟩) rfl)
      have lb8 := later_cell (hc' 8 (.int .i64 y.e.1.s) rfl)
      have lb9 := later_cell (hc' 9 (.int .i64 y.e.1.u) rfl)
      have lb10 := later_cell (hc' 10 (.int .i64 y.e.1.o) rfl)
      have lb11 := later_cell (hc' 11 (.bool y.e.1.has) rfl)
      have lb12 := later_cell (hc' 12 (.slice y.e.2.1 y.e.1.v.length y.e.2.2) rfl)
      have lb13 := later_cell (hc' 13 (.slice y.lA y.l.length y.lc) rfl)
      have lb14 := later_cell (hc' 14 (.slice y.rA y.ns.length y.rc) rfl)
      have lb15 := later_cell (hc' 15 (.int .i64 y.each) rfl)
      have lb16 := later_cell (hc' 16 (.int .i64 y.keep) rfl)
      have hki : (0 : Int) ≤ (k : Int) := by omega
      have hki2 : (k : Int) < (n : Int) := by omega
      clear xa0 xb0 hc hc' hc0 hc0' hx hy v1 v2 hq
      go_wp2_with fail
      refine wp_region_later (by kernel_rfl) (by kernel_rfl) ?_
      repeat (go_big_quiet_step (first
        | (go_at_call 40; exact later_of (HC.out _))))
      refine wpQuiet_nil ?_
      intro w' hw'
      obtain ⟨p, rfl⟩ := hw'
      go_wp2
      go_roundw
      case rel => exact ⟨k + 1, by omega, by go_num, Lib.hid (HB.out.trans (p.bel.mono HB.out.size))⟩
      case measure => simp [intOf]; omega
    · obtain rfl : k = n := by omega
      go_wp2
      go_ret
      exact isB_of rfl HB.out
/-- Messages that lie in a row, apart from F; without rows of their own but their values. -/
structure MsN (F : Nat → Prop) (w : World) (A : Option Addr) (us : List MV) : Prop where
  row : RowN F w A (msC us)
  val : ∀ x ∈ us, RowN F w x.e.2.1 (x.e.1.v.map byteV) ∧ x.e.1.v.length ≤ maxLen ∧ x.e.1.k.length ≤ maxLen ∧ x.e.1.v.length ≤ x.e.2.2 ∧ x.l = [] ∧ x.ns = []
theorem MsN.msR {F : Nat → Prop} {w : World} {A : Option Addr} {us : List MV} (h : MsN F w A us) : MsR w A us := ⟨h.row.row, fun x hx => by
  obtain ⟨h1, h2, h3, h4, h5, h6⟩ := h.val x hx
  refine ⟨⟨h1.row, h2, h3, h4⟩, ⟨?_, ?_⟩, ?_, ?_, ?_⟩
  · rw [h5]; exact Row.nil _ _ _
  · rw [h5]; intro y hy; cases hy
  · rw [h5]; exact Nat.zero_le _
  · rw [h6]; exact Row.nil _ _ _
  · rw [h6]; exact Nat.zero_le _⟩
theorem MsN.to {F F' : Nat → Prop} {w w' : World} {A : Option Addr} {us : List MV} (h : MsN F w A us) (hf : ∀ k, F' k → F k ∨ w.heap.size ≤ k) (ht : Touch F w w') : MsN F' w' A us :=
  ⟨h.row.grow hf ht, fun x hx => ⟨(h.val x hx).1.grow hf ht, (h.val x hx).2⟩⟩
theorem MsN.below {F : Nat → Prop} {w w' : World} {A : Option Addr} {us : List MV} (h : MsN F w A us) (hb : Below w.heap.size w w') : MsN F w' A us := h.to (fun k hk => Or.inl hk) (Touch.ofBelow hb)
theorem msN_nil (F : Nat → Prop) (w : World) (A : Option Addr) : MsN F w A [] := ⟨Or.inl rfl, fun x hx => by cases hx⟩
end Go.Proofs.YtkdpfjenjcpcfaaGreatDoor
