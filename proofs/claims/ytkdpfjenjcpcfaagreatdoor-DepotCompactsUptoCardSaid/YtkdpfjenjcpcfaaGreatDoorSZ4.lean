/- SvN: Something that is done to a server, by the statements' own call (written by tools/gen_svn.py). -/
/- SvM: A server of a statement's own; a message that looks; what the chapter's example fixes (written by tools/gen_svm.py). -/
/- SvMk: What the chapter's example fixes, of a server (written by tools/gen_svm.py). -/
/- SvK: (*depot.Server).Copy: what is durable, and the same Puts once more: the same state. -/
/- SvQ: How much things to be done to a server have in them: some number (written by tools/gen_svq.py). -/
/- SvS: Runs of things that are done to a server, one behind the other; several servers; what was told of a server. -/
import Derived.Test.YtkdpfjenjcpcfaaGreatDoorSZ3
import Derived.Test.YtkdpfjenjcpcfaaGreatDoorSZ1
import Derived.Test.YtkdpfjenjcpcfaaGreatDoorSZ2
namespace Go.Proofs.YtkdpfjenjcpcfaaGreatDoor
open Go.RowKit Mem Be Word Frm Go.Maps Rg
set_option maxRecDepth 100000
set_option maxHeartbeats 8000000
set_option linter.unusedVariables false
theorem rowN_off {F : Nat → Prop} {w : World} {B : Nat} {A : Option Addr} {n c s : Nat} {e : TypeId} {xs : List Value} (ho : w.ownsRow B e s (.slice A n c) n xs) (hx : ∀ a, A = some a → ¬ F a.block) : RowN F w A xs := by
  rcases ownRow ho with h | ⟨b, o, rfl, hb, hc⟩
  · exact Or.inl h
  · exact Or.inr ⟨b, o, rfl, hx _ rfl, hb, hc⟩
def fmMV (a : AckP) : MV := ⟨11, 1, a.who, 0, 0, 0, false, (⟨a.k, a.s, a.u, a.o, false, []⟩, none, 0), none, [], 0, none, [], 0, 0, 0⟩
theorem fms_msC (l : List AckP) : msC (l.map fmMV) = fmsC l := by
  unfold msC fmsC
  rw [List.flatMap_map]
  rfl
theorem fm_told (l : List AckP) : (l.map fmMV).map mP = l.map toldM := by
  rw [List.map_map]; rfl
theorem fm_msN {F : Nat → Prop} {w : World} {A : Option Addr} {l : List AckP} (h : RowN F w A (fmsC l)) (hk : ∀ a ∈ l, a.k.length ≤ maxLen) : MsN F w A (l.map fmMV) := by
  refine ⟨by rw [fms_msC]; exact h, fun x hx => ?_⟩
  obtain ⟨a, ha, rfl⟩ := List.mem_map.1 hx
  exact ⟨Or.inl rfl, Nat.zero_le _, hk a ha, Nat.le_refl _, rfl, rfl⟩
/-- The keys of what waits to be acknowledged are short. -/
def KeyS (S : St8) : Prop := ∀ a ∈ S.acks, 0 < a.k.length ∧ a.k.length ≤ 250
theorem keyS_put {S : St8} (h : KeyS S) (e : EntP) (who : Int) : KeyS (putS S e who).1 := by
  rcases put_code S e who with ⟨_, hm, ha, _⟩ | ⟨_, hS⟩
  · intro a h2
    rw [ha] at h2
    rcases List.mem_append.1 h2 with h3 | h3
    · exact h a h3
    · obtain rfl : a = ackOf e who := by simpa using h3
      exact ⟨(rightE_yes hm.1).1, (rightE_yes hm.1).2.1⟩
  · rw [hS]; exact h
theorem keyS_op {S : St8} {ps : Ps14} (h : KeyS S) (kind : Int) (m : MsgP) (kept : Int) : KeyS (opS S ps kind m kept).S := by
  unfold opS
  split
  · unfold handS
    split
    · exact keyS_put h _ _
    · exact h
  split
  · intro a ha; cases ha
  split
  · show KeyS (compS S).1
    unfold compS
    split <;> exact h
  split
  · exact h
  · intro a ha; cases ha
theorem keyS_st0 : KeyS st0 := fun a ha => by cases ha
/-- What is done leaves a server, and tells. -/
def DoneV (F : Nat → Prop) (g : Nat) (R : R14) (q : Nat) (w : World) (e : Ending) (w' : World) : Prop :=
  ∃ g' F' q' us A c, e = .returned (.tuple #[.pointer (some ⟨g', 0, none⟩), .slice A us.length c, .int .i64 R.err]) ∧ us.map mP = R.out ∧ MsN (OldB F' w) w' A us ∧ (∀ k, F' k → F k ∨ w.heap.size ≤ k) ∧ q' ≤ q + 1 ∧ SvAt w' F' g' R.S R.ps q' ∧ Touch F w w'
theorem done14_msg (F : Nat → Prop) (g q : Nat) (S : St8) (ps : Ps14) (x : MV) (kp : Int) (hacks : S.acks.length ≤ 1466015503701) (hps : ps.length ≤ 700000000000) (w : World) (ht : KT w) (h : SvAt w F g S ps q) (hm : MsgM w x) (hN : RowN F w x.e.2.1 (x.e.1.v.map byteV)) :
    Calls Tryz.prog 12 #[.pointer (some ⟨g, 0, none⟩), .agg #[.int .i64 1, .int .i64 x.kind, .int .i64 x.fr, .int .i64 x.dst, .int .i64 x.ep, .int .i64 x.op, .int .i64 x.n, .bool x.flag, .string ⟨x.e.1.k.toArray⟩, .int .i64 x.e.1.s, .int .i64 x.e.1.u, .int .i64 x.e.1.o, .bool x.e.1.has, .slice x.e.2.1 x.e.1.v.length x.e.2.2, .slice x.lA x.l.length x.lc, .slice x.rA x.ns.length x.rc, .int .i64 x.each, .int .i64 x.keep, .int .i64 kp]] w (DoneV F g ⟨(handS S ps (mP x)).1, (handS S ps (mP x)).2, handM S (mP x), 0⟩ q w) := by
  have hb : Below w.heap.size w (w.alloc (.cells #[.int .i64 1, .int .i64 x.kind, .int .i64 x.fr, .int .i64 x.dst, .int .i64 x.ep, .int .i64 x.op, .int .i64 x.n, .bool x.flag, .string ⟨x.e.1.k.toArray⟩, .int .i64 x.e.1.s, .int .i64 x.e.1.u, .int .i64 x.e.1.o, .bool x.e.1.has, .slice x.e.2.1 x.e.1.v.length x.e.2.2, .slice x.lA x.l.length x.lc, .slice x.rA x.ns.length x.rc, .int .i64 x.each, .int .i64 x.keep, .int .i64 kp] 53)) := (Below.refl _ _).alloc (Nat.le_refl _) _
  have HK := Lib.hid (Blk.new w 53 #[.int .i64 1, .int .i64 x.kind, .int .i64 x.fr, .int .i64 x.dst, .int .i64 x.ep, .int .i64 x.op, .int .i64 x.n, .bool x.flag, .string ⟨x.e.1.k.toArray⟩, .int .i64 x.e.1.s, .int .i64 x.e.1.u, .int .i64 x.e.1.o, .bool x.e.1.has, .slice x.e.2.1 x.e.1.v.length x.e.2.2, .slice x.lA x.l.length x.lc, .slice x.rA x.ns.length x.rc, .int .i64 x.each, .int .i64 x.keep, .int .i64 kp])
  have HB := Lib.hid hb
  have HH := Lib.hid (svhand_any F g q S ps x hacks hps _ (ht.below hb) (h.below hb) (hm.below hb) (hN.touch (Touch.ofBelow hb)))
  obtain ⟨S2, hS2⟩ : ∃ S2, (handS S ps (mP x)).1 = S2 := ⟨_, rfl⟩
  obtain ⟨p2, hp2⟩ : ∃ p2, (handS S ps (mP x)).2 = p2 := ⟨_, rfl⟩
  obtain ⟨o2, ho2⟩ : ∃ o2, handM S (mP x) = o2 := ⟨_, rfl⟩
  rw [hS2, hp2, ho2] at HH
  rw [hS2, hp2, ho2]
  have k1 : (w.alloc (.cells #[.int .i64 1, .int .i64 x.kind, .int .i64 x.fr, .int .i64 x.dst, .int .i64 x.ep, .int .i64 x.op, .int .i64 x.n, .bool x.flag, .string ⟨x.e.1.k.toArray⟩, .int .i64 x.e.1.s, .int .i64 x.e.1.u, .int .i64 x.e.1.o, .bool x.e.1.has, .slice x.e.2.1 x.e.1.v.length x.e.2.2, .slice x.lA x.l.length x.lc, .slice x.rA x.ns.length x.rc, .int .i64 x.each, .int .i64 x.keep, .int .i64 kp] 53)).cell? ⟨w.heap.size, 1, none⟩ = some (.int .i64 x.kind) := HK.out.cell 1
  have k2 : (w.alloc (.cells #[.int .i64 1, .int .i64 x.kind, .int .i64 x.fr, .int .i64 x.dst, .int .i64 x.ep, .int .i64 x.op, .int .i64 x.n, .bool x.flag, .string ⟨x.e.1.k.toArray⟩, .int .i64 x.e.1.s, .int .i64 x.e.1.u, .int .i64 x.e.1.o, .bool x.e.1.has, .slice x.e.2.1 x.e.1.v.length x.e.2.2, .slice x.lA x.l.length x.lc, .slice x.rA x.ns.length x.rc, .int .i64 x.each, .int .i64 x.keep, .int .i64 kp] 53)).cell? ⟨w.heap.size, 2, none⟩ = some (.int .i64 x.fr) := HK.out.cell 2
  have k3 : (w.alloc (.cells #[.int .i64 1, .int .i64 x.kind, .int .i64 x.fr, .int .i64 x.dst, .int .i64 x.ep, .int .i64 x.op, .int .i64 x.n, .bool x.flag, .string ⟨x.e.1.k.toArray⟩, .int .i64 x.e.1.s, .int .i64 x.e.1.u, .int .i64 x.e.1.o, .bool x.e.1.has, .slice x.e.2.1 x.e.1.v.length x.e.2.2, .slice x.lA x.l.length x.lc, .slice x.rA x.ns.length x.rc, .int .i64 x.each, .int .i64 x.keep, .int .i64 kp] 53)).cell? ⟨w.heap.size, 3, none⟩ = some (.int .i64 x.dst) := HK.out.cell 3
  have k4 : (w.alloc (.cells #[.int .i64 1, .int .i64 x.kind, .int .i64 x.fr, .int .i64 x.dst, .int .i64 x.ep, .int .i64 x.op, .int .i64 x.n, .bool x.flag, .string ⟨x.e.1.k.toArray⟩, .int .i64 x.e.1.s, .int .i64 x.e.1.u, .int .i64 x.e.1.o, .bool x.e.1.has, .slice x.e.2.1 x.e.1.v.length x.e.2.2, .slice x.lA x.l.length x.lc, .slice x.rA x.ns.length x.rc, .int .i64 x.each, .int .i64 x.keep, .int .i64 kp] 53)).cell? ⟨w.heap.size, 4, none⟩ = some (.int .i64 x.ep) := HK.out.cell 4
  have k5 : (w.alloc (.cells #[.int .i64 1, .int .i64 x.kind, .int .i64 x.fr, .int .i64 x.dst, .int .i64 x.ep, .int .i64 x.op, .int .i64 x.n, .bool x.flag, .string ⟨x.e.1.k.toArray⟩, .int .i64 x.e.1.s, .int .i64 x.e.1.u, .int .i64 x.e.1.o, .bool x.e.1.has, .slice x.e.2.1 x.e.1.v.length x.e.2.2, .slice x.lA x.l.length x.lc, .slice x.rA x.ns.length x.rc, .int .i64 x.each, .int .i64 x.keep, .int .i64 kp] 53)).cell? ⟨w.heap.size, 5, none⟩ = some (.int .i64 x.op) := HK.out.cell 5
  have k6 : (w.alloc (.cells #[.int .i64 1, .int .i64 x.kind, .int .i64 x.fr, .int .i64 x.dst, .int .i64 x.ep, .int .i64 x.op, .int .i64 x.n, .bool x.flag, .string ⟨x.e.1.k.toArray⟩, .int .i64 x.e.1.s, .int .i64 x.e.1.u, .int .i64 x.e.1.o, .bool x.e.1.has, .slice x.e.2.1 x.e.1.v.length x.e.2.2, .slice x.lA x.l.length x.lc, .slice x.rA x.ns.length x.rc, .int .i64 x.each, .int .i64 x.keep, .int .i64 kp] 53)).cell? ⟨w.heap.size, 6, none⟩ = some (.int .i64 x.n) := HK.out.cell 6
  have k7 : (w.alloc (.cells #[.int .i64 1, .int .i64 x.kind, .int .i64 x.fr, .int .i64 x.dst, .int .i64 x.ep, .int .i64 x.op, .int .i64 x.n, .bool x.flag, .string ⟨x.e.1.k.toArray⟩, .int .i64 x.e.1.s, .int .i64 x.e.1.u, .int .i64 x.e.1.o, .bool x.e.1.has, .slice x.e.2.1 x.e.1.v.length x.e.2.2, .slice x.lA x.l.length x.lc, .slice x.rA x.ns.length x.rc, .int .i64 x.each, .int .i64 x.keep, .int .i64 kp] 53)).cell? ⟨w.heap.size, 7, none⟩ = some (.bool x.flag) := HK.out.cell 7
  have k8 : (w.alloc (.cells #[.int .i64 1, .int .i64 x.kind, .int .i64 x.fr, .int .i64 x.dst, .int .i64 x.ep, .int .i64 x.op, .int .i64 x.n, .bool x.flag, .string ⟨x.e.1.k.toArray⟩, .int .i64 x.e.1.s, .int .i64 x.e.1.u, .int .i64 x.e.1.o, .bool x.e.1.has, .slice x.e.2.1 x.e.1.v.length x.e.2.2, .slice x.lA x.l.length x.lc, .slice x.rA x.ns.length x.rc, .int .i64 x.each, .int .i64 x.keep, .int .i64 kp] 53)).cell? ⟨w.heap.size, 8, none⟩ = some (.string ⟨x.e.1.k.toArray⟩) := HK.out.cell 8
  have k9 : (w.alloc (.cells #[.int .i64 1, .int .i64 x.kind, .int .i64 x.fr, .int .i64 x.dst, .int .i64 x.ep, .int .i64 x.op, .int .i64 x.n, .bool x.flag, .string ⟨x.e.1.k.toArray⟩, .int .i64 x.e.1.s, .int .i64 x.e.1.u, .int .i64 x.e.1.o, .bool x.e.1.has, .slice x.e.2.1 x.e.1.v.length x.e.2.2, .slice x.lA x.l.length x.lc, .slice x.rA x.ns.length x.rc, .int .i64 x.each, .int .i64 x.keep, .int .i64 kp] 53)).cell? ⟨w.heap.size, 9, none⟩ = some (.int .i64 x.e.1.s) := HK.out.cell 9
  have k10 : (w.alloc (.cells #[.int .i64 1, .int .i64 x.kind, .int .i64 x.fr, .int .i64 x.dst, .int .i64 x.ep, .int .i64 x.op, .int .i64 x.n, .bool x.flag, .string ⟨x.e.1.k.toArray⟩, .int .i64 x.e.1.s, .int .i64 x.e.1.u, .int .i64 x.e.1.o, .bool x.e.1.has, .slice x.e.2.1 x.e.1.v.length x.e.2.2, .slice x.lA x.l.length x.lc, .slice x.rA x.ns.length x.rc, .int .i64 x.each, .int .i64 x.keep, .int .i64 kp] 53)).cell? ⟨w.heap.size, 10, none⟩ = some (.int .i64 x.e.1.u) := HK.out.cell 10
  have k11 : (w.alloc (.cells #[.int .i64 1, .int .i64 x.kind, .int .i64 x.fr, .int .i64 x.dst, .int .i64 x.ep, .int .i64 x.op, .int .i64 x.n, .bool x.flag, .string ⟨x.e.1.k.toArray⟩, .int .i64 x.e.1.s, .int .i64 x.e.1.u, .int .i64 x.e.1.o, .bool x.e.1.has, .slice x.e.2.1 x.e.1.v.length x.e.2.2, .slice x.lA x.l.length x.lc, .slice x.rA x.ns.length x.rc, .int .i64 x.each, .int .i64 x.keep, .int .i64 kp] 53)).cell? ⟨w.heap.size, 11, none⟩ = some (.int .i64 x.e.1.o) := HK.out.cell 11
  have k12 : (w.alloc (.cells #[.int .i64 1, .int .i64 x.kind, .int .i64 x.fr, .int .i64 x.dst, .int .i64 x.ep, .int .i64 x.op, .int .i64 x.n, .bool x.flag, .string ⟨x.e.1.k.toArray⟩, .int .i64 x.e.1.s, .int .i64 x.e.1.u, .int .i64 x.e.1.o, .bool x.e.1.has, .slice x.e.2.1 x.e.1.v.length x.e.2.2, .slice x.lA x.l.length x.lc, .slice x.rA x.ns.length x.rc, .int .i64 x.each, .int .i64 x.keep, .int .i64 kp] 53)).cell? ⟨w.heap.size, 12, none⟩ = some (.bool x.e.1.has) := HK.out.cell 12
  have k13 : (w.alloc (.cells #[.int .i64 1, .int .i64 x.kind, .int .i64 x.fr, .int .i64 x.dst, .int .i64 x.ep, .int .i64 x.op, .int .i64 x.n, .bool x.flag, .string ⟨x.e.1.k.toArray⟩, .int .i64 x.e.1.s, .int .i64 x.e.1.u, .int .i64 x.e.1.o, .bool x.e.1.has, .slice x.e.2.1 x.e.1.v.length x.e.2.2, .slice x.lA x.l.length x.lc, .slice x.rA x.ns.length x.rc, .int .i64 x.each, .int .i64 x.keep, .int .i64 kp] 53)).cell? ⟨w.heap.size, 13, none⟩ = some (.slice x.e.2.1 x.e.1.v.length x.e.2.2) := HK.out.cell 13
  have k14 : (w.alloc (.cells #[.int .i64 1, .int .i64 x.kind, .int .i64 x.fr, .int .i64 x.dst, .int .i64 x.ep, .int .i64 x.op, .int .i64 x.n, .bool x.flag, .string ⟨x.e.1.k.toArray⟩, .int .i64 x.e.1.s, .int .i64 x.e.1.u, .int .i64 x.e.1.o, .bool x.e.1.has, .slice x.e.2.1 x.e.1.v.length x.e.2.2, .slice x.lA x.l.length x.lc, .slice x.rA x.ns.length x.rc, .int .i64 x.each, .int .i64 x.keep, .int .i64 kp] 53)).cell? ⟨w.heap.size, 14, none⟩ = some (.slice x.lA x.l.length x.lc) := HK.out.cell 14
  have k15 : (w.alloc (.cells #[.int .i64 1, .int .i64 x.kind, .int .i64 x.fr, .int .i64 x.dst, .int .i64 x.ep, .int .i64 x.op, .int .i64 x.n, .bool x.flag, .string ⟨x.e.1.k.toArray⟩, .int .i64 x.e.1.s, .int .i64 x.e.1.u, .int .i64 x.e.1.o, .bool x.e.1.has, .slice x.e.2.1 x.e.1.v.length x.e.2.2, .slice x.lA x.l.length x.lc, .slice x.rA x.ns.length x.rc, .int .i64 x.each, .int .i64 x.keep, .int .i64 kp] 53)).cell? ⟨w.heap.size, 15, none⟩ = some (.slice x.rA x.ns.length x.rc) := HK.out.cell 15
  have k16 : (w.alloc (.cells #[.int .i64 1, .int .i64 x.kind, .int .i64 x.fr, .int .i64 x.dst, .int .i64 x.ep, .int .i64 x.op, .int .i64 x.n, .bool x.flag, .string ⟨x.e.1.k.toArray⟩, .int .i64 x.e.1.s, .int .i64 x.e.1.u, .int .i64 x.e.1.o, .bool x.e.1.has, .slice x.e.2.1 x.e.1.v.length x.e.2.2, .slice x.lA x.l.length x.lc, .slice x.rA x.ns.length x.rc, .int .i64 x.each, .int .i64 x.keep, .int .i64 kp] 53)).cell? ⟨w.heap.size, 16, none⟩ = some (.int .i64 x.each) := HK.out.cell 16
  have k17 : (w.alloc (.cells #[.int .i64 1, .int .i64 x.kind, .int .i64 x.fr, .int .i64 x.dst, .int .i64 x.ep, .int .i64 x.op, .int .i64 x.n, .bool x.flag, .string ⟨x.e.1.k.toArray⟩, .int .i64 x.e.1.s, .int .i64 x.e.1.u, .int .i64 x.e.1.o, .bool x.e.1.has, .slice x.e.2.1 x.e.1.v.length x.e.2.2, .slice x.lA x.l.length x.lc, .slice x.rA x.ns.length x.rc, .int .i64 x.each, .int .i64 x.keep, .int .i64 kp] 53)).cell? ⟨w.heap.size, 17, none⟩ = some (.int .i64 x.keep) := HK.out.cell 17
  clear hb ht h hm hN hacks hps hS2 hp2 ho2
  go_enter Tryz.func12, Tryz.ntmps12
  go_wp2_with fail
  refine HH.out.mono ?_
  rintro e w1 ⟨F1, us, A1, c1, rfl, hu, hn, hf, hs, htt⟩
  obtain ⟨n1, hn1⟩ : ∃ n1, us.length = n1 := ⟨_, rfl⟩
  have HX : Hid (DoneV F g ⟨S2, p2, o2, 0⟩ q w (.returned (.tuple #[.pointer (some ⟨g, 0, none⟩), .slice A1 n1 c1, .int .i64 0])) w1) := Lib.hid
    ⟨g, F1, q, us, A1, c1, by rw [hn1], hu, hn.mono (fun k hk => hk.imp (fun h => h) fun h => Nat.lt_of_lt_of_le h HB.out.size), fun k hk => (hf k hk).imp (fun h => h) (fun h => Nat.le_trans HB.out.size h), Nat.le_succ _, hs, (Touch.ofBelow HB.out).trans htt fun k hk => Or.inl hk⟩
  rw [hn1]
  clear hu hn hf hs htt hn1 HH k1 k2 k3 k4 k5 k6 k7 k8 k9 k10 k11 k12 k13 k14 k15 k16 k17
  go_wp2
  go_ret3
  exact HX.out
theorem done14_tick (F : Nat → Prop) (g q : Nat) (S : St8) (ps : Ps14) (x : MV) (kp : Int) (hq : q ≤ 4611686018427387904) (hacks : S.acks.length ≤ 700000000000) (hks : KeyS S) (w : World) (h : SvAt w F g S ps q) :
    Calls Tryz.prog 12 #[.pointer (some ⟨g, 0, none⟩), .agg #[.int .i64 2, .int .i64 x.kind, .int .i64 x.fr, .int .i64 x.dst, .int .i64 x.ep, .int .i64 x.op, .int .i64 x.n, .bool x.flag, .string ⟨x.e.1.k.toArray⟩, .int .i64 x.e.1.s, .int .i64 x.e.1.u, .int .i64 x.e.1.o, .bool x.e.1.has, .slice x.e.2.1 x.e.1.v.length x.e.2.2, .slice x.lA x.l.length x.lc, .slice x.rA x.ns.length x.rc, .int .i64 x.each, .int .i64 x.keep, .int .i64 kp]] w (DoneV F g ⟨tickS S, [], S.acks.map toldM, 0⟩ q w) := by
  have hb : Below w.heap.size w (w.alloc (.cells #[.int .i64 2, .int .i64 x.kind, .int .i64 x.fr, .int .i64 x.dst, .int .i64 x.ep, .int .i64 x.op, .int .i64 x.n, .bool x.flag, .string ⟨x.e.1.k.toArray⟩, .int .i64 x.e.1.s, .int .i64 x.e.1.u, .int .i64 x.e.1.o, .bool x.e.1.has, .slice x.e.2.1 x.e.1.v.length x.e.2.2, .slice x.lA x.l.length x.lc, .slice x.rA x.ns.length x.rc, .int .i64 x.each, .int .i64 x.keep, .int .i64 kp] 53)) := (Below.refl _ _).alloc (Nat.le_refl _) _
  have HK := Lib.hid (Blk.new w 53 #[.int .i64 2, .int .i64 x.kind, .int .i64 x.fr, .int .i64 x.dst, .int .i64 x.ep, .int .i64 x.op, .int .i64 x.n, .bool x.flag, .string ⟨x.e.1.k.toArray⟩, .int .i64 x.e.1.s, .int .i64 x.e.1.u, .int .i64 x.e.1.o, .bool x.e.1.has, .slice x.e.2.1 x.e.1.v.length x.e.2.2, .slice x.lA x.l.length x.lc, .slice x.rA x.ns.length x.rc, .int .i64 x.each, .int .i64 x.keep, .int .i64 kp])
  have HB := Lib.hid hb
  have HH := Lib.hid (svtick_any F g q S ps hq hacks _ (h.below hb))
  have HKS := Lib.hid hks
  have HG : g < (w.alloc (.cells #[.int .i64 2, .int .i64 x.kind, .int .i64 x.fr, .int .i64 x.dst, .int .i64 x.ep, .int .i64 x.op, .int .i64 x.n, .bool x.flag, .string ⟨x.e.1.k.toArray⟩, .int .i64 x.e.1.s, .int .i64 x.e.1.u, .int .i64 x.e.1.o, .bool x.e.1.has, .slice x.e.2.1 x.e.1.v.length x.e.2.2, .slice x.lA x.l.length x.lc, .slice x.rA x.ns.length x.rc, .int .i64 x.each, .int .i64 x.keep, .int .i64 kp] 53)).heap.size := by
    obtain ⟨K, FS, hs⟩ := (h.below hb).stAt
    exact st_glt hs
  have k0 : (w.alloc (.cells #[.int .i64 2, .int .i64 x.kind, .int .i64 x.fr, .int .i64 x.dst, .int .i64 x.ep, .int .i64 x.op, .int .i64 x.n, .bool x.flag, .string ⟨x.e.1.k.toArray⟩, .int .i64 x.e.1.s, .int .i64 x.e.1.u, .int .i64 x.e.1.o, .bool x.e.1.has, .slice x.e.2.1 x.e.1.v.length x.e.2.2, .slice x.lA x.l.length x.lc, .slice x.rA x.ns.length x.rc, .int .i64 x.each, .int .i64 x.keep, .int .i64 kp] 53)).cell? ⟨w.heap.size, 0, none⟩ = some (.int .i64 2) := HK.out.cell 0
  clear hb h hq hacks hks
  go_enter Tryz.func12, Tryz.ntmps12
  go_wp2_with fail
  refine HH.out.mono ?_
  rintro e w1 ⟨F1, A1, c1, q1, rfl, ho, hA, hf, hq1, hs, htt⟩
  obtain ⟨n1, hn1⟩ : ∃ n1, S.acks.length = n1 := ⟨_, rfl⟩
  have HX : Hid (DoneV F g ⟨tickS S, [], S.acks.map toldM, 0⟩ q w (.returned (.tuple #[.pointer (some ⟨g, 0, none⟩), .slice A1 n1 c1, .int .i64 0])) w1) := Lib.hid
    ⟨g, F1, q1, S.acks.map fmMV, A1, c1, by rw [List.length_map, hn1], fm_told _, fm_msN (rowN_off ho fun a ha h => h.elim (hA a ha) fun h => (by have h1 := (ownIn ho ha).1; have h2 := HB.out.size; omega)) fun a ha => (by have := HKS.out a ha; unfold maxLen; omega), fun k hk => (hf k hk).imp (fun h => h) (fun h => Nat.le_trans HB.out.size h), hq1, hs, (Touch.ofBelow HB.out).trans htt fun k hk => Or.inl hk⟩
  rw [hn1]
  clear ho hA hf hq1 hs htt hn1 HH k0
  go_wp2
  go_ret3
  exact HX.out
theorem done14_comp (F : Nat → Prop) (g q : Nat) (S : St8) (ps : Ps14) (x : MV) (kp : Int) (w : World) (h : SvAt w F g S ps q) :
    Calls Tryz.prog 12 #[.pointer (some ⟨g, 0, none⟩), .agg #[.int .i64 3, .int .i64 x.kind, .int .i64 x.fr, .int .i64 x.dst, .int .i64 x.ep, .int .i64 x.op, .int .i64 x.n, .bool x.flag, .string ⟨x.e.1.k.toArray⟩, .int .i64 x.e.1.s, .int .i64 x.e.1.u, .int .i64 x.e.1.o, .bool x.e.1.has, .slice x.e.2.1 x.e.1.v.length x.e.2.2, .slice x.lA x.l.length x.lc, .slice x.rA x.ns.length x.rc, .int .i64 x.each, .int .i64 x.keep, .int .i64 kp]] w (DoneV F g ⟨(compS S).1, ps, [], (compS S).2⟩ q w) := by
  have hb : Below w.heap.size w (w.alloc (.cells #[.int .i64 3, .int .i64 x.kind, .int .i64 x.fr, .int .i64 x.dst, .int .i64 x.ep, .int .i64 x.op, .int .i64 x.n, .bool x.flag, .string ⟨x.e.1.k.toArray⟩, .int .i64 x.e.1.s, .int .i64 x.e.1.u, .int .i64 x.e.1.o, .bool x.e.1.has, .slice x.e.2.1 x.e.1.v.length x.e.2.2, .slice x.lA x.l.length x.lc, .slice x.rA x.ns.length x.rc, .int .i64 x.each, .int .i64 x.keep, .int .i64 kp] 53)) := (Below.refl _ _).alloc (Nat.le_refl _) _
  have HK := Lib.hid (Blk.new w 53 #[.int .i64 3, .int .i64 x.kind, .int .i64 x.fr, .int .i64 x.dst, .int .i64 x.ep, .int .i64 x.op, .int .i64 x.n, .bool x.flag, .string ⟨x.e.1.k.toArray⟩, .int .i64 x.e.1.s, .int .i64 x.e.1.u, .int .i64 x.e.1.o, .bool x.e.1.has, .slice x.e.2.1 x.e.1.v.length x.e.2.2, .slice x.lA x.l.length x.lc, .slice x.rA x.ns.length x.rc, .int .i64 x.each, .int .i64 x.keep, .int .i64 kp])
  have HB := Lib.hid hb
  have HH := Lib.hid (svcompact_any F g q S ps _ (h.below hb))
  obtain ⟨S2, hS2⟩ : ∃ S2, (compS S).1 = S2 := ⟨_, rfl⟩
  obtain ⟨e2, he2⟩ : ∃ e2, (compS S).2 = e2 := ⟨_, rfl⟩
  rw [hS2, he2] at HH
  rw [hS2, he2]
  have k0 : (w.alloc (.cells #[.int .i64 3, .int .i64 x.kind, .int .i64 x.fr, .int .i64 x.dst, .int .i64 x.ep, .int .i64 x.op, .int .i64 x.n, .bool x.flag, .string ⟨x.e.1.k.toArray⟩, .int .i64 x.e.1.s, .int .i64 x.e.1.u, .int .i64 x.e.1.o, .bool x.e.1.has, .slice x.e.2.1 x.e.1.v.length x.e.2.2, .slice x.lA x.l.length x.lc, .slice x.rA x.ns.length x.rc, .int .i64 x.each, .int .i64 x.keep, .int .i64 kp] 53)).cell? ⟨w.heap.size, 0, none⟩ = some (.int .i64 3) := HK.out.cell 0
  clear hb h hS2 he2
  go_enter Tryz.func12, Tryz.ntmps12
  go_wp2_with fail
  refine HH.out.mono ?_
  rintro e w1 ⟨rfl, F1, hf, hs, htt⟩
  have HX : Hid (DoneV F g ⟨S2, ps, [], e2⟩ q w (.returned (.tuple #[.pointer (some ⟨g, 0, none⟩), .slice none 0 0, .int .i64 e2])) w1) := Lib.hid
    ⟨g, F1, q, [], none, 0, rfl, rfl, msN_nil _ _ _, fun k hk => (hf k hk).imp (fun h => h) (fun h => Nat.le_trans HB.out.size h), Nat.le_succ _, hs, (Touch.ofBelow HB.out).trans htt fun k hk => Or.inl hk⟩
  clear hf hs htt HH k0
  go_wp2
  go_ret3
  exact HX.out
theorem done14_neg (F : Nat → Prop) (g q : Nat) (S : St8) (ps : Ps14) (x : MV) (kd kp : Int) (h1 : kd ≠ 1) (h2 : kd ≠ 2) (h3 : kd ≠ 3) (hkp : kp < 0) (w : World) (h : SvAt w F g S ps q) :
    Calls Tryz.prog 12 #[.pointer (some ⟨g, 0, none⟩), .agg #[.int .i64 kd, .int .i64 x.kind, .int .i64 x.fr, .int .i64 x.dst, .int .i64 x.ep, .int .i64 x.op, .int .i64 x.n, .bool x.flag, .string ⟨x.e.1.k.toArray⟩, .int .i64 x.e.1.s, .int .i64 x.e.1.u, .int .i64 x.e.1.o, .bool x.e.1.has, .slice x.e.2.1 x.e.1.v.length x.e.2.2, .slice x.lA x.l.length x.lc, .slice x.rA x.ns.length x.rc, .int .i64 x.each, .int .i64 x.keep, .int .i64 kp]] w (DoneV F g ⟨S, ps, [], 2⟩ q w) := by
  have hb : Below w.heap.size w (w.alloc (.cells #[.int .i64 kd, .int .i64 x.kind, .int .i64 x.fr, .int .i64 x.dst, .int .i64 x.ep, .int .i64 x.op, .int .i64 x.n, .bool x.flag, .string ⟨x.e.1.k.toArray⟩, .int .i64 x.e.1.s, .int .i64 x.e.1.u, .int .i64 x.e.1.o, .bool x.e.1.has, .slice x.e.2.1 x.e.1.v.length x.e.2.2, .slice x.lA x.l.length x.lc, .slice x.rA x.ns.length x.rc, .int .i64 x.each, .int .i64 x.keep, .int .i64 kp] 53)) := (Below.refl _ _).alloc (Nat.le_refl _) _
  have HK := Lib.hid (Blk.new w 53 #[.int .i64 kd, .int .i64 x.kind, .int .i64 x.fr, .int .i64 x.dst, .int .i64 x.ep, .int .i64 x.op, .int .i64 x.n, .bool x.flag, .string ⟨x.e.1.k.toArray⟩, .int .i64 x.e.1.s, .int .i64 x.e.1.u, .int .i64 x.e.1.o, .bool x.e.1.has, .slice x.e.2.1 x.e.1.v.length x.e.2.2, .slice x.lA x.l.length x.lc, .slice x.rA x.ns.length x.rc, .int .i64 x.each, .int .i64 x.keep, .int .i64 kp])
  have HB := Lib.hid hb
  have n1 : (kd == 1) = false := by simpa using h1
  have n2 : (kd == 2) = false := by simpa using h2
  have n3 : (kd == 3) = false := by simpa using h3
  have k0 : (w.alloc (.cells #[.int .i64 kd, .int .i64 x.kind, .int .i64 x.fr, .int .i64 x.dst, .int .i64 x.ep, .int .i64 x.op, .int .i64 x.n, .bool x.flag, .string ⟨x.e.1.k.toArray⟩, .int .i64 x.e.1.s, .int .i64 x.e.1.u, .int .i64 x.e.1.o, .bool x.e.1.has, .slice x.e.2.1 x.e.1.v.length x.e.2.2, .slice x.lA x.l.length x.lc, .slice x.rA x.ns.length x.rc, .int .i64 x.each, .int .i64 x.keep, .int .i64 kp] 53)).cell? ⟨w.heap.size, 0, none⟩ = some (.int .i64 kd) := HK.out.cell 0
  have k18 : (w.alloc (.cells #[.int .i64 kd, .int .i64 x.kind, .int .i64 x.fr, .int .i64 x.dst, .int .i64 x.ep, .int .i64 x.op, .int .i64 x.n, .bool x.flag, .string ⟨x.e.1.k.toArray⟩, .int .i64 x.e.1.s, .int .i64 x.e.1.u, .int .i64 x.e.1.o, .bool x.e.1.has, .slice x.e.2.1 x.e.1.v.length x.e.2.2, .slice x.lA x.l.length x.lc, .slice x.rA x.ns.length x.rc, .int .i64 x.each, .int .i64 x.keep, .int .i64 kp] 53)).cell? ⟨w.heap.size, 18, none⟩ = some (.int .i64 kp) := HK.out.cell 18
  have HH := Lib.hid (svcrash_neg F g q S ps kp hkp _ (h.below hb))
  have HS := Lib.hid h
  clear hb h h1 h2 h3 hkp
  go_enter Tryz.func12, Tryz.ntmps12
  go_wp2_with fail
  refine HH.out.mono ?_
  rintro e w1 ⟨rfl, hb1⟩
  have HX : Hid (DoneV F g ⟨S, ps, [], 2⟩ q w (.returned (.tuple #[.pointer (some ⟨g, 0, none⟩), .slice none 0 0, .int .i64 2])) w1) := Lib.hid (by
    have hb2 := HB.out.trans (hb1.mono HB.out.size)
    exact ⟨g, F, q, [], none, 0, rfl, rfl, msN_nil _ _ _, fun k hk => Or.inl hk, Nat.le_succ _, HS.out.below hb2, Touch.ofBelow hb2⟩)
  clear hb1 HH k0 k18
  go_wp2
  go_ret3
  exact HX.out
theorem done14_crash (F : Nat → Prop) (g q : Nat) (S : St8) (ps : Ps14) (x : MV) (kd kp : Int) (h1 : kd ≠ 1) (h2 : kd ≠ 2) (h3 : kd ≠ 3) (hkp : 0 ≤ kp) (w : World) (h : SvAt w F g S ps q) :
    Calls Tryz.prog 12 #[.pointer (some ⟨g, 0, none⟩), .agg #[.int .i64 kd, .int .i64 x.kind, .int .i64 x.fr, .int .i64 x.dst, .int .i64 x.ep, .int .i64 x.op, .int .i64 x.n, .bool x.flag, .string ⟨x.e.1.k.toArray⟩, .int .i64 x.e.1.s, .int .i64 x.e.1.u, .int .i64 x.e.1.o, .bool x.e.1.has, .slice x.e.2.1 x.e.1.v.length x.e.2.2, .slice x.lA x.l.length x.lc, .slice x.rA x.ns.length x.rc, .int .i64 x.each, .int .i64 x.keep, .int .i64 kp]] w (DoneV F g ⟨crash8S S kp.toNat, [], [], 0⟩ q w) := by
  have hb : Below w.heap.size w (w.alloc (.cells #[.int .i64 kd, .int .i64 x.kind, .int .i64 x.fr, .int .i64 x.dst, .int .i64 x.ep, .int .i64 x.op, .int .i64 x.n, .bool x.flag, .string ⟨x.e.1.k.toArray⟩, .int .i64 x.e.1.s, .int .i64 x.e.1.u, .int .i64 x.e.1.o, .bool x.e.1.has, .slice x.e.2.1 x.e.1.v.length x.e.2.2, .slice x.lA x.l.length x.lc, .slice x.rA x.ns.length x.rc, .int .i64 x.each, .int .i64 x.keep, .int .i64 kp] 53)) := (Below.refl _ _).alloc (Nat.le_refl _) _
  have HK := Lib.hid (Blk.new w 53 #[.int .i64 kd, .int .i64 x.kind, .int .i64 x.fr, .int .i64 x.dst, .int .i64 x.ep, .int .i64 x.op, .int .i64 x.n, .bool x.flag, .string ⟨x.e.1.k.toArray⟩, .int .i64 x.e.1.s, .int .i64 x.e.1.u, .int .i64 x.e.1.o, .bool x.e.1.has, .slice x.e.2.1 x.e.1.v.length x.e.2.2, .slice x.lA x.l.length x.lc, .slice x.rA x.ns.length x.rc, .int .i64 x.each, .int .i64 x.keep, .int .i64 kp])
  have HB := Lib.hid hb
  have n1 : (kd == 1) = false := by simpa using h1
  have n2 : (kd == 2) = false := by simpa using h2
  have n3 : (kd == 3) = false := by simpa using h3
  have k0 : (w.alloc (.cells #[.int .i64 kd, .int .i64 x.kind, .int .i64 x.fr, .int .i64 x.dst, .int .i64 x.ep, .int .i64 x.op, .int .i64 x.n, .bool x.flag, .string ⟨x.e.1.k.toArray⟩, .int .i64 x.e.1.s, .int .i64 x.e.1.u, .int .i64 x.e.1.o, .bool x.e.1.has, .slice x.e.2.1 x.e.1.v.length x.e.2.2, .slice x.lA x.l.length x.lc, .slice x.rA x.ns.length x.rc, .int .i64 x.each, .int .i64 x.keep, .int .i64 kp] 53)).cell? ⟨w.heap.size, 0, none⟩ = some (.int .i64 kd) := HK.out.cell 0
  have k18 : (w.alloc (.cells #[.int .i64 kd, .int .i64 x.kind, .int .i64 x.fr, .int .i64 x.dst, .int .i64 x.ep, .int .i64 x.op, .int .i64 x.n, .bool x.flag, .string ⟨x.e.1.k.toArray⟩, .int .i64 x.e.1.s, .int .i64 x.e.1.u, .int .i64 x.e.1.o, .bool x.e.1.has, .slice x.e.2.1 x.e.1.v.length x.e.2.2, .slice x.lA x.l.length x.lc, .slice x.rA x.ns.length x.rc, .int .i64 x.each, .int .i64 x.keep, .int .i64 kp] 53)).cell? ⟨w.heap.size, 18, none⟩ = some (.int .i64 kp) := HK.out.cell 18
  have HH0 := svcrash_any F g q kp.toNat S ps _ (h.below hb)
  rw [Int.toNat_of_nonneg hkp] at HH0
  obtain ⟨S2, hS2⟩ : ∃ S2, crash8S S kp.toNat = S2 := ⟨_, rfl⟩
  rw [hS2] at HH0
  rw [hS2]
  have HH := Lib.hid HH0
  clear hb h h1 h2 h3 hkp HH0 hS2
  go_enter Tryz.func12, Tryz.ntmps12
  go_wp2_with fail
  refine HH.out.mono ?_
  rintro e w1 ⟨g1, F1, rfl, hF1, hs1, hb1⟩
  have HX : Hid (DoneV F g ⟨S2, [], [], 0⟩ q w (.returned (.tuple #[.pointer (some ⟨g1, 0, none⟩), .slice none 0 0, .int .i64 0])) w1) := Lib.hid (by
    have hb2 := HB.out.trans (hb1.mono HB.out.size)
    exact ⟨g1, F1, q, [], none, 0, rfl, rfl, msN_nil _ _ _, fun k hk => Or.inr (Nat.le_trans HB.out.size (hF1 k hk)), Nat.le_succ _, hs1, Touch.ofBelow hb2⟩)
  simp only
  clear hF1 hs1 hb1 HH k0 k18
  go_wp2
  go_ret3
  exact HX.out
theorem done14_any (F : Nat → Prop) (g q : Nat) (S : St8) (ps : Ps14) (r : O14) (hq : q ≤ 4611686018427387904) (hacks : S.acks.length ≤ 700000000000) (hps : ps.length ≤ 700000000000) (hks : KeyS S) (w : World) (ht : KT w) (h : SvAt w F g S ps q) (hm : MsgM w r.m) (hN : RowN F w r.m.e.2.1 (r.m.e.1.v.map byteV)) :
    Calls Tryz.prog 12 #[.pointer (some ⟨g, 0, none⟩), .agg ⟨oC r⟩] w (DoneV F g (opS S ps r.kind (mP r.m) r.kept) q w) := by
  obtain ⟨kd, x, kp⟩ := r
  unfold opS
  by_cases h1 : kd = 1
  · subst h1
    rw [if_pos rfl]
    exact done14_msg F g q S ps x kp (by omega) hps w ht h hm hN
  rw [if_neg h1]
  by_cases h2 : kd = 2
  · subst h2
    rw [if_pos rfl]
    exact done14_tick F g q S ps x kp hq hacks hks w h
  rw [if_neg h2]
  by_cases h3 : kd = 3
  · subst h3
    rw [if_pos rfl]
    exact done14_comp F g q S ps x kp w h
  rw [if_neg h3]
  by_cases h4 : kp < 0
  · rw [if_pos h4]
    exact done14_neg F g q S ps x kd kp h1 h2 h3 h4 w h
  · rw [if_neg h4]
    exact done14_crash F g q S ps x kd kp h1 h2 h3 (by omega) w h
end Go.Proofs.YtkdpfjenjcpcfaaGreatDoor
namespace Go.Proofs.YtkdpfjenjcpcfaaGreatDoor
open Go.RowKit Mem Be Word Frm Go.Maps Rg
set_option maxRecDepth 100000
set_option maxHeartbeats 2000000
set_option linter.unusedVariables false
/-- A server of a statement's own, in blocks that are new since w0. -/
structure Sv1 (w0 w : World) (F : Nat → Prop) (g : Nat) (S : St8) (ps : Ps14) (q : Nat) : Prop where
  new : ∀ k, F k → w0.heap.size ≤ k
  at_ : SvAt w F g S ps q
  bel : Below w0.heap.size w0 w
section
variable {w0 w w1 : World} {F F' G : Nat → Prop} {g g' q q' : Nat} {S S' : St8} {ps ps' : Ps14}
theorem Sv1.below (h : Sv1 w0 w F g S ps q) (hb : Below w.heap.size w w1) : Sv1 w0 w1 F g S ps q := ⟨h.new, h.at_.below hb, h.bel.trans (hb.mono h.bel.size)⟩
theorem Sv1.to (h : Sv1 w0 w F g S ps q) (hf : ∀ k, F' k → F k ∨ w.heap.size ≤ k) (hl : SvAt w1 F' g' S' ps' q') (ht : Touch F w w1) : Sv1 w0 w1 F' g' S' ps' q' :=
  ⟨fun k hk => (by
    rcases hf k hk with h1 | h1
    · exact h.new k h1
    · exact Nat.le_trans h.bel.size h1), hl, h.bel.trans (ht.below h.bel.size h.new)⟩
theorem Sv1.new_ (h : Sv1 w0 w F g S ps q) (hf : ∀ k, F' k → w.heap.size ≤ k) (hl : SvAt w1 F' g' S' ps' q') (hb : Below w.heap.size w w1) : Sv1 w0 w1 F' g' S' ps' q' :=
  ⟨fun k hk => Nat.le_trans h.bel.size (hf k hk), hl, h.bel.trans (hb.mono h.bel.size)⟩
theorem Sv1.touch (h : Sv1 w0 w F g S ps q) (ht : Touch G w w1) (hd : ∀ k, F k → ¬ G k) (hG : ∀ k, G k → w0.heap.size ≤ k) : Sv1 w0 w1 F g S ps q := ⟨h.new, h.at_.touch ht hd, h.bel.trans (ht.below h.bel.size hG)⟩
theorem Sv1.lt (h : Sv1 w0 w F g S ps q) : g < w.heap.size := by
  obtain ⟨K, FS, hs⟩ := h.at_.stAt
  exact st_glt hs
theorem SvAt.ok (h : SvAt w F g S ps q) : Ok8 S := by
  obtain ⟨K, FS, hs⟩ := h.stAt
  exact hs.ok
theorem SvAt.short (h : SvAt w F g S ps q) : Short S.rs := by
  obtain ⟨K, FS, hs⟩ := h.stAt
  obtain ⟨h0, FL, FS, lm, fm, TL, TF, A, c, h1, h2, hfl, h⟩ := hs
  exact h.lg.short
end
def lkMV (k : List UInt8) : MV := ⟨7, 9, 1, 0, 4, 0, false, (⟨k, 0, 0, 0, false, []⟩, none, 0), none, [], 0, none, [], 0, 0, 0⟩
theorem lkMV_m (k : List UInt8) (hk : k.length ≤ maxLen) (w : World) : MsgM w (lkMV k) := ⟨⟨Row.nil _ _ _, by show (0 : Nat) ≤ _; omega, hk, by show (0 : Nat) ≤ _; omega⟩, ⟨Row.nil _ _ _, by intro x hx; cases hx⟩, by show (0 : Nat) ≤ _; omega, Row.nil _ _ _, by show (0 : Nat) ≤ _; omega⟩
theorem lk_check (k : List UInt8) (h0 : 0 < k.length) (h1 : k.length ≤ 250) : checkM (mP (lkMV k)) = 0 := by
  have hok : okE (⟨k, 0, 0, 0, false, []⟩ : EntP) := by
    unfold okE
    show rightE k.length 0 0 0 0 false = 0
    rw [rightE_check ⟨h0, h1, by omega, Or.inr rfl, by simp⟩]
    rfl
  have h2 : rE (mP (lkMV k)) = true := decide_eq_true hok
  have hm : okM (mP (lkMV k)) = true := by
    unfold okM
    rw [show fldB (hasE (mP (lkMV k)).kind) (rE (mP (lkMV k))) (bE (mP (lkMV k))) = true from h2]
    rfl
  unfold checkM
  rw [if_pos hm]
theorem look14 (k : List UInt8) (w : World) :
    Calls Tryz.prog 21 #[.string ⟨k.toArray⟩] w fun e w' => e = .returned (.agg #[.int .i64 7, .int .i64 9, .int .i64 1, .int .i64 0, .int .i64 4, .int .i64 0, .bool false, .string ⟨k.toArray⟩, .int .i64 0, .int .i64 0, .int .i64 0, .bool false, .slice none 0 0, .slice none 0 0, .slice none 0 0, .int .i64 0, .int .i64 0]) ∧ Below w.heap.size w w' := by
  have HB : Hid (Below w.heap.size w (w.alloc (.cells #[.int .i64 7, .int .i64 9, .int .i64 1, .int .i64 0, .int .i64 4, .int .i64 0, .bool false, .string ⟨k.toArray⟩, .int .i64 0, .int .i64 0, .int .i64 0, .bool false, .slice none 0 0, .slice none 0 0, .slice none 0 0, .int .i64 0, .int .i64 0] 51))) := Lib.hid ((Below.refl _ _).alloc (Nat.le_refl _) _)
  have HK : Hid (Blk (w.alloc (.cells #[.int .i64 7, .int .i64 9, .int .i64 1, .int .i64 0, .int .i64 4, .int .i64 0, .bool false, .string ⟨k.toArray⟩, .int .i64 0, .int .i64 0, .int .i64 0, .bool false, .slice none 0 0, .slice none 0 0, .slice none 0 0, .int .i64 0, .int .i64 0] 51)) w.heap.size 51 #[.int .i64 7, .int .i64 9, .int .i64 1, .int .i64 0, .int .i64 4, .int .i64 0, .bool false, .string ⟨k.toArray⟩, .int .i64 0, .int .i64 0, .int .i64 0, .bool false, .slice none 0 0, .slice none 0 0, .slice none 0 0, .int .i64 0, .int .i64 0]) := Lib.hid (Blk.new w _ _)
  go_enter Tryz.func21, Tryz.ntmps21
  go_wp2
  exact bodyPost_ret (v := .agg #[.int .i64 7, .int .i64 9, .int .i64 1, .int .i64 0, .int .i64 4, .int .i64 0, .bool false, .string ⟨k.toArray⟩, .int .i64 0, .int .i64 0, .int .i64 0, .bool false, .slice none 0 0, .slice none 0 0, .slice none 0 0, .int .i64 0, .int .i64 0]) (results_cell_row (p := 2) (ty := 51) Tryz.results21 _ _ w.heap.size 51 #[.int .i64 7, .int .i64 9, .int .i64 1, .int .i64 0, .int .i64 4, .int .i64 0, .bool false, .string ⟨k.toArray⟩, .int .i64 0, .int .i64 0, .int .i64 0, .bool false, .slice none 0 0, .slice none 0 0, .slice none 0 0, .int .i64 0, .int .i64 0] (0, 0) _ rfl HK.out Tryz.underlying51 rfl (by kernel_rfl)) rfl ⟨rfl, HB.out⟩
/-- What a server tells of a key. -/
theorem svlook_any (F : Nat → Prop) (g q : Nat) (S : St8) (ps : Ps14) (k : List UInt8) (h0 : 0 < k.length) (h1 : k.length ≤ 250) (w : World) (ht : KT w) (h : SvAt w F g S ps q) :
    Calls Tryz.prog 20 #[.pointer (some ⟨g, 0, none⟩), .agg #[.int .i64 7, .int .i64 9, .int .i64 1, .int .i64 0, .int .i64 4, .int .i64 0, .bool false, .string ⟨k.toArray⟩, .int .i64 0, .int .i64 0, .int .i64 0, .bool false, .slice none 0 0, .slice none 0 0, .slice none 0 0, .int .i64 0, .int .i64 0]] w (HandP F g S ps q [foundM S (mP (lkMV k))] S ps w) :=
  svhand_look F g q S ps (lkMV k) rfl (lk_check k h0 h1) rfl w ht h (lkMV_m k (by unfold maxLen; omega) w)
def mk14 : MV := ⟨10, 7, 1, 0, 0, 0, false, (⟨[107], 2, 0, 0, false, []⟩, none, 0), none, [], 0, none, [], 0, 0, 0⟩
theorem mk14_m (w : World) : MsgM w mk14 := ⟨⟨Row.nil _ _ _, by decide, by decide, by decide⟩, ⟨Row.nil _ _ _, by intro x hx; cases hx⟩, by decide, Row.nil _ _ _, by decide⟩
def k14S : St8 := ⟨[(1, putE e2)], 0, [], [e2], [⟨7, [107], 2, 0, 0⟩]⟩
theorem known14_put : putS st0 e2 7 = (k14S, 0) := by
  have h1 : mayP e2 7 := ⟨okE2, by decide, by decide, by decide⟩
  have h2 : 0 < cmpE e2 (ofT st0.N e2.k) := by decide
  have h3 : (allB (st0.rs ++ [(1, putE e2)])).length ≤ 4194304 := by
    have := putE_len okE2
    show (allB [(1, putE e2)]).length ≤ _
    rw [all_one, fr_len]; simp only; omega
  have h4 : writeS st0 e2 = (⟨st0.rs ++ [(1, putE e2)], st0.m, st0.L, putK kE st0.N e2, st0.acks⟩, 0) := if_pos h3
  unfold putS
  rw [if_pos h1, if_pos h2, h4, if_pos rfl]
  rfl
theorem k14_put (F : Nat → Prop) (g q : Nat) (w : World) (ht : KT w) (h : SvAt w F g st0 [] q) :
    Calls Tryz.prog 20 #[.pointer (some ⟨g, 0, none⟩), .agg #[.int .i64 10, .int .i64 7, .int .i64 1, .int .i64 0, .int .i64 0, .int .i64 0, .bool false, .string ⟨#[107]⟩, .int .i64 2, .int .i64 0, .int .i64 0, .bool false, .slice none 0 0, .slice none 0 0, .slice none 0 0, .int .i64 0, .int .i64 0]] w (HandP F g st0 [] q [] k14S [(e2, 7)] w) := by
  have hc : checkM (mP mk14) = 0 := by decide +kernel
  have := svhand_flush F g q st0 [] mk14 rfl hc rfl (by simp [st0]) (by simp) w ht h (mk14_m w) (Or.inl rfl)
  have e1 : (putS st0 mk14.e.1 mk14.fr).1 = k14S := by show (putS st0 e2 7).1 = _; rw [known14_put]
  have e3 : putP st0 [] mk14.e.1 mk14.fr = [(e2, 7)] := by show putP st0 [] e2 7 = _; unfold putP; rw [known14_put]; rfl
  rw [e1, e3] at this
  have e4 : mk14.e.1.k = [107] := rfl
  unfold mk14 at this
  simp only [List.length_nil] at this
  exact this
theorem k14_look (F : Nat → Prop) (g q : Nat) (S : St8) (ps : Ps14) (w : World) (ht : KT w) (h : SvAt w F g S ps q) :
    Calls Tryz.prog 20 #[.pointer (some ⟨g, 0, none⟩), .agg #[.int .i64 7, .int .i64 9, .int .i64 1, .int .i64 0, .int .i64 4, .int .i64 0, .bool false, .string ⟨#[107]⟩, .int .i64 0, .int .i64 0, .int .i64 0, .bool false, .slice none 0 0, .slice none 0 0, .slice none 0 0, .int .i64 0, .int .i64 0]] w (HandP F g S ps q [foundM S (mP (lkMV [107]))] S ps w) := svlook_any F g q S ps [107] (by decide) (by decide) w ht h
/-- A row of one message. -/
theorem msN_one {F : Nat → Prop} {w : World} {A : Option Addr} {us : List MV} {m : MsgP} (h : MsN F w A us) (hu : us.map mP = [m]) :
    us.length = 1 ∧ ∃ b o, A = some ⟨b, o, none⟩ ∧ w.cell? ⟨b, o, none⟩ = some (.int .i64 m.kind) ∧ w.cell? ⟨b, o + 1, none⟩ = some (.int .i64 m.fr) ∧ w.cell? ⟨b, o + 2, none⟩ = some (.int .i64 m.dst) ∧ w.cell? ⟨b, o + 7, none⟩ = some (.string ⟨m.e.k.toArray⟩) ∧ w.cell? ⟨b, o + 8, none⟩ = some (.int .i64 m.e.s) ∧ w.cell? ⟨b, o + 9, none⟩ = some (.int .i64 m.e.u) ∧ w.cell? ⟨b, o + 10, none⟩ = some (.int .i64 m.e.o) := by
  have hl : us.length = 1 := by simpa using congrArg List.length hu
  obtain ⟨u, rfl⟩ := List.length_eq_one_iff.1 hl
  have hm : mP u = m := by simpa using hu
  obtain ⟨b, o, hA, _, hc⟩ := ms_open h.row.row (by simp)
  have hc0 := hc 0 (by simp)
  simp only [Nat.zero_mul, Nat.add_zero, List.getElem_cons_zero] at hc0
  have k0 := hc0 0 (.int .i64 u.kind) rfl
  rw [Nat.add_zero] at k0
  have k1 := hc0 1 (.int .i64 u.fr) rfl
  have k2 := hc0 2 (.int .i64 u.dst) rfl
  have k7 := hc0 7 (.string ⟨u.e.1.k.toArray⟩) rfl
  have k8 := hc0 8 (.int .i64 u.e.1.s) rfl
  have k9 := hc0 9 (.int .i64 u.e.1.u) rfl
  have k10 := hc0 10 (.int .i64 u.e.1.o) rfl
  subst hm
  exact ⟨rfl, b, o, hA, k0, k1, k2, k7, k8, k9, k10⟩
theorem msN_none {F : Nat → Prop} {w : World} {A : Option Addr} {us : List MV} (hu : us.map mP = []) : us = [] := by
  cases us with
  | nil => rfl
  | cons a l => cases hu
def IsT14 (w : World) (e : Ending) (w' : World) : Prop := e = .returned (.bool true) ∧ Below w.heap.size w w'
end Go.Proofs.YtkdpfjenjcpcfaaGreatDoor
namespace Go.Proofs.YtkdpfjenjcpcfaaGreatDoor
open Go.RowKit Mem Be Word Frm Go.Maps Rg
set_option maxRecDepth 100000
set_option maxHeartbeats 2000000
set_option linter.unusedVariables false
theorem known14_any (w : World) (ht : KT w) : Calls Tryz.prog 10 #[] w (IsT14 w) := by
  have HT := Lib.hid ht
  clear ht
  go_enter Tryz.func10, Tryz.ntmps10
  go_wp2_with fail
  refine (newsv_any w).mono ?_
  rintro e w1 ⟨g, F, rfl, hF, hd, hb⟩
  have HL0 := Lib.hid (show Sv1 w w1 F g st0 [] 0 from ⟨hF, hd, hb⟩)
  simp only [id]
  clear hF hd hb
  have HL := Lib.hid (HL0.out.below ((Below.refl _ _).alloc (Nat.le_refl _) (.cells #[.string ⟨#[107]⟩, .int .i64 2, .int .i64 0, .int .i64 0, .bool false, .slice none 0 0] 46)))
  clear HL0
  go_wp2_with fail
  refine (k14_put F g 0 _ (HT.out.below HL.out.bel) HL.out.at_).mono ?_
  rintro e w2 ⟨F2, us, A2, c2, rfl, hu, hn, hf, hs, htt⟩
  have HL2 := Lib.hid (HL.out.to hf hs htt)
  obtain rfl := msN_none (F := F2) (w := w2) (A := A2) hu
  clear hu hn hf hs htt HL
  go_wp2_with fail
  refine (look14 [107] w2).mono ?_
  rintro e w3 ⟨rfl, hb3⟩
  have HL3 := Lib.hid (HL2.out.below hb3)
  clear hb3 HL2
  go_wp2_with fail
  refine (k14_look F2 g 0 k14S _ w3 (HT.out.below HL3.out.bel) HL3.out.at_).mono ?_
  rintro e w4 ⟨F4, ua, A4, c4, rfl, hu, hn, hf, hs, htt⟩
  have HL4 := Lib.hid (HL3.out.to hf hs htt)
  have HUA := Lib.hid hu
  have HNA := Lib.hid (hn.mono fun k hk => Or.inl hk)
  have hl := (msN_one hn hu).1
  rw [hl]
  clear hu hn hf hs htt hl HL3
  go_wp2_with fail
  refine (svtick_any F4 g 0 k14S _ (by omega) (by simp [k14S]) w4 HL4.out.at_).mono ?_
  rintro e w5 ⟨F5, A5, c5, q5, rfl, ho, hA, hf, hq, hs, htt⟩
  have HL5 := Lib.hid (HL4.out.to hf hs htt)
  have HQ5 := Lib.hid hq
  have HNA5 := Lib.hid (HNA.out.to hf htt)
  have HNB : Hid (MsN F5 w5 A5 (k14S.acks.map fmMV)) := Lib.hid (fm_msN (rowN_off ho hA) fun a ha => by
    obtain rfl : a = ⟨7, [107], 2, 0, 0⟩ := by simpa [k14S] using ha
    decide)
  simp only [k14S, List.length_cons, List.length_nil]
  clear ho hA hf hq hs htt HL4 HNA
  go_wp2_with fail
  refine (look14 [107] w5).mono ?_
  rintro e w6 ⟨rfl, hb6⟩
  have HL6 := Lib.hid (HL5.out.below hb6)
  have HNA6 := Lib.hid (HNA5.out.below hb6)
  have HNB6 := Lib.hid (HNB.out.below hb6)
  clear hb6 HL5 HNA5 HNB
  go_wp2_with fail
  refine (k14_look F5 g q5 (tickS k14S) _ w6 (HT.out.below HL6.out.bel) HL6.out.at_).mono ?_
  rintro e w7 ⟨F7, uc, A7, c7, rfl, hu, hn, hf, hs, htt⟩
  have HL7 := Lib.hid (HL6.out.to hf hs htt)
  obtain ⟨hlc, bc, oc, rfl, x0, _, _, _, x8, _, _⟩ := msN_one hn hu
  obtain ⟨_, ba, oa, rfl, _, _, _, _, y8, _, _⟩ := msN_one (HNA6.out.to hf htt) HUA.out
  obtain ⟨_, bb, ob, rfl, z0, _, z2, _, _, _, _⟩ := msN_one (HNB6.out.to hf htt) (m := toldM ⟨7, [107], 2, 0, 0⟩) (by rw [fm_told]; rfl)
  have e1 : (foundM (tickS k14S) (mP (lkMV [107]))).kind = 8 := rfl
  have e2 : (foundM (tickS k14S) (mP (lkMV [107]))).e.s = 2 := by decide +kernel
  have e3 : (foundM k14S (mP (lkMV [107]))).e.s = 0 := by decide +kernel
  have e4 : (toldM ⟨7, [107], 2, 0, 0⟩).kind = 11 := rfl
  have e5 : (toldM ⟨7, [107], 2, 0, 0⟩).dst = 7 := rfl
  rw [e1] at x0
  rw [e2] at x8
  rw [e3] at y8
  rw [e4] at z0
  rw [e5] at z2
  rw [hlc]
  clear hu hn hf hs htt HL6 HNA6 HNB6 e1 e2 e3 e4 e5 hlc HUA
  go_wp2_with fail
  refine (svcompact_nil w7).mono ?_
  rintro e w8 ⟨rfl, rfl⟩
  go_wp2
  go_ret
  exact ⟨rfl, HL7.out.bel⟩
end Go.Proofs.YtkdpfjenjcpcfaaGreatDoor
namespace Go.Proofs.YtkdpfjenjcpcfaaGreatDoor
open Go.RowKit Mem Be Word Frm Go.Maps
set_option maxRecDepth 100000
set_option maxHeartbeats 4000000
set_option linter.unusedVariables false
theorem pts14_at (rs : List PtV) (i : Nat) (h : i < rs.length) (j : Nat) (hj : j < 7) : (ptsC14 rs)[i * 7 + j]? = (putC14 rs[i])[j]? := by
  induction rs generalizing i with
  | nil => simp at h
  | cons p rs ih =>
    have hc : ptsC14 (p :: rs) = putC14 p ++ ptsC14 rs := rfl
    rw [hc]
    have hl : (putC14 p).length = 7 := rfl
    rcases i with _ | i
    · rw [List.getElem?_append_left (by omega), Nat.zero_mul, Nat.zero_add]; rfl
    · rw [List.getElem?_append_right (by omega), hl, show (i + 1) * 7 + j - 7 = i * 7 + j by omega, ih i (by simpa using h)]
      rfl
theorem pts_open14 {w : World} {B : Nat} {A : Option Addr} {rs : List PtV} (h : Row w B A (ptsC14 rs)) (hn : 0 < rs.length) :
    ∃ b o, A = some ⟨b, o, none⟩ ∧ b < B ∧ ∀ i (hi : i < rs.length), ∀ j v, (putC14 rs[i])[j]? = some v → w.cell? ⟨b, o + i * 7 + j, none⟩ = some v := by
  obtain ⟨b, o, hA, hb, hc⟩ := h.open_ (by rw [pts14_len]; omega)
  refine ⟨b, o, hA, hb, fun i hi j v hv => ?_⟩
  have hj : j < 7 := (List.getElem?_eq_some_iff.1 hv).1
  have hlt : i * 7 + j < (ptsC14 rs).length := by rw [pts14_len]; omega
  rw [show o + i * 7 + j = o + (i * 7 + j) by omega, hc (i * 7 + j) hlt, ← hv, ← pts14_at rs i hi j hj, List.getElem?_eq_getElem hlt]
theorem svcopy_any (F : Nat → Prop) (g q : Nat) (S : St8) (ps : Ps14) (hcp : CpI S ps) (hps : ps.length ≤ 700000000000) (w : World) (h : SvAt w F g S ps q) :
    Calls Tryz.prog 24 #[.pointer (some ⟨g, 0, none⟩)] w (NewSv id S ps q w) := by
  have HCR0 := svcrash_any F g q 0 S ps w h
  obtain ⟨FS, FP, vs, A, c, hvs, hB⟩ := h
  obtain ⟨X0, hX0⟩ : ∃ X0, crash8S S 0 = X0 := ⟨_, rfl⟩
  have hX0a : X0.acks = [] := by rw [← hX0]; rfl
  have hredo := hcp.redo
  rw [hX0] at HCR0 hredo
  have HCR := Lib.hid HCR0
  have HRD := Lib.hid hredo
  have HVS := Lib.hid hvs
  have hlen : ps.length = vs.length := by rw [← hvs, List.length_map]
  obtain ⟨n, hn⟩ : ∃ n, vs.length = n := ⟨_, rfl⟩
  have HN := Lib.hid hn
  have HBV := Lib.hid hB
  have HPN : Hid (ps.length = n) := Lib.hid (by omega)
  have hni : (n : Int) ≤ 700000000000 := by omega
  have hni0 : (0 : Int) ≤ (n : Int) := by omega
  have HYL : Hid (∀ j, ((ps.take j).foldl putY (X0, [])).1.acks.length ≤ 700000000000 ∧ ((ps.take j).foldl putY (X0, [])).2.length ≤ 700000000000) := Lib.hid fun j => by
    have h1 := redo_len (ps.take j) X0 []
    rw [hX0a] at h1
    have h2 : (ps.take j).length ≤ ps.length := by rw [List.length_take]; omega
    simp only [List.length_nil] at h1
    omega
  have HOLD : Hid (∀ r ∈ vs, (r.1.1.v.length : Int) ≤ 9223372036854775807 ∧ (r.1.1.k.length : Int) ≤ 9223372036854775807) := Lib.hid fun r hr => by
    have hm := (hcp.old (ptOf r) (by rw [← hvs]; exact List.mem_map_of_mem hr)).1.1
    have := rightE_yes hm
    have h1 : (ptOf r).1 = r.1.1 := rfl
    rw [h1] at this
    omega
  have HLT : Hid (∀ k, F k → k < w.heap.size) := Lib.hid hB.lt
  have hg := st_glt hB.st
  have c8 := st_c8 hB.st
  rw [hn] at c8
  have HC8 := Lib.hid c8
  clear HCR0 hX0 hX0a hredo hvs hlen hB hcp hps hn c8
  go_enter Tryz.func24, Tryz.ntmps24
  go_wp2_with fail
  refine HCR.out.mono ?_
  rintro e w1 ⟨g1, F1, rfl, hF1, hs1, hb1⟩
  have HB1 := Lib.hid hb1
  have HS1 : Hid ((∀ k, F1 k → w.heap.size ≤ k) ∧ SvAt w1 F1 g1 X0 [] q) := Lib.hid ⟨hF1, hs1⟩
  have hg1 : g < w1.heap.size := Nat.lt_of_lt_of_le hg hb1.size
  have c8 : w1.cell? ⟨g, 8, none⟩ = some (.slice A n c) := (hb1.cell (p := ⟨g, 8, none⟩) hg).trans HC8.out
  simp only
  clear hF1 hs1 hb1 HCR
  go_wp2_with fail
  clear c8
  go_loopw [20] (fun i wr => ∃ j : Nat, j ≤ n ∧ i = .int .i64 j ∧ Hid (∃ F2, (∀ k, F2 k → w.heap.size ≤ k) ∧ SvAt wr F2 g1 ((ps.take j).foldl putY (X0, [])).1 ((ps.take j).foldl putY (X0, [])).2 q ∧ Below w.heap.size w wr)) (fun i _ => n - (intOf i).toNat)
  case atStart => exact ⟨0, by omega, rfl, Lib.hid ⟨F1, HS1.out.1, HS1.out.2, HB1.out⟩⟩
  case round =>
    obtain ⟨k, hk, rfl, HR⟩ := hrel
    obtain ⟨F2, hF2, hs2, hb2⟩ := HR.out
    have HF2 := Lib.hid hF2
    have HS2 := Lib.hid hs2
    have HB2 := Lib.hid hb2
    have hyl := HYL.out k
    by_cases hlt : k < n
    · have hk1 : k < vs.length := by rw [HN.out]; exact hlt
      have hpk : k < ps.length := by rw [HPN.out]; exact hlt
      obtain ⟨b, o, rfl, _, hc⟩ := pts_open14 ((ownRow HBV.out.own).below hb2) (by omega)
      have a0 := hc k hk1 0 _ rfl
      have a1 := hc k hk1 1 _ rfl
      have a2 := hc k hk1 2 _ rfl
      have a3 := hc k hk1 3 _ rfl
      have a4 := hc k hk1 4 _ rfl
      have a5 := hc k hk1 5 _ rfl
      have a6 := hc k hk1 6 _ rfl
      rw [Nat.add_zero] at a0
      have hown := HBV.out.byt _ (List.mem_map_of_mem (f := Prod.fst) (List.getElem_mem hk1))
      have hol := HOLD.out _ (List.getElem_mem hk1)
      have hstep : (ps.take (k + 1)).foldl putY (X0, []) = putY ((ps.take k).foldl putY (X0, [])) (ptOf vs[k]) := by
        have he : ps[k] = ptOf vs[k] := by
          have := HVS.out
          subst this
          rw [List.getElem_map]
        rw [List.take_succ_eq_append_getElem hpk, List.foldl_append, he]; rfl
      obtain ⟨⟨x, who⟩, hx⟩ : ∃ r, vs[k]'hk1 = r := ⟨_, rfl⟩
      rw [hx] at a0 a1 a2 a3 a4 a5 a6 hown hol hstep
      simp only at hown hol
      obtain ⟨Y, hY⟩ : ∃ Y, (ps.take k).foldl putY (X0, []) = Y := ⟨_, rfl⟩
      rw [hY] at hs2 hyl hstep
      have HSY := Lib.hid hs2
      have hcap := (own_cap hown).1
      have HP : Hid (∀ W, Below wr.heap.size wr W → Calls Tryz.prog 52 #[.pointer (some ⟨g1, 0, none⟩), .agg #[.string ⟨x.1.k.toArray⟩, .int .i64 x.1.s, .int .i64 x.1.u, .int .i64 x.1.o, .bool x.1.has, .slice x.2.1 x.1.v.length x.2.2], .int .i64 who] W (SvTo (.int .i64 (putS Y.1 x.1 who).2) F2 g1 (putS Y.1 x.1 who).1 (putP Y.1 Y.2 x.1 who) q W)) := Lib.hid fun W hW => by
        have hbW : Below w.heap.size w W := HB2.out.trans (hW.mono HB2.out.size)
        have hrow : Row W w.heap.size x.2.1 (x.1.v.map byteV) := (ownRow hown).below hbW
        exact svput_any F2 g1 q Y.1 Y.2 x who (by omega) hyl.2 hol.1 hol.2 W (HSY.out.below hW) (hrow.more hbW.size) hcap (RowN.of_low hrow hbW.size HF2.out)
      have HST := Lib.hid hstep
      obtain ⟨cc, hcc⟩ : ∃ cc, (putS Y.1 x.1 who).2 = cc := ⟨_, rfl⟩
      rw [hcc] at HP
      have hki : (0 : Int) ≤ (k : Int) := by omega
      have hki2 : (k : Int) < (n : Int) := by omega
      clear hc hown hol hstep hx hY hcap hcc HR hF2 hs2 hb2 hyl HS2 HS1
      go_upto_region 7 with fail
      obtain ⟨w3, hw3⟩ : ∃ W, wr.alloc (.cells #[.string ⟨x.1.k.toArray⟩, .int .i64 x.1.s, .int .i64 x.1.u, .int .i64 x.1.o, .bool x.1.has, .slice x.2.1 x.1.v.length x.2.2, .int .i64 who] 115) = W := ⟨_, rfl⟩
      have HBK : Hid (Blk w3 wr.heap.size 115 #[.string ⟨x.1.k.toArray⟩, .int .i64 x.1.s, .int .i64 x.1.u, .int .i64 x.1.o, .bool x.1.has, .slice x.2.1 x.1.v.length x.2.2, .int .i64 who]) := Lib.hid (by rw [← hw3]; exact Blk.new _ _ _)
      have HB3 : Hid (Below wr.heap.size wr w3.drew) := Lib.hid (by rw [← hw3]; exact ((Below.refl _ _).alloc (Nat.le_refl _) _).drew)
      have k0 : w3.cell? ⟨wr.heap.size, 0, none⟩ = some (.string ⟨x.1.k.toArray⟩) := HBK.out.cell 0
      have k1 : w3.cell? ⟨wr.heap.size, 1, none⟩ = some (.int .i64 x.1.s) := HBK.out.cell 1
      have k2 : w3.cell? ⟨wr.heap.size, 2, none⟩ = some (.int .i64 x.1.u) := HBK.out.cell 2
      have k3 : w3.cell? ⟨wr.heap.size, 3, none⟩ = some (.int .i64 x.1.o) := HBK.out.cell 3
      have k4 : w3.cell? ⟨wr.heap.size, 4, none⟩ = some (.bool x.1.has) := HBK.out.cell 4
      have k5 : w3.cell? ⟨wr.heap.size, 5, none⟩ = some (.slice x.2.1 x.1.v.length x.2.2) := HBK.out.cell 5
      have k6 : w3.cell? ⟨wr.heap.size, 6, none⟩ = some (.int .i64 who) := HBK.out.cell 6
      have hg3 : g1 < w3.heap.size := by
        obtain ⟨K, FS2, hst⟩ := HSY.out.stAt
        have h1 := st_glt hst
        have h2 : wr.heap.size < w3.heap.size := HBK.out.lt
        omega
      rw [hw3]
      clear hw3 a0 a1 a2 a3 a4 a5 a6
      go_wp2_with fail
      go_region_law (go_simp; go_at_call 52; refine (HP.out _ HB3.out).mono ?_; rintro e w4 hp; have HTO := Lib.hid hp; obtain ⟨rfl, hrest⟩ := hp; clear hrest)
      all_goals
        clear k0 k1 k2 k3 k4 k5 k6
        go_wp2
        go_roundw
        case rel =>
          obtain ⟨_, F3, hF3, hs3, ht3⟩ := svTo_pre HB3.out HTO.out
          refine ⟨k + 1, by omega, by go_num, Lib.hid ⟨F3, fun j hj => ?_, ?_, HB2.out.trans (ht3.below HB2.out.size HF2.out)⟩⟩
          · rcases hF3 j hj with h | h
            · exact HF2.out j h
            · have := HB2.out.size; omega
          · rw [HST.out]; exact hs3
        case measure => simp [intOf]; omega
    · obtain rfl : k = n := by omega
      have HX : Hid (SvAt wr F2 g1 S ps q) := Lib.hid (by
        have h2 := HS2.out
        have h3 : ps.take k = ps := List.take_of_length_le (by rw [HPN.out]; exact Nat.le_refl _)
        have h4 := HRD.out
        unfold redo2 at h4
        rw [h3, h4] at h2; exact h2)
      clear HR hF2 hs2 hb2 hyl
      go_wp2
      go_ret
      exact ⟨g1, F2, rfl, HF2.out, HX.out, HB2.out⟩
end Go.Proofs.YtkdpfjenjcpcfaaGreatDoor
namespace Go.Proofs.YtkdpfjenjcpcfaaGreatDoor
open Go.RowKit Mem Be Rg
set_option maxRecDepth 100000
set_option maxHeartbeats 8000000
set_option linter.unusedVariables false
theorem long14_any (n c : Nat) (A : Option Addr) (rs : List O14) (hn : n = rs.length) (hnl : n ≤ maxLen) (w : World) (h : InO w A rs) :
    Calls Tryz.prog 9 #[.slice A n c] w (SomeI12 w) := by
  have HR := Lib.hid h
  have HN := Lib.hid hn
  have hni : (n : Int) ≤ 9223372036854775807 := by unfold maxLen at hnl; omega
  have hni0 : (0 : Int) ≤ (n : Int) := by omega
  clear h hn hnl
  go_enter Tryz.func9, Tryz.ntmps9
  go_wp2
  go_loopw [3, 4] (fun z i wr => ∃ k : Nat, k ≤ n ∧ i = .int .i64 k ∧ (∃ q : Int, z = .int .i64 q) ∧ Hid (Below w.heap.size w wr)) (fun _ i _ => n - (intOf i).toNat)
  case atStart => exact ⟨0, by omega, rfl, ⟨0, rfl⟩, Lib.hid (Below.refl _ _)⟩
  case round =>
    obtain ⟨k, hk, rfl, ⟨q, rfl⟩, HB⟩ := hrel
    by_cases hlt : k < n
    · have hk1 : k < rs.length := by rw [← HN.out]; exact hlt
      obtain ⟨b, o, rfl, hb, hc0⟩ := os_open (HR.out.rowAt HB.out) (by omega)
      have hc := hc0 k hk1
      have hm := HR.out.msg HB.out hk1
      obtain ⟨⟨kd, x, kp⟩, hx⟩ : ∃ r, rs[k]'hk1 = r := ⟨_, rfl⟩
      rw [hx] at hc hm
      simp only at hm
      have HL := Lib.hid (reflong12 x wr hm)
      have d1 := hc 1 (.int .i64 x.kind) rfl
      have d2 := hc 2 (.int .i64 x.fr) rfl
      have d3 := hc 3 (.int .i64 x.dst) rfl
      have d4 := hc 4 (.int .i64 x.ep) rfl
      have d5 := hc 5 (.int .i64 x.op) rfl
      have d6 := hc 6 (.int .i64 x.n) rfl
      have d7 := hc 7 (.bool x.flag) rfl
      have d8 := hc 8 (.string ⟨x.e.1.k.toArray⟩) rfl
      have d9 := hc 9 (.int .i64 x.e.1.s) rfl
      have d10 := hc 10 (.int .i64 x.e.1.u) rfl
      have d11 := hc 11 (.int .i64 x.e.1.o) rfl
      have d12 := hc 12 (.bool x.e.1.has) rfl
      have d13 := hc 13 (.slice x.e.2.1 x.e.1.v.length x.e.2.2) rfl
      have d14 := hc 14 (.slice x.lA x.l.length x.lc) rfl
      have d15 := hc 15 (.slice x.rA x.ns.length x.rc) rfl
      have d16 := hc 16 (.int .i64 x.each) rfl
      have d17 := hc 17 (.int .i64 x.keep) rfl
      have hki : (0 : Int) ≤ (k : Int) := by omega
      have hki2 : (k : Int) < (n : Int) := by omega
      clear hc hc0 hx hm
      go_wp2_with fail
      refine HL.out.mono ?_
      rintro e w2 ⟨m, rfl, hb2⟩
      have HB2 := Lib.hid (HB.out.trans (hb2.mono HB.out.size))
      clear hb2 HL d1 d2 d3 d4 d5 d6 d7 d8 d9 d10 d11 d12 d13 d14 d15 d16 d17
      go_wp2
      go_roundw
      case rel => exact ⟨k + 1, by omega, by go_num, ⟨_, rfl⟩, HB2⟩
      case measure => simp [intOf]; omega
    · obtain rfl : k = n := by omega
      go_wp2
      go_ret
      exact ⟨_, rfl, HB.out⟩
end Go.Proofs.YtkdpfjenjcpcfaaGreatDoor
namespace Go.Proofs.YtkdpfjenjcpcfaaGreatDoor
open Go.RowKit Go.ChangeShapes Mem Be Word Frm Go.Maps Rg
set_option maxRecDepth 100000
set_option maxHeartbeats 1000000
set_option linter.unusedVariables false
theorem InO.move {w w1 : World} {A : Option Addr} {rs : List O14} (h : InO w A rs) (hb : Below w.heap.size w w1) : InO w1 A rs :=
  ⟨(h.row.below hb).more hb.size, fun r hr => ⟨(h.ok r hr).m.below hb, (h.ok r hr).k0, (h.ok r hr).k1, (h.ok r hr).p0, (h.ok r hr).p1⟩⟩
/-- What holds of a server, k things done to it at most. -/
structure RunI (S : St8) (ps : Ps14) (k : Nat) : Prop where
  acks : S.acks.length ≤ k
  put : ps.length ≤ k
  keys : KeyS S
  cp : CpI S ps
theorem runI_new : RunI st0 [] 0 := ⟨by decide, by decide, keyS_st0, cp_new⟩
theorem runI_step {w w1 : World} {F F1 : Nat → Prop} {g g1 q q1 k : Nat} {S : St8} {ps : Ps14} (h : RunI S ps k) (kind : Int) (m : MsgP) (kept : Int) (hs : SvAt w F g S ps q) (hs1 : SvAt w1 F1 g1 (opS S ps kind m kept).S (opS S ps kind m kept).ps q1) : RunI (opS S ps kind m kept).S (opS S ps kind m kept).ps (k + 1) := by
  have h1 := opS_le S ps kind m kept
  exact ⟨by have := h.acks; omega, by have := h.put; omega, keyS_op h.keys kind m kept, opS_cp h.cp hs.ok hs.short hs1.ok hs1.short⟩
theorem done14_round {w0 w : World} {A : Option Addr} {rs : List O14} (hin : InO w0 A rs) (ht : KT w0) {F : Nat → Prop} {g q k j : Nat} {S : St8} {ps : Ps14} (h : Sv1 w0 w F g S ps q) (hk : k < rs.length) (hq : q ≤ 4611686018427387904) (hr : RunI S ps j) (hj : j ≤ 700000000000) :
    Calls Tryz.prog 12 #[.pointer (some ⟨g, 0, none⟩), .agg ⟨oC rs[k]⟩] w (DoneV F g (opS S ps rs[k].kind (mP rs[k].m) rs[k].kept) q w) :=
  done14_any F g q S ps rs[k] hq (by have := hr.acks; omega) (by have := hr.put; omega) hr.keys w (ht.below h.bel) h.at_ (hin.msg h.bel hk) (hin.apart h.bel hk h.new)
/-- Blocks apart stay apart. -/
theorem apart_step {w : World} {F F' G : Nat → Prop} (h : ∀ k, F k → ¬ G k) (hf : ∀ k, F' k → F k ∨ w.heap.size ≤ k) (hG : ∀ k, G k → k < w.heap.size) : ∀ k, F' k → ¬ G k := fun k hk hg => by
  rcases hf k hk with h1 | h1
  · exact h k h1 hg
  · have := hG k hg; omega
theorem sv_len {w : World} {F : Nat → Prop} {g q : Nat} {S : St8} {ps : Ps14} (h : SvAt w F g S ps q) : S.L.length ≤ 8388608 := by
  obtain ⟨K, FS, hs⟩ := h.stAt
  exact (tab_many hs).1
/-- What All tells of a server. -/
theorem svall_env {w w1 : World} {F : Nat → Prop} {g q : Nat} {S : St8} {ps : Ps14} {e : Ending} (h : SvAt w F g S ps q) (hp : EntsP S.L w e w1) :
    ∃ us A n c, e = .returned (.slice A n c) ∧ n = us.length ∧ us.map Prod.fst = S.L ∧ n ≤ 1073741824 ∧ EnV w1 A us ∧ Below w.heap.size w w1 := by
  obtain ⟨us, A, c, hus, he, ho, hes, hb⟩ := hp
  refine ⟨us, A, us.length, c, he, rfl, hus, ?_, enV_of ho hes (okT_lens h.ok.lOk hus), hb⟩
  have h1 := congrArg List.length hus
  rw [List.length_map] at h1
  have := sv_len h
  omega
end Go.Proofs.YtkdpfjenjcpcfaaGreatDoor
