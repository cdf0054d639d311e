/- MsC: A message in memory; package msgs: rightFields, blankFields, Check. -/
import Derived.Test.YtkdpfjenjcpcfaaGreatDoorMsB
import Derived.Test.YtkdpfjenjcpcfaaGreatDoorMsE
import Derived.Test.YtkdpfjenjcpcfaaGreatDoorRgt8
import Derived.Test.YtkdpfjenjcpcfaaGreatDoorTail
import Derived.Deep.QuietTactic
import Derived.BigQuiet
namespace Go.Proofs.YtkdpfjenjcpcfaaGreatDoor
open Go.RowKit Mem Be Rg
set_option maxRecDepth 100000
set_option maxHeartbeats 4000000
set_option linter.unusedVariables false
theorem ba_len12 (l : List UInt8) : (⟨l.toArray⟩ : ByteArray).size = l.length := str_len l
/-- An entry in memory, of whatever length. -/
structure EvB (w : World) (x : EV) : Prop where
  row : Row w w.heap.size x.2.1 (x.1.v.map byteV)
  len : x.1.v.length ≤ maxLen
  klen : x.1.k.length ≤ maxLen
  cap : x.1.v.length ≤ x.2.2
theorem EvB.leni {w : World} {x : EV} (h : EvB w x) : (x.1.v.length : Int) ≤ 9223372036854775807 := by have := h.len; unfold maxLen at this; omega
theorem EvB.kleni {w : World} {x : EV} (h : EvB w x) : (x.1.k.length : Int) ≤ 9223372036854775807 := by have := h.klen; unfold maxLen at this; omega
theorem EvB.below {w w' : World} {x : EV} (h : EvB w x) (hb : Below w.heap.size w w') : EvB w' x := ⟨(h.row.below hb).more hb.size, h.len, h.klen, h.cap⟩
theorem EvB.ok {w : World} {x : EV} (h : EvB w x) (hl : x.1.v.length ≤ 1073741824) : ValOk w x.1.has x.2.1 x.1.v x.2.2 := ⟨h.row, by omega, h.cap⟩
structure EntsB (w : World) (A : Option Addr) (us : List EV) : Prop where
  row : Row w w.heap.size A (entsC us)
  val : ∀ x ∈ us, EvB w x
theorem EntsB.below {w w' : World} {A : Option Addr} {us : List EV} (h : EntsB w A us) (hb : Below w.heap.size w w') : EntsB w' A us := ⟨(h.row.below hb).more hb.size, fun x hx => (h.val x hx).below hb⟩
/-- A message in memory. -/
structure MV where
  kind : Int
  fr : Int
  dst : Int
  ep : Int
  op : Int
  n : Int
  flag : Bool
  e : EV
  lA : Option Addr
  l : List EV
  lc : Nat
  rA : Option Addr
  ns : List Int
  rc : Nat
  each : Int
  keep : Int
def mP (x : MV) : MsgP := ⟨x.kind, x.fr, x.dst, x.ep, x.op, x.n, x.flag, x.e.1, x.l.map Prod.fst, x.ns, x.each, x.keep⟩
abbrev mC (x : MV) : Array Value := msgC x.kind x.fr x.dst x.ep x.op x.n x.flag ⟨x.e.1.k.toArray⟩ x.e.1.s x.e.1.u x.e.1.o x.e.1.has x.e.2.1 x.e.1.v.length x.e.2.2 x.lA x.l.length x.lc x.rA x.ns.length x.rc x.each x.keep
abbrev mV (x : MV) : Value := .agg (mC x)
structure MsgM (w : World) (x : MV) : Prop where
  ev : EvB w x.e
  en : EntsB w x.lA x.l
  ln : x.l.length ≤ maxLen
  rn : Row w w.heap.size x.rA (x.ns.map iV)
  rl : x.ns.length ≤ maxLen
theorem MsgM.below {w w' : World} {x : MV} (h : MsgM w x) (hb : Below w.heap.size w w') : MsgM w' x := ⟨h.ev.below hb, h.en.below hb, h.ln, (h.rn.below hb).more hb.size, h.rl⟩
theorem okE_def (x : EntP) (r : Int) (h : rightE x.k.length x.v.length x.s x.u x.o x.has = r) : decide (okE x) = (r == 0) := by
  by_cases h0 : r = 0
  · subst h0; rw [decide_eq_true (show okE x from h)]; rfl
  · rw [decide_eq_false (show ¬ okE x from fun e => h0 (h.symm.trans e))]; simp [h0]
theorem rightev_any (x : EV) (hv : (x.1.v.length : Int) ≤ 9223372036854775807) (hk : (x.1.k.length : Int) ≤ 9223372036854775807) (w : World) :
    Calls Tryz.prog 107 #[.agg #[.string ⟨x.1.k.toArray⟩, .int .i64 x.1.s, .int .i64 x.1.u, .int .i64 x.1.o, .bool x.1.has, .slice x.2.1 x.1.v.length x.2.2]] w (IsI (rightE x.1.k.length x.1.v.length x.1.s x.1.u x.1.o x.1.has) w) := by
  have := right_big ⟨x.1.k.toArray⟩ x.1.s x.1.u x.1.o x.1.has x.2.1 x.1.v.length x.2.2 hv (by rw [ba_len12]; exact hk) w
  rw [ba_len12] at this; exact this
theorem badent_any (x : EV) (hv : (x.1.v.length : Int) ≤ 9223372036854775807) (hk : (x.1.k.length : Int) ≤ 9223372036854775807) (w : World) :
    Calls Tryz.prog 138 #[.agg #[.string ⟨x.1.k.toArray⟩, .int .i64 x.1.s, .int .i64 x.1.u, .int .i64 x.1.o, .bool x.1.has, .slice x.2.1 x.1.v.length x.2.2]] w (IsB (!decide (okE x.1)) w) := by
  have HB : Hid (Below w.heap.size w (w.alloc (.cells #[.string ⟨x.1.k.toArray⟩, .int .i64 x.1.s, .int .i64 x.1.u, .int .i64 x.1.o, .bool x.1.has, .slice x.2.1 x.1.v.length x.2.2] 46))) := Lib.hid ((Below.refl _ _).alloc (Nat.le_refl _) _)
  have HC := Lib.hid fun W => rightev_any x hv hk W
  obtain ⟨r, hr⟩ : ∃ r, rightE x.1.k.length x.1.v.length x.1.s x.1.u x.1.o x.1.has = r := ⟨_, rfl⟩
  rw [okE_def x.1 r hr]
  rw [hr] at HC
  clear hr hv hk
  by_cases h0 : r = 0
  · subst h0
    go_enter Tryz.func138, Tryz.ntmps138
    go_wp2_with (go_at_call 107; refine (HC.out _).mono ?_; rintro e w2 ⟨rfl, hb⟩; have HB2 := Lib.hid (HB.out.trans (hb.mono HB.out.size)); clear hb)
    go_ret
    exact ⟨rfl, HB2.out⟩
  · have hb0 : (r != 0) = true := by simpa using h0
    have HV : Hid ((r == 0) = false) := Lib.hid (by simpa using h0)
    clear h0
    go_enter Tryz.func138, Tryz.ntmps138
    go_wp2_with (go_at_call 107; refine (HC.out _).mono ?_; rintro e w2 ⟨rfl, hb⟩; have HB2 := Lib.hid (HB.out.trans (hb.mono HB.out.size)); clear hb)
    go_ret
    exact ⟨by rw [HV.out]; rfl, HB2.out⟩
theorem badent_val (x : EV) (b : Bool) (hb : decide (okE x.1) = b) (hv : (x.1.v.length : Int) ≤ 9223372036854775807) (hk : (x.1.k.length : Int) ≤ 9223372036854775807) (w : World) :
    Calls Tryz.prog 138 #[.agg #[.string ⟨x.1.k.toArray⟩, .int .i64 x.1.s, .int .i64 x.1.u, .int .i64 x.1.o, .bool x.1.has, .slice x.2.1 x.1.v.length x.2.2]] w (IsB (!b) w) := by
  rw [← hb]; exact badent_any x hv hk w
/-- Where the first of them stands that may not be, or below nought. -/
def IdxP (us : List EV) (w : World) (e : Ending) (w' : World) : Prop := (∃ i : Int, e = .returned (.int .i64 i) ∧ decide (0 ≤ i) = !allE (us.map Prod.fst)) ∧ Below w.heap.size w w'
theorem allE_take {us : List EV} (h : ∀ x ∈ us, okE x.1) : allE (us.map Prod.fst) = true := allE_iff.2 fun x hx => by
  obtain ⟨y, hy, rfl⟩ := List.mem_map.1 hx
  exact h y hy
theorem allE_no {us : List EV} {x : EV} (hx : x ∈ us) (h : ¬ okE x.1) : allE (us.map Prod.fst) = false := by
  cases ha : allE (us.map Prod.fst)
  · rfl
  · exact absurd (allE_iff.1 ha x.1 (List.mem_map.2 ⟨x, hx, rfl⟩)) h
theorem idx_any (A : Option Addr) (n c : Nat) (us : List EV) (hn : n = us.length) (hl : n ≤ maxLen) (w : World) (h : EntsB w A us) :
    Calls Tryz.prog 165 #[.slice A n c, .func (.func 138) #[] #[]] w (IdxP us w) := by
  have HN := Lib.hid hn
  have H := Lib.hid h
  have hni : (n : Int) ≤ 9223372036854775807 := by unfold maxLen at hl; omega
  have hni0 : (0 : Int) ≤ (n : Int) := by omega
  clear hn h hl
  go_enter Tryz.func165, Tryz.ntmps165
  go_wp2
  go_loopw [8] (fun i wr => ∃ k : Nat, k ≤ n ∧ i = .int .i64 k ∧ Hid (Below w.heap.size w wr) ∧ Hid (∀ x ∈ us.take k, okE x.1)) (fun i _ => n - (intOf i).toNat)
  case atStart => exact ⟨0, by omega, rfl, Lib.hid (Below.refl _ _), Lib.hid (by simp)⟩
  case round =>
    obtain ⟨k, hk, rfl, HB, HA⟩ := hrel
    by_cases hlt : k < n
    · have hk1 : k < us.length := by rw [← HN.out]; exact hlt
      have hh := H.out.below HB.out
      obtain ⟨b, o, rfl, hb, hc⟩ := ents_open hh.row (by omega)
      obtain ⟨a0, a1, a2, a3, a4, a5⟩ := hc k hk1
      have hv := hh.val us[k] (List.getElem_mem hk1)
      have HNO : Hid (¬ okE us[k].1 → allE (us.map Prod.fst) = false) := Lib.hid fun h => allE_no (List.getElem_mem hk1) h
      have HYES : Hid (okE us[k].1 → ∀ x ∈ us.take (k + 1), okE x.1) := Lib.hid fun h x hx => by
        rw [List.take_succ_eq_append_getElem hk1] at hx
        rcases List.mem_append.1 hx with hx | hx
        · exact HA.out x hx
        · rw [List.mem_singleton.1 hx]; exact h
      obtain ⟨x, hx⟩ : ∃ p, us[k]'hk1 = p := ⟨_, rfl⟩
      rw [hx] at a0 a1 a2 a3 a4 a5 hv HNO HYES
      have hki : (0 : Int) ≤ (k : Int) := by omega
      have hki2 : (k : Int) < (n : Int) := by omega
      have HCB := Lib.hid fun b hb W => badent_val x b hb hv.leni hv.kleni W
      clear hc hx hv hh hb
      by_cases hok : okE x.1
      · have HD := Lib.hid (HCB.out true (decide_eq_true hok))
        have HY := Lib.hid (HYES.out hok)
        clear hok HCB
        go_wp2_with (go_at_call 138; refine (HD.out _).mono ?_; rintro e w2 ⟨rfl, hb⟩; have HB2 := Lib.hid (HB.out.trans (hb.mono HB.out.size)); clear hb)
        go_roundw
        case rel => exact ⟨k + 1, by omega, by go_num, HB2, HY⟩
        case measure => simp [intOf]; omega
      · have HD := Lib.hid (HCB.out false (decide_eq_false hok))
        have HY := Lib.hid (HNO.out hok)
        clear hok HCB
        go_wp2_with (go_at_call 138; refine (HD.out _).mono ?_; rintro e w2 ⟨rfl, hb⟩; have HB2 := Lib.hid (HB.out.trans (hb.mono HB.out.size)); clear hb)
        go_ret
        exact ⟨⟨(k : Int), rfl, by rw [HY.out]; simp⟩, HB2.out⟩
    · obtain rfl : k = n := by omega
      have HY : Hid (allE (us.map Prod.fst) = true) := Lib.hid (allE_take (by have := HA.out; rw [HN.out, List.take_length] at this; exact this))
      go_wp2
      go_ret
      exact ⟨⟨-1, rfl, by rw [HY.out]; rfl⟩, HB.out⟩
theorem contains_any (A : Option Addr) (n c : Nat) (us : List EV) (hn : n = us.length) (hl : n ≤ maxLen) (w : World) (h : EntsB w A us) :
    Calls Tryz.prog 137 #[.slice A n c, .func (.func 138) #[] #[]] w (IsB (!allE (us.map Prod.fst)) w) := by
  have HI := Lib.hid (idx_any A n c us hn hl w h)
  clear hn hl h
  go_enter Tryz.func137, Tryz.ntmps137
  go_wp2_with fail
  refine HI.out.mono ?_
  rintro e w1 ⟨⟨i, rfl, hi⟩, hb⟩
  have HV := Lib.hid hi
  have HB := Lib.hid hb
  clear hi hb
  go_wp2
  go_ret
  exact ⟨by rw [← HV.out]; rfl, HB.out⟩
theorem allright_any (A : Option Addr) (n c : Nat) (us : List EV) (hn : n = us.length) (hl : n ≤ maxLen) (w : World) (h : EntsB w A us) :
    Calls Tryz.prog 108 #[.slice A n c] w (IsB (allE (us.map Prod.fst)) w) := by
  have HI := Lib.hid (contains_any A n c us hn hl w h)
  clear hn hl h
  go_enter Tryz.func108, Tryz.ntmps108
  go_wp2_with fail
  refine HI.out.mono ?_
  rintro e w1 ⟨rfl, hb⟩
  have HB := Lib.hid hb
  clear hb
  go_wp2
  go_ret
  exact ⟨by simp, HB.out⟩
/-- What ring.Check tells. -/
theorem ringchk_any (A : Option Addr) (n c : Nat) (ns : List Int) (e k : Int) (hn : n = ns.length) (hl : n ≤ maxLen) (w : World) (h : Row w w.heap.size A (ns.map iV)) :
    Calls Tryz.prog 109 #[.agg #[.slice A n c, .int .i64 e, .int .i64 k]] w (IsI (if OkR ns e k then 0 else 2) w) := by
  by_cases ok : OkR ns e k
  · rw [if_pos ok]; exact check_ok A n c ns e k hn ok w h
  · rw [if_neg ok]; exact check_bad A n c ns e k hn hl ok w h
def RightP (m : MsgP) (w : World) (e : Ending) (w' : World) : Prop := e = .returned (b5 (rN m) true (rE m) (rL m) (rR m)) ∧ Below w.heap.size w w'
theorem rightf_any (x : MV) (w : World) (h : MsgM w x) : Calls Tryz.prog 78 #[.agg #[.int .i64 x.kind, .int .i64 x.fr, .int .i64 x.dst, .int .i64 x.ep, .int .i64 x.op, .int .i64 x.n, .bool x.flag, .string ⟨x.e.1.k.toArray⟩, .int .i64 x.e.1.s, .int .i64 x.e.1.u, .int .i64 x.e.1.o, .bool x.e.1.has, .slice x.e.2.1 x.e.1.v.length x.e.2.2, .slice x.lA x.l.length x.lc, .slice x.rA x.ns.length x.rc, .int .i64 x.each, .int .i64 x.keep]] w (RightP (mP x) w) := by
  have hb0 : Below w.heap.size w ((w.alloc (.cells #[.int .i64 x.kind, .int .i64 x.fr, .int .i64 x.dst, .int .i64 x.ep, .int .i64 x.op, .int .i64 x.n, .bool x.flag, .string ⟨x.e.1.k.toArray⟩, .int .i64 x.e.1.s, .int .i64 x.e.1.u, .int .i64 x.e.1.o, .bool x.e.1.has, .slice x.e.2.1 x.e.1.v.length x.e.2.2, .slice x.lA x.l.length x.lc, .slice x.rA x.ns.length x.rc, .int .i64 x.each, .int .i64 x.keep] 51)).alloc (.cells #[.bool false, .bool false, .bool false, .bool false, .bool false] 143)) := ((Below.refl _ _).alloc (Nat.le_refl _) _).alloc (by simp) _
  obtain ⟨W0, hW0⟩ : ∃ W0, (w.alloc (.cells #[.int .i64 x.kind, .int .i64 x.fr, .int .i64 x.dst, .int .i64 x.ep, .int .i64 x.op, .int .i64 x.n, .bool x.flag, .string ⟨x.e.1.k.toArray⟩, .int .i64 x.e.1.s, .int .i64 x.e.1.u, .int .i64 x.e.1.o, .bool x.e.1.has, .slice x.e.2.1 x.e.1.v.length x.e.2.2, .slice x.lA x.l.length x.lc, .slice x.rA x.ns.length x.rc, .int .i64 x.each, .int .i64 x.keep] 51)).alloc (.cells #[.bool false, .bool false, .bool false, .bool false, .bool false] 143) = W0 := ⟨_, rfl⟩
  have hk : Blk W0 w.heap.size 51 #[.int .i64 x.kind, .int .i64 x.fr, .int .i64 x.dst, .int .i64 x.ep, .int .i64 x.op, .int .i64 x.n, .bool x.flag, .string ⟨x.e.1.k.toArray⟩, .int .i64 x.e.1.s, .int .i64 x.e.1.u, .int .i64 x.e.1.o, .bool x.e.1.has, .slice x.e.2.1 x.e.1.v.length x.e.2.2, .slice x.lA x.l.length x.lc, .slice x.rA x.ns.length x.rc, .int .i64 x.each, .int .i64 x.keep] := by rw [← hW0]; exact (Blk.new w _ _).alloc _
  have hk2 : Blk W0 (w.heap.size + 1) 143 #[.bool false, .bool false, .bool false, .bool false, .bool false] := by rw [← hW0]; have := Blk.new (w.alloc (.cells #[.int .i64 x.kind, .int .i64 x.fr, .int .i64 x.dst, .int .i64 x.ep, .int .i64 x.op, .int .i64 x.n, .bool x.flag, .string ⟨x.e.1.k.toArray⟩, .int .i64 x.e.1.s, .int .i64 x.e.1.u, .int .i64 x.e.1.o, .bool x.e.1.has, .slice x.e.2.1 x.e.1.v.length x.e.2.2, .slice x.lA x.l.length x.lc, .slice x.rA x.ns.length x.rc, .int .i64 x.each, .int .i64 x.keep] 51)) 143 #[.bool false, .bool false, .bool false, .bool false, .bool false]; rw [World.size_alloc] at this; exact this
  rw [hW0] at hb0
  have H := Lib.hid (h.below hb0)
  have HB := Lib.hid hb0
  have HK2 := Lib.hid hk2
  have hv := h.ev.leni
  have hkl := h.ev.kleni
  have HCE := Lib.hid fun W => rightev_any x.e hv hkl W
  have HCL := Lib.hid fun W (hb : Below W0.heap.size W0 W) => allright_any x.lA x.l.length x.lc x.l rfl h.ln W ((h.below hb0).en.below hb)
  have HCR := Lib.hid fun W (hb : Below W0.heap.size W0 W) => ringchk_any x.rA x.ns.length x.rc x.ns x.each x.keep rfl h.rl W (((h.below hb0).below hb).rn)
  obtain ⟨re, hre⟩ : ∃ r, rightE x.e.1.k.length x.e.1.v.length x.e.1.s x.e.1.u x.e.1.o x.e.1.has = r := ⟨_, rfl⟩
  have hE := okE_def x.e.1 re hre
  rw [hre] at HCE
  obtain ⟨rr, hrr⟩ : ∃ r : Int, (if OkR x.ns x.each x.keep then 0 else 2) = r := ⟨_, rfl⟩
  have hR : decide (OkR x.ns x.each x.keep) = (rr == 0) := by
    rw [← hrr]
    by_cases ok : OkR x.ns x.each x.keep
    · rw [if_pos ok, decide_eq_true ok]; rfl
    · rw [if_neg ok, decide_eq_false ok]; rfl
  rw [hrr] at HCR
  obtain ⟨la, hla⟩ : ∃ b, allE (x.l.map Prod.fst) = b := ⟨_, rfl⟩
  rw [hla] at HCL
  have HV : Hid (b5 (rN (mP x)) true (rE (mP x)) (rL (mP x)) (rR (mP x)) = b5 (inR x.n 1099511627775) true (re == 0) (decide (x.l.length ≤ 1000) && la) (rr == 0)) := Lib.hid (by
    show b5 (inR x.n 1099511627775) true (decide (okE x.e.1)) (decide ((x.l.map Prod.fst).length ≤ 1000) && allE (x.l.map Prod.fst)) (decide (OkR x.ns x.each x.keep)) = _
    rw [hE, hR, hla, List.length_map])
  have l0 := later_blk_cell hk 0 (.int .i64 x.kind) rfl
  have l1 := later_blk_cell hk 1 (.int .i64 x.fr) rfl
  have l2 := later_blk_cell hk 2 (.int .i64 x.dst) rfl
  have l3 := later_blk_cell hk 3 (.int .i64 x.ep) rfl
  have l4 := later_blk_cell hk 4 (.int .i64 x.op) rfl
  have l5 := later_blk_cell hk 5 (.int .i64 x.n) rfl
  have l6 := later_blk_cell hk 6 (.bool x.flag) rfl
  have l7 := later_blk_cell hk 7 (.string ⟨x.e.1.k.toArray⟩) rfl
  have l8 := later_blk_cell hk 8 (.int .i64 x.e.1.s) rfl
  have l9 := later_blk_cell hk 9 (.int .i64 x.e.1.u) rfl
  have l10 := later_blk_cell hk 10 (.int .i64 x.e.1.o) rfl
  have l11 := later_blk_cell hk 11 (.bool x.e.1.has) rfl
  have l12 := later_blk_cell hk 12 (.slice x.e.2.1 x.e.1.v.length x.e.2.2) rfl
  have l13 := later_blk_cell hk 13 (.slice x.lA x.l.length x.lc) rfl
  have l14 := later_blk_cell hk 14 (.slice x.rA x.ns.length x.rc) rfl
  have l15 := later_blk_cell hk 15 (.int .i64 x.each) rfl
  have l16 := later_blk_cell hk 16 (.int .i64 x.keep) rfl
  have hlni : (x.l.length : Int) ≤ 9223372036854775807 := by have := h.ln; unfold maxLen at this; omega
  clear hb0 hk hk2 h hv hkl hre hrr hE hR hla
  have HNC := Lib.hid fun W => isseq_any x.n W
  unfold RightP
  rw [HV.out]
  by_cases hl : (x.l.length : Int) ≤ 1000
  · have hl2 : decide (x.l.length ≤ 1000) = true := decide_eq_true (by omega)
    rw [hl2, Bool.true_and]
    clear hl2
    go_enter Tryz.func78, Tryz.ntmps78
    go_wp2_with fail
    refine wp_region_later_tail 20 (by kernel_rfl) (by kernel_rfl) ?_
    simp only [List.take_succ_cons, List.take_zero, List.drop_succ_cons, List.drop_zero]
    repeat (go_big_quiet_step (first
      | (go_at_call 77; exact later_same (HNC.out _))
      | (go_at_call 107; exact later_of (HCE.out _))
      | (go_at_call 108; exact later_of (HCL.out _ (Later.bel _)))
      | (go_at_call 109; exact later_of (HCR.out _ (Later.bel _)))))
    refine wpQuiet_nil ?_
    intro w' hw'
    obtain ⟨p, rfl⟩ := hw'
    have hk3 := HK2.out.below p.bel HK2.out.lt
    have HB3 := Lib.hid (HB.out.trans (p.bel.mono HB.out.size))
    generalize p.world = V at hk3 HB3 ⊢
    have r0 : V.cell? ⟨w.heap.size + 1, 0, none⟩ = some (.bool false) := hk3.cell 0
    have r1 : V.cell? ⟨w.heap.size + 1, 1, none⟩ = some (.bool false) := hk3.cell 1
    have r2 : V.cell? ⟨w.heap.size + 1, 2, none⟩ = some (.bool false) := hk3.cell 2
    have r3 : V.cell? ⟨w.heap.size + 1, 3, none⟩ = some (.bool false) := hk3.cell 3
    have r4 : V.cell? ⟨w.heap.size + 1, 4, none⟩ = some (.bool false) := hk3.cell 4
    have z0 := hk3.frozen 0
    have z1 := hk3.frozen 1
    have z2 := hk3.frozen 2
    have z3 := hk3.frozen 3
    have z4 := hk3.frozen 4
    clear hk3
    go_wp2
    exact bodyPost_ret (v := b5 (inR x.n 1099511627775) true (re == 0) la (rr == 0)) (by simp [results, Tryz.results78, go_sem, r0, r1, r2, r3, r4]) rfl ⟨rfl, by repeat (first | exact HB3.out | refine below_set ?_ (by omega) _ _)⟩
  · have hl2 : decide (x.l.length ≤ 1000) = false := decide_eq_false (by omega)
    have hl3 : decide ((x.l.length : Int) ≤ 1000) = false := decide_eq_false hl
    rw [hl2, Bool.false_and]
    clear hl2 hl
    go_enter Tryz.func78, Tryz.ntmps78
    go_wp2_with fail
    refine wp_region_later_tail 20 (by kernel_rfl) (by kernel_rfl) ?_
    simp only [List.take_succ_cons, List.take_zero, List.drop_succ_cons, List.drop_zero]
    repeat (go_big_quiet_step (first
      | (go_at_call 77; exact later_same (HNC.out _))
      | (go_at_call 107; exact later_of (HCE.out _))
      | (go_at_call 108; exact later_of (HCL.out _ (Later.bel _)))
      | (go_at_call 109; exact later_of (HCR.out _ (Later.bel _)))))
    refine wpQuiet_nil ?_
    intro w' hw'
    obtain ⟨p, rfl⟩ := hw'
    have hk3 := HK2.out.below p.bel HK2.out.lt
    have HB3 := Lib.hid (HB.out.trans (p.bel.mono HB.out.size))
    generalize p.world = V at hk3 HB3 ⊢
    have r0 : V.cell? ⟨w.heap.size + 1, 0, none⟩ = some (.bool false) := hk3.cell 0
    have r1 : V.cell? ⟨w.heap.size + 1, 1, none⟩ = some (.bool false) := hk3.cell 1
    have r2 : V.cell? ⟨w.heap.size + 1, 2, none⟩ = some (.bool false) := hk3.cell 2
    have r3 : V.cell? ⟨w.heap.size + 1, 3, none⟩ = some (.bool false) := hk3.cell 3
    have r4 : V.cell? ⟨w.heap.size + 1, 4, none⟩ = some (.bool false) := hk3.cell 4
    have z0 := hk3.frozen 0
    have z1 := hk3.frozen 1
    have z2 := hk3.frozen 2
    have z3 := hk3.frozen 3
    have z4 := hk3.frozen 4
    clear hk3
    go_wp2
    exact bodyPost_ret (v := b5 (inR x.n 1099511627775) true (re == 0) false (rr == 0)) (by simp [results, Tryz.results78, go_sem, r0, r1, r2, r3, r4]) rfl ⟨rfl, by repeat (first | exact HB3.out | refine below_set ?_ (by omega) _ _)⟩
def BlankP (m : MsgP) (w : World) (e : Ending) (w' : World) : Prop := e = .returned (b5 (bN m) (bF m) (bE m) (bL m) (bR m)) ∧ Below w.heap.size w w'
theorem k_empty (k : List UInt8) : decide ((⟨k.toArray⟩ : ByteArray) = ⟨#[]⟩) = decide (k = []) := by
  by_cases h : k = []
  · subst h; rfl
  · rw [decide_eq_false h, decide_eq_false (fun e => h (by injection e with e; simpa using e))]
theorem bE_def (m : MsgP) : bE m = (decide (m.e.k = []) && (eqT m.e.s m.e.u m.e.o 0 0 0 && !m.e.has) && (((m.e.k.length : Int) + (m.e.v.length : Int)) == 0)) := by
  unfold bE
  rw [Bool.eq_iff_iff, decide_eq_true_iff]
  unfold noE eqT
  simp only [decide_eq_true_eq, Bool.and_eq_true, beq_iff_eq, Bool.not_eq_true']
  constructor
  · rintro ⟨h1, h2, h3, h4, h5, h6⟩
    refine ⟨⟨h1, ⟨⟨h2, h3⟩, h4⟩, h5⟩, ?_⟩
    rw [h1, h6]; rfl
  · rintro ⟨⟨h1, ⟨⟨h2, h3⟩, h4⟩, h5⟩, h6⟩
    exact ⟨h1, h2, h3, h4, h5, List.length_eq_zero_iff.1 (by omega)⟩
theorem blankf_any (x : MV) (w : World) (h : MsgM w x) : Calls Tryz.prog 79 #[.agg #[.int .i64 x.kind, .int .i64 x.fr, .int .i64 x.dst, .int .i64 x.ep, .int .i64 x.op, .int .i64 x.n, .bool x.flag, .string ⟨x.e.1.k.toArray⟩, .int .i64 x.e.1.s, .int .i64 x.e.1.u, .int .i64 x.e.1.o, .bool x.e.1.has, .slice x.e.2.1 x.e.1.v.length x.e.2.2, .slice x.lA x.l.length x.lc, .slice x.rA x.ns.length x.rc, .int .i64 x.each, .int .i64 x.keep]] w (BlankP (mP x) w) := by
  have hb0 : Below w.heap.size w ((w.alloc (.cells #[.int .i64 x.kind, .int .i64 x.fr, .int .i64 x.dst, .int .i64 x.ep, .int .i64 x.op, .int .i64 x.n, .bool x.flag, .string ⟨x.e.1.k.toArray⟩, .int .i64 x.e.1.s, .int .i64 x.e.1.u, .int .i64 x.e.1.o, .bool x.e.1.has, .slice x.e.2.1 x.e.1.v.length x.e.2.2, .slice x.lA x.l.length x.lc, .slice x.rA x.ns.length x.rc, .int .i64 x.each, .int .i64 x.keep] 51)).alloc (.cells #[.bool false, .bool false, .bool false, .bool false, .bool false] 143)) := ((Below.refl _ _).alloc (Nat.le_refl _) _).alloc (by simp) _
  obtain ⟨W0, hW0⟩ : ∃ W0, (w.alloc (.cells #[.int .i64 x.kind, .int .i64 x.fr, .int .i64 x.dst, .int .i64 x.ep, .int .i64 x.op, .int .i64 x.n, .bool x.flag, .string ⟨x.e.1.k.toArray⟩, .int .i64 x.e.1.s, .int .i64 x.e.1.u, .int .i64 x.e.1.o, .bool x.e.1.has, .slice x.e.2.1 x.e.1.v.length x.e.2.2, .slice x.lA x.l.length x.lc, .slice x.rA x.ns.length x.rc, .int .i64 x.each, .int .i64 x.keep] 51)).alloc (.cells #[.bool false, .bool false, .bool false, .bool false, .bool false] 143) = W0 := ⟨_, rfl⟩
  have hk : Blk W0 w.heap.size 51 #[.int .i64 x.kind, .int .i64 x.fr, .int .i64 x.dst, .int .i64 x.ep, .int .i64 x.op, .int .i64 x.n, .bool x.flag, .string ⟨x.e.1.k.toArray⟩, .int .i64 x.e.1.s, .int .i64 x.e.1.u, .int .i64 x.e.1.o, .bool x.e.1.has, .slice x.e.2.1 x.e.1.v.length x.e.2.2, .slice x.lA x.l.length x.lc, .slice x.rA x.ns.length x.rc, .int .i64 x.each, .int .i64 x.keep] := by rw [← hW0]; exact (Blk.new w _ _).alloc _
  have hk2 : Blk W0 (w.heap.size + 1) 143 #[.bool false, .bool false, .bool false, .bool false, .bool false] := by rw [← hW0]; have := Blk.new (w.alloc (.cells #[.int .i64 x.kind, .int .i64 x.fr, .int .i64 x.dst, .int .i64 x.ep, .int .i64 x.op, .int .i64 x.n, .bool x.flag, .string ⟨x.e.1.k.toArray⟩, .int .i64 x.e.1.s, .int .i64 x.e.1.u, .int .i64 x.e.1.o, .bool x.e.1.has, .slice x.e.2.1 x.e.1.v.length x.e.2.2, .slice x.lA x.l.length x.lc, .slice x.rA x.ns.length x.rc, .int .i64 x.each, .int .i64 x.keep] 51)) 143 #[.bool false, .bool false, .bool false, .bool false, .bool false]; rw [World.size_alloc] at this; exact this
  rw [hW0] at hb0
  have HB := Lib.hid hb0
  have HK2 := Lib.hid hk2
  have HCS := Lib.hid fun W => same0_any ⟨x.e.1.k.toArray⟩ x.e.1.s x.e.1.u x.e.1.o x.e.1.has x.e.2.1 x.e.1.v.length x.e.2.2 W
  rw [k_empty] at HCS
  have HCZ := Lib.hid fun (hs : (decide (x.e.1.k = []) && (eqT x.e.1.s x.e.1.u x.e.1.o 0 0 0 && !x.e.1.has)) = true) W => sizebig_any ⟨x.e.1.k.toArray⟩ x.e.1.s x.e.1.u x.e.1.o x.e.1.has x.e.2.1 x.e.1.v.length x.e.2.2 (by
    rw [Bool.and_eq_true, decide_eq_true_eq] at hs
    have := h.ev.len
    rw [ba_len12, hs.1]
    unfold maxLen at this
    simp only [List.length_nil]
    omega) W
  rw [ba_len12] at HCZ
  have HCR := Lib.hid fun W (hb : Below W0.heap.size W0 W) => ringsame_gen x.rA none x.ns.length 0 x.rc 0 x.ns [] x.each x.keep 0 0 rfl rfl h.rl (Nat.zero_le _) W (((h.below hb0).below hb).rn) (Row.nil _ _ _)
  obtain ⟨sa, hsa⟩ : ∃ b, (decide (x.e.1.k = []) && (eqT x.e.1.s x.e.1.u x.e.1.o 0 0 0 && !x.e.1.has)) = b := ⟨_, rfl⟩
  rw [hsa] at HCS HCZ
  obtain ⟨sz, hsz⟩ : ∃ n : Int, (x.e.1.k.length : Int) + (x.e.1.v.length : Int) = n := ⟨_, rfl⟩
  rw [hsz] at HCZ
  obtain ⟨rr, hrr⟩ : ∃ b, decide (x.ns = [] ∧ x.each = 0 ∧ x.keep = 0) = b := ⟨_, rfl⟩
  rw [hrr] at HCR
  have HV : Hid (b5 (bN (mP x)) (bF (mP x)) (bE (mP x)) (bL (mP x)) (bR (mP x)) = b5 (x.n == 0) (!x.flag) (sa && sz == 0) (x.l.length == 0) rr) := Lib.hid (by
    rw [bE_def]
    show b5 (x.n == 0) (!x.flag) (decide (x.e.1.k = []) && (eqT x.e.1.s x.e.1.u x.e.1.o 0 0 0 && !x.e.1.has) && (((x.e.1.k.length : Int) + (x.e.1.v.length : Int)) == 0)) ((x.l.map Prod.fst).length == 0) (decide (x.ns = [] ∧ x.each = 0 ∧ x.keep = 0)) = _
    rw [hsa, hsz, hrr, List.length_map])
  have l0 := later_blk_cell hk 0 (.int .i64 x.kind) rfl
  have l1 := later_blk_cell hk 1 (.int .i64 x.fr) rfl
  have l2 := later_blk_cell hk 2 (.int .i64 x.dst) rfl
  have l3 := later_blk_cell hk 3 (.int .i64 x.ep) rfl
  have l4 := later_blk_cell hk 4 (.int .i64 x.op) rfl
  have l5 := later_blk_cell hk 5 (.int .i64 x.n) rfl
  have l6 := later_blk_cell hk 6 (.bool x.flag) rfl
  have l7 := later_blk_cell hk 7 (.string ⟨x.e.1.k.toArray⟩) rfl
  have l8 := later_blk_cell hk 8 (.int .i64 x.e.1.s) rfl
  have l9 := later_blk_cell hk 9 (.int .i64 x.e.1.u) rfl
  have l10 := later_blk_cell hk 10 (.int .i64 x.e.1.o) rfl
  have l11 := later_blk_cell hk 11 (.bool x.e.1.has) rfl
  have l12 := later_blk_cell hk 12 (.slice x.e.2.1 x.e.1.v.length x.e.2.2) rfl
  have l13 := later_blk_cell hk 13 (.slice x.lA x.l.length x.lc) rfl
  have l14 := later_blk_cell hk 14 (.slice x.rA x.ns.length x.rc) rfl
  have l15 := later_blk_cell hk 15 (.int .i64 x.each) rfl
  have l16 := later_blk_cell hk 16 (.int .i64 x.keep) rfl
  have hlni : (x.l.length : Int) ≤ 9223372036854775807 := by have := h.ln; unfold maxLen at this; omega
  have hl0 : ((x.l.length : Int) == 0) = (x.l.length == 0) := by
    rw [Bool.eq_iff_iff, beq_iff_eq, beq_iff_eq]; omega
  clear hb0 hk hk2 h hsa hsz hrr
  unfold BlankP
  rw [HV.out]
  obtain ⟨lz, hlz⟩ : ∃ b, (x.l.length == 0) = b := ⟨_, rfl⟩
  rw [hlz] at hl0 ⊢
  cases sa
  · rw [Bool.false_and]
    go_enter Tryz.func79, Tryz.ntmps79
    go_wp2_with fail
    refine wp_region_later_tail 24 (by kernel_rfl) (by kernel_rfl) ?_
    simp only [List.take_succ_cons, List.take_zero, List.drop_succ_cons, List.drop_zero]
    repeat (go_big_quiet_step (first
      | (go_at_call 110; exact later_of (HCS.out _))
      | (go_at_call 111; exact later_of (HCZ.out (by trivial) _))
      | (go_at_call 112; exact later_of (HCR.out _ (Later.bel _)))))
    refine wpQuiet_nil ?_
    intro w' hw'
    obtain ⟨p, rfl⟩ := hw'
    have hk3 := HK2.out.below p.bel HK2.out.lt
    have HB3 := Lib.hid (HB.out.trans (p.bel.mono HB.out.size))
    generalize p.world = V at hk3 HB3 ⊢
    have r0 : V.cell? ⟨w.heap.size + 1, 0, none⟩ = some (.bool false) := hk3.cell 0
    have r1 : V.cell? ⟨w.heap.size + 1, 1, none⟩ = some (.bool false) := hk3.cell 1
    have r2 : V.cell? ⟨w.heap.size + 1, 2, none⟩ = some (.bool false) := hk3.cell 2
    have r3 : V.cell? ⟨w.heap.size + 1, 3, none⟩ = some (.bool false) := hk3.cell 3
    have r4 : V.cell? ⟨w.heap.size + 1, 4, none⟩ = some (.bool false) := hk3.cell 4
    have z0 := hk3.frozen 0
    have z1 := hk3.frozen 1
    have z2 := hk3.frozen 2
    have z3 := hk3.frozen 3
    have z4 := hk3.frozen 4
    clear hk3
    go_wp2
    exact bodyPost_ret (v := b5 (x.n == 0) (!x.flag) false lz rr) (by simp [results, Tryz.results79, go_sem, r0, r1, r2, r3, r4]) rfl ⟨rfl, by repeat (first | exact HB3.out | refine below_set ?_ (by omega) _ _)⟩
  · rw [Bool.true_and]
    go_enter Tryz.func79, Tryz.ntmps79
    go_wp2_with fail
    refine wp_region_later_tail 24 (by kernel_rfl) (by kernel_rfl) ?_
    simp only [List.take_succ_cons, List.take_zero, List.drop_succ_cons, List.drop_zero]
    repeat (go_big_quiet_step (first
      | (go_at_call 110; exact later_of (HCS.out _))
      | (go_at_call 111; exact later_of (HCZ.out (by trivial) _))
      | (go_at_call 112; exact later_of (HCR.out _ (Later.bel _)))))
    refine wpQuiet_nil ?_
    intro w' hw'
    obtain ⟨p, rfl⟩ := hw'
    have hk3 := HK2.out.below p.bel HK2.out.lt
    have HB3 := Lib.hid (HB.out.trans (p.bel.mono HB.out.size))
    generalize p.world = V at hk3 HB3 ⊢
    have r0 : V.cell? ⟨w.heap.size + 1, 0, none⟩ = some (.bool false) := hk3.cell 0
    have r1 : V.cell? ⟨w.heap.size + 1, 1, none⟩ = some (.bool false) := hk3.cell 1
    have r2 : V.cell? ⟨w.heap.size + 1, 2, none⟩ = some (.bool false) := hk3.cell 2
    have r3 : V.cell? ⟨w.heap.size + 1, 3, none⟩ = some (.bool false) := hk3.cell 3
    have r4 : V.cell? ⟨w.heap.size + 1, 4, none⟩ = some (.bool false) := hk3.cell 4
    have z0 := hk3.frozen 0
    have z1 := hk3.frozen 1
    have z2 := hk3.frozen 2
    have z3 := hk3.frozen 3
    have z4 := hk3.frozen 4
    clear hk3
    go_wp2
    exact bodyPost_ret (v := b5 (x.n == 0) (!x.flag) (sz == 0) lz rr) (by simp [results, Tryz.results79, go_sem, r0, r1, r2, r3, r4]) rfl ⟨rfl, by repeat (first | exact HB3.out | refine below_set ?_ (by omega) _ _)⟩
end Go.Proofs.YtkdpfjenjcpcfaaGreatDoor
