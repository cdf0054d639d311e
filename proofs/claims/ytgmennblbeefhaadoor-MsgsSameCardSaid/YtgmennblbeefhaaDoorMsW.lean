/- MsW: A message that may be may be as any other kind with just the same fields: walked. -/
import Derived.Test.YtgmennblbeefhaaDoorMsL
import Derived.Test.YtgmennblbeefhaaDoorMsO
import Derived.BigFrame
namespace Go.Proofs.YtgmennblbeefhaaDoor
open Go.RowKit Mem Be Rg
set_option maxRecDepth 100000
set_option maxHeartbeats 8000000
set_option linter.unusedVariables false
/-- A guarded load of a whole variable, where it is wanted. -/
theorem load_rowG {P : Program} {ops : Array Oper} {rest : List Oper} {o : Oper} {a : Act} {w : World} {Q : Exit → Act → World → Prop} (hw : Region.wanted o (yielded ops a.tmps) = true) (ty : TypeId) (x : Operand) (ho : o.op = .load ty x)
    (g : Nat) (hx : a.eval x = .pointer (some ⟨g, 0, none⟩)) (t : TypeId) (cs : Array Value) (fr : Nat × Nat) (d : TypeDesc) (hg : w.heap[g]? = some (.cells cs t fr))
    (hu : P.underlying ty = some d) (hd : (match d with | .struct _ | .array _ _ => true | _ => false) = true) (hi : (P.info? ty).map (·.size) = some cs.size)
    (h : wpList P ops Q rest (a.put o.dst (.agg cs)) w) : wpList P ops Q (o :: rest) a w :=
  BigFrame.wpList_want hw fun K hK => wp_load_row ty x ho g hx t cs fr d hg hu hd hi (hK _ _ h)
theorem kinds_no (x : MV) (kd : Int) (h0 : okM (mP x) = false) (w : World) (ht : KT w) (h : MsgM w x) : Calls Tryd.prog 8 #[.agg #[.int .i64 x.kind, .int .i64 x.fr, .int .i64 x.dst, .int .i64 x.ep, .int .i64 x.op, .int .i64 x.n, .bool x.flag, .string ⟨x.e.1.k.toArray⟩, .int .i64 x.e.1.s, .int .i64 x.e.1.u, .int .i64 x.e.1.o, .bool x.e.1.has, .slice x.e.2.1 x.e.1.v.length x.e.2.2, .slice x.lA x.l.length x.lc, .slice x.rA x.ns.length x.rc, .int .i64 x.each, .int .i64 x.keep], .int .i64 kd] w (IsT12 w) := by
  have hb : Below w.heap.size w (w.alloc (.cells #[.int .i64 x.kind, .int .i64 x.fr, .int .i64 x.dst, .int .i64 x.ep, .int .i64 x.op, .int .i64 x.n, .bool x.flag, .string ⟨x.e.1.k.toArray⟩, .int .i64 x.e.1.s, .int .i64 x.e.1.u, .int .i64 x.e.1.o, .bool x.e.1.has, .slice x.e.2.1 x.e.1.v.length x.e.2.2, .slice x.lA x.l.length x.lc, .slice x.rA x.ns.length x.rc, .int .i64 x.each, .int .i64 x.keep] 34)) := (Below.refl _ _).alloc (Nat.le_refl _) _
  have HL := Lib.hid (long12 x _ (h.below hb))
  have HK := Lib.hid (Blk.new w 34 #[.int .i64 x.kind, .int .i64 x.fr, .int .i64 x.dst, .int .i64 x.ep, .int .i64 x.op, .int .i64 x.n, .bool x.flag, .string ⟨x.e.1.k.toArray⟩, .int .i64 x.e.1.s, .int .i64 x.e.1.u, .int .i64 x.e.1.o, .bool x.e.1.has, .slice x.e.2.1 x.e.1.v.length x.e.2.2, .slice x.lA x.l.length x.lc, .slice x.rA x.ns.length x.rc, .int .i64 x.each, .int .i64 x.keep])
  have HB := Lib.hid hb
  have HT := Lib.hid (ht.below hb)
  have HM := Lib.hid (h.below hb)
  have hc : checkM (mP x) = 2 := checkM_no h0
  have HC : Hid (∀ W, KT W → MsgM W x → Calls Tryd.prog 15 #[.agg #[.int .i64 x.kind, .int .i64 x.fr, .int .i64 x.dst, .int .i64 x.ep, .int .i64 x.op, .int .i64 x.n, .bool x.flag, .string ⟨x.e.1.k.toArray⟩, .int .i64 x.e.1.s, .int .i64 x.e.1.u, .int .i64 x.e.1.o, .bool x.e.1.has, .slice x.e.2.1 x.e.1.v.length x.e.2.2, .slice x.lA x.l.length x.lc, .slice x.rA x.ns.length x.rc, .int .i64 x.each, .int .i64 x.keep]] W (fun e w' => e = .returned (.int .i64 2) ∧ Below W.heap.size W w')) := Lib.hid fun W a b => by
    have := checkm_any x W a b
    rw [hc] at this; exact this
  clear hb ht h h0 hc
  go_enter Tryd.func8, Tryd.ntmps8
  go_wp2_with (refine wpList_load_row rfl 34 _ rfl _ rfl _ _ _ _ (show _ = _ from HK.out) Tryd.underlying34 rfl (by kernel_rfl) ?_)
  refine HL.out.mono ?_
  rintro e w1 ⟨b, rfl, hb1⟩
  have HK1 := Lib.hid (HK.out.below hb1 HK.out.lt)
  have HB1 := Lib.hid (HB.out.trans (hb1.mono HB.out.size))
  have HT1 := Lib.hid (HT.out.below hb1)
  have HM1 := Lib.hid (HM.out.below hb1)
  clear hb1 HK HB HT HM HL
  cases b
  · go_wp2_with (refine load_rowG rfl 34 _ rfl _ rfl _ _ _ _ (show _ = _ from HK1.out) Tryd.underlying34 rfl (by kernel_rfl) ?_)
    refine (HC.out w1 HT1.out HM1.out).mono ?_
    rintro e w2 ⟨rfl, hb2⟩
    have HB2 := Lib.hid (HB1.out.trans (hb2.mono HB1.out.size))
    have HT2 := Lib.hid (HT1.out.below hb2)
    clear hb2 HC HK1
    go_wp2_with fail
    refine (known12 w2 HT2.out).mono ?_
    rintro e w3 ⟨rfl, hb3⟩
    have HB3 := Lib.hid (HB2.out.trans (hb3.mono HB2.out.size))
    clear hb3
    go_wp2
    go_ret
    exact ⟨rfl, HB3.out⟩
  · go_wp2_with fail
    refine (known12 w1 HT1.out).mono ?_
    rintro e w3 ⟨rfl, hb3⟩
    have HB3 := Lib.hid (HB1.out.trans (hb3.mono HB1.out.size))
    clear hb3
    go_wp2
    go_ret
    exact ⟨rfl, HB3.out⟩
theorem num17 : ∀ i : Fin 18, 1 ≤ i.val → numB (i.val : Int) = [1, UInt8.ofNat i.val] := by decide +kernel
theorem putM_head {x : MV} (h : okM (mP x) = true) : ∃ rest, putM (mP x) = 1 :: UInt8.ofNat x.kind.toNat :: rest ∧ 1 ≤ x.kind ∧ x.kind ≤ 17 := by
  have hx : exK x.kind = true := by
    cases hh : exK x.kind
    · exact absurd h (by rw [headno_1 (m := mP x) hh]; simp)
    · rfl
  obtain ⟨h1, h2⟩ := exK_yes hx
  have := num17 ⟨x.kind.toNat, by omega⟩ (by show 1 ≤ x.kind.toNat; omega)
  have e : ((x.kind.toNat : Nat) : Int) = x.kind := by omega
  simp only [e] at this
  have key : ∃ rest, putM (mP x) = numB x.kind ++ rest := ⟨_, rfl⟩
  obtain ⟨rest, hr⟩ := key
  rw [this] at hr
  exact ⟨rest, hr, h1, h2⟩
theorem okM_kind {x : MV} {kd : Int} (h : okM (mP x) = true) (hk : exK kd = true) (h1 : hasN kd = hasN x.kind) (h2 : hasF kd = hasF x.kind) (h3 : hasE kd = hasE x.kind) (h4 : hasL kd = hasL x.kind) (h5 : hasR kd = hasR x.kind) : okM (mP { x with kind := kd }) = true := by
  have hx : exK x.kind = true := by
    cases hh : exK x.kind
    · exact absurd h (by rw [headno_1 (m := mP x) hh]; simp)
    · rfl
  have key : okM (mP { x with kind := kd }) = okM (mP x) := by
    unfold okM headR
    show (exK kd && _ && _ && _ && _ && (fldB (hasN kd) _ _ && (fldB (hasF kd) _ _ && (fldB (hasE kd) _ _ && (fldB (hasL kd) _ _ && fldB (hasR kd) _ _))))) = (exK x.kind && _ && _ && _ && _ && _)
    rw [h1, h2, h3, h4, h5, hk, hx]
    rfl
  rw [key]; exact h

end Go.Proofs.YtgmennblbeefhaaDoor
