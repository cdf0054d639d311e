/- LnW: The place of a value among some; its number, and the values that were met by then. -/
import Derived.Test.YtlecbhnopokmnaaLnV
namespace Go.Proofs.Ytlecbhnopokmnaa
open Go.RowKit Mem
set_option maxRecDepth 10000
set_option maxHeartbeats 2000000
set_option linter.unusedVariables false
set_option linter.unusedSimpArgs false
open Ln
theorem ownRowS {w : World} {base s : Nat} {e : TypeId} {A : Option Addr} {n c : Nat} {xs : List Value} (h : w.ownsRow base e s (.slice A n c) n xs) : Row w w.heap.size A xs := ownRow h
def IdxP (l : List VaL) (x : Va) (w : World) (e : Ending) (w' : World) : Prop :=
  ((∃ (i : Nat) (y : VaL), l[i]? = some y ∧ y.va = x ∧ e = .returned (.int .i64 (i : Int))) ∨ (∀ y ∈ l, y.va ≠ x) ∧ e = .returned (.int .i64 (-1))) ∧ Below w.heap.size w w'
theorem idx_any (l : List VaL) (hl : l.length ≤ 1000) (x : VaL) (gv B c : Nat) (A : Option Addr) (w : World) (hr : Row w B A (vasC l)) (hB : B ≤ w.heap.size) (hv : Vas_ w B l) (hk : Blk w gv 45 #[.bool x.has, .slice x.A x.b.length x.c]) (hx : Row w w.heap.size x.A (x.b.map byteV)) :
    Calls Try.prog 60 #[.slice A l.length c, .func (.func 61) #[] #[.pointer (some ⟨gv, 0, none⟩)]] w (IdxP l x.va w) := by
  have HNO : Hid (∀ W : World, (∀ y ∈ l, y.va ≠ x.va) → Below w.heap.size w W → IdxP l x.va w (.returned (.int .i64 (-1))) W) := Lib.hid fun W h hb => ⟨Or.inr ⟨h, rfl⟩, hb⟩
  have HYES : Hid (∀ (W : World) (i : Nat) (y : VaL), l[i]? = some y → y.va = x.va → Below w.heap.size w W → IdxP l x.va w (.returned (.int .i64 (i : Int))) W) := Lib.hid fun W i y h1 h2 hb => ⟨Or.inl ⟨i, y, h1, h2, rfl⟩, hb⟩
  obtain ⟨Q, hQ⟩ : ∃ Q, IdxP l x.va w = Q := ⟨_, rfl⟩
  rw [hQ] at HNO HYES ⊢
  have HR := Lib.hid hr
  have HBB := Lib.hid hB
  have HV := Lib.hid hv
  have HK := Lib.hid hk
  have HX := Lib.hid hx
  obtain ⟨n, hn⟩ : ∃ n, l.length = n := ⟨_, rfl⟩
  have HN := Lib.hid hn
  rw [hn] at hl ⊢
  have hn2 : (n : Int) ≤ 1000 := by omega
  clear hr hB hv hk hx hQ hn
  go_enter Try.func60, Try.ntmps60
  go_wp2
  go_loopw [8] (fun iv wr => ∃ q : Nat, q ≤ n ∧ iv = .int .i64 (q : Int) ∧ Hid (∀ (i : Nat) (y : VaL), i < q → l[i]? = some y → y.va ≠ x.va) ∧ Hid (Below w.heap.size w wr)) (fun iv _ => n - (intOf iv).toNat)
  case atStart => exact ⟨0, by omega, rfl, Lib.hid (fun i y hi => by omega), Lib.hid (Below.refl _ _)⟩
  case round =>
    obtain ⟨q, hq, rfl, HF, HB⟩ := hrel
    have hq0 : (0 : Int) ≤ (q : Int) := by omega
    by_cases hlt : q < n
    · have hlt2 : (q : Int) < (n : Int) := by omega
      have hql : q < l.length := by rw [HN.out]; exact hlt
      obtain ⟨b, o, hA, hbB, hcl⟩ := vas_open HR.out (by omega)
      obtain ⟨e0, e1⟩ := hcl q hql
      have hbl : b < wr.heap.size := Nat.lt_of_lt_of_le (Nat.lt_of_lt_of_le hbB HBB.out) HB.out.size
      have hbw : b < w.heap.size := Nat.lt_of_lt_of_le hbB HBB.out
      rw [← HB.out.cell (p := ⟨b, o + q * 2, none⟩) hbw] at e0
      rw [← HB.out.cell (p := ⟨b, o + q * 2 + 1, none⟩) hbw] at e1
      have HY0 : Hid (l[q]? = some l[q]) := Lib.hid (List.getElem?_eq_getElem hql)
      have HYR : Hid (Row wr wr.heap.size l[q].A (l[q].b.map byteV)) := Lib.hid (((HV.out _ (List.getElem_mem hql)).more HBB.out |>.below HB.out).more HB.out.size)
      obtain ⟨y, hy⟩ : ∃ y, l[q] = y := ⟨_, rfl⟩
      rw [hy] at e0 e1 HY0 HYR
      have HKr := Lib.hid (HK.out.below HB.out HK.out.lt)
      have HXr := Lib.hid ((HX.out.below HB.out).more HB.out.size)
      subst hA
      clear hy hcl hbB hbw hql
      obtain ⟨yh, yA, yb, yc⟩ := y
      simp only at e0 e1
      obtain ⟨b1, hb1⟩ : ∃ b1, decide ((⟨yh, yA, yb, yc⟩ : VaL).va = x.va) = b1 := ⟨_, rfl⟩
      have HB1 := Lib.hid hb1
      clear hb1
      go_wp2_with fail
      refine (isval_any x ⟨yh, yA, yb, yc⟩ gv wr HKr.out HXr.out HYR.out).mono ?_
      rintro e w3 ⟨he, hb3⟩
      rw [HB1.out] at he
      subst he
      have HB3 := Lib.hid (HB.out.trans (hb3.mono HB.out.size))
      clear hb3 e0 e1
      cases b1
      · go_wp2
        go_roundw
        case rel => exact ⟨q + 1, by omega, by go_num, Lib.hid (fun i z hi hz => by
          rcases Nat.lt_or_ge i q with h | h
          · exact HF.out i z h hz
          · have : i = q := by omega
            subst this
            rw [HY0.out] at hz
            injection hz with hz
            subst hz
            exact of_decide_eq_false HB1.out), HB3⟩
        case measure => simp [intOf]; omega
      · have HE := Lib.hid (of_decide_eq_true HB1.out)
        go_wp2
        exact HYES.out _ q _ HY0.out HE.out HB3.out
    · obtain rfl : q = n := by omega
      go_wp2
      exact HNO.out _ (fun y hy => by
        obtain ⟨i, hi, e⟩ := List.mem_iff_getElem.1 hy
        exact HF.out i y (by rw [← HN.out]; exact hi) (by rw [← e]; exact List.getElem?_eq_getElem hi)) HB.out
theorem own_ne_blk {w : World} {B s n g : Nat} {e t : TypeId} {v : Value} {xs : List Value} {cs : Array Value} (h : w.ownsRow B e s v n xs) (hk : Blk w g t cs) (hne : e ≠ t) : v.ownBlock ≠ some g := by
  intro hv
  rcases h.2 with ⟨rfl, _⟩ | ⟨g', cap, cur, rfl, _, hg, _⟩
  · cases hv
  · simp only [Value.ownBlock, Option.some.injEq] at hv
    subst hv
    have := hg.symm.trans hk
    injection this with this
    injection this with _ this
    exact hne this
theorem info_va : (Try.prog.info? 45).map (fun i => (i.zero, i.size, i.bytes)) = some (some (.agg #[.bool false, .slice none 0 0]), 2, 32) := by kernel_rfl
/-- Box gm holds the values that were met, their row at b0 or behind it. -/
structure MetAt (w : World) (bb b0 gm : Nat) (l : List VaL) : Prop where
  row : ∃ A c, Blk w gm 111 #[.slice A l.length c] ∧ w.ownsRow b0 45 2 (.slice A l.length c) l.length (vasC l)
  byt : Vas_ w bb l
  bbl : bb ≤ b0
  gml : b0 ≤ gm
theorem MetAt.below {w w' : World} {bb b0 gm : Nat} {l : List VaL} (h : MetAt w bb b0 gm l) (hb : Below w.heap.size w w') : MetAt w' bb b0 gm l := by
  obtain ⟨⟨A, c, h1, h2⟩, h3, h5, h4⟩ := h
  have hl : b0 ≤ w.heap.size := Nat.le_trans h4 (Nat.le_of_lt h1.lt)
  exact ⟨⟨A, c, h1.below hb h1.lt, ownLater h2 hb⟩, fun x hx => (h3 x hx).below (hb.mono (Nat.le_trans h5 hl)), h5, h4⟩
theorem vasC_app (l : List VaL) (x : VaL) : vasC (l ++ [x]) = vasC l ++ vaC x := by
  unfold vasC; rw [List.flatMap_append]; simp
theorem vaC_one (x : VaL) : ∀ u ∈ vaC x, u.oneCell' = true := by
  intro u hu
  simp only [vaC, List.mem_cons, List.not_mem_nil, or_false] at hu
  rcases hu with rfl | rfl <;> rfl
/-- Whatever is known whole, and is no value, nor a row of such, is as it was. -/
def KeepT (w w' : World) : Prop := ∀ (g : Nat) (t : TypeId) (cs : Array Value), Blk w g t cs → t ≠ 45 → t ≠ 111 → Blk w' g t cs
/-- A value's number: that of the same one, or the next one. -/
def NumP (bb b0 gm : Nat) (l : List VaL) (x : VaL) (w : World) (e : Ending) (w' : World) : Prop :=
  ∃ (n : Nat) (l' : List VaL), e = .returned (.int .i64 (n : Int)) ∧ (((∃ y, l[n]? = some y ∧ y.va = x.va) ∧ l' = l) ∨ (n = l.length ∧ (∀ y ∈ l, y.va ≠ x.va) ∧ l' = l ++ [x])) ∧ MetAt w' bb b0 gm l' ∧ Below b0 w w' ∧ KeepT w w'
theorem number_any (l : List VaL) (hl : l.length ≤ 100) (x : VaL) (bb b0 gm : Nat) (w : World) (hm : MetAt w bb b0 gm l) (hx : Row w bb x.A (x.b.map byteV)) :
    Calls Try.prog 59 #[x.v, .pointer (some ⟨gm, 0, none⟩)] w (NumP bb b0 gm l x w) := by
  obtain ⟨i0, hi0, hz0, hz1, hz2⟩ := info_parts info_va
  obtain ⟨xh, xA, xb, xc⟩ := x
  have hgl : gm < w.heap.size := by obtain ⟨A, c, h1, _⟩ := hm.row; exact h1.lt
  have hb0 : b0 ≤ w.heap.size := Nat.le_trans hm.gml (Nat.le_of_lt hgl)
  have HFND : Hid (∀ (W : World) (n : Nat) (y : VaL), l[n]? = some y → y.va = (⟨xh, xA, xb, xc⟩ : VaL).va → MetAt W bb b0 gm l → Below b0 w W → KeepT w W → NumP bb b0 gm l ⟨xh, xA, xb, xc⟩ w (.returned (.int .i64 (n : Int))) W) := Lib.hid fun W n y h1 h2 h3 h4 h5 => ⟨n, l, rfl, Or.inl ⟨⟨y, h1, h2⟩, rfl⟩, h3, h4, h5⟩
  have HNEW : Hid (∀ (W : World), (∀ y ∈ l, y.va ≠ (⟨xh, xA, xb, xc⟩ : VaL).va) → MetAt W bb b0 gm (l ++ [⟨xh, xA, xb, xc⟩]) → Below b0 w W → KeepT w W → NumP bb b0 gm l ⟨xh, xA, xb, xc⟩ w (.returned (.int .i64 (l.length : Int))) W) := Lib.hid fun W h1 h3 h4 h5 => ⟨l.length, _, rfl, Or.inr ⟨rfl, h1, rfl⟩, h3, h4, h5⟩
  obtain ⟨Q, hQ⟩ : ∃ Q, NumP bb b0 gm l ⟨xh, xA, xb, xc⟩ w = Q := ⟨_, rfl⟩
  rw [hQ] at HFND HNEW ⊢
  obtain ⟨w2, hw2⟩ : ∃ W, w.alloc (.cells #[.bool xh, .slice xA xb.length xc] 45) = W := ⟨_, rfl⟩
  have B2 : Below w.heap.size w w2 := by rw [← hw2]; exact (Below.refl _ _).alloc (Nat.le_refl _) _
  have k2 : Blk w2 w.heap.size 45 #[.bool xh, .slice xA xb.length xc] := by rw [← hw2]; exact Blk.new _ _ _
  have m2 := hm.below B2
  obtain ⟨⟨A, c, hbm, hown⟩, hbyt, hbb, hgml⟩ := m2
  have hxr : Row w2 w2.heap.size xA (xb.map byteV) := (hx.below (B2.mono (Nat.le_trans hbb hb0))).more (Nat.le_trans (Nat.le_trans hbb hb0) B2.size)
  have c0 : w2.cell? ⟨gm, 0, none⟩ = some (.slice A l.length c) := hbm.cell 0
  have HX := Lib.hid hx
  have HXR := Lib.hid hxr
  have HM := Lib.hid hm
  have HB2 := Lib.hid B2
  have K2 := Lib.hid k2
  have HBM := Lib.hid hbm
  have HOW := Lib.hid hown
  have HBY := Lib.hid hbyt
  have HB0 := Lib.hid hb0
  have HBB := Lib.hid hbb
  have HG := Lib.hid hgml
  have HGL := Lib.hid hgl
  have HL := Lib.hid hl
  clear hx hxr hm B2 k2 hbm hown hbyt hb0 hgml hQ hgl hl hbb
  go_enter Try.func59, Try.ntmps59
  go_wp2_with fail
  refine (idx_any l (by have := HL.out; omega) ⟨xh, xA, xb, xc⟩ w.heap.size w2.heap.size c A w2 (ownRowS HOW.out) (Nat.le_refl _) (fun y hy => (HBY.out y hy).more (Nat.le_trans (Nat.le_trans HBB.out HB0.out) HB2.out.size)) K2.out HXR.out).mono ?_
  rintro e w3 ⟨hc, hb3⟩
  have HB3 := Lib.hid hb3
  have d0 : w3.cell? ⟨gm, 0, none⟩ = some (.slice A l.length c) := (HBM.out.below hb3 HBM.out.lt).cell 0
  have v0 : w3.cell? ⟨w.heap.size, 0, none⟩ = some (.bool xh) := (K2.out.below hb3 K2.out.lt).cell 0
  have v1 : w3.cell? ⟨w.heap.size, 1, none⟩ = some (.slice xA xb.length xc) := (K2.out.below hb3 K2.out.lt).cell 1
  have f0 : w3.frozen? ⟨gm, 0, none⟩ = false := (HBM.out.below hb3 HBM.out.lt).frozen 0
  have hg3 : gm < w3.heap.size := (HBM.out.below hb3 HBM.out.lt).lt
  have HO3 := Lib.hid (ownLater HOW.out hb3)
  have HM3 : Hid (MetAt w3 bb b0 gm l) := Lib.hid ((HM.out.below HB2.out).below hb3)
  have HW3 : Hid (Below b0 w w3) := Lib.hid ((HB2.out.mono HB0.out).trans (hb3.mono (Nat.le_trans HB0.out HB2.out.size)))
  have HKT : Hid (KeepT w w3) := Lib.hid (fun g t cs hg h1 h2 => (hg.below HB2.out hg.lt).below hb3 (Nat.lt_of_lt_of_le hg.lt HB2.out.size))
  clear hb3 c0
  rcases hc with ⟨i, y, hy, hv, rfl⟩ | ⟨hn, rfl⟩
  · have HY := Lib.hid hy
    have HV := Lib.hid hv
    have hi : i < l.length := (List.getElem?_eq_some_iff.1 hy).1
    have hi2 : (i : Int) ≤ 100 := by have := HL.out; omega
    have hi3 : (0 : Int) ≤ (i : Int) := by omega
    clear hy hv hi
    go_wp2
    exact HFND.out _ i y HY.out HV.out HM3.out HW3.out HKT.out
  · have HNN := Lib.hid hn
    obtain ⟨n, hln⟩ : ∃ n, l.length = n := ⟨_, rfl⟩
    have HLN := Lib.hid hln
    rw [hln] at HO3 HNEW d0
    have hn2 : (n : Int) ≤ 100 := by have := HL.out; omega
    clear hn hln
    go_wp2_with (at_builtin; refine wpList_appS (P := Try.prog) (by rfl) _ _ _ (by rfl) b0 45 i0 (.agg #[.bool false, .slice none 0 0]) 2 32 Try.underlying111 hi0 hz0 hz1 hz2 rfl (by decide) _ n (vasC l) (by rfl) (by exact ownLater HO3.out ((Below.refl _ _).alloc (Nat.le_refl _) _)) (w3.heap.size + 1) (some ⟨w3.heap.size, 0, none⟩) 1 1 (vaC ⟨xh, xA, xb, xc⟩) (by rfl) (by rfl) (by exact row_cells rfl) (vaC_one _) (by unfold maxLen; omega) (by omega) (by have := HB0.out; have := HB2.out.size; have := HB3.out.size; simp; omega) ?_)
    intro v' w4 ho hg hwh
    obtain ⟨A', c', rfl, _, _⟩ := ownShape ho
    have hk3 := (HBM.out.below HB3.out HBM.out.lt).alloc (.cells #[.bool xh, .slice xA xb.length xc] 45)
    have hne : (Value.slice A n c).ownBlock ≠ some gm := own_ne_blk (HO3.out) (HBM.out.below HB3.out HBM.out.lt) (by decide)
    have hk4 := hk3.grown hg (fun e => hne e.symm)
    have hne' : (Value.slice A' (n + 1) c').ownBlock ≠ some gm := own_ne_blk ho hk4 (by decide)
    have hb3s : b0 ≤ w3.heap.size := Nat.le_trans HB0.out (Nat.le_trans HB2.out.size HB3.out.size)
    have hb4 : Below b0 w w4 := (HW3.out.alloc hb3s (.cells #[.bool xh, .slice xA xb.length xc] 45)).grown hg (by simp; omega) (fun g hgg => (HO3.out.lt g hgg).1)
    have HK4 := Lib.hid hk4
    have e0 : w4.cell? ⟨gm, 0, none⟩ = some (.slice A n c) := by have := hk4.cell 0; rw [HLN.out] at this; exact this
    have e1 : w4.frozen? ⟨gm, 0, none⟩ = false := hk4.frozen 0
    have HMET : Hid (MetAt (w4.setCell ⟨gm, 0, none⟩ (.slice A' (n + 1) c')) bb b0 gm (l ++ [⟨xh, xA, xb, xc⟩])) := Lib.hid ⟨⟨A', c', by
        rw [List.length_append, HLN.out]; exact hk4.set_ 0 _, by
        rw [List.length_append, HLN.out, vasC_app]; exact ho.kept (grown_set _ gm 0 _) (Or.inr hne')⟩, fun y hy => by
        have hb5 : Below b0 w (w4.setCell ⟨gm, 0, none⟩ (.slice A' (n + 1) c')) := below_set hb4 HG.out _ _
        rcases List.mem_append.1 hy with h | h
        · exact (HM.out.byt y h).below (hb5.mono HBB.out)
        · obtain rfl := List.mem_singleton.1 h
          exact HX.out.below (hb5.mono HBB.out), HBB.out, HG.out⟩
    have HBE : Hid (Below b0 w (w4.setCell ⟨gm, 0, none⟩ (.slice A' (n + 1) c'))) := Lib.hid (below_set hb4 HG.out _ _)
    have HKE : Hid (KeepT w (w4.setCell ⟨gm, 0, none⟩ (.slice A' (n + 1) c'))) := Lib.hid (fun g t cs hgb h1 h2 => by
      have g3 := HKT.out g t cs hgb h1 h2
      have g4 := (g3.alloc (.cells #[.bool xh, .slice xA xb.length xc] 45)).grown hg (fun e => own_ne_blk HO3.out g3 (fun e => h1 e.symm) e.symm)
      exact g4.far (p := ⟨gm, 0, none⟩) (g4.ne_ hk4 h2) _)
    clear ho hg hwh hk3 hne hk4 hne' hb3s hb4 d0 v0 v1 f0
    go_wp2
    exact HNEW.out _ HNN.out HMET.out HBE.out HKE.out
end Go.Proofs.Ytlecbhnopokmnaa
