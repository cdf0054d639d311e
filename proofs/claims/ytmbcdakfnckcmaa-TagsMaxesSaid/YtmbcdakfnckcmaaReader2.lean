/- A reader, continued: rows, truths, and being told that something is wrong. -/
import Derived.Test.YtmbcdakfnckcmaaReader
namespace Go.Proofs.Ytmbcdakfnckcmaa
open Go.RowKit Mem Be
set_option maxRecDepth 10000
set_option maxHeartbeats 1000000
/-- A row that a reader hands out: new memory; the reader behind it. -/
def ReadsRow (g : Nat) (ys bs : List UInt8) (e : Int) (w : World) (E : Ending) (w' : World) : Prop :=
  ∃ A c, E = .returned (.slice A ys.length c) ∧ w'.ownsRow w.heap.size 5 1 (.slice A ys.length c) ys.length (ys.map byteV) ∧ Rd w' g bs e ∧ w.grownBy w' (some g)
theorem own_set {w : World} {B g i : Nat} {e : TypeId} {v : Value} {n : Nat} {xs : List Value} (h : w.ownsRow B e 1 v n xs) (hg : g < B) (u : Value) : (w.setCell ⟨g, i, none⟩ u).ownsRow B e 1 v n xs := by
  refine h.kept (grown_set w g i u) ?_
  cases hv : v.ownBlock with
  | none => exact Or.inl rfl
  | some k => exact Or.inr (fun e => by injection e with e; have := (h.lt k hv).1; omega)
theorem readsrow_set {w w1 : World} {g : Nat} {ys bs : List UInt8} {A A1 : Option Addr} {c c1 : Nat} {e0 : Int} (hgw : g < w.heap.size) (ho : w1.ownsRow w.heap.size 5 1 (.slice A1 ys.length c1) ys.length (ys.map byteV)) (hb : Blk w1 g 55 #[.slice A bs.length c, .int .i64 e0]) (hc : bs.length ≤ c) (hm : c ≤ maxLen) (hr : RowB w1 g A bs) (hl : bs.length ≤ 1073741824) (k : Nat) (er : Int) (hg : w.grownBy w1 (some g)) :
    ReadsRow g ys (bs.drop k) er w (.returned (.slice A1 ys.length c1)) ((w1.setCell ⟨g, 0, none⟩ (.slice (cutA A k c) (bs.length - k) (c - k))).setCell ⟨g, 1, none⟩ (.int .i64 er)) :=
  ⟨A1, c1, rfl, own_set (own_set ho hgw _) hgw _, rd_set hb hc hm hr hl k er, grown_trans hg (rd_grown _ _ _ _)⟩
theorem readrow_yes (g : Nat) (bs : List UInt8) (w : World) (h : Rd w g bs 0) : Calls Try.prog 29 #[.pointer (some ⟨g, 0, none⟩), .func (.func 30) #[] #[]] w
    (ReadsRow g (getR bs).1 (bs.drop (getR bs).2.1) (getR bs).2.2 w) := by
  have HF := Lib.hid h
  have HG := Lib.hid (rd_lt h)
  obtain ⟨A, c, hb, hc, hm, hr, hl⟩ := h
  have h0 : w.cell? ⟨g, 0, none⟩ = some (.slice A bs.length c) := hb.cell 0
  have hle : (getR bs).2.1 ≤ bs.length := by rcases getR_err bs with h | h <;> omega
  obtain ⟨ys, k, er, hg⟩ : ∃ x k er, getR bs = (x, k, er) := ⟨_, _, _, rfl⟩
  rw [hg] at hle
  have hcut := fun W => run_cut_l (P := Try.prog) (w := W) 34 5 _ _ Try.underlying34 info_b A bs.length c k hle
  have HR3 : Hid (Calls Try.prog 30 #[.slice A bs.length c] w (Row3 (ys, k, er) w)) := Lib.hid (by rw [← hg]; exact rowread_any g c A bs w hr.row (Nat.le_of_lt hb.lt) hc hm hl)
  have HE := Lib.hid hg
  have HB := Lib.hid hb
  have HR := Lib.hid hr
  have HC := Lib.hid hc
  have HM := Lib.hid hm
  clear hb hr hg hc hm
  go_enter Try.func29, Try.ntmps29
  go_wp2_with (first
    | (go_at_call 28; refine (failed_no g bs _ HF.out).mono ?_; rintro e w' ⟨rfl, rfl⟩)
    | (go_at_call 30; refine HR3.out.mono ?_; rintro e w1 ⟨A1, c1, rfl, ho, hbl⟩; have HO := Lib.hid ho; have HBL := Lib.hid hbl; (have HB1 := Lib.hid (HB.out.below hbl HG.out)); (have h01 := HB1.out.cell 0); (have h11 := HB1.out.cell 1); (have hz01 := HB1.out.frozen 0); (have hz11 := HB1.out.frozen 1); simp only [List.getElem?_toArray, List.getElem?_cons_zero, List.getElem?_cons_succ] at h01 h11; clear ho hbl))
  go_ret
  rw [HE.out]
  exact readsrow_set HG.out HO.out HB1.out HC.out HM.out (HR.out.below (HBL.out.mono (Nat.le_of_lt HG.out))) hl k er (grown_below HBL.out (Nat.le_refl _) _)
theorem readrow_no (g : Nat) (bs : List UInt8) (e0 : Int) (he : e0 ≠ 0) (F : Value) (w : World) (h : Rd w g bs e0) : Calls Try.prog 29 #[.pointer (some ⟨g, 0, none⟩), F] w (fun E w' => E = .returned (.slice none 0 0) ∧ w = w') := by
  have HF := Lib.hid h
  have HE := Lib.hid he
  clear h he
  go_enter Try.func29, Try.ntmps29
  go_wp2_with (go_at_call 28; refine (failed_yes g bs e0 HE.out _ HF.out).mono ?_; rintro e w' ⟨rfl, rfl⟩)
  go_ret
  exact ⟨rfl, rfl⟩
def stepR (bs : List UInt8) (e : Int) : List UInt8 × List UInt8 × Int := if e = 0 then ((getR bs).1, bs.drop (getR bs).2.1, (getR bs).2.2) else ([], bs, e)
theorem row_call (g : Nat) (bs : List UInt8) (e0 : Int) (w : World) (h : Rd w g bs e0) : Calls Try.prog 23 #[.pointer (some ⟨g, 0, none⟩)] w (ReadsRow g (stepR bs e0).1 (stepR bs e0).2.1 (stepR bs e0).2.2 w) := by
  have HF := Lib.hid h
  clear h
  by_cases he : e0 = 0
  · subst he
    have HS : Hid (stepR bs 0 = ((getR bs).1, bs.drop (getR bs).2.1, (getR bs).2.2)) := Lib.hid (if_pos rfl)
    rw [HS.out]
    go_enter Try.func23, Try.ntmps23
    go_wp2_with (go_at_call 29; refine (readrow_yes g bs _ HF.out).mono ?_; rintro e w1 ⟨A1, c1, rfl, ho, hr, hg⟩; have HO := Lib.hid ho; have HR := Lib.hid hr; have HG := Lib.hid hg; clear hr hg ho)
    go_ret
    exact ⟨A1, c1, rfl, HO.out, HR.out, HG.out⟩
  · have HS : Hid (stepR bs e0 = ([], bs, e0)) := Lib.hid (if_neg he)
    rw [HS.out]
    have HE := Lib.hid he
    clear he
    go_enter Try.func23, Try.ntmps23
    go_wp2_with (go_at_call 29; refine (readrow_no g bs e0 HE.out _ _ HF.out).mono ?_; rintro e w1 ⟨rfl, rfl⟩)
    go_ret
    exact ⟨none, 0, rfl, World.ownsRow_nil _ _ _ _, HF.out, grown_refl _ _⟩
theorem readtruth_yes (g : Nat) (bs : List UInt8) (w : World) (h : Rd w g bs 0) : Calls Try.prog 36 #[.pointer (some ⟨g, 0, none⟩), .func (.func 37) #[] #[]] w
    (Reads g (.bool (getT bs).1) (bs.drop (getT bs).2.1) (getT bs).2.2 w) := by
  have HF := Lib.hid h
  obtain ⟨A, c, hb, hc, hm, hr, hl⟩ := h
  have h0 : w.cell? ⟨g, 0, none⟩ = some (.slice A bs.length c) := hb.cell 0
  have h1 : w.cell? ⟨g, 1, none⟩ = some (.int .i64 0) := hb.cell 1
  have hz0 := hb.frozen 0
  have hz1 := hb.frozen 1
  have hle : (getT bs).2.1 ≤ bs.length := by rcases getT_err bs with h | h <;> omega
  obtain ⟨x, k, er, hg⟩ : ∃ x k er, getT bs = (x, k, er) := ⟨_, _, _, rfl⟩
  rw [hg] at hle
  have hcut := fun W => run_cut_l (P := Try.prog) (w := W) 34 5 _ _ Try.underlying34 info_b A bs.length c k hle
  have HG := Lib.hid hg
  have HB := Lib.hid hb
  have HR := Lib.hid hr
  have HC := Lib.hid hc
  have HM := Lib.hid hm
  clear hb hr hg hc hm
  go_enter Try.func36, Try.ntmps36
  go_wp2_with (first
    | (go_at_call 28; refine (failed_no g bs _ HF.out).mono ?_; rintro e w' ⟨rfl, rfl⟩)
    | (go_at_call 37; refine (truth_any g c A bs _ HR.out.row).mono ?_; rw [HG.out]; rintro e w' ⟨rfl, rfl⟩; unfold Bool3))
  go_ret
  rw [HG.out]
  exact reads_set rfl HB.out HC.out HM.out HR.out hl k er (grown_refl w _)
theorem readtruth_no (g : Nat) (bs : List UInt8) (e0 : Int) (he : e0 ≠ 0) (F : Value) (w : World) (h : Rd w g bs e0) : Calls Try.prog 36 #[.pointer (some ⟨g, 0, none⟩), F] w (fun E w' => E = .returned (.bool false) ∧ w = w') := by
  have HF := Lib.hid h
  have HE := Lib.hid he
  clear h he
  go_enter Try.func36, Try.ntmps36
  go_wp2_with (go_at_call 28; refine (failed_yes g bs e0 HE.out _ HF.out).mono ?_; rintro e w' ⟨rfl, rfl⟩)
  go_ret
  exact ⟨rfl, rfl⟩
def stepT (bs : List UInt8) (e : Int) : Bool × List UInt8 × Int := if e = 0 then ((getT bs).1, bs.drop (getT bs).2.1, (getT bs).2.2) else (false, bs, e)
theorem truth_call (g : Nat) (bs : List UInt8) (e0 : Int) (w : World) (h : Rd w g bs e0) : Calls Try.prog 32 #[.pointer (some ⟨g, 0, none⟩)] w (Reads g (.bool (stepT bs e0).1) (stepT bs e0).2.1 (stepT bs e0).2.2 w) := by
  have HF := Lib.hid h
  clear h
  by_cases he : e0 = 0
  · subst he
    have HS : Hid (stepT bs 0 = ((getT bs).1, bs.drop (getT bs).2.1, (getT bs).2.2)) := Lib.hid (if_pos rfl)
    rw [HS.out]
    go_enter Try.func32, Try.ntmps32
    go_wp2_with (go_at_call 36; refine (readtruth_yes g bs _ HF.out).mono ?_; rintro e w1 ⟨rfl, hr, hg⟩; have HR := Lib.hid hr; have HG := Lib.hid hg; clear hr hg)
    go_ret
    exact ⟨rfl, HR.out, HG.out⟩
  · have HS : Hid (stepT bs e0 = (false, bs, e0)) := Lib.hid (if_neg he)
    rw [HS.out]
    have HE := Lib.hid he
    clear he
    go_enter Try.func32, Try.ntmps32
    go_wp2_with (go_at_call 36; refine (readtruth_no g bs e0 HE.out _ _ HF.out).mono ?_; rintro e w1 ⟨rfl, rfl⟩)
    go_ret
    exact ⟨rfl, HF.out, grown_refl _ _⟩
/-- Told that something is wrong, a reader has that as its first error, if it had none. -/
theorem fail_call (g : Nat) (bs : List UInt8) (e0 : Int) (w : World) (h : Rd w g bs e0) : Calls Try.prog 27 #[.pointer (some ⟨g, 0, none⟩)] w (fun E w' => E = .returned (.tuple #[]) ∧ Rd w' g bs (if e0 = 0 then 11 else e0) ∧ w.grownBy w' (some g)) := by
  have HF := Lib.hid h
  obtain ⟨A, c, hb, hc, hm, hr, hl⟩ := h
  by_cases he : e0 = 0
  · subst he
    have h1 : w.cell? ⟨g, 1, none⟩ = some (.int .i64 0) := hb.cell 1
    have hz1 := hb.frozen 1
    have HB := Lib.hid hb
    have HR : Hid (Rd (w.setCell ⟨g, 1, none⟩ (.int .i64 11)) g bs 11) := Lib.hid ⟨A, c, hb.set_ 1 _, hc, hm, hr.set_ 1 _, hl⟩
    rw [if_pos rfl]
    clear hb hr hc hm
    go_enter Try.func27, Try.ntmps27
    go_wp2_with (go_at_call 28; refine (failed_no g bs _ HF.out).mono ?_; rintro e w' ⟨rfl, rfl⟩)
    first | go_end0 | refine bodyPost_ret (results_none rfl _ _ _) rfl ?_
    exact ⟨rfl, HR.out, grown_set w g 1 _⟩
  · rw [if_neg he]
    have HE := Lib.hid he
    clear hb hr hc hm he
    go_enter Try.func27, Try.ntmps27
    go_wp2_with (go_at_call 28; refine (failed_yes g bs e0 HE.out _ HF.out).mono ?_; rintro e w' ⟨rfl, rfl⟩)
    first | go_end0 | refine bodyPost_ret (results_none rfl _ _ _) rfl ?_
    exact ⟨rfl, HF.out, grown_refl _ _⟩
theorem rd_below {w w' : World} {g : Nat} {bs : List UInt8} {e : Int} (h : Rd w g bs e) (hb : Below w.heap.size w w') : Rd w' g bs e := by
  obtain ⟨A, c, hk, hc, hm, hr, hl⟩ := h
  exact ⟨A, c, hk.below hb hk.lt, hc, hm, hr.below (hb.mono (Nat.le_of_lt hk.lt)), hl⟩
/-- A reader is as it was where another block alone is written. -/
theorem rd_other {w w' : World} {g g2 : Nat} {bs : List UInt8} {e : Int} (h : Rd w g bs e) (hg : w.grownBy w' (some g2)) (hgt : g < g2) : Rd w' g bs e := by
  obtain ⟨A, c, hk, hc, hm, hr, hl⟩ := h
  exact ⟨A, c, hk.grown hg (fun e => by injection e with e; omega), hc, hm, hr.grownBy hg (Nat.le_of_lt hk.lt) (fun k e => by injection e with e; omega), hl⟩
theorem rd_grownBy {w w' : World} {g : Nat} {bs : List UInt8} {e : Int} {row : Option Nat} (h : Rd w g bs e) (hg : w.grownBy w' row) (hr : ∀ k, row = some k → g < k) : Rd w' g bs e := by
  obtain ⟨A, c, hk, hc, hm, hrow, hl⟩ := h
  exact ⟨A, c, hk.grown hg (fun e => Nat.lt_irrefl _ (hr g e.symm)), hc, hm, hrow.grownBy hg (Nat.le_of_lt hk.lt) (fun k e => Nat.le_of_lt (hr k e)), hl⟩
/-- A block of another type is written. -/
theorem rd_low {w : World} {g L : Nat} {bs : List UInt8} {e : Int} {t : TypeId} {cs : Array Value} (h : Rd w g bs e) (hL : Blk w L t cs) (h1 : 5 ≠ t) (h2 : g ≠ L) (i : Nat) (u : Value) : Rd (w.setCell ⟨L, i, none⟩ u) g bs e := by
  obtain ⟨A, c, hk, hc, hm, hrow, hl⟩ := h
  exact ⟨A, c, hk.far (p := ⟨L, i, none⟩) h2 u, hc, hm, hrow.low hL h1 i u, hl⟩
theorem rd_drew {w : World} {g : Nat} {bs : List UInt8} {e : Int} (h : Rd w g bs e) : Rd w.drew g bs e := by
  obtain ⟨A, c, hk, hc, hm, hrow, hl⟩ := h
  exact ⟨A, c, hk.drew, hc, hm, hrow.drewN 1, hl⟩
end Go.Proofs.Ytmbcdakfnckcmaa
