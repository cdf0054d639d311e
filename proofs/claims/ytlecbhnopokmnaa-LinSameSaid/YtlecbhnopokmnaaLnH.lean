/- LnH: Whether some deeds hold in an order. -/
import Derived.Test.YtlecbhnopokmnaaLnX
import Derived.Test.YtlecbhnopokmnaaLnZa
import Derived.Deep.RegionHeld3
namespace Go.Proofs.Ytlecbhnopokmnaa
open Go.RowKit Mem
set_option maxRecDepth 100000
set_option maxHeartbeats 8000000
set_option linter.unusedVariables false
set_option linter.unusedSimpArgs false
open Ln
/-- Which there are, as truths. -/
def inC (n d : Nat) : List Value := (List.range n).map fun i => .bool (d.testBit i)
theorem inC_len (n d : Nat) : (inC n d).length = n := by unfold inC; rw [List.length_map, List.length_range]
theorem inC_at {n d i : Nat} (h : i < n) : (inC n d)[i]? = some (.bool (d.testBit i)) := by
  unfold inC; rw [List.getElem?_map, List.getElem?_range h]; rfl
theorem inC_set {n d i : Nat} (h : i < n) : (inC n d).set i (.bool true) = inC n (ins d i) := by
  apply List.ext_getElem?
  intro k
  rw [List.getElem?_set, inC_len]
  by_cases e : i = k
  · subst e; rw [if_pos rfl, if_pos h, inC_at h, ins_same]
  · rw [if_neg e]
    rcases Nat.lt_or_ge k n with h2 | h2
    · rw [inC_at h2, inC_at h2, ins_ne e]
    · rw [List.getElem?_eq_none (by rw [inC_len]; exact h2), List.getElem?_eq_none (by rw [inC_len]; exact h2)]
theorem made_in (n : Nat) : madeCells #[.bool false] (n * 1) = (inC n 0).toArray := by
  unfold madeCells inC
  apply Array.ext'
  rw [Array.toList_map, Array.toList_range]
  apply List.ext_getElem?
  intro k
  rw [List.getElem?_map]
  rcases Nat.lt_or_ge k n with h | h
  · rw [List.getElem?_range (by omega), List.getElem?_map, List.getElem?_range h]
    simp [Nat.mod_one]
  · rw [List.getElem?_eq_none (by simp; omega), List.getElem?_eq_none (by simp; omega)]; rfl
def iV8 (x : Int) : Value := .int .i64 x
theorem runO_bad {L : List DeedP} {i : Int} {r : List Int} {d : Nat} {l0 : Int} {v : Va} (h : i < 0 ∨ (L.length : Int) ≤ i ∨ d.testBit i.toNat = true ∨ (atD L i.toNat).till < l0 ∨ ((atD L i.toNat).kind = 1 ∧ valD (atD L i.toNat) ≠ v)) : runO L (i :: r) d l0 v = none := by rw [runO, if_pos h]
theorem runO_good {L : List DeedP} {k : Nat} {r : List Int} {d : Nat} {l0 : Int} {v : Va} (h1 : k < L.length) (h2 : d.testBit k = false) (h3 : l0 ≤ (atD L k).till) (h4 : (atD L k).kind = 1 → valD (atD L k) = v) : runO L ((k : Int) :: r) d l0 v = runO L r (ins d k) (max l0 (atD L k).fro) (valD (atD L k)) := by
  rw [runO, if_neg, Int.toNat_natCast]
  rw [Int.toNat_natCast]
  rintro (h | h | h | h | h)
  · omega
  · omega
  · rw [h2] at h; cases h
  · omega
  · exact h.2 (h4 h.1)
/-- A box that holds a value. -/
def NowB (w : World) (gn B : Nat) (v : Va) : Prop := ∃ x : VaL, x.va = v ∧ Blk w gn 45 #[.bool x.has, .slice x.A x.b.length x.c] ∧ Row w B x.A (x.b.map byteV)
theorem nowB_below {w w' : World} {gn B : Nat} {v : Va} (h : NowB w gn B v) (hb : Below w.heap.size w w') (hB : B ≤ w.heap.size) : NowB w' gn B v := by
  obtain ⟨x, h1, h2, h3⟩ := h
  exact ⟨x, h1, h2.below hb h2.lt, h3.below (hb.mono hB)⟩
theorem nowB_ne {w : World} {gn B g : Nat} {v : Va} {t : TypeId} {cs : Array Value} (h : NowB w gn B v) (hk : Blk w g t cs) (hne : t ≠ 45) : g ≠ gn := by
  obtain ⟨x, h1, h2, h3⟩ := h
  exact hk.ne_ h2 hne
theorem holds_known {L : List DeedP} {o : List Int} (h : L.all (fun d => knownK d.kind) = true) : holdsP L o = match runO L o 0 minI none with | some r => endO L r.1 r.2 | none => false := by
  unfold holdsP; rw [h]; rfl
theorem holds_any (l : List DdL) (hl : l.length ≤ 20) (order : List Int) (ho : order.length ≤ 1000) (B c m c' : Nat) (A A' : Option Addr) (hm : m = order.length) (w : World) (hr : Row w B A (ddsC l)) (hB : B ≤ w.heap.size) (hby : Dds_ w B l) (hr' : Row w B A' (order.map iV8)) :
    Calls Try.prog 23 #[.slice A l.length c, .slice A' m c'] w (IsB18 (holdsP (l.map DdL.p) order) w) := by
  subst hm
  cases hkn : l.all (fun r => knownK r.kind) with
  | false =>
    have HCT : Hid (Calls Try.prog 40 #[.slice A l.length c, .func (.func 41) #[] #[]] w (IsB18 true w)) := Lib.hid (contains_any l (by omega) B c A w hr hB false (Lib.hid hkn))
    have HV : Hid (holdsP (l.map DdL.p) order = false) := Lib.hid (by
      unfold holdsP
      have : (l.map DdL.p).all (fun d => knownK d.kind) = false := by rw [List.all_map]; exact hkn
      rw [this]; rfl)
    clear hkn hr hB hby hr'
    go_enter Try.func23, Try.ntmps23
    go_wp2_with fail
    refine HCT.out.mono ?_
    rintro e w1 ⟨rfl, hb1⟩
    have HB1 := Lib.hid hb1
    clear hb1
    go_wp2
    go_ret
    exact ⟨by rw [HV.out]; rfl, HB1.out⟩
  | true =>
    have HCT : Hid (Calls Try.prog 40 #[.slice A l.length c, .func (.func 41) #[] #[]] w (IsB18 false w)) := Lib.hid (contains_any l (by omega) B c A w hr hB true (Lib.hid hkn))
    obtain ⟨n, hn⟩ : ∃ n, l.length = n := ⟨_, rfl⟩
    have hka : (l.map DdL.p).all (fun d => knownK d.kind) = true := by rw [List.all_map]; exact hkn
    have HNO : Hid (∀ W : World, runO (l.map DdL.p) order 0 minI none = none → Below w.heap.size w W → IsB18 (holdsP (l.map DdL.p) order) w (.returned (.bool false)) W) := Lib.hid fun W h hb => ⟨by rw [holds_known hka, h], hb⟩
    have HEND : Hid (∀ (W : World) (d : Nat) (L : Int) (b : Bool), runO (l.map DdL.p) order 0 minI none = some (d, L) → endO (l.map DdL.p) d L = b → Below w.heap.size w W → IsB18 (holdsP (l.map DdL.p) order) w (.returned (.bool b)) W) := Lib.hid fun W d L b h h2 hb => ⟨by rw [holds_known hka, h]; exact congrArg _ (congrArg _ h2.symm), hb⟩
    obtain ⟨Q, hQ⟩ : ∃ Q, IsB18 (holdsP (l.map DdL.p) order) w = Q := ⟨_, rfl⟩
    rw [hQ] at HNO HEND ⊢
    obtain ⟨m, hm⟩ : ∃ m, order.length = m := ⟨_, rfl⟩
    rw [hn] at HCT hl ⊢
    rw [hm] at ho ⊢
    have HN := Lib.hid hn
    have HMM := Lib.hid hm
    have HR := Lib.hid hr
    have HR' := Lib.hid hr'
    have HBY := Lib.hid hby
    have HBB := Lib.hid hB
    have hn2 : (n : Int) ≤ 20 := by omega
    have hm2 : (m : Int) ≤ 1000 := by omega
    have m1 : ∀ W : World, (Instr.makeSlice 94 (.int .i64 (n : Int)) (.int .i64 (n : Int))).run Try.prog W = .ok (.slice (some ⟨W.heap.size, 0, none⟩) n n) (W.alloc (.cells (inC n 0).toArray 4)) := by
      obtain ⟨i0, hi0, hz0, hz1, hz2⟩ := info_parts (show (Try.prog.info? 4).map (fun i => (i.zero, i.size, i.bytes)) = some (some (.bool false), 1, 1) by kernel_rfl)
      intro W
      have h := run_make (P := Try.prog) W 94 4 i0 _ Try.underlying94 hi0 hz0 .i64 .i64 (n : Int) (n : Int) (by omega) (by omega) (by rw [hz2]; omega) (by omega)
      simp only [Int.toNat_natCast, hz1] at h
      rw [← made_in]; exact h
    clear hkn hr hB hby hr' hn hm hQ hka
    go_enter Try.func23, Try.ntmps23
    go_wp2_with fail
    refine HCT.out.mono ?_
    rintro e w1 ⟨rfl, hb1⟩
    have HB1 := Lib.hid hb1
    clear hb1
    have HK0 : Hid (Blk ((w1.alloc (.cells (inC n 0).toArray 4)).alloc (.cells #[.bool false, .slice none 0 0] 45)) w1.heap.size 4 (inC n 0).toArray) := Lib.hid ((Blk.new _ _ _).alloc _)
    have HN0 : Hid (NowB ((w1.alloc (.cells (inC n 0).toArray 4)).alloc (.cells #[.bool false, .slice none 0 0] 45)) (w1.heap.size + 1) B none) := Lib.hid ⟨⟨false, none, [], 0⟩, rfl, by
      have h := Blk.new (w1.alloc (.cells (inC n 0).toArray 4)) 45 #[.bool false, .slice none 0 0]
      simpa using h, Or.inl rfl⟩
    have HB0 : Hid (Below w.heap.size w ((w1.alloc (.cells (inC n 0).toArray 4)).alloc (.cells #[.bool false, .slice none 0 0] 45))) := Lib.hid ((HB1.out.alloc HB1.out.size _).alloc (by have := HB1.out.size; simp; omega) _)
    have HG : Hid (w.heap.size ≤ w1.heap.size) := Lib.hid HB1.out.size
    go_wp2
    go_loopw [6, 20] (fun Lv iv wr => ∃ (q d : Nat) (L : Int) (v : Va), q ≤ m ∧ iv = .int .i64 (q : Int) ∧ Lv = .int .i64 L ∧ Hid (runO (l.map DdL.p) order 0 minI none = runO (l.map DdL.p) (order.drop q) d L v) ∧ Hid (Blk wr w1.heap.size 4 (inC n d).toArray) ∧ Hid (NowB wr (w1.heap.size + 1) B v) ∧ Hid (Below w.heap.size w wr)) (fun _ iv _ => m - (intOf iv).toNat)
    case atStart => exact ⟨0, 0, minI, none, by omega, rfl, rfl, Lib.hid rfl, HK0, HN0, HB0⟩
    case round =>
      obtain ⟨q, d, L, v, hq, rfl, rfl, HRUN, HK, HNW, HB⟩ := hrel
      have hq0 : (0 : Int) ≤ (q : Int) := by omega
      by_cases hlt : q < m
      · have hlt2 : (q : Int) < (m : Int) := by omega
        have hqo : q < order.length := by rw [HMM.out]; exact hlt
        obtain ⟨b', o', hA', hbB', hc⟩ := HR'.out.open_ (by rw [List.length_map]; omega)
        have hbw' : b' < w.heap.size := Nat.lt_of_lt_of_le hbB' HBB.out
        have x0 := hc q (by rw [List.length_map]; exact hqo)
        rw [← HB.out.cell (p := ⟨b', o' + q, none⟩) hbw', List.getElem_map] at x0
        have hdr : order.drop q = order[q] :: order.drop (q + 1) := List.drop_eq_getElem_cons hqo
        obtain ⟨x, hx⟩ : ∃ x, order[q] = x := ⟨_, rfl⟩
        rw [hx] at x0 hdr
        rw [hdr] at HRUN
        change wr.cell? _ = some (.int .i64 x) at x0
        subst hA'
        have HBR := Lib.hid (Nat.lt_of_lt_of_le hbw' HB.out.size)
        clear hx hdr hc hbB' hbw' hqo hq
        by_cases hx0 : x < 0
        · have hd0 : decide (x < 0) = true := decide_eq_true hx0
          have HBAD : Hid (runO (l.map DdL.p) order 0 minI none = none) := Lib.hid (by rw [HRUN.out]; exact runO_bad (Or.inl hx0))
          go_wp2
          exact HNO.out _ HBAD.out HB.out
        · have hd0 : decide (x < 0) = false := decide_eq_false hx0
          by_cases hxn : (n : Int) ≤ x
          · have hd1 : decide ((n : Int) ≤ x) = true := decide_eq_true hxn
            have HBAD : Hid (runO (l.map DdL.p) order 0 minI none = none) := Lib.hid (by rw [HRUN.out]; exact runO_bad (Or.inr (Or.inl (by rw [List.length_map, HN.out]; exact hxn))))
            go_wp2
            exact HNO.out _ HBAD.out HB.out
          · obtain ⟨k, rfl⟩ : ∃ k : Nat, x = (k : Int) := ⟨x.toNat, by omega⟩
            have hkn : k < n := by omega
            have hd1 : decide ((n : Int) ≤ (k : Int)) = false := decide_eq_false hxn
            have hk0 : (0 : Int) ≤ (k : Int) := by omega
            have hk1 : (k : Int) < (n : Int) := by omega
            have t0 : wr.cell? ⟨w1.heap.size, k, none⟩ = some (.bool (d.testBit k)) := (HK.out.cell k).trans (by rw [List.getElem?_toArray]; exact inC_at hkn)
            clear hx0 hxn
            cases hbt : d.testBit k with
            | true =>
              rw [hbt] at t0
              have HBAD : Hid (runO (l.map DdL.p) order 0 minI none = none) := Lib.hid (by rw [HRUN.out]; exact runO_bad (Or.inr (Or.inr (Or.inl (by rw [Int.toNat_natCast]; exact hbt)))))
              clear hbt
              go_wp2
              exact HNO.out _ HBAD.out HB.out
            | false =>
              rw [hbt] at t0
              have HBT := Lib.hid hbt
              clear hbt
              have hkl : k < l.length := by rw [HN.out]; exact hkn
              obtain ⟨b, o, hA, hbB, hcl⟩ := dds_open HR.out (by omega)
              have hbw : b < w.heap.size := Nat.lt_of_lt_of_le hbB HBB.out
              obtain ⟨e0, e1, e2, e3, e4, e5, e6⟩ := (hcl k hkl).keep (HB.out.block b hbw)
              have hblr : b < wr.heap.size := by have := HB.out.size; omega
              have hak := atD_map (List.getElem?_eq_getElem hkl)
              have HDB := Lib.hid (HBY.out _ (List.getElem_mem hkl))
              obtain ⟨y, hy⟩ : ∃ y, l[k] = y := ⟨_, rfl⟩
              rw [hy] at e0 e1 e2 e3 e4 e5 e6 hak HDB
              obtain ⟨kind, yA, yb, yc, fro, till, done, has, A2, vb, y2⟩ := y
              simp only at e0 e1 e2 e3 e4 e5 e6
              subst hA
              have HAK := Lib.hid hak
              have HKL := Lib.hid hkl
              clear hy hcl hbB hbw hak hkl
              by_cases htl : till < L
              · have hd2 : decide (till < L) = true := decide_eq_true htl
                have HBAD : Hid (runO (l.map DdL.p) order 0 minI none = none) := Lib.hid (by rw [HRUN.out]; exact runO_bad (Or.inr (Or.inr (Or.inr (Or.inl (by rw [Int.toNat_natCast, HAK.out]; exact htl))))))
                clear htl
                go_wp2
                exact HNO.out _ HBAD.out HB.out
              · have hd2 : decide (till < L) = false := decide_eq_false htl
                have HTL := Lib.hid htl
                clear htl
                have HKB := Lib.hid (Blk.new wr 47 #[.int .i64 kind, .slice yA yb.length yc, .int .i64 fro, .int .i64 till, .bool done, .bool has, .slice A2 vb.length y2])
                have HBA := Lib.hid ((Below.refl wr.heap.size wr).alloc (Nat.le_refl _) (.cells #[.int .i64 kind, .slice yA yb.length yc, .int .i64 fro, .int .i64 till, .bool done, .bool has, .slice A2 vb.length y2] 47))
                obtain ⟨w3, hw3⟩ : ∃ W, wr.alloc (.cells #[.int .i64 kind, .slice yA yb.length yc, .int .i64 fro, .int .i64 till, .bool done, .bool has, .slice A2 vb.length y2] 47) = W := ⟨_, rfl⟩
                rw [hw3] at HKB HBA
                have HK3 := Lib.hid (HK.out.below HBA.out HK.out.lt)
                have HN3 := Lib.hid (nowB_below HNW.out HBA.out (by have := HB.out.size; have := HBB.out; omega))
                have HB3 := Lib.hid (HB.out.trans (HBA.out.mono HB.out.size))
                have g0 : w3.cell? ⟨wr.heap.size, 0, none⟩ = some (.int .i64 kind) := HKB.out.cell 0
                have g1 : w3.cell? ⟨wr.heap.size, 1, none⟩ = some (.slice yA yb.length yc) := HKB.out.cell 1
                have g2 : w3.cell? ⟨wr.heap.size, 2, none⟩ = some (.int .i64 fro) := HKB.out.cell 2
                have g3 : w3.cell? ⟨wr.heap.size, 3, none⟩ = some (.int .i64 till) := HKB.out.cell 3
                have g4 : w3.cell? ⟨wr.heap.size, 4, none⟩ = some (.bool done) := HKB.out.cell 4
                have g5 : w3.cell? ⟨wr.heap.size, 5, none⟩ = some (.bool has) := HKB.out.cell 5
                have g6 : w3.cell? ⟨wr.heap.size, 6, none⟩ = some (.slice A2 vb.length y2) := HKB.out.cell 6
                by_cases hk1 : kind = 1
                · have hq1 : (kind == 1) = true := by simp [hk1]
                  obtain ⟨nv, hnv, hnb, hnr⟩ := HN3.out
                  obtain ⟨nh, nA, nb, nc⟩ := nv
                  have n0 : w3.cell? ⟨w1.heap.size + 1, 0, none⟩ = some (.bool nh) := hnb.cell 0
                  have n1 : w3.cell? ⟨w1.heap.size + 1, 1, none⟩ = some (.slice nA nb.length nc) := hnb.cell 1
                  have hnl : w1.heap.size + 1 < w3.heap.size := hnb.lt
                  obtain ⟨b1, hb1⟩ : ∃ b1, decide (normV has vb = normV nh nb) = b1 := ⟨_, rfl⟩
                  have HSV : Hid (Calls Try.prog 46 #[.agg #[.bool has, .slice A2 vb.length y2], .agg #[.bool nh, .slice nA nb.length nc]] w3 (IsB18 b1 w3)) := Lib.hid (by
                    rw [← hb1]
                    refine sameval18 has nh A2 nA vb nb y2 nc _ _ rfl rfl w3 ?_ ?_
                    · exact (HDB.out.2.below (HB3.out.mono HBB.out)).more (by have := HB3.out.size; have := HBB.out; omega)
                    · exact hnr.more (by have := HB3.out.size; have := HBB.out; omega))
                  have HK1 := Lib.hid hk1
                  have HV1 : Hid (b1 = decide ((valD (⟨kind, yA, yb, yc, fro, till, done, has, A2, vb, y2⟩ : DdL).p) = v)) := Lib.hid (by
                    rw [← hb1, ← hnv]
                    unfold valD DdL.p
                    simp only [hk1, if_true]
                    rfl)
                  clear hk1 hnv hnb hnr hb1
                  go_wp2_with fail
                  refine HSV.out.mono ?_
                  rintro e w4 ⟨rfl, hb4⟩
                  have HKB4 := Lib.hid (HKB.out.below hb4 HKB.out.lt)
                  have HK4 := Lib.hid (HK3.out.below hb4 HK3.out.lt)
                  have HN4 := Lib.hid (nowB_below HN3.out hb4 (by have := HB3.out.size; have := HBB.out; omega))
                  have HB4 := Lib.hid (HB3.out.trans (hb4.mono HB3.out.size))
                  clear hb4 n0 n1 hnl g0 g1 g2 g3 g4 g5 g6
                  cases b1
                  · have HBAD : Hid (runO (l.map DdL.p) order 0 minI none = none) := Lib.hid (by rw [HRUN.out]; exact runO_bad (Or.inr (Or.inr (Or.inr (Or.inr (by rw [Int.toNat_natCast, HAK.out]; exact ⟨HK1.out, fun h => by have := HV1.out; rw [h] at this; simp at this⟩))))))
                    go_wp2
                    exact HNO.out _ HBAD.out HB4.out
                  · have HEQ : Hid ((⟨kind, yA, yb, yc, fro, till, done, has, A2, vb, y2⟩ : DdL).p.kind = 1 → valD (⟨kind, yA, yb, yc, fro, till, done, has, A2, vb, y2⟩ : DdL).p = v) := Lib.hid fun _ => of_decide_eq_true HV1.out.symm
                    clear e0 e1 e2 e3 e4 e5 e6 t0
                    go_wp2_with fail
                    have HSTEP : Hid (runO (l.map DdL.p) order 0 minI none = runO (l.map DdL.p) (order.drop (q + 1)) (ins d k) (max L fro) (valL ⟨kind, yA, yb, yc, fro, till, done, has, A2, vb, y2⟩).va) := Lib.hid (by
                      rw [HRUN.out, runO_good (by rw [List.length_map]; exact HKL.out) HBT.out (by rw [HAK.out]; have := HTL.out; show L ≤ till; omega) (by rw [HAK.out]; exact HEQ.out), HAK.out, valL_va]; rfl)
                    obtain ⟨x, hx⟩ : ∃ x, valL ⟨kind, yA, yb, yc, fro, till, done, has, A2, vb, y2⟩ = x := ⟨_, rfl⟩
                    have HXR : Hid (Row w B x.A (x.b.map byteV)) := Lib.hid (by rw [← hx]; exact valL_row HDB.out)
                    have HVAL : Hid (∀ W : World, Calls Try.prog 47 #[.agg #[.int .i64 kind, .slice yA yb.length yc, .int .i64 fro, .int .i64 till, .bool done, .bool has, .slice A2 vb.length y2]] W fun e w' => e = .returned x.v ∧ Below W.heap.size W w') := Lib.hid fun W => by
                      have := value_any ⟨kind, yA, yb, yc, fro, till, done, has, A2, vb, y2⟩ W
                      rw [hx] at this; exact this
                    rw [hx] at HSTEP
                    clear hx
                    obtain ⟨M, hM⟩ : ∃ M, max L fro = M := ⟨_, rfl⟩
                    rw [hM] at HSTEP
                    have hmx : (if L < fro then fro else L) = M := by rw [← hM]; by_cases h : L < fro <;> simp [h] <;> omega
                    clear hM
                    obtain ⟨xh, xA, xb, xc⟩ := x
                    obtain ⟨nv, hnv, hnb, hnr⟩ := HN4.out
                    have HNB := Lib.hid hnb
                    clear hnv hnb hnr
                    have a0 : w4.cell? ⟨wr.heap.size, 0, none⟩ = some (.int .i64 kind) := HKB4.out.cell 0
                    have a1 : w4.cell? ⟨wr.heap.size, 1, none⟩ = some (.slice yA yb.length yc) := HKB4.out.cell 1
                    have a2 : w4.cell? ⟨wr.heap.size, 2, none⟩ = some (.int .i64 fro) := HKB4.out.cell 2
                    have a3 : w4.cell? ⟨wr.heap.size, 3, none⟩ = some (.int .i64 till) := HKB4.out.cell 3
                    have a4 : w4.cell? ⟨wr.heap.size, 4, none⟩ = some (.bool done) := HKB4.out.cell 4
                    have a5 : w4.cell? ⟨wr.heap.size, 5, none⟩ = some (.bool has) := HKB4.out.cell 5
                    have a6 : w4.cell? ⟨wr.heap.size, 6, none⟩ = some (.slice A2 vb.length y2) := HKB4.out.cell 6
                    go_region_held3 (fun W => W.cell? ⟨wr.heap.size, 0, none⟩ = some (.int .i64 kind) ∧ W.cell? ⟨wr.heap.size, 1, none⟩ = some (.slice yA yb.length yc) ∧ W.cell? ⟨wr.heap.size, 2, none⟩ = some (.int .i64 fro) ∧ W.cell? ⟨wr.heap.size, 3, none⟩ = some (.int .i64 till) ∧ W.cell? ⟨wr.heap.size, 4, none⟩ = some (.bool done) ∧ W.cell? ⟨wr.heap.size, 5, none⟩ = some (.bool has) ∧ W.cell? ⟨wr.heap.size, 6, none⟩ = some (.slice A2 vb.length y2))
                      (first | with_reducible exact ⟨a0, a1, a2, a3, a4, a5, a6⟩ | with_reducible exact ⟨d0, d1, d2, d3, d4, d5, d6⟩ | with_reducible exact ⟨farC d0 HNE.out.1 _, farC d1 HNE.out.1 _, farC d2 HNE.out.1 _, farC d3 HNE.out.1 _, farC d4 HNE.out.1 _, farC d5 HNE.out.1 _, farC d6 HNE.out.1 _⟩ | with_reducible exact ⟨farC (farC (farC d0 HNE.out.1 _) HNE.out.2 _) HNE.out.2 _, farC (farC (farC d1 HNE.out.1 _) HNE.out.2 _) HNE.out.2 _, farC (farC (farC d2 HNE.out.1 _) HNE.out.2 _) HNE.out.2 _, farC (farC (farC d3 HNE.out.1 _) HNE.out.2 _) HNE.out.2 _, farC (farC (farC d4 HNE.out.1 _) HNE.out.2 _) HNE.out.2 _, farC (farC (farC d5 HNE.out.1 _) HNE.out.2 _) HNE.out.2 _, farC (farC (farC d6 HNE.out.1 _) HNE.out.2 _) HNE.out.2 _⟩ | go_keep)
                      ((go_at_call 47; refine (HVAL.out _).mono ?_; rintro e w5 ⟨rfl, hb5⟩; have HB5 : Hid (Below w4.heap.size w4 w5) := Lib.hid (by first | exact hb5 | exact Below.trans (by exact ⟨rfl, rfl, rfl, Nat.le_refl _, fun _ _ => rfl⟩) hb5); (have HKB5 := Lib.hid (HKB4.out.below HB5.out HKB4.out.lt)); (have HK5 := Lib.hid (HK4.out.below HB5.out HK4.out.lt)); (have HN5 := Lib.hid (nowB_below HN4.out HB5.out (by have := HB4.out.size; have := HBB.out; omega))); (have HNE : Hid (wr.heap.size ≠ w1.heap.size ∧ wr.heap.size ≠ w1.heap.size + 1) := Lib.hid ⟨HKB5.out.ne_ HK5.out (by decide), nowB_ne HN5.out HKB5.out (by decide)⟩); (have d0 : w5.cell? ⟨wr.heap.size, 0, none⟩ = some (.int .i64 kind) := HKB5.out.cell 0); (have d1 : w5.cell? ⟨wr.heap.size, 1, none⟩ = some (.slice yA yb.length yc) := HKB5.out.cell 1); (have d2 : w5.cell? ⟨wr.heap.size, 2, none⟩ = some (.int .i64 fro) := HKB5.out.cell 2); (have d3 : w5.cell? ⟨wr.heap.size, 3, none⟩ = some (.int .i64 till) := HKB5.out.cell 3); (have d4 : w5.cell? ⟨wr.heap.size, 4, none⟩ = some (.bool done) := HKB5.out.cell 4); (have d5 : w5.cell? ⟨wr.heap.size, 5, none⟩ = some (.bool has) := HKB5.out.cell 5); (have d6 : w5.cell? ⟨wr.heap.size, 6, none⟩ = some (.slice A2 vb.length y2) := HKB5.out.cell 6); (have z0 : w5.cell? ⟨w1.heap.size, k, none⟩ = some (.bool (d.testBit k)) := (HK5.out.cell k).trans (by rw [List.getElem?_toArray]; exact inC_at hkn)); (have z1 := HK5.out.frozen k); (have HNB5 := Lib.hid (HNB.out.below HB5.out HNB.out.lt)); (have z2 : w5.cell? ⟨w1.heap.size + 1, 0, none⟩ = some (.bool nv.has) := HNB5.out.cell 0); (have z3 : w5.cell? ⟨w1.heap.size + 1, 1, none⟩ = some (.slice nv.A nv.b.length nv.c) := HNB5.out.cell 1); (have z4 := HNB5.out.frozen 0); (have z5 := HNB5.out.frozen 1); clear hb5))
                    all_goals
                      have hb6 : Below w.heap.size w (((w5.setCell ⟨w1.heap.size, k, none⟩ (.bool true)).setCell ⟨w1.heap.size + 1, 0, none⟩ (.bool xh)).setCell ⟨w1.heap.size + 1, 1, none⟩ (.slice xA xb.length xc)) := below_set (below_set (below_set (HB4.out.trans (HB5.out.mono HB4.out.size)) HG.out _ _) (by have := HG.out; omega) _ _) (by have := HG.out; omega) _ _
                      have HB6 := Lib.hid hb6
                      have HK6 : Hid (Blk (((w5.setCell ⟨w1.heap.size, k, none⟩ (.bool true)).setCell ⟨w1.heap.size + 1, 0, none⟩ (.bool xh)).setCell ⟨w1.heap.size + 1, 1, none⟩ (.slice xA xb.length xc)) w1.heap.size 4 (inC n (ins d k)).toArray) := Lib.hid (by
                        have h := ((HK5.out.set_ k (.bool true)).far (p := ⟨w1.heap.size + 1, 0, none⟩) (show w1.heap.size ≠ w1.heap.size + 1 by omega) (.bool xh)).far (p := ⟨w1.heap.size + 1, 1, none⟩) (show w1.heap.size ≠ w1.heap.size + 1 by omega) (.slice xA xb.length xc)
                        rw [List.setIfInBounds_toArray, inC_set hkn] at h
                        exact h)
                      have HN6 : Hid (NowB (((w5.setCell ⟨w1.heap.size, k, none⟩ (.bool true)).setCell ⟨w1.heap.size + 1, 0, none⟩ (.bool xh)).setCell ⟨w1.heap.size + 1, 1, none⟩ (.slice xA xb.length xc)) (w1.heap.size + 1) B (⟨xh, xA, xb, xc⟩ : VaL).va) := Lib.hid ⟨⟨xh, xA, xb, xc⟩, rfl, ((HNB5.out.far (p := ⟨w1.heap.size, k, none⟩) (show w1.heap.size + 1 ≠ w1.heap.size by omega) (.bool true)).set_ 0 (.bool xh)).set_ 1 (.slice xA xb.length xc), HXR.out.below (hb6.mono HBB.out)⟩
                      clear hb6 d0 d1 d2 d3 d4 d5 d6 z0 z1 z2 z3 z4 z5
                      go_wp2
                      go_roundw
                      case rel => exact ⟨q + 1, ins d k, M, _, by omega, by go_num, rfl, HSTEP, HK6, HN6, HB6⟩
                      case measure => simp [intOf]; omega
                · have hq1 : (kind == 1) = false := by simpa using hk1
                  have HEQ : Hid ((⟨kind, yA, yb, yc, fro, till, done, has, A2, vb, y2⟩ : DdL).p.kind = 1 → valD (⟨kind, yA, yb, yc, fro, till, done, has, A2, vb, y2⟩ : DdL).p = v) := Lib.hid fun h => (hk1 h).elim
                  clear hk1
                  go_wp2_with fail
                  have HSTEP : Hid (runO (l.map DdL.p) order 0 minI none = runO (l.map DdL.p) (order.drop (q + 1)) (ins d k) (max L fro) (valL ⟨kind, yA, yb, yc, fro, till, done, has, A2, vb, y2⟩).va) := Lib.hid (by
                    rw [HRUN.out, runO_good (by rw [List.length_map]; exact HKL.out) HBT.out (by rw [HAK.out]; have := HTL.out; show L ≤ till; omega) (by rw [HAK.out]; exact HEQ.out), HAK.out, valL_va]; rfl)
                  obtain ⟨x, hx⟩ : ∃ x, valL ⟨kind, yA, yb, yc, fro, till, done, has, A2, vb, y2⟩ = x := ⟨_, rfl⟩
                  have HXR : Hid (Row w B x.A (x.b.map byteV)) := Lib.hid (by rw [← hx]; exact valL_row HDB.out)
                  have HVAL : Hid (∀ W : World, Calls Try.prog 47 #[.agg #[.int .i64 kind, .slice yA yb.length yc, .int .i64 fro, .int .i64 till, .bool done, .bool has, .slice A2 vb.length y2]] W fun e w' => e = .returned x.v ∧ Below W.heap.size W w') := Lib.hid fun W => by
                    have := value_any ⟨kind, yA, yb, yc, fro, till, done, has, A2, vb, y2⟩ W
                    rw [hx] at this; exact this
                  rw [hx] at HSTEP
                  clear hx
                  obtain ⟨M, hM⟩ : ∃ M, max L fro = M := ⟨_, rfl⟩
                  rw [hM] at HSTEP
                  have hmx : (if L < fro then fro else L) = M := by rw [← hM]; by_cases h : L < fro <;> simp [h] <;> omega
                  clear hM
                  obtain ⟨xh, xA, xb, xc⟩ := x
                  obtain ⟨nv, hnv, hnb, hnr⟩ := HN3.out
                  have HNB := Lib.hid hnb
                  clear hnv hnb hnr
                  have a0 : w3.cell? ⟨wr.heap.size, 0, none⟩ = some (.int .i64 kind) := HKB.out.cell 0
                  have a1 : w3.cell? ⟨wr.heap.size, 1, none⟩ = some (.slice yA yb.length yc) := HKB.out.cell 1
                  have a2 : w3.cell? ⟨wr.heap.size, 2, none⟩ = some (.int .i64 fro) := HKB.out.cell 2
                  have a3 : w3.cell? ⟨wr.heap.size, 3, none⟩ = some (.int .i64 till) := HKB.out.cell 3
                  have a4 : w3.cell? ⟨wr.heap.size, 4, none⟩ = some (.bool done) := HKB.out.cell 4
                  have a5 : w3.cell? ⟨wr.heap.size, 5, none⟩ = some (.bool has) := HKB.out.cell 5
                  have a6 : w3.cell? ⟨wr.heap.size, 6, none⟩ = some (.slice A2 vb.length y2) := HKB.out.cell 6
                  go_region_held3 (fun W => W.cell? ⟨wr.heap.size, 0, none⟩ = some (.int .i64 kind) ∧ W.cell? ⟨wr.heap.size, 1, none⟩ = some (.slice yA yb.length yc) ∧ W.cell? ⟨wr.heap.size, 2, none⟩ = some (.int .i64 fro) ∧ W.cell? ⟨wr.heap.size, 3, none⟩ = some (.int .i64 till) ∧ W.cell? ⟨wr.heap.size, 4, none⟩ = some (.bool done) ∧ W.cell? ⟨wr.heap.size, 5, none⟩ = some (.bool has) ∧ W.cell? ⟨wr.heap.size, 6, none⟩ = some (.slice A2 vb.length y2))
                    (first | with_reducible exact ⟨a0, a1, a2, a3, a4, a5, a6⟩ | with_reducible exact ⟨d0, d1, d2, d3, d4, d5, d6⟩ | with_reducible exact ⟨farC d0 HNE.out.1 _, farC d1 HNE.out.1 _, farC d2 HNE.out.1 _, farC d3 HNE.out.1 _, farC d4 HNE.out.1 _, farC d5 HNE.out.1 _, farC d6 HNE.out.1 _⟩ | with_reducible exact ⟨farC (farC (farC d0 HNE.out.1 _) HNE.out.2 _) HNE.out.2 _, farC (farC (farC d1 HNE.out.1 _) HNE.out.2 _) HNE.out.2 _, farC (farC (farC d2 HNE.out.1 _) HNE.out.2 _) HNE.out.2 _, farC (farC (farC d3 HNE.out.1 _) HNE.out.2 _) HNE.out.2 _, farC (farC (farC d4 HNE.out.1 _) HNE.out.2 _) HNE.out.2 _, farC (farC (farC d5 HNE.out.1 _) HNE.out.2 _) HNE.out.2 _, farC (farC (farC d6 HNE.out.1 _) HNE.out.2 _) HNE.out.2 _⟩ | go_keep)
                    ((go_at_call 47; refine (HVAL.out _).mono ?_; rintro e w5 ⟨rfl, hb5⟩; have HB5 : Hid (Below w3.heap.size w3 w5) := Lib.hid (by first | exact hb5 | exact Below.trans (by exact ⟨rfl, rfl, rfl, Nat.le_refl _, fun _ _ => rfl⟩) hb5); (have HKB5 := Lib.hid (HKB.out.below HB5.out HKB.out.lt)); (have HK5 := Lib.hid (HK3.out.below HB5.out HK3.out.lt)); (have HN5 := Lib.hid (nowB_below HN3.out HB5.out (by have := HB3.out.size; have := HBB.out; omega))); (have HNE : Hid (wr.heap.size ≠ w1.heap.size ∧ wr.heap.size ≠ w1.heap.size + 1) := Lib.hid ⟨HKB5.out.ne_ HK5.out (by decide), nowB_ne HN5.out HKB5.out (by decide)⟩); (have d0 : w5.cell? ⟨wr.heap.size, 0, none⟩ = some (.int .i64 kind) := HKB5.out.cell 0); (have d1 : w5.cell? ⟨wr.heap.size, 1, none⟩ = some (.slice yA yb.length yc) := HKB5.out.cell 1); (have d2 : w5.cell? ⟨wr.heap.size, 2, none⟩ = some (.int .i64 fro) := HKB5.out.cell 2); (have d3 : w5.cell? ⟨wr.heap.size, 3, none⟩ = some (.int .i64 till) := HKB5.out.cell 3); (have d4 : w5.cell? ⟨wr.heap.size, 4, none⟩ = some (.bool done) := HKB5.out.cell 4); (have d5 : w5.cell? ⟨wr.heap.size, 5, none⟩ = some (.bool has) := HKB5.out.cell 5); (have d6 : w5.cell? ⟨wr.heap.size, 6, none⟩ = some (.slice A2 vb.length y2) := HKB5.out.cell 6); (have z0 : w5.cell? ⟨w1.heap.size, k, none⟩ = some (.bool (d.testBit k)) := (HK5.out.cell k).trans (by rw [List.getElem?_toArray]; exact inC_at hkn)); (have z1 := HK5.out.frozen k); (have HNB5 := Lib.hid (HNB.out.below HB5.out HNB.out.lt)); (have z2 : w5.cell? ⟨w1.heap.size + 1, 0, none⟩ = some (.bool nv.has) := HNB5.out.cell 0); (have z3 : w5.cell? ⟨w1.heap.size + 1, 1, none⟩ = some (.slice nv.A nv.b.length nv.c) := HNB5.out.cell 1); (have z4 := HNB5.out.frozen 0); (have z5 := HNB5.out.frozen 1); clear hb5))
                  all_goals
                    have hb6 : Below w.heap.size w (((w5.setCell ⟨w1.heap.size, k, none⟩ (.bool true)).setCell ⟨w1.heap.size + 1, 0, none⟩ (.bool xh)).setCell ⟨w1.heap.size + 1, 1, none⟩ (.slice xA xb.length xc)) := below_set (below_set (below_set (HB3.out.trans (HB5.out.mono HB3.out.size)) HG.out _ _) (by have := HG.out; omega) _ _) (by have := HG.out; omega) _ _
                    have HB6 := Lib.hid hb6
                    have HK6 : Hid (Blk (((w5.setCell ⟨w1.heap.size, k, none⟩ (.bool true)).setCell ⟨w1.heap.size + 1, 0, none⟩ (.bool xh)).setCell ⟨w1.heap.size + 1, 1, none⟩ (.slice xA xb.length xc)) w1.heap.size 4 (inC n (ins d k)).toArray) := Lib.hid (by
                      have h := ((HK5.out.set_ k (.bool true)).far (p := ⟨w1.heap.size + 1, 0, none⟩) (show w1.heap.size ≠ w1.heap.size + 1 by omega) (.bool xh)).far (p := ⟨w1.heap.size + 1, 1, none⟩) (show w1.heap.size ≠ w1.heap.size + 1 by omega) (.slice xA xb.length xc)
                      rw [List.setIfInBounds_toArray, inC_set hkn] at h
                      exact h)
                    have HN6 : Hid (NowB (((w5.setCell ⟨w1.heap.size, k, none⟩ (.bool true)).setCell ⟨w1.heap.size + 1, 0, none⟩ (.bool xh)).setCell ⟨w1.heap.size + 1, 1, none⟩ (.slice xA xb.length xc)) (w1.heap.size + 1) B (⟨xh, xA, xb, xc⟩ : VaL).va) := Lib.hid ⟨⟨xh, xA, xb, xc⟩, rfl, ((HNB5.out.far (p := ⟨w1.heap.size, k, none⟩) (show w1.heap.size + 1 ≠ w1.heap.size by omega) (.bool true)).set_ 0 (.bool xh)).set_ 1 (.slice xA xb.length xc), HXR.out.below (hb6.mono HBB.out)⟩
                    clear hb6 d0 d1 d2 d3 d4 d5 d6 z0 z1 z2 z3 z4 z5
                    go_wp2
                    go_roundw
                    case rel => exact ⟨q + 1, ins d k, M, _, by omega, by go_num, rfl, HSTEP, HK6, HN6, HB6⟩
                    case measure => simp [intOf]; omega
      · obtain rfl : q = m := by omega
        have HFIN : Hid (runO (l.map DdL.p) order 0 minI none = some (d, L)) := Lib.hid (by
          rw [HRUN.out, List.drop_of_length_le (by rw [HMM.out]; exact Nat.le_refl _)]; rfl)
        have HENDO : Hid (∀ b : Bool, endO (l.map DdL.p) d L = b → ∀ W, Below w.heap.size w W → Q (.returned (.bool b)) W) := Lib.hid fun b hb W hW => HEND.out W d L b HFIN.out hb hW
        obtain ⟨wf, hwf⟩ : ∃ W, W = wr := ⟨_, rfl⟩
        subst hwf
        clear hq hq0 hlt
        go_wp2
        go_loopw [73] (fun iv wx => ∃ i : Nat, i ≤ n ∧ iv = .int .i64 (i : Int) ∧ Hid (∀ j, j < i → d.testBit j = true ∨ ((atD (l.map DdL.p) j).done = false ∧ L ≤ (atD (l.map DdL.p) j).till)) ∧ Hid (Below wf.heap.size wf wx)) (fun iv _ => n - (intOf iv).toNat)
        case atStart => exact ⟨0, by omega, rfl, Lib.hid (fun j hj => by omega), Lib.hid (Below.refl _ _)⟩
        case round =>
          obtain ⟨i, hi, rfl, HF, HBx⟩ := hrel
          have hi0 : (0 : Int) ≤ (i : Int) := by omega
          by_cases hlt : i < n
          · have hlt2 : (i : Int) < (n : Int) := by omega
            have hil : i < l.length := by rw [HN.out]; exact hlt
            obtain ⟨b, o, hA, hbB, hcl⟩ := dds_open HR.out (by omega)
            have hbw : b < w.heap.size := Nat.lt_of_lt_of_le hbB HBB.out
            have hbr : wr.heap[b]? = w.heap[b]? := (HBx.out.block b (by have := HB.out.size; omega)).trans (HB.out.block b hbw)
            obtain ⟨e0, e1, e2, e3, e4, e5, e6⟩ := (hcl i hil).keep hbr
            have hblr : b < wr.heap.size := by have := HB.out.size; have := HBx.out.size; omega
            have hai := atD_map (List.getElem?_eq_getElem hil)
            obtain ⟨y, hy⟩ : ∃ y, l[i] = y := ⟨_, rfl⟩
            rw [hy] at e0 e1 e2 e3 e4 e5 e6 hai
            obtain ⟨kind, yA, yb, yc, fro, till, done, has, A2, vb, y2⟩ := y
            simp only at e0 e1 e2 e3 e4 e5 e6
            subst hA
            have hgl : w1.heap.size < wr.heap.size := by have := HBx.out.size; have := HK.out.lt; omega
            have t0 : wr.cell? ⟨w1.heap.size, i, none⟩ = some (.bool (d.testBit i)) := ((HK.out.below HBx.out HK.out.lt).cell i).trans (by rw [List.getElem?_toArray]; exact inC_at hlt)
            have HAI := Lib.hid hai
            have HBX2 : Hid (Below wf.heap.size wf (wr.alloc (.cells #[.int .i64 kind, .slice yA yb.length yc, .int .i64 fro, .int .i64 till, .bool done, .bool has, .slice A2 vb.length y2] 47))) := Lib.hid (HBx.out.alloc HBx.out.size _)
            clear hy hcl hbB hbw hbr hil hai hi
            have HBAD : Hid (d.testBit i = false → (done = true ∨ till < L) → endO (l.map DdL.p) d L = false) := Lib.hid fun h1 h2 => by
              rw [Bool.eq_false_iff]
              intro h
              rcases endO_iff.1 h i (by rw [List.length_map, HN.out]; exact hlt) with h3 | ⟨h3, h4⟩
              · rw [h1] at h3; cases h3
              · rw [HAI.out] at h3 h4
                rcases h2 with h2 | h2
                · have : done = false := h3
                  rw [h2] at this; cases this
                · have : L ≤ till := h4
                  omega
            have HNEXT : Hid ((d.testBit i = true ∨ (done = false ∧ L ≤ till)) → ∀ j, j < i + 1 → d.testBit j = true ∨ ((atD (l.map DdL.p) j).done = false ∧ L ≤ (atD (l.map DdL.p) j).till)) := Lib.hid fun h j hj => by
              rcases Nat.lt_or_ge j i with h1 | h1
              · exact HF.out j h1
              · obtain rfl : j = i := by omega
                rw [HAI.out]; exact h
            have HBW : Hid (Below w.heap.size w (wr.alloc (.cells #[.int .i64 kind, .slice yA yb.length yc, .int .i64 fro, .int .i64 till, .bool done, .bool has, .slice A2 vb.length y2] 47))) := Lib.hid (HB.out.trans (HBX2.out.mono HB.out.size))
            cases hbt : d.testBit i with
            | true =>
              rw [hbt] at t0
              have HT := Lib.hid hbt
              clear hbt
              go_wp2
              go_roundw
              case rel => exact ⟨i + 1, by omega, by go_num, Lib.hid (HNEXT.out (Or.inl HT.out)), HBX2⟩
              case measure => simp [intOf]; omega
            | false =>
              rw [hbt] at t0
              have HT := Lib.hid hbt
              clear hbt
              cases done with
              | true =>
                go_wp2
                exact HENDO.out _ (HBAD.out HT.out (Or.inl (by first | exact rfl | trivial))) _ HBW.out
              | false =>
                by_cases htl : till < L
                · have hd2 : decide (till < L) = true := decide_eq_true htl
                  have HTL := Lib.hid htl
                  clear htl
                  go_wp2
                  exact HENDO.out _ (HBAD.out HT.out (Or.inr HTL.out)) _ HBW.out
                · have hd2 : decide (till < L) = false := decide_eq_false htl
                  have HTL := Lib.hid htl
                  clear htl
                  go_wp2
                  go_roundw
                  case rel => exact ⟨i + 1, by omega, by go_num, Lib.hid (HNEXT.out (Or.inr ⟨(by first | exact rfl | trivial), by have := HTL.out; omega⟩)), HBX2⟩
                  case measure => simp [intOf]; omega
          · obtain rfl : i = n := by omega
            have HALL : Hid (endO (l.map DdL.p) d L = true) := Lib.hid (endO_iff.2 fun j hj => HF.out j (by rw [List.length_map, HN.out] at hj; exact hj))
            have HBW := Lib.hid (HB.out.trans (HBx.out.mono HB.out.size))
            go_wp2
            exact HENDO.out _ HALL.out _ HBW.out
end Go.Proofs.Ytlecbhnopokmnaa
