/- BtE: A node heard of for the first time, and again: by the package, and by the document. -/
import Derived.Test.YtkfapcigfgfeaaaBtD
import Derived.Deep.DeepCutAuto
namespace Go.Proofs.Ytkfapcigfgfeaaa
open Go.RowKit Flo Mem
set_option maxRecDepth 100000
set_option maxHeartbeats 1000000
set_option linter.unusedVariables false
theorem stop_here {p : Prop} (h : Hid p) : p := h.out
theorem blkSet2 {W : World} {g : Nat} {t : TypeId} {a b : Value} (h : Blk W g t #[a, b]) (x y : Value) : Blk ((W.setCell ⟨g, 0, none⟩ x).setCell ⟨g, 1, none⟩ y) g t #[x, y] := by
  have := (h.set_ 0 x).set_ 1 y
  simpa using this
theorem below_set2 {B g : Nat} {w w' : World} (h : Below B w w') (hg : B ≤ g) (x y : Value) : Below B w ((w'.setCell ⟨g, 0, none⟩ x).setCell ⟨g, 1, none⟩ y) :=
  below_set (below_set h hg 0 x) hg 1 y
theorem ownFSet2 {B g : Nat} {l : List Int} {v : Value} {w : World} (h : OwnF B l v w) (hg : g < B) (x y : Value) : OwnF B l v ((w.setCell ⟨g, 0, none⟩ x).setCell ⟨g, 1, none⟩ y) := by
  have hgr : w.grownBy ((w.setCell ⟨g, 0, none⟩ x).setCell ⟨g, 1, none⟩ y) (some g) := grown_trans (grown_set w g 0 x) (grown_set _ g 1 y)
  refine World.ownsRow.kept h hgr ?_
  rcases h.2 with ⟨rfl, _⟩ | ⟨g', cap, cur, rfl, hb, _⟩
  · exact Or.inl rfl
  · refine Or.inr fun e => ?_
    have : g' = g := by simpa [Value.ownBlock] using e
    omega
/-- The times behind one that is heard of. -/
def nextX (xs : List Int) (t : Int) : List Int := (if xs.length = 16 then xs.drop 1 else xs) ++ [t]
def HrdP (now : Int) (ys : List Int) (w : World) (e : Ending) (w' : World) : Prop :=
  ∃ A c, e = .returned (.tuple #[.agg #[.int .i64 now, .slice A ys.length c], .int .i64 0]) ∧ OwnF w.heap.size ys (.slice A ys.length c) w' ∧ Below w.heap.size w w'
def NoB (w : World) : Ending → World → Prop := Ret (.tuple #[.agg #[.int .i64 0, .slice none 0 0], .int .i64 2]) w

theorem new_any15 (now : Int) (w : World) :
    Calls Try.prog 26 #[.int .i64 now] w (Ret (.tuple #[if 0 ≤ now ∧ now ≤ 1099511627775 then .agg #[.int .i64 now, .slice none 0 0] else .agg #[.int .i64 0, .slice none 0 0], .int .i64 (if 0 ≤ now ∧ now ≤ 1099511627775 then 0 else 2)]) w) := by
  have HC1 := Lib.hid fun W (hb : Below w.heap.size w W) => check_any now [] 0 0 none rfl (by simp) (fun x hx => by cases hx) W (Row.nil _ _ _)
  unfold bC at *
  have HB0 : Hid (Below w.heap.size w ((w.alloc (.cells #[.int .i64 0, .slice none 0 0] 27)).alloc (.cells #[.int .i64 now, .slice none 0 0] 27))) := Lib.hid (((Below.refl _ _).alloc (Nat.le_refl _) _).alloc (by simp) _)
  have HR0 : Hid (Blk ((w.alloc (.cells #[.int .i64 0, .slice none 0 0] 27)).alloc (.cells #[.int .i64 now, .slice none 0 0] 27)) w.heap.size 27 #[.int .i64 0, .slice none 0 0]) := Lib.hid ((Blk.new _ _ _).alloc _)
  have HK0 : Hid (Blk ((w.alloc (.cells #[.int .i64 0, .slice none 0 0] 27)).alloc (.cells #[.int .i64 now, .slice none 0 0] 27)) (w.heap.size + 1) 27 #[.int .i64 now, .slice none 0 0]) := Lib.hid (by
    have := Blk.new (w.alloc (.cells #[.int .i64 0, .slice none 0 0] 27)) 27 #[.int .i64 now, .slice none 0 0]
    simpa using this)
  by_cases hr : 0 ≤ now ∧ now ≤ 1099511627775
  · rw [if_pos hr, if_pos hr]
    rw [show chkE now [] = 0 from if_pos ⟨hr.1, hr.2, by simp, fun x hx => by cases hx⟩] at HC1
    clear hr
    go_enter Try.func26, Try.ntmps26
    go_wp2_with fail
    refine (HC1.out _ HB0.out).mono ?_
    rintro e1 w1 ⟨rfl, hb1⟩
    have HB1 := Lib.hid (HB0.out.trans (hb1.mono HB0.out.size))
    have hk1 := HK0.out.below hb1 HK0.out.lt
    have hz1 := HR0.out.below hb1 HR0.out.lt
    have HZ1 := Lib.hid hz1
    have c0 : w1.cell? ⟨w.heap.size + 1, 0, none⟩ = some (.int .i64 now) := hk1.cell 0
    have c1 : w1.cell? ⟨w.heap.size + 1, 1, none⟩ = some (.slice none 0 0) := hk1.cell 1
    have z0 : w1.cell? ⟨w.heap.size, 0, none⟩ = some (.int .i64 0) := hz1.cell 0
    have z1 : w1.cell? ⟨w.heap.size, 1, none⟩ = some (.slice none 0 0) := hz1.cell 1
    have f0 := hz1.frozen 0
    have f1 := hz1.frozen 1
    clear hb1 hk1 hz1
    go_wp2
    have hfin := blkSet2 HZ1.out (.int .i64 now) (.slice none 0 0)
    have g0 := hfin.cell 0
    have g1 := hfin.cell 1
    refine bodyPost_ret (v := .tuple #[.agg #[.int .i64 now, .slice none 0 0], .int .i64 0]) (by simp [results, Try.results26, go_sem, g0, g1]) rfl ⟨rfl, below_set2 HB1.out (by omega) _ _⟩
  · rw [if_neg hr, if_neg hr]
    rw [show chkE now [] = 2 from if_neg (fun h => hr ⟨h.1, h.2.1⟩)] at HC1
    clear hr
    go_enter Try.func26, Try.ntmps26
    go_wp2_with fail
    refine (HC1.out _ HB0.out).mono ?_
    rintro e1 w1 ⟨rfl, hb1⟩
    have HB1 := Lib.hid (HB0.out.trans (hb1.mono HB0.out.size))
    have hz1 := HR0.out.below hb1 HR0.out.lt
    have HZ1 := Lib.hid hz1
    have z0 : w1.cell? ⟨w.heap.size, 0, none⟩ = some (.int .i64 0) := hz1.cell 0
    have z1 : w1.cell? ⟨w.heap.size, 1, none⟩ = some (.slice none 0 0) := hz1.cell 1
    have f0 := hz1.frozen 0
    have f1 := hz1.frozen 1
    clear hb1 hz1
    go_wp2
    have hfin := blkSet2 HZ1.out (.int .i64 0) (.slice none 0 0)
    have g0 := hfin.cell 0
    have g1 := hfin.cell 1
    refine bodyPost_ret (v := .tuple #[.agg #[.int .i64 0, .slice none 0 0], .int .i64 2]) (by simp [results, Try.results26, go_sem, g0, g1]) rfl ⟨rfl, below_set2 HB1.out (by omega) _ _⟩

theorem heard_bad (last : Int) (xs : List Int) (n c : Nat) (A : Option Addr) (hn : n = xs.length) (hl : xs.length ≤ 200) (hlc : xs.length ≤ c) (hw : ∀ x ∈ xs, Word x) (now : Int) (hr : rgtE last xs now = 2) (w : World) (h : Row w w.heap.size A (xs.map fv)) :
    Calls Try.prog 22 #[.agg (bC last A n c), .int .i64 now] w (NoB w) := by
  subst hn
  have HC1 := Lib.hid fun W (hb : Below w.heap.size w W) => since_bad last xs xs.length c A rfl hl hw now hr W ((h.below hb).more hb.size)
  unfold bC at *
  have HB0 : Hid (Below w.heap.size w ((w.alloc (.cells #[.int .i64 last, .slice A xs.length c] 27)).alloc (.cells #[.int .i64 0, .slice none 0 0] 27))) := Lib.hid (((Below.refl _ _).alloc (Nat.le_refl _) _).alloc (by simp) _)
  have HK0 : Hid (Blk ((w.alloc (.cells #[.int .i64 last, .slice A xs.length c] 27)).alloc (.cells #[.int .i64 0, .slice none 0 0] 27)) w.heap.size 27 #[.int .i64 last, .slice A xs.length c]) := Lib.hid ((Blk.new _ _ _).alloc _)
  have HR0 : Hid (Blk ((w.alloc (.cells #[.int .i64 last, .slice A xs.length c] 27)).alloc (.cells #[.int .i64 0, .slice none 0 0] 27)) (w.heap.size + 1) 27 #[.int .i64 0, .slice none 0 0]) := Lib.hid (by
    have := Blk.new (w.alloc (.cells #[.int .i64 last, .slice A xs.length c] 27)) 27 #[.int .i64 0, .slice none 0 0]
    simpa using this)
  have HW := Lib.hid hw
  have HROW := Lib.hid h
  have hnl : (xs.length : Int) ≤ 200 := by omega
  clear h hw
  clear hr
  go_enter Try.func22, Try.ntmps22
  go_wp2_with fail
  refine (HC1.out _ HB0.out).mono ?_
  rintro e1 w1 ⟨rfl, hb1⟩
  have HB1 := Lib.hid (HB0.out.trans (hb1.mono HB0.out.size))
  have hk1 := HK0.out.below hb1 HK0.out.lt
  have hz1 := HR0.out.below hb1 HR0.out.lt
  have HZ1 := Lib.hid hz1
  have HK1 := Lib.hid hk1
  have c0 : w1.cell? ⟨w.heap.size, 0, none⟩ = some (.int .i64 last) := hk1.cell 0
  have c1 : w1.cell? ⟨w.heap.size, 1, none⟩ = some (.slice A xs.length c) := hk1.cell 1
  have z0 : w1.cell? ⟨w.heap.size + 1, 0, none⟩ = some (.int .i64 0) := hz1.cell 0
  have z1 : w1.cell? ⟨w.heap.size + 1, 1, none⟩ = some (.slice none 0 0) := hz1.cell 1
  have f0 := hz1.frozen 0
  have f1 := hz1.frozen 1
  clear hb1 hk1 hz1
  go_wp2
  have hfin := blkSet2 HZ1.out (.int .i64 0) (.slice none 0 0)
  have g0 := hfin.cell 0
  have g1 := hfin.cell 1
  refine bodyPost_ret (v := .tuple #[.agg #[.int .i64 0, .slice none 0 0], .int .i64 2]) (by simp [results, Try.results22, go_sem, g0, g1]) rfl ⟨rfl, below_set2 HB1.out (by omega) _ _⟩
theorem heard_ok (last : Int) (xs : List Int) (n c : Nat) (A : Option Addr) (hn : n = xs.length) (hl : xs.length ≤ 200) (hlc : xs.length ≤ c) (hw : ∀ x ∈ xs, Word x) (now : Int) (hr : rgtE last xs now = 0) (w : World) (h : Row w w.heap.size A (xs.map fv)) :
    Calls Try.prog 22 #[.agg (bC last A n c), .int .i64 now] w (HrdP now (nextX xs (tmZ (now - last))) w) := by
  subst hn
  have HC1 := Lib.hid fun W (hb : Below w.heap.size w W) => since_ok last xs xs.length c A rfl hl hw now hr W ((h.below hb).more hb.size)
  unfold bC at *
  have HB0 : Hid (Below w.heap.size w ((w.alloc (.cells #[.int .i64 last, .slice A xs.length c] 27)).alloc (.cells #[.int .i64 0, .slice none 0 0] 27))) := Lib.hid (((Below.refl _ _).alloc (Nat.le_refl _) _).alloc (by simp) _)
  have HK0 : Hid (Blk ((w.alloc (.cells #[.int .i64 last, .slice A xs.length c] 27)).alloc (.cells #[.int .i64 0, .slice none 0 0] 27)) w.heap.size 27 #[.int .i64 last, .slice A xs.length c]) := Lib.hid ((Blk.new _ _ _).alloc _)
  have HR0 : Hid (Blk ((w.alloc (.cells #[.int .i64 last, .slice A xs.length c] 27)).alloc (.cells #[.int .i64 0, .slice none 0 0] 27)) (w.heap.size + 1) 27 #[.int .i64 0, .slice none 0 0]) := Lib.hid (by
    have := Blk.new (w.alloc (.cells #[.int .i64 last, .slice A xs.length c] 27)) 27 #[.int .i64 0, .slice none 0 0]
    simpa using this)
  have HW := Lib.hid hw
  have HROW := Lib.hid h
  have hnl : (xs.length : Int) ≤ 200 := by omega
  clear h hw
  have hl16 : (xs.length : Int) ≤ 16 := by
    rcases rgt_cases last xs now with ⟨_, ok, _, _⟩ | h0
    · have := ok.2.2.1; omega
    · omega
  obtain ⟨t, ht⟩ : ∃ t, tmZ (now - last) = t := ⟨_, rfl⟩
  rw [ht] at HC1 ⊢
  clear ht hr
  by_cases h16 : xs.length = 16
  · have HNX : Hid (nextX xs t = xs.drop 1 ++ [t]) := Lib.hid (by unfold nextX; rw [if_pos h16])
    have hd16 : ((xs.length : Int) == 16) = true := beq_iff_eq.2 (by omega)
    rw [HNX.out]
    have hrow : ∀ W, Below w.heap.size w W → Row W W.heap.size (cutA A 1 c) ((xs.drop 1).map fv) := fun W hb => by have := cut_row ((HROW.out.below hb).more hb.size) 1 c (by simp; omega); rw [List.map_drop]; exact this
    have hcut : ∀ W, (Instr.slice 25 (.slice A xs.length c) (some (.int .i64 1)) none none).run Try.prog W = .ok (.slice (cutA A 1 c) (xs.length - 1) (c - 1)) W := fun W => run_cut_l (P := Try.prog) (w := W) 25 29 _ _ Try.underlying25 info_f A xs.length c 1 (by omega)
    have hyl : (xs.drop 1).length = xs.length - 1 := by simp
    have hle : (xs.drop 1).length ≤ 200 := by simp; omega
    generalize xs.drop 1 = ys at *
    generalize cutA A 1 c = A1 at *
    generalize xs.length - 1 = m at *
    generalize c - 1 = c1' at *
    have HCC := Lib.hid fun W (hb : Below w.heap.size w W) => concat2_any A1 m c1' ys t hyl.symm hle W (hrow W hb)
    clear h16 hrow hyl hle HNX
    go_enter Try.func22, Try.ntmps22
    go_wp2_with fail
    refine (HC1.out _ HB0.out).mono ?_
    rintro e1 w1 ⟨rfl, hb1⟩
    have HB1 := Lib.hid (HB0.out.trans (hb1.mono HB0.out.size))
    have hk1 := HK0.out.below hb1 HK0.out.lt
    have hz1 := HR0.out.below hb1 HR0.out.lt
    have HZ1 := Lib.hid hz1
    have HK1 := Lib.hid hk1
    have c0 : w1.cell? ⟨w.heap.size, 0, none⟩ = some (.int .i64 last) := hk1.cell 0
    have c1 : w1.cell? ⟨w.heap.size, 1, none⟩ = some (.slice A xs.length c) := hk1.cell 1
    have z0 : w1.cell? ⟨w.heap.size + 1, 0, none⟩ = some (.int .i64 0) := hz1.cell 0
    have z1 : w1.cell? ⟨w.heap.size + 1, 1, none⟩ = some (.slice none 0 0) := hz1.cell 1
    have f0 := hz1.frozen 0
    have f1 := hz1.frozen 1
    clear hb1 hk1 hz1
    go_wp2_with fail
    refine (HCC.out _ HB1.out).mono ?_
    rintro e2 w2 ⟨A2, c2, rfl, ho2, hb2⟩
    have HB2 := Lib.hid (HB1.out.trans (hb2.mono HB1.out.size))
    have hz2 := HZ1.out.below hb2 HZ1.out.lt
    have HZ2 := Lib.hid hz2
    have y0 : w2.cell? ⟨w.heap.size + 1, 0, none⟩ = some (.int .i64 0) := hz2.cell 0
    have y1 : w2.cell? ⟨w.heap.size + 1, 1, none⟩ = some (.slice none 0 0) := hz2.cell 1
    have x0 := hz2.frozen 0
    have x1 := hz2.frozen 1
    have HO2 := Lib.hid ho2
    have HLT : Hid (w.heap.size + 1 < w1.heap.size) := Lib.hid HZ1.out.lt
    clear hb2 hz2 ho2
    go_wp2
    have hfin := blkSet2 HZ2.out (.int .i64 now) (.slice A2 (ys.length + 1) c2)
    have g0 := hfin.cell 0
    have g1 := hfin.cell 1
    refine bodyPost_ret (v := .tuple #[.agg #[.int .i64 now, .slice A2 (ys.length + 1) c2], .int .i64 0]) (by simp [results, Try.results22, go_sem, g0, g1]) rfl ⟨A2, c2, ?_, ?_, below_set2 HB2.out (by omega) _ _⟩
    · rw [List.length_append, List.length_singleton]
    · rw [List.length_append, List.length_singleton]
      have := ownFSet2 HO2.out HLT.out (.int .i64 now) (.slice A2 (ys.length + 1) c2)
      exact ownBase this (by have := HB1.out.size; omega)
  · have HNX : Hid (nextX xs t = xs.drop 0 ++ [t]) := Lib.hid (by unfold nextX; rw [if_neg h16, List.drop_zero])
    have hd16 : ((xs.length : Int) == 16) = false := beq_false_of_ne (by omega)
    rw [HNX.out]
    have hrow : ∀ W, Below w.heap.size w W → Row W W.heap.size (cutA A 0 c) ((xs.drop 0).map fv) := fun W hb => by have := cut_row ((HROW.out.below hb).more hb.size) 0 c (by simp; omega); rw [List.map_drop]; exact this
    have hcut : ∀ W, (Instr.slice 25 (.slice A xs.length c) (some (.int .i64 0)) none none).run Try.prog W = .ok (.slice (cutA A 0 c) (xs.length - 0) (c - 0)) W := fun W => run_cut_l (P := Try.prog) (w := W) 25 29 _ _ Try.underlying25 info_f A xs.length c 0 (by omega)
    have hyl : (xs.drop 0).length = xs.length - 0 := by simp
    have hle : (xs.drop 0).length ≤ 200 := by simp; omega
    rw [List.drop_zero, cutA_zero] at hrow; rw [List.drop_zero] at hyl hle HNX ⊢
    skip
    skip
    skip
    have HCC := Lib.hid fun W (hb : Below w.heap.size w W) => concat2_any A xs.length c xs t rfl hle W (hrow W hb)
    clear h16 hrow hyl hle HNX
    clear hcut
    go_enter Try.func22, Try.ntmps22
    go_wp2_with fail
    refine (HC1.out _ HB0.out).mono ?_
    rintro e1 w1 ⟨rfl, hb1⟩
    have HB1 := Lib.hid (HB0.out.trans (hb1.mono HB0.out.size))
    have hk1 := HK0.out.below hb1 HK0.out.lt
    have hz1 := HR0.out.below hb1 HR0.out.lt
    have HZ1 := Lib.hid hz1
    have HK1 := Lib.hid hk1
    have c0 : w1.cell? ⟨w.heap.size, 0, none⟩ = some (.int .i64 last) := hk1.cell 0
    have c1 : w1.cell? ⟨w.heap.size, 1, none⟩ = some (.slice A xs.length c) := hk1.cell 1
    have z0 : w1.cell? ⟨w.heap.size + 1, 0, none⟩ = some (.int .i64 0) := hz1.cell 0
    have z1 : w1.cell? ⟨w.heap.size + 1, 1, none⟩ = some (.slice none 0 0) := hz1.cell 1
    have f0 := hz1.frozen 0
    have f1 := hz1.frozen 1
    clear hb1 hk1 hz1
    go_wp2_with fail
    refine (HCC.out _ HB1.out).mono ?_
    rintro e2 w2 ⟨A2, c2, rfl, ho2, hb2⟩
    have HB2 := Lib.hid (HB1.out.trans (hb2.mono HB1.out.size))
    have hz2 := HZ1.out.below hb2 HZ1.out.lt
    have HZ2 := Lib.hid hz2
    have y0 : w2.cell? ⟨w.heap.size + 1, 0, none⟩ = some (.int .i64 0) := hz2.cell 0
    have y1 : w2.cell? ⟨w.heap.size + 1, 1, none⟩ = some (.slice none 0 0) := hz2.cell 1
    have x0 := hz2.frozen 0
    have x1 := hz2.frozen 1
    have HO2 := Lib.hid ho2
    have HLT : Hid (w.heap.size + 1 < w1.heap.size) := Lib.hid HZ1.out.lt
    clear hb2 hz2 ho2
    go_wp2
    have hfin := blkSet2 HZ2.out (.int .i64 now) (.slice A2 (xs.length + 1) c2)
    have g0 := hfin.cell 0
    have g1 := hfin.cell 1
    refine bodyPost_ret (v := .tuple #[.agg #[.int .i64 now, .slice A2 (xs.length + 1) c2], .int .i64 0]) (by simp [results, Try.results22, go_sem, g0, g1]) rfl ⟨A2, c2, ?_, ?_, below_set2 HB2.out (by omega) _ _⟩
    · rw [List.length_append, List.length_singleton]
    · rw [List.length_append, List.length_singleton]
      have := ownFSet2 HO2.out HLT.out (.int .i64 now) (.slice A2 (xs.length + 1) c2)
      exact ownBase this (by have := HB1.out.size; omega)
theorem refheard_bad (last : Int) (xs : List Int) (n c : Nat) (A : Option Addr) (hn : n = xs.length) (hl : xs.length ≤ 200) (hlc : xs.length ≤ c) (hw : ∀ x ∈ xs, Word x) (now : Int) (hr : rgtE last xs now = 2) (w : World) (h : Row w w.heap.size A (xs.map fv)) :
    Calls Try.prog 23 #[.agg (bC last A n c), .int .i64 now] w (NoB w) := by
  subst hn
  have HC1 := Lib.hid fun W (hb : Below w.heap.size w W) => right_any last xs xs.length c A rfl hl hw now W ((h.below hb).more hb.size)
  unfold bC at *
  have HB0 : Hid (Below w.heap.size w ((w.alloc (.cells #[.int .i64 last, .slice A xs.length c] 27)).alloc (.cells #[.int .i64 0, .slice none 0 0] 27))) := Lib.hid (((Below.refl _ _).alloc (Nat.le_refl _) _).alloc (by simp) _)
  have HK0 : Hid (Blk ((w.alloc (.cells #[.int .i64 last, .slice A xs.length c] 27)).alloc (.cells #[.int .i64 0, .slice none 0 0] 27)) w.heap.size 27 #[.int .i64 last, .slice A xs.length c]) := Lib.hid ((Blk.new _ _ _).alloc _)
  have HR0 : Hid (Blk ((w.alloc (.cells #[.int .i64 last, .slice A xs.length c] 27)).alloc (.cells #[.int .i64 0, .slice none 0 0] 27)) (w.heap.size + 1) 27 #[.int .i64 0, .slice none 0 0]) := Lib.hid (by
    have := Blk.new (w.alloc (.cells #[.int .i64 last, .slice A xs.length c] 27)) 27 #[.int .i64 0, .slice none 0 0]
    simpa using this)
  have HW := Lib.hid hw
  have HROW := Lib.hid h
  have hnl : (xs.length : Int) ≤ 200 := by omega
  clear h hw
  rw [hr] at HC1
  clear hr
  go_enter Try.func23, Try.ntmps23
  go_wp2_with fail
  refine (HC1.out _ HB0.out).mono ?_
  rintro e1 w1 ⟨rfl, hb1⟩
  have HB1 := Lib.hid (HB0.out.trans (hb1.mono HB0.out.size))
  have hk1 := HK0.out.below hb1 HK0.out.lt
  have hz1 := HR0.out.below hb1 HR0.out.lt
  have HZ1 := Lib.hid hz1
  have HK1 := Lib.hid hk1
  have c0 : w1.cell? ⟨w.heap.size, 0, none⟩ = some (.int .i64 last) := hk1.cell 0
  have c1 : w1.cell? ⟨w.heap.size, 1, none⟩ = some (.slice A xs.length c) := hk1.cell 1
  have z0 : w1.cell? ⟨w.heap.size + 1, 0, none⟩ = some (.int .i64 0) := hz1.cell 0
  have z1 : w1.cell? ⟨w.heap.size + 1, 1, none⟩ = some (.slice none 0 0) := hz1.cell 1
  have f0 := hz1.frozen 0
  have f1 := hz1.frozen 1
  clear hb1 hk1 hz1
  go_wp2
  have hfin := blkSet2 HZ1.out (.int .i64 0) (.slice none 0 0)
  have g0 := hfin.cell 0
  have g1 := hfin.cell 1
  refine bodyPost_ret (v := .tuple #[.agg #[.int .i64 0, .slice none 0 0], .int .i64 2]) (by simp [results, Try.results23, go_sem, g0, g1]) rfl ⟨rfl, below_set2 HB1.out (by omega) _ _⟩
theorem refheard_ok (last : Int) (xs : List Int) (n c : Nat) (A : Option Addr) (hn : n = xs.length) (hl : xs.length ≤ 200) (hlc : xs.length ≤ c) (hw : ∀ x ∈ xs, Word x) (now : Int) (hr : rgtE last xs now = 0) (w : World) (h : Row w w.heap.size A (xs.map fv)) :
    Calls Try.prog 23 #[.agg (bC last A n c), .int .i64 now] w (HrdP now (nextX xs (tmZ (now - last))) w) := by
  obtain ⟨i0, hi0, hz0, hz1', hz2'⟩ := info_parts info_f
  subst hn
  have HC1 := Lib.hid fun W (hb : Below w.heap.size w W) => right_any last xs xs.length c A rfl hl hw now W ((h.below hb).more hb.size)
  unfold bC at *
  have HB0 : Hid (Below w.heap.size w ((w.alloc (.cells #[.int .i64 last, .slice A xs.length c] 27)).alloc (.cells #[.int .i64 0, .slice none 0 0] 27))) := Lib.hid (((Below.refl _ _).alloc (Nat.le_refl _) _).alloc (by simp) _)
  have HK0 : Hid (Blk ((w.alloc (.cells #[.int .i64 last, .slice A xs.length c] 27)).alloc (.cells #[.int .i64 0, .slice none 0 0] 27)) w.heap.size 27 #[.int .i64 last, .slice A xs.length c]) := Lib.hid ((Blk.new _ _ _).alloc _)
  have HR0 : Hid (Blk ((w.alloc (.cells #[.int .i64 last, .slice A xs.length c] 27)).alloc (.cells #[.int .i64 0, .slice none 0 0] 27)) (w.heap.size + 1) 27 #[.int .i64 0, .slice none 0 0]) := Lib.hid (by
    have := Blk.new (w.alloc (.cells #[.int .i64 last, .slice A xs.length c] 27)) 27 #[.int .i64 0, .slice none 0 0]
    simpa using this)
  have HW := Lib.hid hw
  have HROW := Lib.hid h
  have hnl : (xs.length : Int) ≤ 200 := by omega
  clear h hw
  rw [hr] at HC1
  have hfacts : 0 ≤ last ∧ last ≤ 1099511627775 ∧ last ≤ now ∧ now ≤ 1099511627775 ∧ (xs.length : Int) ≤ 16 := by
    rcases rgt_cases last xs now with ⟨_, ok, h1, h2⟩ | h0
    · have := ok.2.2.1; exact ⟨ok.1, ok.2.1, h1, h2, by omega⟩
    · omega
  obtain ⟨o1, o2, o3, o4, hl16⟩ := hfacts
  clear hr
  by_cases h16 : xs.length = 16
  · have HNX : Hid (nextX xs (tmZ (now - last)) = xs.drop 1 ++ [tmZ (now - last)]) := Lib.hid (by unfold nextX; rw [if_pos h16])
    have hd16 : ((xs.length : Int) == 16) = true := beq_iff_eq.2 (by omega)
    rw [HNX.out]
    have hrow : Hid (∀ W, Below w.heap.size w W → Row W w.heap.size (cutA A 1 c) ((xs.drop 1).map fv)) := Lib.hid fun W hb => by have := cut_row (HROW.out.below hb) 1 c (by simp; omega); rw [List.map_drop]; exact this
    have hkut : ∀ W, (Instr.slice 25 (.slice A xs.length c) (some (.int .i64 1)) none none).run Try.prog W = .ok (.slice (cutA A 1 c) (xs.length - 1) (c - 1)) W := fun W => run_cut_l (P := Try.prog) (w := W) 25 29 _ _ Try.underlying25 info_f A xs.length c 1 (by omega)
    have hyl : xs.length - 1 = (xs.drop 1).length := by simp
    rw [hyl] at hkut
    have hm1 : Hid ((xs.drop 1).length ≤ 16) := Lib.hid (by omega)
    clear hyl
    generalize xs.drop 1 = ys at *
    generalize cutA A 1 c = A1 at *
    generalize c - 1 = c1' at *
    have HT : Hid (fnat (tmZ (now - last)) = floatOfInt .f64 (now - last)) := Lib.hid rfl
    clear h16 HNX
    go_enter Try.func23, Try.ntmps23
    go_wp2_with fail
    refine (HC1.out _ HB0.out).mono ?_
    rintro e1 w1 ⟨rfl, hb1⟩
    have HB1 := Lib.hid (HB0.out.trans (hb1.mono HB0.out.size))
    have hk1 := HK0.out.below hb1 HK0.out.lt
    have hz1 := HR0.out.below hb1 HR0.out.lt
    have HZ1 := Lib.hid hz1
    have HK1 := Lib.hid hk1
    have c0 : w1.cell? ⟨w.heap.size, 0, none⟩ = some (.int .i64 last) := hk1.cell 0
    have c1 : w1.cell? ⟨w.heap.size, 1, none⟩ = some (.slice A xs.length c) := hk1.cell 1
    have z0 : w1.cell? ⟨w.heap.size + 1, 0, none⟩ = some (.int .i64 0) := hz1.cell 0
    have z1 : w1.cell? ⟨w.heap.size + 1, 1, none⟩ = some (.slice none 0 0) := hz1.cell 1
    have f0 := hz1.frozen 0
    have f1 := hz1.frozen 1
    clear hb1 hk1 hz1
    go_wp2_with (at_builtin; refine wpList_app _ rfl _ _ 25 rfl w1.heap.size 29 i0 (.float .f64 0) 8 Try.underlying25 hi0 hz0 hz1' hz2' rfl _ 0 [] rfl (World.ownsRow_nil _ _ _ _) w.heap.size _ ys.length c1' (ys.map fv) rfl (by rw [List.length_map]) (hrow.out _ HB1.out) (fv_one ys) (by have := hm1.out; unfold maxLen; omega) (by have := hm1.out; omega) (by have := HB1.out.size; omega) ?_)
    intro v2 w2 hown hgr _
    obtain ⟨A2, c2, rfl, _⟩ := ownShape hown
    have HO2 : Hid (w2.ownsRow w1.heap.size 29 1 (.slice A2 ys.length c2) ys.length (ys.map fv)) := Lib.hid hown
    have HB2 : Hid (Below w1.heap.size w1 w2) := Lib.hid ((Below.refl _ _).grown hgr (Nat.le_refl _) fun g hg => by simp [Value.ownBlock] at hg)
    have hz2 := HZ1.out.below HB2.out HZ1.out.lt
    have HZ2 := Lib.hid hz2
    have hk2 := HK1.out.below HB2.out HK1.out.lt
    have HK2 := Lib.hid hk2
    have c0_2 : w2.cell? ⟨w.heap.size, 0, none⟩ = some (.int .i64 last) := hk2.cell 0
    clear hown hgr hz2 hk2
    have HROW1 : Hid (Row (w2.alloc (.cells #[.float .f64 (floatOfInt .f64 (now - last))] 29)) (w2.heap.size + 1) (some ⟨w2.heap.size, 0, none⟩) ([tmZ (now - last)].map fv)) := Lib.hid (row_cells (cs := #[.float .f64 (floatOfInt .f64 (now - last))]) rfl)
    have HS2 : Hid (w1.heap.size ≤ w2.heap.size) := Lib.hid HB2.out.size
    go_wp2_with (at_builtin; refine wpList_app _ rfl _ _ 25 rfl w1.heap.size 29 i0 (.float .f64 0) 8 Try.underlying25 hi0 hz0 hz1' hz2' rfl _ ys.length (ys.map fv) rfl (HO2.out.alloc _) (w2.heap.size + 1) _ 1 1 ([tmZ (now - last)].map fv) rfl rfl HROW1.out (fv_one _) (by have := hm1.out; unfold maxLen; omega) (by have := hm1.out; omega) (by have := HS2.out; simp; omega) ?_)
    intro v3 w3 hown hgr _
    obtain ⟨A3, c3, rfl, _⟩ := ownShape hown
    have hb3 : Below w1.heap.size w1 w3 := ((HB2.out.alloc HS2.out _).grown hgr (by have := HS2.out; simp; omega) fun g hg => (HO2.out.lt g hg).1)
    have HB3 := Lib.hid (HB1.out.trans (hb3.mono HB1.out.size))
    have hz3 := HZ1.out.below hb3 HZ1.out.lt
    have HZ3 := Lib.hid hz3
    have y0 : w3.cell? ⟨w.heap.size + 1, 0, none⟩ = some (.int .i64 0) := hz3.cell 0
    have y1 : w3.cell? ⟨w.heap.size + 1, 1, none⟩ = some (.slice none 0 0) := hz3.cell 1
    have x0 := hz3.frozen 0
    have x1 := hz3.frozen 1
    have hlen : ys.length + 1 = (ys ++ [tmZ (now - last)]).length := by rw [List.length_append, List.length_singleton]
    have HO3 : Hid (OwnF w1.heap.size (ys ++ [tmZ (now - last)]) (.slice A3 (ys.length + 1) c3) w3) := Lib.hid (by unfold OwnF; rw [List.map_append, ← hlen]; exact hown)
    have HLT : Hid (w.heap.size + 1 < w1.heap.size) := Lib.hid HZ1.out.lt
    have HLEN := Lib.hid hlen
    clear hz3 hown hgr hb3 hlen
    go_wp2
    have hfin := blkSet2 HZ3.out (.int .i64 now) (.slice A3 (ys.length + 1) c3)
    have g0 := hfin.cell 0
    have g1 := hfin.cell 1
    refine bodyPost_ret (v := .tuple #[.agg #[.int .i64 now, .slice A3 (ys.length + 1) c3], .int .i64 0]) (by simp [results, Try.results23, go_sem, g0, g1]) rfl ⟨A3, c3, ?_, ?_, below_set2 HB3.out (by omega) _ _⟩
    · rw [← HLEN.out]
    · have := ownFSet2 HO3.out HLT.out (.int .i64 now) (.slice A3 (ys.length + 1) c3)
      rw [← HLEN.out]
      exact ownBase this (by have := HB1.out.size; omega)
  · have HNX : Hid (nextX xs (tmZ (now - last)) = xs.drop 0 ++ [tmZ (now - last)]) := Lib.hid (by unfold nextX; rw [if_neg h16, List.drop_zero])
    have hd16 : ((xs.length : Int) == 16) = false := beq_false_of_ne (by omega)
    rw [HNX.out]
    have hrow : Hid (∀ W, Below w.heap.size w W → Row W w.heap.size (cutA A 0 c) ((xs.drop 0).map fv)) := Lib.hid fun W hb => by have := cut_row (HROW.out.below hb) 0 c (by simp; omega); rw [List.map_drop]; exact this
    have hkut : ∀ W, (Instr.slice 25 (.slice A xs.length c) (some (.int .i64 0)) none none).run Try.prog W = .ok (.slice (cutA A 0 c) (xs.length - 0) (c - 0)) W := fun W => run_cut_l (P := Try.prog) (w := W) 25 29 _ _ Try.underlying25 info_f A xs.length c 0 (by omega)
    have hyl : xs.length - 0 = (xs.drop 0).length := by simp
    rw [hyl] at hkut
    have hm1 : Hid ((xs.drop 0).length ≤ 16) := Lib.hid (by omega)
    clear hyl
    generalize xs.drop 0 = ys at *
    generalize cutA A 0 c = A1 at *
    generalize c - 0 = c1' at *
    have HT : Hid (fnat (tmZ (now - last)) = floatOfInt .f64 (now - last)) := Lib.hid rfl
    clear h16 HNX
    go_enter Try.func23, Try.ntmps23
    go_wp2_with fail
    refine (HC1.out _ HB0.out).mono ?_
    rintro e1 w1 ⟨rfl, hb1⟩
    have HB1 := Lib.hid (HB0.out.trans (hb1.mono HB0.out.size))
    have hk1 := HK0.out.below hb1 HK0.out.lt
    have hz1 := HR0.out.below hb1 HR0.out.lt
    have HZ1 := Lib.hid hz1
    have HK1 := Lib.hid hk1
    have c0 : w1.cell? ⟨w.heap.size, 0, none⟩ = some (.int .i64 last) := hk1.cell 0
    have c1 : w1.cell? ⟨w.heap.size, 1, none⟩ = some (.slice A xs.length c) := hk1.cell 1
    have z0 : w1.cell? ⟨w.heap.size + 1, 0, none⟩ = some (.int .i64 0) := hz1.cell 0
    have z1 : w1.cell? ⟨w.heap.size + 1, 1, none⟩ = some (.slice none 0 0) := hz1.cell 1
    have f0 := hz1.frozen 0
    have f1 := hz1.frozen 1
    clear hb1 hk1 hz1
    go_wp2_with (at_builtin; refine wpList_app _ rfl _ _ 25 rfl w1.heap.size 29 i0 (.float .f64 0) 8 Try.underlying25 hi0 hz0 hz1' hz2' rfl _ 0 [] rfl (World.ownsRow_nil _ _ _ _) w.heap.size _ ys.length c1' (ys.map fv) rfl (by rw [List.length_map]) (hrow.out _ HB1.out) (fv_one ys) (by have := hm1.out; unfold maxLen; omega) (by have := hm1.out; omega) (by have := HB1.out.size; omega) ?_)
    intro v2 w2 hown hgr _
    obtain ⟨A2, c2, rfl, _⟩ := ownShape hown
    have HO2 : Hid (w2.ownsRow w1.heap.size 29 1 (.slice A2 ys.length c2) ys.length (ys.map fv)) := Lib.hid hown
    have HB2 : Hid (Below w1.heap.size w1 w2) := Lib.hid ((Below.refl _ _).grown hgr (Nat.le_refl _) fun g hg => by simp [Value.ownBlock] at hg)
    have hz2 := HZ1.out.below HB2.out HZ1.out.lt
    have HZ2 := Lib.hid hz2
    have hk2 := HK1.out.below HB2.out HK1.out.lt
    have HK2 := Lib.hid hk2
    have c0_2 : w2.cell? ⟨w.heap.size, 0, none⟩ = some (.int .i64 last) := hk2.cell 0
    clear hown hgr hz2 hk2
    have HROW1 : Hid (Row (w2.alloc (.cells #[.float .f64 (floatOfInt .f64 (now - last))] 29)) (w2.heap.size + 1) (some ⟨w2.heap.size, 0, none⟩) ([tmZ (now - last)].map fv)) := Lib.hid (row_cells (cs := #[.float .f64 (floatOfInt .f64 (now - last))]) rfl)
    have HS2 : Hid (w1.heap.size ≤ w2.heap.size) := Lib.hid HB2.out.size
    go_wp2_with (at_builtin; refine wpList_app _ rfl _ _ 25 rfl w1.heap.size 29 i0 (.float .f64 0) 8 Try.underlying25 hi0 hz0 hz1' hz2' rfl _ ys.length (ys.map fv) rfl (HO2.out.alloc _) (w2.heap.size + 1) _ 1 1 ([tmZ (now - last)].map fv) rfl rfl HROW1.out (fv_one _) (by have := hm1.out; unfold maxLen; omega) (by have := hm1.out; omega) (by have := HS2.out; simp; omega) ?_)
    intro v3 w3 hown hgr _
    obtain ⟨A3, c3, rfl, _⟩ := ownShape hown
    have hb3 : Below w1.heap.size w1 w3 := ((HB2.out.alloc HS2.out _).grown hgr (by have := HS2.out; simp; omega) fun g hg => (HO2.out.lt g hg).1)
    have HB3 := Lib.hid (HB1.out.trans (hb3.mono HB1.out.size))
    have hz3 := HZ1.out.below hb3 HZ1.out.lt
    have HZ3 := Lib.hid hz3
    have y0 : w3.cell? ⟨w.heap.size + 1, 0, none⟩ = some (.int .i64 0) := hz3.cell 0
    have y1 : w3.cell? ⟨w.heap.size + 1, 1, none⟩ = some (.slice none 0 0) := hz3.cell 1
    have x0 := hz3.frozen 0
    have x1 := hz3.frozen 1
    have hlen : ys.length + 1 = (ys ++ [tmZ (now - last)]).length := by rw [List.length_append, List.length_singleton]
    have HO3 : Hid (OwnF w1.heap.size (ys ++ [tmZ (now - last)]) (.slice A3 (ys.length + 1) c3) w3) := Lib.hid (by unfold OwnF; rw [List.map_append, ← hlen]; exact hown)
    have HLT : Hid (w.heap.size + 1 < w1.heap.size) := Lib.hid HZ1.out.lt
    have HLEN := Lib.hid hlen
    clear hz3 hown hgr hb3 hlen
    go_wp2
    have hfin := blkSet2 HZ3.out (.int .i64 now) (.slice A3 (ys.length + 1) c3)
    have g0 := hfin.cell 0
    have g1 := hfin.cell 1
    refine bodyPost_ret (v := .tuple #[.agg #[.int .i64 now, .slice A3 (ys.length + 1) c3], .int .i64 0]) (by simp [results, Try.results23, go_sem, g0, g1]) rfl ⟨A3, c3, ?_, ?_, below_set2 HB3.out (by omega) _ _⟩
    · rw [← HLEN.out]
    · have := ownFSet2 HO3.out HLT.out (.int .i64 now) (.slice A3 (ys.length + 1) c3)
      rw [← HLEN.out]
      exact ownBase this (by have := HB1.out.size; omega)
end Go.Proofs.Ytkfapcigfgfeaaa
