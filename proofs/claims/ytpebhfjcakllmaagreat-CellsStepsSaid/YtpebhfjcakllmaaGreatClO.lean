/- ClO: Package cells: staying, oldest: ranging over the map. -/
import Derived.Test.YtpebhfjcakllmaaGreatClR
namespace Go.Proofs.YtpebhfjcakllmaaGreat
open Go.RowKit Mem Be Word Rg Go.Maps
set_option maxRecDepth 10000
set_option maxHeartbeats 1000000
set_option linter.unusedVariables false
/-- What was counted of those that have come. -/
def visN (f : CV → Nat) (left : Lit → Bool) (V : List CV) : Nat := (V.map fun x => if left (.string x.1.e.k) = true then 0 else f x).sum
theorem sum_zero {α : Type} {g : α → Nat} : ∀ {V : List α}, (∀ x ∈ V, g x = 0) → (V.map g).sum = 0
  | [], _ => rfl
  | y :: r, h => by
    rw [List.map_cons, List.sum_cons, h y (by simp), sum_zero fun x hx => h x (by simp [hx])]
theorem vis_start {f : CV → Nat} {V : List CV} (hV : SortT kC V) : visN f (Maps.has (tbDC V)) V = 0 := sum_zero fun x hx => by
  have e : Maps.has (tbDC V) (.string x.1.e.k) = true := by
    rw [has_iffC]
    rw [show getK kC V x.1.e.k = some x from get_mem hV hx]
    rfl
  rw [if_pos e]
theorem vis_step {f : CV → Nat} {left : Lit → Bool} {x : CV} : ∀ {V : List CV}, SortT kC V → x ∈ V → left (.string x.1.e.k) = true → visN f (fun z => left z && !z.sameKey (.string x.1.e.k)) V = visN f left V + f x
  | [], _, h, _ => by cases h
  | y :: r, hs, hx, hl => by
    obtain ⟨h1, h2⟩ := List.pairwise_cons.1 hs
    have hsame : ∀ z : CV, (Lit.string z.1.e.k).sameKey (.string x.1.e.k) = (z.1.e.k == x.1.e.k) := fun z => rfl
    unfold visN
    rw [List.map_cons, List.map_cons, List.sum_cons, List.sum_cons]
    by_cases hy : y.1.e.k = x.1.e.k
    · have hxy : x = y := sort_inj hs hx (by simp) hy.symm
      subst hxy
      have hr : (r.map fun z => if (left (.string z.1.e.k) && !(Lit.string z.1.e.k).sameKey (.string x.1.e.k)) = true then 0 else f z) = r.map fun z => if left (.string z.1.e.k) = true then 0 else f z := by
        refine List.map_congr_left fun z hz => ?_
        have hne : z.1.e.k ≠ x.1.e.k := fun e => bb_ne (h1 z hz) e.symm
        rw [hsame]
        simp [hne]
      rw [hr, hl]
      have e1 : (left (.string x.1.e.k) && !(Lit.string x.1.e.k).sameKey (.string x.1.e.k)) = false := by rw [hsame]; simp
      simp only [e1, Bool.false_eq_true, if_false, if_true]
      omega
    · have hxr : x ∈ r := by
        rcases List.mem_cons.1 hx with h | h
        · exact absurd (congrArg (fun z : CV => z.1.e.k) h.symm) hy
        · exact h
      have := vis_step (f := f) h2 hxr hl
      unfold visN at this
      have e1 : (left (.string y.1.e.k) && !(Lit.string y.1.e.k).sameKey (.string x.1.e.k)) = left (.string y.1.e.k) := by rw [hsame]; simp [hy]
      rw [this]
      simp only [e1]
      omega
theorem vis_end {f : CV → Nat} {left : Lit → Bool} {V : List CV} (h : ∀ k, left k = false) : visN f left V = (V.map f).sum := by
  unfold visN
  refine congrArg List.sum (List.map_congr_left fun x _ => ?_)
  rw [h]; rfl
theorem vis_le {f : CV → Nat} {left : Lit → Bool} : ∀ V : List CV, visN f left V ≤ (V.map f).sum
  | [] => Nat.le_refl _
  | y :: r => by
    have := vis_le (f := f) (left := left) r
    unfold visN at this ⊢
    rw [List.map_cons, List.map_cons, List.sum_cons, List.sum_cons]
    split <;> omega
/-- Does a cell stay, whatever is evicted? -/
def stN (k : List UInt8) (x : CV) : Nat := if x.1.e.k ≠ k ∧ x.1.cl = false then 1 else 0
def stM (k : List UInt8) (x : CV) : Nat := if x.1.e.k ≠ k ∧ x.1.cl = false then sizE x.1.e else 0
theorem stay_len (k : List UInt8) : ∀ V : List CV, (V.map (stN k)).sum = (stayC (V.map Prod.fst) k).length ∧ (V.map (stM k)).sum = sumC (stayC (V.map Prod.fst) k)
  | [] => ⟨rfl, rfl⟩
  | y :: r => by
    obtain ⟨h1, h2⟩ := stay_len k r
    have e : stayC ((y :: r).map Prod.fst) k = if y.1.e.k ≠ k ∧ y.1.cl = false then y.1 :: stayC (r.map Prod.fst) k else stayC (r.map Prod.fst) k := by
      unfold stayC delK
      rw [List.map_cons, List.filter_filter, List.filter_filter, List.filter_cons]
      by_cases hk : y.1.e.k = k <;> cases hc : y.1.cl <;> simp [hk]
    rw [List.map_cons (f := stN k), List.map_cons (f := stM k), List.sum_cons, List.sum_cons, h1, h2, e]
    unfold stN stM
    split
    · exact ⟨by rw [List.length_cons]; omega, by rw [sumC_cons]⟩
    · exact ⟨by omega, by omega⟩
theorem stay_le {S : Cl} (ok : OkC S) (k : List UInt8) : ((stayC S.T k).length : Int) ≤ 4096 ∧ (sumC (stayC S.T k) : Int) ≤ 4194304 := by
  have h1 := List.length_filter_le (fun x : CP => !x.cl) (delK kP k S.T)
  have h2 := sumC_filter (fun x : CP => !x.cl) (delK kP k S.T)
  have h3 := del_le k S.T
  have h4 := ok.len
  have h5 := ok.rc
  have h6 := ok.sum
  have h7 := ok.rb
  unfold stayC
  omega
theorem str_ne {a b : List UInt8} (h : a ≠ b) : (⟨a.toArray⟩ : ByteArray) ≠ ⟨b.toArray⟩ := fun e => h ((bytes_eq a b).1 e)
theorem staying_any {F : Nat → Prop} {g b tk c : Nat} {S : Cl} {V : List CV} (ok : OkC S) (k : List UInt8) (w : World) (h : ClB w F g b tk S V c) :
    Calls Tryz.prog 67 #[.pointer (some ⟨g, 0, none⟩), .string ⟨k.toArray⟩] w (IsL (stayC S.T k).length (sumC (stayC S.T k)) w) := by
  obtain ⟨hsl1, hsl2⟩ := stay_le ok k
  obtain ⟨hst1, hst2⟩ := stay_len k V
  rw [h.ent] at hst1 hst2
  have HS := Lib.hid (h.srt ok)
  have HOK : Hid (∀ x ∈ V, okE x.1.e) := Lib.hid fun x hx => h.okE ok hx
  have hB0 : Below w.heap.size w ((w.alloc (.cells #[.int .i64 0, .int .i64 0] 118)).alloc (.cells #[.int .i64 0, .int .i64 0] 118)) := ((Below.refl _ _).alloc (Nat.le_refl _) _).alloc (by simp) _
  obtain ⟨w1, hrange, hrg, hb1, hs1⟩ := rng_startC (h.below hB0).map
  have HRG := Lib.hid hrg
  have HB1 : Hid (Below w.heap.size w w1) := Lib.hid (hB0.trans (hb1.mono (by simp; omega)))
  have HL : Hid (Blk w1 (w.heap.size + 1) 118 #[.int .i64 0, .int .i64 0]) := Lib.hid ((blk_at (g' := w.heap.size + 1) (by simp) (Blk.new (w.alloc (.cells #[.int .i64 0, .int .i64 0] 118)) 118 #[.int .i64 0, .int .i64 0])).below hb1 (by simp))
  have HR : Hid (Blk w1 w.heap.size 118 #[.int .i64 0, .int .i64 0]) := Lib.hid (((Blk.new w 118 #[.int .i64 0, .int .i64 0]).alloc _).below hb1 (by simp; omega))
  have HSZ : Hid (w1.heap.size = w.heap.size + 3) := Lib.hid (by rw [hs1]; simp)
  have hr2 : ((w.alloc (.cells #[.int .i64 0, .int .i64 0] 118)).alloc (.cells #[.int .i64 0, .int .i64 0] 118)).heap.size = w.heap.size + 2 := by simp
  rw [hr2] at hrange HRG
  have c4 := (h.below hB0).c4
  have HBL := Lib.hid (h.lt b h.fb)
  have HST : Hid ((V.map (stN k)).sum = (stayC S.T k).length ∧ (V.map (stM k)).sum = sumC (stayC S.T k)) := Lib.hid ⟨hst1, hst2⟩
  have HSL : Hid (((stayC S.T k).length : Int) ≤ 4096 ∧ (sumC (stayC S.T k) : Int) ≤ 4194304) := Lib.hid ⟨hsl1, hsl2⟩
  clear h ok hB0 hrg hb1 hs1 hsl1 hsl2 hst1 hst2 hr2
  go_enter Tryz.func67, Tryz.ntmps67
  go_wp2_with fail
  go_loopw [6, 7] (fun _ _ wr => ∃ (left : Lit → Bool) (cnt : Nat), Hid (RngBC wr b (w.heap.size + 2) V.length V left cnt) ∧ Hid (Blk wr (w.heap.size + 1) 118 #[.int .i64 (visN (stN k) left V : Int), .int .i64 (visN (stM k) left V : Int)]) ∧ Hid (Blk wr w.heap.size 118 #[.int .i64 0, .int .i64 0]) ∧ Hid (w.heap.size + 3 ≤ wr.heap.size) ∧ Hid (Below w.heap.size w wr)) (fun _ _ wr => wr.rangeLeft b (w.heap.size + 2))
  case atStart => exact ⟨_, _, HRG, Lib.hid (by rw [vis_start HS.out, vis_start HS.out]; exact HL.out), HR, Lib.hid (by have := HSZ.out; omega), HB1⟩
  case round =>
    obtain ⟨left, cnt, HRn, HLn, HRs, HZ, HB⟩ := hrel
    rcases rng_nextC HS.out HRn.out 0 with ⟨h0, hl, hrun⟩ | ⟨x, w2, cnt', hx, hlk, hrun, hrg, hlt, hgr, hsz, hen⟩
    · have hv : Hid ((visN (stN k) left V : Int) = ((stayC S.T k).length : Int) ∧ (visN (stM k) left V : Int) = (sumC (stayC S.T k) : Int)) := Lib.hid (by rw [vis_end hl, vis_end hl, HST.out.1, HST.out.2]; exact ⟨rfl, rfl⟩)
      rw [hv.out.1, hv.out.2] at HLn
      have q0 := HLn.out.cell 0
      have q1 := HLn.out.cell 1
      have r0 := HRs.out.cell 0
      have r1 := HRs.out.cell 1
      have z0 := HRs.out.frozen 0
      have z1 := HRs.out.frozen 1
      simp only [List.getElem?_toArray] at q0 q1 r0 r1
      clear h0 hl hv
      go_wp2
      exact bodyPost_ret (v := .agg #[.int .i64 ((stayC S.T k).length : Int), .int .i64 (sumC (stayC S.T k) : Int)]) (by simp [results, Tryz.results67, go_sem, r0, r1]) rfl ⟨rfl, below_set (below_set HB.out (Nat.le_refl _) _ _) (Nat.le_refl _) _ _⟩
    · have hz2 := HZ.out
      have hbl := HBL.out
      have HBW : Hid (Below w.heap.size w w2) := Lib.hid (HB.out.grown hgr HB.out.size (fun g hg => by injection hg with hg; omega))
      have HLW : Hid (Blk w2 (w.heap.size + 1) 118 #[.int .i64 (visN (stN k) left V : Int), .int .i64 (visN (stM k) left V : Int)]) := Lib.hid (HLn.out.grown hgr (by intro e; injection e with e; omega))
      have HRW : Hid (Blk w2 w.heap.size 118 #[.int .i64 0, .int .i64 0]) := Lib.hid (HRs.out.grown hgr (by intro e; injection e with e; omega))
      have HZW : Hid (w.heap.size + 3 ≤ w2.heap.size) := Lib.hid (by omega)
      have hm : w2.rangeLeft b (w.heap.size + 2) < wr.rangeLeft b (w.heap.size + 2) := by rw [World.ranges.left_eq hrg, World.ranges.left_eq HRn.out]; exact hlt
      have HM : Hid (∀ W : World, W.heap[b]? = w2.heap[b]? → W.heap[w.heap.size + 2]? = w2.heap[w.heap.size + 2]? → RngBC W b (w.heap.size + 2) V.length V (fun z => left z && !z.sameKey (.string x.1.e.k)) cnt' ∧ W.rangeLeft b (w.heap.size + 2) < wr.rangeLeft b (w.heap.size + 2)) := Lib.hid fun W e1 e2 => by
        have h3 := rng_keep2C hrg e1 e2
        exact ⟨h3, by rw [World.ranges.left_eq h3, World.ranges.left_eq HRn.out]; exact hlt⟩
      have HVN := Lib.hid (vis_step (f := stN k) HS.out hx hlk)
      have HVM := Lib.hid (vis_step (f := stM k) HS.out hx hlk)
      have hokx := HOK.out x hx
      have hal : ∀ ob, Below w2.heap.size w2 (w2.alloc ob) := fun ob => (Below.refl _ _).alloc (Nat.le_refl _) ob
      have hlb : ∀ f : CV → Nat, (visN f left V : Int) ≤ ((V.map f).sum : Int) := fun f => by have := vis_le (f := f) (left := left) V; omega
      have hn1 := hlb (stN k)
      have hm1 := hlb (stM k)
      rw [HST.out.1] at hn1
      rw [HST.out.2] at hm1
      have hn2 := HSL.out.1
      have hm2 := HSL.out.2
      have hn3 : (visN (stN k) left V : Int) ≤ 4096 := by omega
      have hm3 : (visN (stM k) left V : Int) ≤ 4194304 := by omega
      have hn4 : (0 : Int) ≤ (visN (stN k) left V : Int) := by omega
      have hm4 : (0 : Int) ≤ (visN (stM k) left V : Int) := by omega
      clear hrg hlt hgr hlk hlb hn1 hm1 hn2 hm2 hm hsz
      by_cases hstay : x.1.e.k ≠ k ∧ x.1.cl = false
      · have hkn : ¬ x.1.e.k = k := hstay.1
        have hkb : (x.1.e.k == k) = false := by simpa using hstay.1
        have hkt : (!(x.1.e.k == k)) = true := by rw [hkb]; rfl
        have f1 : stN k x = 1 := if_pos hstay
        have f2 : stM k x = sizE x.1.e := if_pos hstay
        rw [f1] at HVN
        rw [f2] at HVM
        obtain ⟨n0, hn0⟩ : ∃ n : Int, (visN (stN k) left V : Int) = n := ⟨_, rfl⟩
        obtain ⟨m0, hm0⟩ : ∃ n : Int, (visN (stM k) left V : Int) = n := ⟨_, rfl⟩
        obtain ⟨s0, hs0⟩ : ∃ n : Int, (sizE x.1.e : Int) = n := ⟨_, rfl⟩
        have HVN' : Hid ((visN (stN k) (fun z => left z && !z.sameKey (.string x.1.e.k)) V : Int) = n0 + 1) := Lib.hid (by rw [HVN.out, ← hn0]; omega)
        have HVM' : Hid ((visN (stM k) (fun z => left z && !z.sameKey (.string x.1.e.k)) V : Int) = m0 + s0) := Lib.hid (by rw [HVM.out, ← hm0, ← hs0]; omega)
        obtain ⟨hs1, hs2, hs3, hs4⟩ := sizE_le hokx
        have hs5 : s0 ≤ 60250 := by omega
        have hs6 : 0 ≤ s0 := by omega
        have HSI : Hid (∀ W, Calls Tryz.prog 64 #[entV ⟨x.1.e.k.toArray⟩ x.1.e.s x.1.e.u x.1.e.o x.1.e.has x.2.1 x.1.e.v.length x.2.2] W (IsI s0 W)) := Lib.hid fun W => by rw [← hs0]; exact sizeC_any x.1.e x.2.1 x.2.2 hs2 hs3 W
        rw [hn0] at hn3 hn4 HLW
        rw [hm0] at hm3 hm4 HLW
        have hcl := hstay.2
        have q0 := ((HLW.out.below (hal (.cells #[.string ⟨x.1.e.k.toArray⟩, .int .i64 x.1.e.s, .int .i64 x.1.e.u, .int .i64 x.1.e.o, .bool x.1.e.has, .slice x.2.1 x.1.e.v.length x.2.2, .bool x.1.wh, .bool false, .int .i64 x.1.us] 88)) (by have := HZW.out; omega)))
        have q1 := q0.cell 0
        have q2 := q0.frozen 0
        have q3 : w.heap.size + 1 ≠ w2.heap.size := by have := HZW.out; omega
        simp only [List.getElem?_toArray] at q1
        have HQ := Lib.hid q0
        clear q0 hs0 hn0 hm0 HVN HVM hokx hs1 hs2 hs3 hs4 f1 f2 hal hstay
        unfold cV at hrun hen
        rw [hcl] at hrun hen
        go_wp2_with fail
        have HX3 : Hid (Blk ((w2.alloc (.cells #[.string ⟨x.1.e.k.toArray⟩, .int .i64 x.1.e.s, .int .i64 x.1.e.u, .int .i64 x.1.e.o, .bool x.1.e.has, .slice x.2.1 x.1.e.v.length x.2.2, .bool x.1.wh, .bool false, .int .i64 x.1.us] 88)).setCell ⟨w.heap.size + 1, 0, none⟩ (.int .i64 (n0 + 1))) w2.heap.size 88 #[.string ⟨x.1.e.k.toArray⟩, .int .i64 x.1.e.s, .int .i64 x.1.e.u, .int .i64 x.1.e.o, .bool x.1.e.has, .slice x.2.1 x.1.e.v.length x.2.2, .bool x.1.wh, .bool false, .int .i64 x.1.us]) := Lib.hid ((Blk.new w2 _ _).far (by show w2.heap.size ≠ w.heap.size + 1; omega) _)
        have HL3 : Hid (Blk ((w2.alloc (.cells #[.string ⟨x.1.e.k.toArray⟩, .int .i64 x.1.e.s, .int .i64 x.1.e.u, .int .i64 x.1.e.o, .bool x.1.e.has, .slice x.2.1 x.1.e.v.length x.2.2, .bool x.1.wh, .bool false, .int .i64 x.1.us] 88)).setCell ⟨w.heap.size + 1, 0, none⟩ (.int .i64 (n0 + 1))) (w.heap.size + 1) 118 #[.int .i64 (n0 + 1), .int .i64 m0]) := Lib.hid (by simpa using HQ.out.set_ 0 (.int .i64 (n0 + 1)))
        have HR3 : Hid (Blk ((w2.alloc (.cells #[.string ⟨x.1.e.k.toArray⟩, .int .i64 x.1.e.s, .int .i64 x.1.e.u, .int .i64 x.1.e.o, .bool x.1.e.has, .slice x.2.1 x.1.e.v.length x.2.2, .bool x.1.wh, .bool false, .int .i64 x.1.us] 88)).setCell ⟨w.heap.size + 1, 0, none⟩ (.int .i64 (n0 + 1))) w.heap.size 118 #[.int .i64 0, .int .i64 0]) := Lib.hid ((HRW.out.alloc _).far (by show w.heap.size ≠ w.heap.size + 1; omega) _)
        have HK3 : Hid (∀ j, j < w2.heap.size → j ≠ w.heap.size + 1 → ((w2.alloc (.cells #[.string ⟨x.1.e.k.toArray⟩, .int .i64 x.1.e.s, .int .i64 x.1.e.u, .int .i64 x.1.e.o, .bool x.1.e.has, .slice x.2.1 x.1.e.v.length x.2.2, .bool x.1.wh, .bool false, .int .i64 x.1.us] 88)).setCell ⟨w.heap.size + 1, 0, none⟩ (.int .i64 (n0 + 1))).heap[j]? = w2.heap[j]?) := Lib.hid fun j hj hne => (Below.heap_setCell _ ⟨w.heap.size + 1, 0, none⟩ _ j hne).trans (Below.heap_alloc _ _ j hj)
        have HB3 : Hid (Below w.heap.size w ((w2.alloc (.cells #[.string ⟨x.1.e.k.toArray⟩, .int .i64 x.1.e.s, .int .i64 x.1.e.u, .int .i64 x.1.e.o, .bool x.1.e.has, .slice x.2.1 x.1.e.v.length x.2.2, .bool x.1.wh, .bool false, .int .i64 x.1.us] 88)).setCell ⟨w.heap.size + 1, 0, none⟩ (.int .i64 (n0 + 1)))) := Lib.hid (below_set (HBW.out.alloc HBW.out.size _) (by omega) _ _)
        have l1 := later_blk_cell HL3.out 1 _ rfl
        have b0 := later_blk_cell HX3.out 0 _ rfl
        have b1 := later_blk_cell HX3.out 1 _ rfl
        have b2 := later_blk_cell HX3.out 2 _ rfl
        have b3 := later_blk_cell HX3.out 3 _ rfl
        have b4 := later_blk_cell HX3.out 4 _ rfl
        have b5 := later_blk_cell HX3.out 5 _ rfl
        refine wp_region_later_tail 7 (by kernel_rfl) (by kernel_rfl) ?_
        simp only [List.take_succ_cons, List.take_zero, List.drop_succ_cons, List.drop_zero]
        repeat (go_big_quiet_step (first | (go_at_call 64; with_reducible exact laterI (HSI.out _))))
        refine wpQuiet_nil ?_
        intro w' hw'
        obtain ⟨p, rfl⟩ := hw'
        have HL4 := Lib.hid (later_blk HL3.out p)
        have HR4 := Lib.hid (later_blk HR3.out p)
        have HB4 := Lib.hid (HB3.out.trans (p.bel.mono HB3.out.size))
        have HK4 : Hid (∀ j, j < w2.heap.size → j ≠ w.heap.size + 1 → p.world.heap[j]? = w2.heap[j]?) := Lib.hid fun j hj hne => (p.bel.block j (by simp [World.setCell]; omega)).trans (HK3.out j hj hne)
        have HZ4 : Hid (w.heap.size + 3 ≤ p.world.heap.size) := Lib.hid (by have h1 := p.bel.size; have h2 := HZW.out; simp [World.setCell] at h1; omega)
        obtain ⟨w4, hw4⟩ : ∃ w4, p.world = w4 := ⟨_, rfl⟩
        rw [hw4] at HL4 HR4 HB4 HK4 HZ4 ⊢
        have q4 := HL4.out.cell 1
        have q5 := HL4.out.frozen 1
        simp only [List.getElem?_toArray] at q4
        clear l1 b0 b1 b2 b3 b4 b5 HX3 HL3 HR3 HK3 HB3 hw4 p HQ q1 q2
        go_wp2
        go_roundw
        case rel =>
          have hz := HZW.out
          have hbl := HBL.out
          have hk := fun j (hj : j < w2.heap.size) (hne : j ≠ w.heap.size + 1) => (Below.heap_setCell w4 ⟨w.heap.size + 1, 1, none⟩ (.int .i64 (m0 + s0)) j hne).trans (HK4.out j hj hne)
          refine ⟨_, _, Lib.hid (HM.out _ (hk b (by omega) (by omega)) (hk _ (by omega) (by omega))).1, Lib.hid ?_, Lib.hid (HR4.out.far (by show w.heap.size ≠ w.heap.size + 1; omega) _), Lib.hid (by simp [World.setCell]; have := HZ4.out; omega), Lib.hid (below_set HB4.out (by omega) _ _)⟩
          rw [HVN'.out, HVM'.out]
          simpa using HL4.out.set_ 1 (.int .i64 (m0 + s0))
        case measure =>
          have hz := HZW.out
          have hbl := HBL.out
          have hk := fun j (hj : j < w2.heap.size) (hne : j ≠ w.heap.size + 1) => (Below.heap_setCell w4 ⟨w.heap.size + 1, 1, none⟩ (.int .i64 (m0 + s0)) j hne).trans (HK4.out j hj hne)
          exact (HM.out _ (hk b (by omega) (by omega)) (hk _ (by omega) (by omega))).2
      · have f1 : stN k x = 0 := if_neg hstay
        have f2 : stM k x = 0 := if_neg hstay
        rw [f1] at HVN
        rw [f2] at HVM
        have HEND : Hid (∀ ob : Obj, (∃ (left' : Lit → Bool) (cnt'' : Nat), Hid (RngBC (w2.alloc ob) b (w.heap.size + 2) V.length V left' cnt'') ∧ Hid (Blk (w2.alloc ob) (w.heap.size + 1) 118 #[.int .i64 (visN (stN k) left' V : Int), .int .i64 (visN (stM k) left' V : Int)]) ∧ Hid (Blk (w2.alloc ob) w.heap.size 118 #[.int .i64 0, .int .i64 0]) ∧ Hid (w.heap.size + 3 ≤ (w2.alloc ob).heap.size) ∧ Hid (Below w.heap.size w (w2.alloc ob))) ∧ (w2.alloc ob).rangeLeft b (w.heap.size + 2) < wr.rangeLeft b (w.heap.size + 2)) := Lib.hid fun ob => by
          have hz := HZW.out
          obtain ⟨h1, h2⟩ := HM.out (w2.alloc ob) (Below.heap_alloc _ _ b (by omega)) (Below.heap_alloc _ _ _ (by omega))
          refine ⟨⟨_, _, Lib.hid h1, Lib.hid ?_, Lib.hid (HRW.out.alloc _), Lib.hid (by simp; omega), Lib.hid (HBW.out.alloc HBW.out.size _)⟩, h2⟩
          rw [HVN.out, HVM.out]
          exact HLW.out.alloc _
        unfold cV at hrun hen
        clear HM HVN HVM hokx f1 f2 hal hn3 hn4 hm3 hm4
        by_cases hk : x.1.e.k = k
        · rw [hk] at hrun hen
          clear hstay
          go_wp2_with fail
          exact HEND.out _
        · have hkb : (x.1.e.k == k) = false := by simpa using hk
          have hkt : (!(x.1.e.k == k)) = true := by rw [hkb]; rfl
          have hcl : x.1.cl = true := by
            cases h : x.1.cl with
            | true => rfl
            | false => exact absurd ⟨hk, h⟩ hstay
          rw [hcl] at hrun hen
          clear hstay
          go_wp2_with fail
          exact HEND.out _
end Go.Proofs.YtpebhfjcakllmaaGreat
