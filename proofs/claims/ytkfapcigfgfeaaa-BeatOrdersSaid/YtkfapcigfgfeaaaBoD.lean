/- BoD: Indexes in order of their scores, by the package (beat.Order). -/
import Derived.Test.YtkfapcigfgfeaaaBoC
import Derived.Test.YtkfapcigfgfeaaaBtL
import Derived.Deep.DeepCutAuto
import Derived.Deep.OwnRows
namespace Go.Proofs.Ytkfapcigfgfeaaa
open Go.RowKit Flo Mem
set_option maxRecDepth 100000
set_option maxHeartbeats 1000000
set_option linter.unusedVariables false
theorem info_i15 : (Try.prog.info? 3).map (fun i => (i.zero, i.size, i.bytes)) = some (some (.int .i64 0), 1, 8) := by kernel_rfl
def scF (rs : List BtV) (now : Int) (y : Nat) : Int := match rs[y]? with
  | some r => scV r.1 r.2.2.1 now
  | none => 0
def erF (rs : List BtV) (now : Int) (y : Nat) : Int := match rs[y]? with
  | some r => rgtE r.1 r.2.2.1 now
  | none => 0
/-- The three blocks that an order is made in. -/
structure OrB (w wr : World) (gd gs gb n : Nat) (l : List Nat) (xs : List Int) : Prop where
  hd : Blk wr gd 3 (rowN15 l)
  hs : Blk wr gs 25 #[.slice (some ⟨gb, 0, none⟩) n n]
  hf : Blk wr gb 29 (xs.map fv).toArray
  h1 : gd ≠ gs
  h2 : gb ≠ gd
  h3 : gb ≠ gs
  b1 : w.heap.size ≤ gd
  b2 : w.heap.size ≤ gs
  b3 : w.heap.size ≤ gb
  hb : Below w.heap.size w wr
theorem made_i15 (n : Nat) : madeCells #[.int .i64 0] n = rowN15 (List.replicate n 0) := by
  apply Array.toList_inj.1
  rw [toList_madeCells_one]
  unfold rowN15
  rw [List.map_replicate]; rfl
theorem made_f15 (n : Nat) : madeCells #[.float .f64 0] n = ((List.replicate n (0 : Int)).map fv).toArray := by
  apply Array.toList_inj.1
  rw [toList_madeCells_one, List.map_replicate]; rfl
theorem blk3_15 (w : World) (t0 t1 t2 : TypeId) (c0 c1 c2 : Array Value) :
    Blk (((w.alloc (.cells c0 t0)).alloc (.cells c1 t1)).alloc (.cells c2 t2)).drew w.heap.size t0 c0 ∧ Blk (((w.alloc (.cells c0 t0)).alloc (.cells c1 t1)).alloc (.cells c2 t2)).drew (w.heap.size + 1) t1 c1 ∧
    Blk (((w.alloc (.cells c0 t0)).alloc (.cells c1 t1)).alloc (.cells c2 t2)).drew (w.heap.size + 1 + 1) t2 c2 ∧ Below w.heap.size w (((w.alloc (.cells c0 t0)).alloc (.cells c1 t1)).alloc (.cells c2 t2)).drew := by
  refine ⟨(((Blk.new w t0 c0).alloc _).alloc _).drew, ?_, ?_, ((((Below.refl _ _).alloc (Nat.le_refl _) _).alloc (by simp) _).alloc (by simp; omega) _).drew⟩
  · have := ((Blk.new (w.alloc (.cells c0 t0)) t1 c1).alloc (.cells c2 t2)).drew
    rw [World.size_alloc] at this; exact this
  · have := (Blk.new ((w.alloc (.cells c0 t0)).alloc (.cells c1 t1)) t2 c2).drew
    rw [World.size_alloc, World.size_alloc] at this; exact this
theorem OrB.below {w wr w2 : World} {gd gs gb n : Nat} {l : List Nat} {xs : List Int} (I : OrB w wr gd gs gb n l xs) (hb : Below wr.heap.size wr w2) : OrB w w2 gd gs gb n l xs :=
  ⟨I.hd.below hb I.hd.lt, I.hs.below hb I.hs.lt, I.hf.below hb I.hf.lt, I.h1, I.h2, I.h3, I.b1, I.b2, I.b3, I.hb.trans (hb.mono I.hb.size)⟩
theorem fv_set (xs : List Int) (k : Nat) (s : Int) : (xs.map fv).toArray.setIfInBounds k (.float .f64 (fnat s)) = ((xs.set k s).map fv).toArray := by
  rw [List.setIfInBounds_toArray, List.map_set]; rfl
theorem OrB.put {w W : World} {gd gs gb n k : Nat} {l : List Nat} {xs : List Int} {s : Int} (I : OrB w W gd gs gb n l xs) : OrB w ((W.setCell ⟨gd, k, none⟩ (.int .i64 (k : Int))).setCell ⟨gb, k, none⟩ (.float .f64 (fnat s))) gd gs gb n (l.set k k) (xs.set k s) := by
  refine ⟨?_, ?_, ?_, I.h1, I.h2, I.h3, I.b1, I.b2, I.b3, below_set (below_set I.hb I.b1 k _) I.b3 k _⟩
  · have := (I.hd.set_ k (iN k)).far (p := ⟨gb, k, none⟩) (fun e => I.h2 e.symm) (.float .f64 (fnat s))
    rw [rowN_set] at this; exact this
  · exact (I.hs.far (p := ⟨gd, k, none⟩) (fun e => I.h1 e.symm) _).far (p := ⟨gb, k, none⟩) (fun e => I.h3 e.symm) _
  · have := (I.hf.far (p := ⟨gd, k, none⟩) I.h2 (.int .i64 (k : Int))).set_ k (.float .f64 (fnat s))
    rw [fv_set] at this; exact this
theorem OrB.put' {w W : World} {gd gs gb n k : Nat} {l : List Nat} {xs : List Int} {s : Int} (I : OrB w W gd gs gb n l xs) : OrB w ((W.setCell ⟨gb, k, none⟩ (.float .f64 (fnat s))).setCell ⟨gd, k, none⟩ (.int .i64 (k : Int))) gd gs gb n (l.set k k) (xs.set k s) := by
  refine ⟨?_, ?_, ?_, I.h1, I.h2, I.h3, I.b1, I.b2, I.b3, below_set (below_set I.hb I.b3 k _) I.b1 k _⟩
  · have := (I.hd.far (p := ⟨gb, k, none⟩) (fun e => I.h2 e.symm) (.float .f64 (fnat s))).set_ k (iN k)
    rw [rowN_set] at this; exact this
  · exact (I.hs.far (p := ⟨gb, k, none⟩) (fun e => I.h3 e.symm) _).far (p := ⟨gd, k, none⟩) (fun e => I.h1 e.symm) _
  · have := (I.hf.set_ k (.float .f64 (fnat s))).far (p := ⟨gd, k, none⟩) I.h2 (.int .i64 (k : Int))
    rw [fv_set] at this; exact this
def dL (k n : Nat) : List Nat := List.range k ++ List.replicate (n - k) 0
def dX (sc : Nat → Int) (k n : Nat) : List Int := (List.range k).map sc ++ List.replicate (n - k) 0
theorem dL_at {k n : Nat} (h : k < n) : (dL k n)[k]? = some 0 := by
  unfold dL; rw [List.getElem?_append_right (by simp), List.length_range, Nat.sub_self, List.getElem?_replicate, if_pos (by omega)]
theorem dX_at {sc : Nat → Int} {k n : Nat} (h : k < n) : (dX sc k n)[k]? = some 0 := by
  unfold dX; rw [List.getElem?_append_right (by simp), List.length_map, List.length_range, Nat.sub_self, List.getElem?_replicate, if_pos (by omega)]
theorem rep_succ {α : Type} (m : Nat) (x : α) (h : 0 < m) : List.replicate m x = x :: List.replicate (m - 1) x := by
  obtain ⟨k, rfl⟩ : ∃ k, m = k + 1 := ⟨m - 1, by omega⟩
  rfl
theorem dL_set {k n : Nat} (h : k < n) : (dL k n).set k k = dL (k + 1) n := by
  unfold dL
  rw [List.set_append, if_neg (by simp), List.length_range, Nat.sub_self, rep_succ (n - k) 0 (by omega), List.range_succ, List.append_assoc, show n - (k + 1) = n - k - 1 by omega]; rfl
theorem dX_set {sc : Nat → Int} {k n : Nat} (h : k < n) : (dX sc k n).set k (sc k) = dX sc (k + 1) n := by
  unfold dX
  rw [List.set_append, if_neg (by simp), List.length_map, List.length_range, Nat.sub_self, rep_succ (n - k) 0 (by omega), List.range_succ, List.map_append, List.append_assoc, show n - (k + 1) = n - k - 1 by omega]; rfl
theorem dL_end (n : Nat) : dL n n = restN 0 n := by unfold dL restN; rw [Nat.sub_self, Nat.sub_zero, List.range_eq_range']; simp
theorem dX_end {sc : Nat → Int} {n y : Nat} (h : y < n) : ((dX sc n n).map fv).toArray[y]? = some (.float .f64 (fnat (sc y))) := by
  unfold dX
  rw [Nat.sub_self, List.getElem?_toArray, List.getElem?_map]
  simp [List.getElem?_range h]; rfl
def OrdP (rs : List BtV) (now : Int) (w : World) (e : Ending) (w' : World) : Prop :=
  ((∀ y, y < rs.length → erF rs now y = 0) ∧ ∃ Ao co, e = .returned (.tuple #[.slice Ao rs.length co, .int .i64 0]) ∧ Row w' w'.heap.size Ao ((ordS (scF rs now) rs.length).map iN) ∧ rs.length ≤ co ∧ Below w.heap.size w w') ∨
  ((¬ ∀ y, y < rs.length → erF rs now y = 0) ∧ Ret (.tuple #[.slice none 0 0, .int .i64 2]) w e w')
theorem row_blk15 {w : World} {g : Nat} {l : List Nat} (h : Blk w g 3 (rowN15 l)) : Row w w.heap.size (some ⟨g, 0, none⟩) (l.map iN) :=
  Or.inr ⟨g, 0, rfl, h.lt, fun j hj => by rw [Nat.zero_add, h.cell j]; unfold rowN15; rw [List.getElem?_toArray, List.getElem?_eq_getElem hj]⟩
theorem scF_word {rs : List BtV} {now : Int} (h : ∀ r ∈ rs, ∀ x ∈ r.2.2.1, Word x) (y : Nat) : 0 ≤ scF rs now y ∧ scF rs now y ≤ 9218868437227405312 := by
  unfold scF
  split
  · rename_i r hr
    exact scV_facts (h r (List.mem_of_getElem? hr)) now
  · omega
theorem order_any15 (now : Int) (rs : List BtV) (A : Option Addr) (n c : Nat) (hn : n = rs.length) (hl : rs.length ≤ 20) (h30 : ∀ r ∈ rs, r.2.2.1.length ≤ 30) (w : World) (h : Row w w.heap.size A (btsC rs)) (hbt : Bts_ w rs) :
    Calls Try.prog 27 #[.int .i64 now, .slice A n c] w (OrdP rs now w) := by
  have hn20 : n ≤ 20 := by omega
  have hmk1 := run_make_row' (P := Try.prog) 46 3 (.int .i64 0) 8 Try.underlying46 info_i15 rfl .i64 .i64 n (by omega) (by omega)
  have hmk2 := run_make_row' (P := Try.prog) 25 29 (.float .f64 0) 8 Try.underlying25 info_f rfl .i64 .i64 n (by omega) (by omega)
  have HR := Lib.hid h
  have HBT := Lib.hid hbt
  have HN := Lib.hid hn
  have H30 := Lib.hid h30
  have HSW := Lib.hid (fun y => scF_word (rs := rs) (now := now) (fun r hr => (hbt r hr).2.2) y)
  clear h hbt hn h30
  go_enter Try.func27, Try.ntmps27
  go_upto_region 1 with fail
  go_cut [6, 7] (fun v6 p7 wx => ∃ gd gs gb, v6 = .slice (some ⟨gd, 0, none⟩) n n ∧ p7 = .pointer (some ⟨gs, 0, none⟩) ∧ OrB w wx gd gs gb n (List.replicate n 0) (List.replicate n 0))
  case first =>
    go_region_law (fail)
    all_goals
      go_wp2_with fail
      go_meet
      rw [made_i15, made_f15]
      obtain ⟨k0, k1, k2, kb⟩ := blk3_15 w _ _ _ _ _ _
      first
        | exact ⟨_, _, w.heap.size, rfl, rfl, ⟨by first | exact k0 | exact k1 | exact k2, by first | exact k0 | exact k1 | exact k2, by first | exact k0 | exact k1 | exact k2, by omega, by omega, by omega, by omega, by omega, by omega, kb⟩⟩
        | exact ⟨_, _, w.heap.size + 1, rfl, rfl, ⟨by first | exact k0 | exact k1 | exact k2, by first | exact k0 | exact k1 | exact k2, by first | exact k0 | exact k1 | exact k2, by omega, by omega, by omega, by omega, by omega, by omega, kb⟩⟩
        | exact ⟨_, _, w.heap.size + 1 + 1, rfl, rfl, ⟨by first | exact k0 | exact k1 | exact k2, by first | exact k0 | exact k1 | exact k2, by first | exact k0 | exact k1 | exact k2, by omega, by omega, by omega, by omega, by omega, by omega, kb⟩⟩
  obtain ⟨gd, gs, gb, rfl, rfl, hO⟩ := hcut
  obtain ⟨w1, hw1⟩ : ∃ w1, w1 = wc := ⟨_, rfl⟩
  subst hw1
  obtain ⟨sc, hsc⟩ : ∃ sc, scF rs now = sc := ⟨_, rfl⟩
  rw [hsc] at HSW
  have HSC := Lib.hid hsc
  have HO0 : Hid (OrB w w1 gd gs gb n (dL 0 n) (dX sc 0 n)) := Lib.hid (by
    have e1 : dL 0 n = List.replicate n 0 := by unfold dL; simp
    have e2 : dX sc 0 n = List.replicate n 0 := by unfold dX; simp
    rw [e1, e2]; exact hO)
  have hn20' : (n : Int) ≤ 20 := by omega
  clear hO hsc hmk1 hmk2
  go_wp2
  go_loopw [20] (fun iv wr => ∃ k : Nat, k ≤ n ∧ iv = .int .i64 (k : Int) ∧ Hid (∀ y, y < k → erF rs now y = 0) ∧ Hid (OrB w wr gd gs gb n (dL k n) (dX sc k n))) (fun iv _ => n - (intOf iv).toNat)
  case atStart => exact ⟨0, by omega, rfl, Lib.hid (fun y hy => by omega), HO0⟩
  case round =>
    obtain ⟨k, hk, rfl, HE, HO⟩ := hrel
    have hk0 : (0 : Int) ≤ (k : Int) := by omega
    by_cases hlt : k < n
    · have hlt2 : (k : Int) < (n : Int) := by omega
      have hkr : k < rs.length := by rw [← HN.out]; exact hlt
      obtain ⟨b, o, rfl, hbl, hc⟩ := bts_open (HR.out.below HO.out.hb) (by omega)
      obtain ⟨e0, e1⟩ := hc k hkr
      have hmem := List.getElem_mem hkr
      obtain ⟨r, hr⟩ : ∃ r, rs[k] = r := ⟨_, rfl⟩
      have HSK : Hid (sc k = scV r.1 r.2.2.1 now) := Lib.hid (by rw [← HSC.out]; unfold scF; rw [List.getElem?_eq_getElem hkr, hr])
      have HEK : Hid (erF rs now k = rgtE r.1 r.2.2.1 now) := Lib.hid (by unfold erF; rw [List.getElem?_eq_getElem hkr, hr])
      rw [hr] at e0 e1 hmem
      have HB3 := bts_below HBT.out HO.out.hb r hmem
      have HL30 := H30.out r hmem
      obtain ⟨L, Ax, xs, cx⟩ := r
      simp only at e0 e1 HSK HEK HB3 HL30
      have HRX := Lib.hid (row_up15 HB3.1 (.cells #[.int .i64 L, .slice Ax xs.length cx] 27))
      have HC := Lib.hid (fun W hr => score_all L xs _ cx Ax rfl (by omega) HB3.2.2 now W hr)
      unfold bC at HC
      have hes : rgtE L xs now = 0 ∨ rgtE L xs now = 2 := by
        rcases rgt_cases L xs now with h | h
        · exact Or.inl h.1
        · exact Or.inr h
      rw [← HSK.out] at HC
      generalize rgtE L xs now = er at *
      obtain ⟨z, hz⟩ : ∃ z, sc k = z := ⟨_, rfl⟩
      rw [hz] at HC
      have HZ := Lib.hid hz
      have HOA := Lib.hid (HO.out.below ((Below.refl _ _).alloc (Nat.le_refl _) (.cells #[.int .i64 L, .slice Ax xs.length cx] 27)))
      clear hc hr hmem HB3 HL30 HSK hz
      rcases hes with rfl | rfl
      rotate_left
      · go_wp2_with fail
        refine (HC.out _ HRX.out).mono ?_
        rintro e w2 ⟨rfl, hb2⟩
        have HO2 := Lib.hid (HOA.out.below hb2)
        clear hb2
        go_wp2
        go_ret2
        exact Or.inr ⟨fun h => by have := h k (by omega); rw [HEK.out] at this; omega, rfl, HO2.out.hb⟩
      · go_wp2_with fail
        refine (HC.out _ HRX.out).mono ?_
        rintro e w2 ⟨rfl, hb2⟩
        have HO2 := Lib.hid (HOA.out.below hb2)
        clear hb2 e0 e1
        have d0 : w2.cell? ⟨gd, k, none⟩ = some (.int .i64 0) := (HO2.out.hd.cell k).trans (rowN_get (dL_at hlt))
        have d1 : w2.cell? ⟨gb, k, none⟩ = some (.float .f64 0) := (HO2.out.hf.cell k).trans (by rw [List.getElem?_toArray, List.getElem?_map, dX_at hlt]; rfl)
        have d2 : w2.cell? ⟨gs, 0, none⟩ = some (.slice (some ⟨gb, 0, none⟩) n n) := HO2.out.hs.cell 0
        have f0 := HO2.out.hd.frozen k
        have f1 := HO2.out.hf.frozen k
        have n1 : gd ≠ gb := fun e => HO2.out.h2 e.symm
        have n2 := HO2.out.h2
        go_wp2_with fail
        have HOD : Hid (OrB w w2.drew gd gs gb n (dL k n) (dX sc k n)) := Lib.hid (HO2.out.below (Below.refl _ _).drew)
        have HE2 : Hid (∀ y, y < k + 1 → erF rs now y = 0) := Lib.hid (fun y hy => by
          rcases Nat.lt_or_ge y k with h | h
          · exact HE.out y h
          · rw [show y = k by omega]; exact HEK.out)
        have hgd := HO2.out.hd.far (p := ⟨gb, k, none⟩) n1 (.float .f64 (fnat z))
        have hgb := HO2.out.hf.far (p := ⟨gd, k, none⟩) n2 (.int .i64 (k : Int))
        have d1' : (w2.setCell ⟨gd, k, none⟩ (.int .i64 (k : Int))).cell? ⟨gb, k, none⟩ = some (.float .f64 0) := (hgb.cell k).trans (by rw [List.getElem?_toArray, List.getElem?_map, dX_at hlt]; rfl)
        have f1' := hgb.frozen k
        have d0' : (w2.setCell ⟨gb, k, none⟩ (.float .f64 (fnat z))).cell? ⟨gd, k, none⟩ = some (.int .i64 0) := (hgd.cell k).trans (rowN_get (dL_at hlt))
        have f0' := hgd.frozen k
        have f1'' : ((w2.setCell ⟨gd, k, none⟩ (.int .i64 (k : Int))).drew).frozen? ⟨gb, k, none⟩ = false := hgb.frozen k
        have f0'' : ((w2.setCell ⟨gb, k, none⟩ (.float .f64 (fnat z))).drew).frozen? ⟨gd, k, none⟩ = false := hgd.frozen k
        have d1'' : ((w2.setCell ⟨gd, k, none⟩ (.int .i64 (k : Int))).drew).cell? ⟨gb, k, none⟩ = some (.float .f64 0) := d1'
        have d0'' : ((w2.setCell ⟨gb, k, none⟩ (.float .f64 (fnat z))).drew).cell? ⟨gd, k, none⟩ = some (.int .i64 0) := d0'
        have d2' : (w2.setCell ⟨gd, k, none⟩ (.int .i64 (k : Int))).cell? ⟨gs, 0, none⟩ = some (.slice (some ⟨gb, 0, none⟩) n n) := (HO2.out.hs.far (p := ⟨gd, k, none⟩) (fun e => HO2.out.h1 e.symm) (.int .i64 (k : Int))).cell 0
        have n3 := HO2.out.h1
        have n4 : gs ≠ gd := fun e => n3 e.symm
        clear hgd hgb
        have hsf : ∀ (a : Addr) (x : Nat) (W : World), (store a (.float .f64 x)).run Try.prog W = stored Try.prog W a (.float .f64 x) .plain := fun a x W => run_store Try.prog W a _ _ rfl
        go_region_law (fail)
        all_goals
          go_wp2
          go_roundw
          case rel =>
            first
              | exact ⟨k + 1, by omega, by go_num, HE2, Lib.hid (by have h := OrB.put (k := k) (s := z) HOD.out; rw [← HZ.out, dL_set hlt, dX_set hlt] at h; rw [HZ.out] at h; exact h)⟩
              | exact ⟨k + 1, by omega, by go_num, HE2, Lib.hid (by have h := OrB.put' (k := k) (s := z) HOD.out; rw [← HZ.out, dL_set hlt, dX_set hlt] at h; rw [HZ.out] at h; exact h)⟩
          case measure => simp [intOf]; omega
    · obtain rfl : k = n := by omega
      have HOK : Hid (∀ y, y < rs.length → erF rs now y = 0) := Lib.hid (by rw [← HN.out]; exact HE.out)
      rcases Nat.eq_zero_or_pos k with h0 | h0
      · subst h0
        have HS0 := Lib.hid (fun W => sort_none15 gd gs 0 W)
        have hr0 : rs.length = 0 := HN.out.symm
        go_wp2_with fail
        refine (HS0.out _).mono ?_
        rintro e w2 ⟨rfl, rfl⟩
        go_wp2
        go_ret2
        exact Or.inl ⟨HOK.out, some ⟨gd, 0, none⟩, 0, by rw [hr0]; rfl, by rw [hr0]; exact Or.inl rfl, by omega, HO.out.hb⟩
      · have HS : Hid (ScA wr gd gs gb 0 k k sc) := Lib.hid ⟨HO.out.hs, fun y hy => by rw [Nat.zero_add]; exact (HO.out.hf.cell y).trans (dX_end hy), fun y _ => ⟨(HSW.out y).1, by have := (HSW.out y).2; omega⟩, fun e => HO.out.h1 e.symm, HO.out.h2, HO.out.hf.lt⟩
        have HST := Lib.hid (sort_any15 gd gs gb 0 k k k sc h0 hn20 wr HS.out (by have := HO.out.hd; rw [dL_end] at this; exact this))
        go_wp2_with fail
        refine (HST.out).mono ?_
        rintro e w2 ⟨rfl, hd2, hg2⟩
        have HD2 := Lib.hid hd2
        have HB2 : Hid (Below w.heap.size w w2) := Lib.hid (below_grown HO.out.hb hg2 HO.out.hb.size HO.out.b1)
        clear hd2 hg2
        go_wp2
        go_ret2
        exact Or.inl ⟨HOK.out, some ⟨gd, 0, none⟩, k, by rw [← HN.out]; rfl, by rw [HSC.out, ← HN.out]; exact row_blk15 HD2.out, by have := HN.out; omega, HB2.out⟩
end Go.Proofs.Ytkfapcigfgfeaaa
