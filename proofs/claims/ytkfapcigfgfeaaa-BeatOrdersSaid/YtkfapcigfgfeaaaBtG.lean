/- BtG: Beats made of a time and bits; what the chapter's example fixes is true. -/
import Derived.Test.YtkfapcigfgfeaaaBtF
import Derived.Deep.RegionLaw
namespace Go.Proofs.Ytkfapcigfgfeaaa
open Go.RowKit Flo Mem
set_option maxRecDepth 100000
set_option maxHeartbeats 1000000
set_option linter.unusedVariables false
def uW (x : Int) : Value := .int .u64 x
def OfP (last : Int) (xs : List Int) (w : World) (e : Ending) (w' : World) : Prop :=
  ∃ A c, e = .returned (.agg (bC last A xs.length c)) ∧ OwnF w.heap.size xs (.slice A xs.length c) w' ∧ Below w.heap.size w w'
/-- What stands between two rounds: the result's block, the beats' block, the times so far. -/
structure OfI (w wr : World) (last : Int) (ys : List Int) (A : Option Addr) (k c : Nat) : Prop where
  hz : Blk wr w.heap.size 27 #[.int .i64 0, .slice none 0 0]
  hp : Blk wr (w.heap.size + 1) 27 #[.int .i64 last, .slice A k c]
  ho : wr.ownsRow (w.heap.size + 2) 29 1 (.slice A k c) k (ys.map fv)
  hb : Below w.heap.size w wr
  hs : w.heap.size + 2 ≤ wr.heap.size
theorem ownSet1 {w : World} {B g i n : Nat} {v : Value} {xs : List Value} {e : TypeId} (h : w.ownsRow B e 1 v n xs) (hg : g < B) (x : Value) : (w.setCell ⟨g, i, none⟩ x).ownsRow B e 1 v n xs := by
  refine World.ownsRow.kept h (grown_set w g i x) ?_
  rcases h.2 with ⟨rfl, _⟩ | ⟨g', cap, cur, rfl, hb, _⟩
  · exact Or.inl rfl
  · refine Or.inr fun e => ?_
    have : g' = g := by simpa [Value.ownBlock] using e
    omega
theorem of_step {w wr w6 : World} {last : Int} {ys : List Int} {A : Option Addr} {k c : Nat} {o : Obj} {v' : Value} {x : Int} (I : OfI w wr last ys A k c) (hown : w6.ownsRow (w.heap.size + 2) 29 1 v' (k + 1) (ys.map fv ++ [fv x]))
    (hgr : (wr.drew.alloc o).grownBy w6 (Value.slice A k c).ownBlock) :
    ∃ A6 c6, v' = .slice A6 (k + 1) c6 ∧ Blk w6 (w.heap.size + 1) 27 #[.int .i64 last, .slice A k c] ∧ OfI w (w6.setCell ⟨w.heap.size + 1, 1, none⟩ (.slice A6 (k + 1) c6)) last (ys ++ [x]) A6 (k + 1) c6 := by
  obtain ⟨A6, c6, rfl, _⟩ := ownShape hown
  have hne : ∀ g, g < w.heap.size + 2 → some g ≠ (Value.slice A k c).ownBlock := by
    intro g hg e
    have := (I.ho.lt g e.symm).1
    omega
  have hp6 : Blk w6 (w.heap.size + 1) 27 #[.int .i64 last, .slice A k c] := (I.hp.drew.alloc o).grown hgr (hne _ (by omega))
  have hz6 : Blk w6 w.heap.size 27 #[.int .i64 0, .slice none 0 0] := (I.hz.drew.alloc o).grown hgr (hne _ (by omega))
  have hb6 : Below w.heap.size w w6 := (I.hb.drew.alloc (by have := I.hs; show w.heap.size ≤ wr.heap.size; omega) o).grown hgr (by rw [World.size_alloc]; have := I.hs; show w.heap.size ≤ wr.heap.size + 1; omega) fun g hg => by have := (I.ho.lt g hg).1; omega
  have hs6 : w.heap.size + 2 ≤ w6.heap.size := by
    have h1 := hgr.size
    rw [World.size_alloc] at h1
    have h2 : wr.drew.heap.size = wr.heap.size := rfl
    have := I.hs
    omega
  refine ⟨A6, c6, rfl, hp6, hz6.far (by show w.heap.size ≠ w.heap.size + 1; omega) _, ?_, ?_, below_set hb6 (by omega) 1 _, Nat.le_trans hs6 (grown_set w6 (w.heap.size + 1) 1 _).size⟩
  · have := hp6.set_ 1 (.slice A6 (k + 1) c6)
    simpa using this
  · rw [List.map_append]
    exact ownSet1 hown (by omega) _
theorem of_any15 (last : Int) (xs : List Int) (n c : Nat) (A : Option Addr) (hn : n = xs.length) (hl : xs.length ≤ 200) (w : World) (h : Row w w.heap.size A (xs.map uW)) :
    Calls Try.prog 10 #[.int .i64 last, .slice A n c] w (OfP last xs w) := by
  subst hn
  obtain ⟨i0, hi0, hz0, hz1, hz2⟩ := info_parts info_f
  have hf := run_frombits
  have HR := Lib.hid h
  have hnl : (xs.length : Int) ≤ 200 := by omega
  clear h
  go_enter Try.func10, Try.ntmps10
  go_wp2
  go_loopw [6] (fun i wr => ∃ (k : Nat) (A1 : Option Addr) (c1 : Nat), k ≤ xs.length ∧ i = .int .i64 k ∧ Hid (OfI w wr last (xs.take k) A1 k c1)) (fun i _ => xs.length - (intOf i).toNat)
  case atStart =>
    refine ⟨0, none, 0, by omega, rfl, Lib.hid ⟨(Blk.new _ _ _).alloc _, ?_, World.ownsRow_nil _ _ _ _, ((Below.refl _ _).alloc (Nat.le_refl _) _).alloc (by simp) _, by simp⟩⟩
    have := Blk.new (w.alloc (.cells #[.int .i64 0, .slice none 0 0] 27)) 27 #[.int .i64 last, .slice none 0 0]
    simpa using this
  case round =>
    obtain ⟨k, A1, c1, hk, rfl, HI⟩ := hrel
    have b0 : wr.cell? ⟨w.heap.size + 1, 0, none⟩ = some (.int .i64 last) := HI.out.hp.cell 0
    have b1 : wr.cell? ⟨w.heap.size + 1, 1, none⟩ = some (.slice A1 k c1) := HI.out.hp.cell 1
    have z0 : wr.cell? ⟨w.heap.size, 0, none⟩ = some (.int .i64 0) := HI.out.hz.cell 0
    have z1' : wr.cell? ⟨w.heap.size, 1, none⟩ = some (.slice none 0 0) := HI.out.hz.cell 1
    have f0 := HI.out.hz.frozen 0
    have f1 := HI.out.hz.frozen 1
    by_cases hlt : k < xs.length
    · obtain ⟨b, o, rfl, hbl, hc⟩ := HR.out.open_ (by simp; omega)
      obtain ⟨x, hx⟩ : ∃ x, xs[k] = x := ⟨_, rfl⟩
      have hcell : wr.cell? ⟨b, o + k, none⟩ = some (.int .u64 x) := (HI.out.hb.cell (p := ⟨b, o + k, none⟩) (by show b < w.heap.size; omega)).trans ((hc k (by simpa using hlt)).trans (by rw [← hx]; exact congrArg some (List.getElem_map (f := uW) (h := by simpa using hlt))))
      have hki : (0 : Int) ≤ (k : Int) := by omega
      have hki2 : (k : Int) < (xs.length : Int) := by omega
      have HT : Hid (xs.take (k + 1) = xs.take k ++ [x]) := Lib.hid (by rw [List.take_succ_eq_append_getElem hlt, hx])
      have HOD : Hid (wr.drew.ownsRow (w.heap.size + 2) 29 1 (.slice A1 k c1) k ((xs.take k).map fv)) := Lib.hid HI.out.ho
      have HRX : Hid (Row (wr.drew.alloc (.cells #[.float .f64 (fnat x)] 29)) (wr.heap.size + 1) (some ⟨wr.heap.size, 0, none⟩) ([x].map fv)) := Lib.hid (row_cells (w := wr.drew) (cs := #[.float .f64 (fnat x)]) rfl)
      have HSZ : Hid (w.heap.size + 2 ≤ (wr.drew.alloc (.cells #[.float .f64 (fnat x)] 29)).heap.size) := Lib.hid (by rw [World.size_alloc]; have := HI.out.hs; show w.heap.size + 2 ≤ wr.heap.size + 1; omega)
      have hsz : w.heap.size + 1 < wr.heap.size := HI.out.hs
      have hbw : b < wr.heap.size := by have := HI.out.hs; omega
      clear hc hx
      go_wp2_with fail
      go_region_law (refine step_app _ (by rfl) _ _ 25 (by rfl) (w.heap.size + 2) 29 i0 (.float .f64 0) 8 Try.underlying25 hi0 hz0 hz1 hz2 rfl (.slice A1 k c1) k ((xs.take k).map fv) (by rfl) (show World.ownsRow _ _ _ _ _ _ _ from HOD.out.alloc _) (wr.heap.size + 1) (some ⟨wr.heap.size, 0, none⟩) 1 1 ([x].map fv) (by rfl) (by rfl) (show Row _ _ _ _ from HRX.out) (fv_one _) (by unfold maxLen; omega) (by omega) (by exact HSZ.out) ?_; intro v' w6 hown hgr hat; (have HF := Lib.hid (of_step (x := x) (o := .cells #[.float .f64 (fnat x)] 29) HI.out hown (show World.grownBy _ _ _ from ⟨hgr.os, hgr.tape, hgr.output, hgr.size, hgr.block⟩))); obtain ⟨A6, c6, rfl, hp6, _⟩ := of_step (x := x) (o := .cells #[.float .f64 (fnat x)] 29) HI.out hown (show World.grownBy _ _ _ from ⟨hgr.os, hgr.tape, hgr.output, hgr.size, hgr.block⟩); (have d1 : w6.cell? ⟨w.heap.size + 1, 1, none⟩ = some (.slice A1 k c1) := hp6.cell 1); (have y1 := hp6.frozen 1); clear hown hgr hat hp6)
      all_goals
        have HF2 : Hid (OfI w (w6.setCell ⟨w.heap.size + 1, 1, none⟩ (.slice A6 (k + 1) c6)) last (xs.take (k + 1)) A6 (k + 1) c6) := Lib.hid (by
          obtain ⟨A7, c7, e, _, h⟩ := HF.out
          injection e with e1 e2 e3
          subst e1; subst e3
          rw [HT.out]; exact h)
        clear HF
        go_wp2
        go_roundw
        case rel => exact ⟨k + 1, A6, c6, by omega, by go_num, HF2⟩
        case measure => simp [intOf]; omega
    · have hlt2 : (xs.length : Int) ≤ (k : Int) := by omega
      obtain rfl : k = xs.length := by omega
      have HO : Hid (OwnF w.heap.size xs (.slice A1 xs.length c1) wr) := Lib.hid (by have := HI.out.ho; rw [List.take_length] at this; exact ownBase this (by omega))
      have HO2 := HI.out.ho
      rw [List.take_length] at HO2
      have HOW : Hid (OwnF (w.heap.size + 2) xs (.slice A1 xs.length c1) wr) := Lib.hid HO2
      have HZ := Lib.hid HI.out.hz
      have HBL := Lib.hid HI.out.hb
      clear HO2
      go_wp2
      have hfin := blkSet2 HZ.out (.int .i64 last) (.slice A1 xs.length c1)
      have g0 := hfin.cell 0
      have g1 := hfin.cell 1
      refine bodyPost_ret (v := .agg (bC last A1 xs.length c1)) (by simp [results, Try.results10, go_sem, g0, g1, bC]) rfl ⟨A1, c1, rfl, ?_, below_set2 HBL.out (by omega) _ _⟩
      exact ownBase (ownFSet2 HOW.out (by omega) (.int .i64 last) (.slice A1 xs.length c1)) (by omega)
end Go.Proofs.Ytkfapcigfgfeaaa
