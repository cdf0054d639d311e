/- Where a word begins among points, by Go's binary search and by the document's loop. -/
import Derived.Test.YtafajikjojpaaaaRgB
import Derived.Test.YtafajikjojpaaaaLay9
import Derived.Shelf.SlSorted.Search
import Derived.RegionTactic
import Derived.Deep.RegionHeld3
namespace Go.Proofs.Ytafajikjojpaaaa
open Go.RowKit Mem Rg Go.Lib Go.Sort
set_option maxRecDepth 100000
set_option maxHeartbeats 2000000
set_option linter.unusedVariables false
theorem segclo_any (g1 g2 b o n c : Nat) (h x : Nat) (i : Nat) (W : World) (hi : i < n)
    (ha : W.cell? ⟨g1, 0, none⟩ = some (.slice (some ⟨b, o, none⟩) n c)) (hx : W.cell? ⟨g2, 0, none⟩ = some (.int .u64 (h : Int))) (hc : W.cell? ⟨b, o + i * 2, none⟩ = some (.int .u64 (x : Int))) :
    Calls Try.prog 94 (#[.int .i64 i] ++ #[.pointer (some ⟨g1, 0, none⟩), .pointer (some ⟨g2, 0, none⟩)]) W fun e w' => e = .returned (.bool (decide ((h : Int) ≤ (x : Int)))) ∧ ∃ q, w' = W.drewN q := by
  have hiz : (i : Int) < (n : Int) := by omega
  have hi0 : (0 : Int) ≤ (i : Int) := by omega
  go_enter Try.func94, Try.ntmps94
  go_wp2
  go_quiet (fail)
  go_wp2
  go_ret
  exact ⟨by first | rfl | simp, nq, rfl⟩
theorem at_get {l : List Pt} {i : Nat} (h : i < l.length) : l.toArray[i]! = l[i] := by
  rw [getElem!_pos l.toArray i (by simpa using h)]; simp
theorem segment_any (l : List Pt) (hs : SL l) (h : Nat) (n c : Nat) (A : Option Addr) (hn : n = l.length) (hp : 0 < n) (hl : n ≤ 1000000) (w : World) (hr : Row w w.heap.size A (ptsC l)) :
    Calls Try.prog 80 #[.slice A n c, .int .u64 (h : Int)] w fun e w' => e = .returned (.int .i64 (firstP l h : Nat)) ∧ Below w.heap.size w w' := by
  obtain ⟨b, o, rfl, hb, hc⟩ := pts_open hr (by omega)
  have hW0 : ∃ W0, (w.alloc (.cells #[.slice (some ⟨b, o, none⟩) n c] 69)).alloc (.cells #[.int .u64 (h : Int)] 75) = W0 := ⟨_, rfl⟩
  obtain ⟨W0, hW0⟩ := hW0
  have hsz : W0.heap.size = w.heap.size + 2 := by rw [← hW0]; simp
  have k1 : Blk W0 w.heap.size 69 #[.slice (some ⟨b, o, none⟩) n c] := by rw [← hW0]; exact (Blk.new _ _ _).alloc _
  have k2 : Blk W0 (w.heap.size + 1) 75 #[.int .u64 (h : Int)] := by
    rw [← hW0]
    have := Blk.new (w.alloc (.cells #[.slice (some ⟨b, o, none⟩) n c] 69)) 75 #[.int .u64 (h : Int)]
    simpa using this
  have hB : Below w.heap.size w W0 := by rw [← hW0]; exact ((Below.refl _ _).alloc (Nat.le_refl _) _).alloc (by simp) _
  have hcell : ∀ i (hi : i < l.length), W0.cell? ⟨b, o + i * 2, none⟩ = some (.int .u64 (l[i].1 : Int)) := fun i hi => by rw [hB.cell (p := ⟨b, o + i * 2, none⟩) hb]; exact (hc i hi).1
  have eg : ∀ args w, (callFunc 94 args).run Try.prog w = .ok (.enter 94 args) w := enters_of Try.func94 (by kernel_rfl) rfl
  have hdr : ∃ W1, W0.drewN 1 = W1 := ⟨_, rfl⟩
  have key : ∀ W1 : World, Below W0.heap.size W0 W1 → Calls Try.prog 93 #[.int .i64 n, .func (.func 94) #[] #[.pointer (some ⟨w.heap.size, 0, none⟩), .pointer (some ⟨w.heap.size + 1, 0, none⟩)]] W1 fun e w' => e = .returned (.int .i64 (cntP l h : Nat)) ∧ Below W1.heap.size W1 w' := fun W1 hb1 => by
    have hS := Any.sort_Search Try.search 94 #[.pointer (some ⟨w.heap.size, 0, none⟩), .pointer (some ⟨w.heap.size + 1, 0, none⟩)] n (fun i => decide ((h : Int) ≤ ((l.toArray[i]!).1 : Int))) W1 eg (by omega)
      (fun m os i hi => (segclo_any w.heap.size (w.heap.size + 1) b o n c h (l.toArray[i]!).1 i _ hi (cell_grown (by show w.heap.size < _; have := hb1.size; omega) ((k1.below hb1 (by omega)).cell 0) m os) (cell_grown (by show w.heap.size + 1 < _; have := hb1.size; omega) ((k2.below hb1 (by omega)).cell 0) m os) (cell_grown (by show b < _; have := hb1.size; omega) (by rw [hb1.cell (p := ⟨b, o + i * 2, none⟩) (by show b < _; omega), at_get (by omega)]; exact hcell i (by omega)) m os)).mono
        fun _ _ ⟨he, q, hq⟩ => ⟨he, q, #[], by rw [hq, grow_empty]⟩)
      (fun a b' hab hb' h2 => by
        have := sl_le hs a b' (by omega) (by omega) hab
        rw [at_get (by omega)] at h2 ⊢
        simp only [decide_eq_true_eq] at h2 ⊢
        omega)
    refine Calls.mono (show Calls Try.prog 93 _ W1 _ from hS) ?_
    rintro e w' ⟨rfl, q, os, rfl⟩
    refine ⟨?_, ?_⟩
    · have e1 := countP_range l.toArray (fun p : Pt => !decide ((h : Int) ≤ (p.1 : Int)))
      have e2 : l.toArray.size = n := by simp [hn]
      rw [e2] at e1
      rw [e1]
      congr 3
      unfold cntP
      congr 1
      funext p
      rw [Bool.eq_iff_iff]
      simp
    · exact below_grown_sl _ _ _ _ (Nat.le_refl _)
  have HKEY := Lib.hid key
  have h0 : W0.cell? ⟨w.heap.size, 0, none⟩ = some (.slice (some ⟨b, o, none⟩) n c) := k1.cell 0
  have f0 := k1.frozen 0
  have HK1 := Lib.hid k1
  have HB := Lib.hid hB
  have HW := Lib.hid hW0
  have HN := Lib.hid hn
  have hcl := cntP_le l h
  have hrem : (cntP l h : Int).tmod (n : Int) = (firstP l h : Int) := by
    unfold firstP
    rw [← hn, Int.tmod_eq_emod_of_nonneg (by omega)]
    omega
  have hrem2 : (cntP l h : Int) % (n : Int) = (firstP l h : Int) := by
    unfold firstP
    rw [← hn]
    omega
  have hcn : (cntP l h : Int) ≤ (n : Int) := by omega
  have hpn : (0 : Int) < (n : Int) := by omega
  have hln : (n : Int) ≤ 1000000 := by omega
  generalize firstP l h = F at hrem hrem2 ⊢
  generalize cntP l h = C at hrem hrem2 HKEY hcn
  clear k1 k2 hB hcell hdr key hW0 hcl hn hl hp hc hb eg hs hr
  go_enter Try.func80, Try.ntmps80
  go_wp2
  rw [HW.out]
  go_region_with (go_at_call 93; refine (HKEY.out _ (by exact ⟨rfl, rfl, rfl, Nat.le_refl _, fun _ _ => rfl⟩)).mono ?_; rintro e w1 ⟨rfl, hb1⟩; have HB1 := Lib.hid hb1; (have h0' : w1.cell? ⟨w.heap.size, 0, none⟩ = some (.slice (some ⟨b, o, none⟩) n c) := (hb1.cell (p := ⟨w.heap.size, 0, none⟩) (by show w.heap.size < W0.heap.size; omega)).trans h0); clear hb1)
  all_goals go_wp2
  all_goals go_ret
  all_goals exact ⟨rfl, (HB.out.trans (by exact ⟨rfl, rfl, rfl, Nat.le_refl _, fun _ _ => rfl⟩)).trans ((HB1.out.mono (by show w.heap.size ≤ W0.heap.size; omega)).trans (by exact ⟨rfl, rfl, rfl, Nat.le_refl _, fun _ _ => rfl⟩))⟩
end Go.Proofs.Ytafajikjojpaaaa
