/- One node less, by the program. -/
import Derived.Test.YthnfinnlnkjomaaRgK
namespace Go.Proofs.Ythnfinnlnkjomaa
open Go.RowKit Mem Rg
set_option maxRecDepth 100000
set_option maxHeartbeats 8000000
set_option linter.unusedVariables false
def withoutL (ns : List Int) (i : Nat) : List Int := ns.take i ++ ns.drop (i + 1)
theorem withoutL_len (ns : List Int) (i : Nat) (h : i < ns.length) : (withoutL ns i).length = ns.length - 1 := by
  unfold withoutL; simp; omega
theorem without_none (A : Option Addr) (n c : Nat) (ns : List Int) (e k x : Int) (hf : x ∉ ns) (hn : n = ns.length) (hl : n ≤ 1000) (w : World) (h : Row w w.heap.size A (ns.map iV)) :
    Calls Try.prog 28 #[.agg #[.slice A n c, .int .i64 e, .int .i64 k], .int .i64 x] w (RingN 4 w) := by
  have HBS := Lib.hid fun W (hb : Below w.heap.size w W) => index_none _ c n A ns x hn (by omega) hf W (h.below hb)
  have hb0 : Below w.heap.size w ((w.alloc (.cells #[.slice A n c, .int .i64 e, .int .i64 k] 24)).alloc (.cells #[.slice none 0 0, .int .i64 0, .int .i64 0] 24)) := ((Below.refl _ _).alloc (Nat.le_refl _) _).alloc (by simp) _
  have hz0 : Blk ((w.alloc (.cells #[.slice A n c, .int .i64 e, .int .i64 k] 24)).alloc (.cells #[.slice none 0 0, .int .i64 0, .int .i64 0] 24)) (w.heap.size + 1) 24 #[.slice none 0 0, .int .i64 0, .int .i64 0] := blk_at' (by simp) (Blk.new _ _ _)
  have HB0 := Lib.hid hb0
  have HZ0 := Lib.hid hz0
  clear h hn hb0 hz0 hf
  go_enter Try.func28, Try.ntmps28
  go_wp2_with fail
  refine (HBS.out _ HB0.out).mono ?_
  rintro e1 w1 ⟨rfl, hw1⟩
  have HB1 : Hid (Below w.heap.size w w1) := Lib.hid (by rw [← hw1]; exact HB0.out)
  have HZ1 : Hid (Blk w1 (w.heap.size + 1) 24 #[.slice none 0 0, .int .i64 0, .int .i64 0]) := Lib.hid (by rw [← hw1]; exact HZ0.out)
  clear hw1
  have z0 : w1.cell? ⟨w.heap.size + 1, 0, none⟩ = some (.slice none 0 0) := HZ1.out.cell 0
  have z1 : w1.cell? ⟨w.heap.size + 1, 1, none⟩ = some (.int .i64 0) := HZ1.out.cell 1
  have z2 : w1.cell? ⟨w.heap.size + 1, 2, none⟩ = some (.int .i64 0) := HZ1.out.cell 2
  have f0 := HZ1.out.frozen 0
  have f1 := HZ1.out.frozen 1
  have f2 := HZ1.out.frozen 2
  go_wp2
  have hfin := blkSet3 HZ1.out (.slice none 0 0) (.int .i64 0) (.int .i64 0)
  have g0 := hfin.cell 0
  have g1 := hfin.cell 1
  have g2 := hfin.cell 2
  refine bodyPost_ret (v := .tuple #[.agg #[.slice none 0 0, .int .i64 0, .int .i64 0], .int .i64 4]) (by simp [results, Try.results28, go_sem, g0, g1, g2]) rfl ⟨rfl, below_set3 HB1.out (by omega) _ _ _⟩
theorem without_any (A : Option Addr) (n c : Nat) (ns : List Int) (e k x : Int) (i : Nat) (hi : i < ns.length) (he : ns[i] = x) (hf : ∀ t (h : t < ns.length), t < i → ns[t] ≠ x) (hn : n = ns.length) (hl : n ≤ 1000) (hnc : n ≤ c) (w : World) (h : Row w w.heap.size A (ns.map iV)) :
    Calls Try.prog 28 #[.agg #[.slice A n c, .int .i64 e, .int .i64 k], .int .i64 x] w (RingR (withoutL ns i) e k w) := by
  have HBS := Lib.hid fun W (hb : Below w.heap.size w W) => index_some _ c n A ns x i hn (by omega) hi he hf W (h.below hb)
  have hb0 : Below w.heap.size w ((w.alloc (.cells #[.slice A n c, .int .i64 e, .int .i64 k] 24)).alloc (.cells #[.slice none 0 0, .int .i64 0, .int .i64 0] 24)) := ((Below.refl _ _).alloc (Nat.le_refl _) _).alloc (by simp) _
  have hk0 : Blk ((w.alloc (.cells #[.slice A n c, .int .i64 e, .int .i64 k] 24)).alloc (.cells #[.slice none 0 0, .int .i64 0, .int .i64 0] 24)) w.heap.size 24 #[.slice A n c, .int .i64 e, .int .i64 k] := (Blk.new _ _ _).alloc _
  have hz0 : Blk ((w.alloc (.cells #[.slice A n c, .int .i64 e, .int .i64 k] 24)).alloc (.cells #[.slice none 0 0, .int .i64 0, .int .i64 0] 24)) (w.heap.size + 1) 24 #[.slice none 0 0, .int .i64 0, .int .i64 0] := blk_at' (by simp) (Blk.new _ _ _)
  have HB0 := Lib.hid hb0
  have HK0 := Lib.hid hk0
  have HZ0 := Lib.hid hz0
  have HROW := Lib.hid h
  have HN := Lib.hid hn
  obtain ⟨i1, hi1⟩ : ∃ i1, i + 1 = i1 := ⟨_, rfl⟩
  have HI1 := Lib.hid hi1
  have HI := Lib.hid hi
  clear h hn hb0 hk0 hz0 he hf hi1
  go_enter Try.func28, Try.ntmps28
  go_wp2_with fail
  refine (HBS.out _ HB0.out).mono ?_
  rintro e1 w1 ⟨rfl, hw1⟩
  have hsz : w1.heap.size = w.heap.size + 2 := by rw [← hw1]; simp
  have HB1 : Hid (Below w.heap.size w w1) := Lib.hid (by rw [← hw1]; exact HB0.out)
  have HK1 : Hid (Blk w1 w.heap.size 24 #[.slice A n c, .int .i64 e, .int .i64 k]) := Lib.hid (by rw [← hw1]; exact HK0.out)
  have HZ1 : Hid (Blk w1 (w.heap.size + 1) 24 #[.slice none 0 0, .int .i64 0, .int .i64 0]) := Lib.hid (by rw [← hw1]; exact HZ0.out)
  have hin : i < n := by have := HN.out; have := HI.out; omega
  have hi0 : (0 : Int) ≤ (i : Int) := by omega
  have hi4 : (i : Int) < (n : Int) := by omega
  have hlt0 : ¬ (i : Int) < 0 := by omega
  have hi5 : (n : Int) ≤ (c : Int) := by omega
  clear hw1
  have hi6 : IntKind.i64.wrap ((i : Int) + 1) = (i1 : Int) := by rw [← HI1.out]; exact IntWalk.i64_in _ (by omega)
  have hi7 : (i : Int) + 1 = (i1 : Int) := by have := HI1.out; omega
  have c0 : w1.cell? ⟨w.heap.size, 0, none⟩ = some (.slice A n c) := HK1.out.cell 0
  have c1 : w1.cell? ⟨w.heap.size, 1, none⟩ = some (.int .i64 e) := HK1.out.cell 1
  have c2 : w1.cell? ⟨w.heap.size, 2, none⟩ = some (.int .i64 k) := HK1.out.cell 2
  have z0 : w1.cell? ⟨w.heap.size + 1, 0, none⟩ = some (.slice none 0 0) := HZ1.out.cell 0
  have z1 : w1.cell? ⟨w.heap.size + 1, 1, none⟩ = some (.int .i64 0) := HZ1.out.cell 1
  have z2 : w1.cell? ⟨w.heap.size + 1, 2, none⟩ = some (.int .i64 0) := HZ1.out.cell 2
  have cut1 := fun W => run_cut_h (P := Try.prog) (w := W) 22 3 _ _ Try.underlying22 info_i A n c i (by omega)
  have cut2 := fun W => run_cut_l (P := Try.prog) (w := W) 22 3 _ _ Try.underlying22 info_i A n c i1 (by have := HI1.out; omega)
  have cut3 : ∀ W, (Instr.slice 22 (.slice A n c) (some (.int .i64 ((i : Int) + 1))) none none).run Try.prog W = .ok (.slice (cutA A i1 c) (n - i1) (c - i1)) W := fun W => by rw [hi7]; exact cut2 W
  have hrow : ∀ W, Below w1.heap.size w1 W → Row W W.heap.size A (ns.map iV) := fun W hb => (HROW.out.below (HB1.out.trans (hb.mono (by omega)))).more (by have := hb.size; omega)
  have HCON : Hid (Calls Try.prog 45 #[.slice (some ⟨w.heap.size + 2, 0, none⟩) 2 2] (w1.alloc (.cells #[.slice A i c, .slice (cutA A i1 c) (n - i1) (c - i1)] 22)).drew (fun e w' => ∃ A' c', e = .returned (.slice A' (n - 1) c') ∧ OwnI (w.heap.size + 2) (withoutL ns i) (.slice A' (n - 1) c') w' ∧ Below w1.heap.size w1 w')) := Lib.hid (by
    have hl1 : (withoutL ns i).length = n - 1 := by rw [withoutL_len ns i HI.out, HN.out]
    obtain ⟨W2, hW2⟩ : ∃ W2, (w1.alloc (.cells #[.slice A i c, .slice (cutA A i1 c) (n - i1) (c - i1)] 22)).drew = W2 := ⟨_, rfl⟩
    rw [hW2]
    have hb2 : Below w1.heap.size w1 W2 := by rw [← hW2]; exact ((Below.refl _ _).alloc (Nat.le_refl _) _).drew
    have hs2 : W2.heap.size = w.heap.size + 3 := by rw [← hW2]; show (w1.alloc _).heap.size = _; simp; omega
    have r0 := hrow W2 hb2
    have k2 : Blk W2 (w.heap.size + 2) 22 #[.slice A i c, .slice (cutA A i1 c) (n - i1) (c - i1)] := by
      rw [← hW2]; exact blk_at' hsz.symm (Blk.new w1 22 _)
    have hcc := concati_any W2.heap.size 2 2 (some ⟨w.heap.size + 2, 0, none⟩) [(A, ns.take i, c), (cutA A i1 c, ns.drop i1, c - i1)] rfl W2
      (Or.inr ⟨w.heap.size + 2, 0, rfl, by omega, fun j hj => by
        have e := k2.cell (0 + j)
        rw [e]
        have h3 : j = 0 ∨ j = 1 := by simp at hj; omega
        rcases h3 with rfl | rfl
        · simp [rowIV]; rw [Nat.min_eq_left (Nat.le_of_lt HI.out)]
        · simp [rowIV, HN.out]⟩) (Nat.le_refl _)
      (fun r hr => by
        simp only [List.mem_cons, List.not_mem_nil, or_false] at hr
        rcases hr with rfl | rfl
        · have := take_row r0 i
          rw [← List.map_take] at this
          exact this
        · have := cut_row r0 i1 c (by rw [List.length_map]; have := HN.out; omega)
          rw [← List.map_drop] at this
          exact this)
      (by have : catI [(A, ns.take i, c), (cutA A i1 c, ns.drop i1, c - i1)] = withoutL ns i := by simp [catI, withoutL, HI1.out]
          rw [this, hl1]; omega) (by omega)
    have ec : catI [(A, ns.take i, c), (cutA A i1 c, ns.drop i1, c - i1)] = withoutL ns i := by simp [catI, withoutL, HI1.out]
    rw [ec] at hcc
    refine hcc.mono ?_
    rintro e w' ⟨A', c', rfl, ho, hb⟩
    rw [hl1] at ho ⊢
    exact ⟨A', c', rfl, ownBase ho (by omega), hb2.trans (hb.mono (by omega))⟩)
  have HCHK := Lib.hid fun (A' : Option Addr) (c' : Nat) W (h : OwnI (w.heap.size + 2) (withoutL ns i) (.slice A' (n - 1) c') W) => checked_any A' (n - 1) c' (withoutL ns i) e k 0 (by rw [withoutL_len ns i HI.out, HN.out]) (by unfold maxLen; omega) W (by have h2 := h; unfold OwnI at h2; rw [withoutL_len ns i HI.out, ← HN.out] at h2; exact ownRow h2)
  have HLEN : Hid ((withoutL ns i).length = n - 1) := Lib.hid (by rw [withoutL_len ns i HI.out, HN.out])
  clear hrow hi7
  go_wp2_with fail
  go_region_held3 (fun w' => w'.cell? ⟨w.heap.size, 0, none⟩ = some (.slice A n c) ∧ w'.cell? ⟨w.heap.size, 1, none⟩ = some (.int .i64 e) ∧ w'.cell? ⟨w.heap.size, 2, none⟩ = some (.int .i64 k))
    (first | with_reducible exact ⟨c0, c1, c2⟩ | with_reducible exact ⟨d0, d1, d2⟩ | with_reducible exact ⟨e0, e1, e2⟩ | with_reducible exact ⟨far3c e0 (by omega), far3c e1 (by omega), far3c e2 (by omega)⟩ | go_keep)
    (first
      | (go_at_call 45; refine HCON.out.mono ?_; rintro e3 w3 ⟨A3, c3, rfl, ho3, hb3⟩; have HO3 := Lib.hid ho3; have HB3 := Lib.hid hb3; (have d0 : w3.cell? ⟨w.heap.size, 0, none⟩ = some (.slice A n c) := (HK1.out.below HB3.out HK1.out.lt).cell 0); (have d1 : w3.cell? ⟨w.heap.size, 1, none⟩ = some (.int .i64 e) := (HK1.out.below HB3.out HK1.out.lt).cell 1); (have d2 : w3.cell? ⟨w.heap.size, 2, none⟩ = some (.int .i64 k) := (HK1.out.below HB3.out HK1.out.lt).cell 2); clear ho3 hb3)
      | (go_at_call 44; refine (HCHK.out A3 c3 _ HO3.out).mono ?_; rintro e4 w4 ⟨A4, n4, c4, p4, k4, q4, rfl, hb4, h4, h5⟩; (have HB4 : Hid (Below w1.heap.size w1 w4) := Lib.hid (HB3.out.trans (hb4.mono HB3.out.size))); have HO4 := Lib.hid (own_later HO3.out hb4); have H45 := Lib.hid (And.intro h4 h5); (have e0 : w4.cell? ⟨w.heap.size, 0, none⟩ = some (.slice A n c) := (HK1.out.below HB4.out HK1.out.lt).cell 0); (have e1 : w4.cell? ⟨w.heap.size, 1, none⟩ = some (.int .i64 e) := (HK1.out.below HB4.out HK1.out.lt).cell 1); (have e2 : w4.cell? ⟨w.heap.size, 2, none⟩ = some (.int .i64 k) := (HK1.out.below HB4.out HK1.out.lt).cell 2); (have r0 : w4.cell? ⟨w.heap.size + 1, 0, none⟩ = some (.slice none 0 0) := (HZ1.out.below HB4.out HZ1.out.lt).cell 0); (have r1 : w4.cell? ⟨w.heap.size + 1, 1, none⟩ = some (.int .i64 0) := (HZ1.out.below HB4.out HZ1.out.lt).cell 1); (have r2 : w4.cell? ⟨w.heap.size + 1, 2, none⟩ = some (.int .i64 0) := (HZ1.out.below HB4.out HZ1.out.lt).cell 2); (have y0 := (HZ1.out.below HB4.out HZ1.out.lt).frozen 0); (have y1 := (HZ1.out.below HB4.out HZ1.out.lt).frozen 1); (have y2 := (HZ1.out.below HB4.out HZ1.out.lt).frozen 2); clear hb4 h4 h5))
  all_goals
    have hfin := blkSet3 (HZ1.out.below HB4.out HZ1.out.lt) (.slice A4 n4 c4) (.int .i64 p4) (.int .i64 k4)
    have g0 := hfin.cell 0
    have g1 := hfin.cell 1
    have g2 := hfin.cell 2
    have HB5 : Hid (Below w.heap.size w (((w4.setCell ⟨w.heap.size + 1, 0, none⟩ (.slice A4 n4 c4)).setCell ⟨w.heap.size + 1, 1, none⟩ (.int .i64 p4)).setCell ⟨w.heap.size + 1, 2, none⟩ (.int .i64 k4))) := Lib.hid (below_set3 (HB1.out.trans (HB4.out.mono (by omega))) (by omega) _ _ _)
    have HO5 : Hid (OwnI (w.heap.size + 2) (withoutL ns i) (.slice A3 (n - 1) c3) (((w4.setCell ⟨w.heap.size + 1, 0, none⟩ (.slice A4 n4 c4)).setCell ⟨w.heap.size + 1, 1, none⟩ (.int .i64 p4)).setCell ⟨w.heap.size + 1, 2, none⟩ (.int .i64 k4))) := Lib.hid (ownSet3 HO4.out (by omega) _ _ _)
    clear hfin
    go_wp2
    refine bodyPost_ret (v := .tuple #[.agg #[.slice A4 n4 c4, .int .i64 p4, .int .i64 k4], .int .i64 q4]) (by simp [results, Try.results28, go_sem, g0, g1, g2]) rfl ⟨fun ok => ?_, fun bad => ?_⟩
    · obtain ⟨rfl, rfl, rfl, rfl, rfl, rfl⟩ := H45.out.1 ok
      have hl2 := HLEN.out
      have ho := HO5.out
      rw [← hl2] at ho ⊢
      exact ⟨_, _, rfl, ownBase ho (by omega), by rw [hl2]; exact HB5.out⟩
    · obtain ⟨rfl, rfl, rfl, rfl, rfl, rfl⟩ := H45.out.2 bad
      exact ⟨rfl, HB5.out⟩
end Go.Proofs.Ythnfinnlnkjomaa
