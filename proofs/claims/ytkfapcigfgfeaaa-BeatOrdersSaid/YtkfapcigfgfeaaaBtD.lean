/- BtD: Floating-point numbers laid one behind the other in new memory (Go's slices.Concat); times copied, and one more. -/
import Derived.Test.YtkfapcigfgfeaaaBtC
namespace Go.Proofs.Ytkfapcigfgfeaaa
open Go.RowKit Flo Mem
set_option maxRecDepth 100000
set_option maxHeartbeats 4000000
set_option linter.unusedVariables false
theorem fv_one (l : List Int) : ∀ u ∈ l.map fv, u.oneCell' = true := by
  intro u hu
  obtain ⟨x, _, rfl⟩ := List.mem_map.1 hu
  rfl
abbrev RowFV := Option Addr × List Int × Nat
def rowFV (r : RowFV) : Value := .slice r.1 r.2.1.length r.2.2
def catF (rs : List RowFV) : List Int := rs.flatMap (fun r => r.2.1)
theorem catF_snoc (rs : List RowFV) (k : Nat) (h : k < rs.length) : catF (rs.take (k + 1)) = catF (rs.take k) ++ rs[k].2.1 := by
  unfold catF; rw [List.take_succ_eq_append_getElem h, List.flatMap_append]; simp
theorem catF_le (rs : List RowFV) (k : Nat) : (catF (rs.take k)).length ≤ (catF rs).length := by
  have : catF rs = catF (rs.take k) ++ catF (rs.drop k) := by unfold catF; rw [← List.flatMap_append, List.take_append_drop]
  rw [this, List.length_append]; omega
/-- A row of numbers of its own. -/
def OwnF (b : Nat) (ys : List Int) (v : Value) (w : World) : Prop := w.ownsRow b 29 1 v ys.length (ys.map fv)
def MadeF15 (B : Nat) (ys : List Int) (w : World) (e : Ending) (w' : World) : Prop := ∃ A c, e = .returned (.slice A ys.length c) ∧ OwnF B ys (.slice A ys.length c) w' ∧ Below B w w'
theorem madeF_of {B : Nat} {ys : List Int} {n : Nat} {w w1 : World} {v : Value} {xs : List Value} (ho : w1.ownsRow B 29 1 v n xs) (hx : xs = ys.map fv) (hb : Below B w w1) : MadeF15 B ys w (.returned v) w1 := by
  subst hx
  have hn : n = ys.length := by have := ho.1; simpa using this.symm
  subst hn
  obtain ⟨A, c, rfl, _⟩ := ownShape ho
  exact ⟨A, c, rfl, ho, hb⟩
def RoomF (w : World) (e : Ending) (w' : World) : Prop := ∃ A c, e = .returned (.slice A 0 c) ∧ w'.ownsRow w.heap.size 29 1 (.slice A 0 c) 0 [] ∧ Below w.heap.size w w'
theorem growf_any (n : Nat) (hn : n ≤ 1073741824) (w : World) : Calls Try.prog 53 #[.slice none 0 0, .int .i64 n] w (RoomF w) := by
  obtain ⟨i0, hi0, hz0, hz1, hz2⟩ := info_parts info_f
  have hnl : (n : Int) ≤ 1073741824 := by omega
  rcases Nat.eq_zero_or_pos n with h0 | h0
  · subst h0
    go_enter Try.func53, Try.ntmps53
    go_wp2
    go_ret
    exact ⟨none, 0, rfl, World.ownsRow_nil _ _ _ _, Below.refl _ _⟩
  · have hp : (0 : Int) < (n : Int) := by omega
    have hcut1 := fun W => run_cut_h (P := Try.prog) (w := W) 25 29 _ _ Try.underlying25 info_f none 0 0 0 (Nat.le_refl _)
    have hz := fun (w : World) => Lib.run_append_nil_zeros (P := Try.prog) w 25 3 25 29 i0 (.float .f64 0) .i64 .i64 Try.underlying25 Try.underlying3 hi0 hz0 n h0 (by omega) (by omega) (by rw [hz2]; omega)
    have HZ := Lib.hid hz
    have H1 := Lib.hid hz1
    clear hz
    have hcut2 := fun W c => run_cut_h (P := Try.prog) (w := W) 25 29 _ _ Try.underlying25 info_f (some ⟨w.heap.size, 0, none⟩) n c 0 (Nat.zero_le _)
    go_enter Try.func53, Try.ntmps53
    go_wp2_with (at_builtin; refine Lib.wpList_append_run _ rfl _ _ _ _ rfl _ _ rfl rfl _ _ (HZ.out _) ?_)
    go_ret
    have hge := grownCap_ge w n 0 29
    refine ⟨_, _, rfl, ?_, ((Below.refl _ _).alloc (Nat.le_refl _) _).drew⟩
    have := World.ownsRow_made (base := w.heap.size) (e := 29) (size := 1) w (Builtin.zeroCells #[.float .f64 0] n ++ Builtin.zeroCells #[.float .f64 0] (grownCap w n 0 29 - n)) (grownCap w n 0 29) (Nat.le_refl _) (grownCap_le_maxLen w n 0 29 (by unfold maxLen; omega)) (by rw [Array.size_append, size_zeroCells, size_zeroCells]; simp; omega)
    exact this
theorem concatf_any (B n c : Nat) (A : Option Addr) (rs : List RowFV) (hn : n = rs.length) (w : World) (h : Row w B A (rs.map rowFV)) (hB : B ≤ w.heap.size) (hx : ∀ r ∈ rs, Row w w.heap.size r.1 (r.2.1.map fv)) (hl : (catF rs).length ≤ 1073741824) (hn2 : n ≤ 1000000) :
    Calls Try.prog 43 #[.slice A n c] w (MadeF15 w.heap.size (catF rs) w) := by
  obtain ⟨i0, hi0, hz0, hz1, hz2⟩ := info_parts info_f
  have HR := Lib.hid h
  have HX := Lib.hid hx
  have HN := Lib.hid hn
  have HL := Lib.hid hl
  have hnl : (n : Int) ≤ 1000000 := by omega
  clear h hx hn hl
  go_enter Try.func43, Try.ntmps43
  go_wp2
  go_loop [3, 11] (fun z i => ∃ k : Nat, k ≤ n ∧ i = .int .i64 k ∧ z = .int .i64 ((catF (rs.take k)).length : Nat)) (fun _ i => n - (intOf i).toNat)
  case atStart => exact ⟨0, by omega, rfl, rfl⟩
  case round =>
    obtain ⟨k, hk, rfl, rfl⟩ := hrel
    by_cases hlt : k < n
    · have hk1 : k < rs.length := by rw [← HN.out]; exact hlt
      obtain ⟨b, o, rfl, _, hc⟩ := HR.out.open_ (by simp; omega)
      have hcell : w.cell? ⟨b, o + k, none⟩ = some (rowFV rs[k]) := (hc k (by simpa using hk1)).trans (congrArg some (List.getElem_map (f := rowFV) (h := by simpa using hk1)))
      obtain ⟨⟨A1, y1, c1⟩, hy1⟩ : ∃ y, rs[k] = y := ⟨_, rfl⟩
      rw [hy1] at hcell
      unfold rowFV at hcell
      simp only at hcell
      have hs := catF_snoc rs k hk1
      rw [hy1] at hs
      have hle := catF_le rs (k + 1)
      rw [hs, List.length_append] at hle
      obtain ⟨z, hz⟩ : ∃ z, (catF (rs.take k)).length = z := ⟨_, rfl⟩
      have HS : Hid ((catF (rs.take (k + 1))).length = z + y1.length) := Lib.hid (by rw [hs, List.length_append, hz])
      rw [hz] at hle ⊢
      have hle2 : (z : Int) + (y1.length : Int) ≤ 1073741824 := by have := HL.out; simp only at hle; omega
      have hki : (0 : Int) ≤ (k : Int) := by omega
      have hki2 : (k : Int) < (n : Int) := by omega
      clear hc hy1 hs hz hle
      go_wp2
      go_round
      case rel => exact ⟨k + 1, by omega, by go_num, by rw [HS.out]; go_num⟩
      case measure => simp [intOf]; omega
    · obtain rfl : k = n := by omega
      have HT : Hid (rs.take k = rs) := Lib.hid (List.take_of_length_le (by rw [← HN.out]; omega))
      rw [HT.out]
      obtain ⟨z, hz⟩ : ∃ z, (catF rs).length = z := ⟨_, rfl⟩
      rw [hz]
      have hzl : z ≤ 1073741824 := by rw [← hz]; exact HL.out
      clear hz
      go_wp2_with (go_at_call 53; refine (growf_any z hzl _).mono ?_; rintro e w1 ⟨A0, c0, rfl, ho, hb⟩; have HO0 := Lib.hid ho; have HB0 := Lib.hid hb; clear ho hb)
      go_loopw [6, 27] (fun v i wr => ∃ j : Nat, j ≤ k ∧ i = .int .i64 j ∧ wr.ownsRow w.heap.size 29 1 v (catF (rs.take j)).length ((catF (rs.take j)).map fv) ∧ Below w.heap.size w wr) (fun _ i _ => k - (intOf i).toNat)
      case atStart => exact ⟨0, by omega, rfl, HO0.out, HB0.out⟩
      case round =>
        obtain ⟨j, hj, rfl, hown, hbl⟩ := hrel
        have HO := Lib.hid hown
        have HB := Lib.hid hbl
        clear hown hbl
        by_cases hjt : j < k
        · have hj1 : j < rs.length := by rw [← HN.out]; exact hjt
          obtain ⟨b, o, rfl, hbB, hc⟩ := HR.out.open_ (by simp; omega)
          have hcell : wr.cell? ⟨b, o + j, none⟩ = some (rowFV rs[j]) := (HB.out.cell (p := ⟨b, o + j, none⟩) (by show b < w.heap.size; omega)).trans ((hc j (by simpa using hj1)).trans (congrArg some (List.getElem_map (f := rowFV) (h := by simpa using hj1))))
          have hrow := HX.out rs[j] (List.getElem_mem hj1)
          obtain ⟨⟨A1, y1, c1⟩, hy1⟩ : ∃ y, rs[j] = y := ⟨_, rfl⟩
          rw [hy1] at hcell hrow
          unfold rowFV at hcell
          simp only at hcell hrow
          have hs := catF_snoc rs j hj1
          rw [hy1] at hs
          simp only at hs
          have hle := catF_le rs (j + 1)
          have HLE : Hid ((catF (rs.take j)).length + y1.length ≤ 1073741824) := Lib.hid (by rw [hs, List.length_append] at hle; have := HL.out; omega)
          have HS := Lib.hid hs
          have HROW := Lib.hid (hrow.below HB.out)
          have hki : (0 : Int) ≤ (j : Int) := by omega
          have hki2 : (j : Int) < (k : Int) := by omega
          clear hc hy1 hs hle hrow
          go_wp2_with (at_builtin; refine wpList_app _ rfl _ _ 25 rfl w.heap.size 29 i0 (.float .f64 0) 8 Try.underlying25 hi0 hz0 hz1 hz2 rfl _ _ _ rfl HO.out w.heap.size _ y1.length c1 (y1.map fv) rfl (by simp) HROW.out (fv_one y1) (by have := HLE.out; unfold maxLen; omega) (by have := HLE.out; omega) HB.out.size ?_)
          intro v' w2 hown hgr _
          have HO2 : Hid (w2.ownsRow w.heap.size 29 1 v' (catF (rs.take (j + 1))).length ((catF (rs.take (j + 1))).map fv)) := Lib.hid (by rw [HS.out, List.map_append, List.length_append]; exact hown)
          have HB2 : Hid (Below w.heap.size w w2) := Lib.hid (HB.out.grown hgr HB.out.size fun g hg => (HO.out.lt g hg).1)
          clear hown hgr
          go_wp2
          go_roundw
          case rel => exact ⟨j + 1, by omega, by go_num, HO2.out, HB2.out⟩
          case measure => simp [intOf]; omega
        · obtain rfl : j = k := by omega
          go_wp2
          go_ret
          exact madeF_of HO.out (by rw [HT.out]) HB.out

/-- Times, and one more, in memory of their own. -/
theorem concat2_any (A : Option Addr) (n c : Nat) (ys : List Int) (t : Int) (hn : n = ys.length) (hl : ys.length ≤ 200) (w : World) (h : Row w w.heap.size A (ys.map fv)) :
    Calls Try.prog 43 #[.slice (some ⟨w.heap.size + 1, 0, none⟩) 2 2] ((w.alloc (.cells #[.float .f64 (fnat t)] 29)).alloc (.cells #[.slice A n c, .slice (some ⟨w.heap.size, 0, none⟩) 1 1] 25)) fun e w' =>
      ∃ A' c', e = .returned (.slice A' (ys.length + 1) c') ∧ OwnF w.heap.size (ys ++ [t]) (.slice A' (ys.length + 1) c') w' ∧ Below w.heap.size w w' := by
  subst hn
  have hb0 : Below w.heap.size w ((w.alloc (.cells #[.float .f64 (fnat t)] 29)).alloc (.cells #[.slice A ys.length c, .slice (some ⟨w.heap.size, 0, none⟩) 1 1] 25)) := ((Below.refl _ _).alloc (Nat.le_refl _) _).alloc (by simp) _
  have hr0 : Row ((w.alloc (.cells #[.float .f64 (fnat t)] 29)).alloc (.cells #[.slice A ys.length c, .slice (some ⟨w.heap.size, 0, none⟩) 1 1] 25)) (w.heap.size + 1 + 1) (some ⟨w.heap.size + 1, 0, none⟩) ([(A, ys, c), (some ⟨w.heap.size, 0, none⟩, [t], 1)].map rowFV) := by
    have := row_cells (w := w.alloc (.cells #[.float .f64 (fnat t)] 29)) (t := 25) (cs := #[.slice A ys.length c, .slice (some ⟨w.heap.size, 0, none⟩) 1 1]) (xs := [(A, ys, c), (some ⟨w.heap.size, 0, none⟩, [t], 1)].map rowFV) rfl
    rw [World.size_alloc] at this
    exact this
  have hc : catF [(A, ys, c), (some ⟨w.heap.size, 0, none⟩, [t], 1)] = ys ++ [t] := by simp [catF]
  refine (concatf_any (w.heap.size + 1 + 1) 2 2 (some ⟨w.heap.size + 1, 0, none⟩) [(A, ys, c), (some ⟨w.heap.size, 0, none⟩, [t], 1)] rfl _ hr0 (by simp) ?_ (by rw [hc, List.length_append, List.length_singleton]; omega) (by omega)).mono ?_
  · intro r hr
    simp only [List.mem_cons, List.not_mem_nil, or_false] at hr
    rcases hr with rfl | rfl
    · exact (h.below hb0).more (by simp; omega)
    · have h1 := row_cells (w := w) (t := 29) (cs := #[.float .f64 (fnat t)]) (xs := [t].map fv) rfl
      exact (h1.alloc (by simp) _).more (by simp)
  · rintro e w' ⟨A', c', rfl, ho, hb⟩
    rw [hc] at ho ⊢
    refine ⟨A', c', by rw [List.length_append, List.length_singleton], ?_, ?_⟩
    · rw [List.length_append, List.length_singleton] at ho
      exact ownBase ho (by simp; omega)
    · exact hb0.trans (hb.mono (by simp; omega))
end Go.Proofs.Ytkfapcigfgfeaaa
