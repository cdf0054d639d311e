/- The document's own answers (6): who keeps a key, and each point. -/
import Derived.Test.YtafajikjojpaaaaRfE
import Derived.Deep.RegionLaw
namespace Go.Proofs.Ytafajikjojpaaaa
open Go.RowKit Mem Rg
set_option maxRecDepth 100000
set_option maxHeartbeats 8000000
set_option linter.unusedVariables false
theorem reflists_ok (A : Option Addr) (n c : Nat) (ns : List Int) (e k : Nat) (hn : n = ns.length) (ok : OkR ns e k) (w : World) (hr : Row w w.heap.size A (ns.map iV)) :
    Calls Try.prog 38 #[.agg #[.slice A n c, .int .i64 (e : Int), .int .i64 (k : Int)]] w (ListsE (listsP (ptsP fP ns e) k) w) := by
  obtain ⟨i0, hi0, hz0, hz1, hz2⟩ := info_parts info_l
  have HP := Lib.hid fun W (hb : Below w.heap.size w W) => refpoints_ok A n c ns e k hn ok W ((hr.below hb).more hb.size)
  have HA := Lib.hid fun (h : Nat) W (hb : Below w.heap.size w W) => refat_ok A n c ns e k h hn ok W ((hr.below hb).more hb.size)
  obtain ⟨p1, p2, p3, p4, p5, p6, p7⟩ := pts_len_ok ok
  clear hn ok hr p3 p4 p5 p6 p7
  generalize ptsP fP ns e = l at HA HP p1 p2 ⊢
  go_enter Try.func38, Try.ntmps38
  go_wp2_with fail
  refine (HP.out _ ((Below.refl _ _).alloc (Nat.le_refl _) _)).mono ?_
  rintro e1 w1 ⟨A1, c1, rfl, hr1, hb1⟩
  have HB1 := Lib.hid (below_after1 hb1)
  have hk1 := (Blk.new w 30 #[.slice A n c, .int .i64 (e : Int), .int .i64 (k : Int)]).below hb1 (by simp)
  have HK1 := Lib.hid hk1
  have HR1 := Lib.hid hr1
  clear hb1 hk1
  obtain ⟨b, o, rfl, hbw, hc⟩ := pts_open hr1 p2
  have HC := Lib.hid hc
  have hn1 : (l.length : Int) ≤ 4096 := by omega
  clear hc hr1
  go_wp2
  have HP0 : Hid (PartL w1.heap.size l k 0 (.slice none 0 0) w1) := Lib.hid ⟨[], rfl, World.ownsRow_nil _ _ _ _, fun r h => by cases h⟩
  go_loopw [4, 5] (fun v i wr => ∃ q : Nat, q ≤ l.length ∧ i = .int .i64 q ∧ Hid (PartL w1.heap.size l k q v wr) ∧ Hid (Below w1.heap.size w1 wr)) (fun _ i _ => l.length - (intOf i).toNat)
  case atStart => exact ⟨0, by omega, rfl, HP0, Lib.hid (Below.refl _ _)⟩
  case round =>
    obtain ⟨q, hq, rfl, HPL, HB⟩ := hrel
    by_cases hlt : q < l.length
    · have d0 := (HC.out q hlt).1
      rw [← HB.out.cell (p := ⟨b, o + q * 2, none⟩) hbw] at d0
      have hsn : l.take (q + 1) = l.take q ++ [l[q]] := List.take_succ_eq_append_getElem hlt
      obtain ⟨⟨h, x⟩, hx⟩ : ∃ x, l[q] = x := ⟨_, rfl⟩
      rw [hx] at d0 hsn
      simp only at d0
      have hkw := HK1.out.below HB.out HK1.out.lt
      have e0 : wr.cell? ⟨w.heap.size, 0, none⟩ = some (.slice A n c) := hkw.cell 0
      have e1 : wr.cell? ⟨w.heap.size, 1, none⟩ = some (.int .i64 (e : Int)) := hkw.cell 1
      have e2 : wr.cell? ⟨w.heap.size, 2, none⟩ = some (.int .i64 (k : Int)) := hkw.cell 2
      have hq0 : (0 : Int) ≤ (q : Int) := by omega
      have hq1 : (q : Int) < (l.length : Int) := by omega
      obtain ⟨L, hL⟩ : ∃ L, keepP l h k = L := ⟨_, rfl⟩
      have HA2 := Lib.hid fun W hb => HA.out h W hb
      rw [hL] at HA2
      obtain ⟨rs, hrs, hov, hrw⟩ := HPL.out
      have HRL : Hid (rs.length = q) := Lib.hid (by
        have := congrArg List.length hrs
        rw [List.length_map, List.length_map, List.length_take] at this
        omega)
      have HAFT : Hid (∀ (W w2 : World) (A2 : Option Addr) (c2 : Nat), Below wr.heap.size wr W → OwnI W.heap.size L (.slice A2 L.length c2) w2 → Below W.heap.size W w2 → (OwnL w1.heap.size rs u4 (w2.alloc (.cells #[.slice A2 L.length c2] 22)) ∧ RowsI (w2.alloc (.cells #[.slice A2 L.length c2] 22)) (rs ++ [(A2, L, c2)]) ∧ Below w1.heap.size w1 (w2.alloc (.cells #[.slice A2 L.length c2] 22)) ∧ w1.heap.size ≤ w2.heap.size)) := Lib.hid fun W w2 A2 c2 hbW hr2 hb2 => by
        have hbw2 : Below wr.heap.size wr w2 := hbW.trans (hb2.mono hbW.size)
        have hal : Below w2.heap.size w2 (w2.alloc (.cells #[.slice A2 L.length c2] 22)) := (Below.refl _ _).alloc (Nat.le_refl _) _
        have hB2 := HB.out.trans (hbw2.mono HB.out.size)
        have hr3 : RowsI w2 (rs ++ [(A2, L, c2)]) := fun r hr => by
          rcases List.mem_append.1 hr with hr | hr
          · exact rowsI_below hrw hbw2 r hr
          · have : r = (A2, L, c2) := by simpa using hr
            subst this
            exact ⟨_, hr2⟩
        exact ⟨ownLater (ownLater hov hbw2) hal, rowsI_below hr3 hal, hB2.trans (hal.mono hB2.size), hB2.size⟩
      have HEND : Hid (∀ (w2 : World) (A2 : Option Addr) (c2 : Nat) (v' : Value) (w5 : World), (OwnL w1.heap.size rs u4 (w2.alloc (.cells #[.slice A2 L.length c2] 22)) ∧ RowsI (w2.alloc (.cells #[.slice A2 L.length c2] 22)) (rs ++ [(A2, L, c2)]) ∧ Below w1.heap.size w1 (w2.alloc (.cells #[.slice A2 L.length c2] 22)) ∧ w1.heap.size ≤ w2.heap.size) → w5.ownsRow w1.heap.size 22 1 v' (rs.length + 1) (rs.map rowIV ++ [(A2, L, c2)].map rowIV) → (w2.alloc (.cells #[.slice A2 L.length c2] 22)).grownBy w5 u4.ownBlock → PartL w1.heap.size l k (q + 1) v' w5 ∧ Below w1.heap.size w1 w5) := Lib.hid fun w2 A2 c2 v' w5 ha hown hgr => ⟨⟨rs ++ [(A2, L, c2)], by
        rw [hsn, List.map_append, List.map_append, hrs, ← hL]; rfl, by
        unfold OwnL
        rw [List.map_append, List.length_append]
        exact hown, rowsI_grown ha.2.1 ha.1 hgr⟩, ha.2.2.1.grown hgr ha.2.2.1.size fun g hg => (ha.1.lt g hg).1⟩
      clear hx hsn hL hkw hrs hov hrw
      go_wp2_with fail
      go_region_law (first
        | (go_simp; go_at_call 47; refine (HA2.out _ (by exact (HB1.out.trans (HB.out.mono HB1.out.size)).drew)).mono ?_; rintro e4 w2 ⟨A2, c2, rfl, hr2, hb2⟩; (have HX := Lib.hid (HAFT.out _ w2 A2 c2 ((Below.refl _ _).drew) hr2 hb2)); clear hr2 hb2)
        | (refine step_app _ (by rfl) _ _ 56 (by rfl) w1.heap.size 22 i0 _ 24 Try.underlying56 hi0 hz0 hz1 hz2 rfl _ rs.length (rs.map rowIV) (by rfl) HX.out.1 (w2.heap.size + 1) (some ⟨w2.heap.size, 0, none⟩) 1 1 ([(A2, L, c2)].map rowIV) (by rfl) rfl (rowI_row w2 (A2, L, c2)) (rowIV_one _) (by have := HRL.out; unfold maxLen; omega) (by have := HRL.out; omega) (by have := HX.out.2.2.2; simp; omega) ?_; intro v' w5 hown hgr _; (have HP5 := Lib.hid (HEND.out w2 A2 c2 v' w5 HX.out hown hgr)); clear hown hgr))
      all_goals
        go_wp2
        go_roundw
        case rel => exact ⟨q + 1, by omega, by go_num, Lib.hid HP5.out.1, Lib.hid HP5.out.2⟩
        case measure => simp [intOf]; omega
    · have hq1 : ¬ (q : Int) < (l.length : Int) := by omega
      obtain ⟨rs, hrs, hov, hrw⟩ := HPL.out
      rw [List.take_of_length_le (by omega)] at hrs
      obtain ⟨A2, c2, rfl, _⟩ := ownShape hov
      have hlen : rs.length = (listsP l k).length := by
        have := congrArg List.length hrs
        rw [List.length_map] at this
        exact this
      have HRES : Hid (ListsE (listsP l k) w (.returned (.slice A2 rs.length c2)) wr) := Lib.hid (by
        rw [hlen]
        exact ⟨A2, c2, rs, rfl, hrs, ownRow hov, hrw, HB1.out.trans (HB.out.mono HB1.out.size)⟩)
      clear hrs hov hrw hlen
      go_wp2
      go_ret
      exact HRES.out
end Go.Proofs.Ytafajikjojpaaaa
