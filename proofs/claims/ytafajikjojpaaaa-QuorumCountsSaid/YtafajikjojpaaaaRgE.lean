/- The points of a ring, by the program: made node by node, sorted, each once. -/
import Derived.Test.YtafajikjojpaaaaRgC
import Derived.Test.YtafajikjojpaaaaRgD
import Derived.Test.YtafajikjojpaaaaAppS
namespace Go.Proofs.Ytafajikjojpaaaa
open Go.RowKit Mem Rg Word
set_option maxRecDepth 100000
set_option maxHeartbeats 4000000
set_option linter.unusedVariables false
/-- Points of one node are different. -/
def fP (n : Int) (k : Nat) : Nat := pointN n k
theorem w8_low (k : Nat) (h : k < 64) : w8 (k : Int) = [0, 0, 0, 0, 0, 0, 0] ++ [UInt8.ofNat k] := by
  have : ∀ k : Fin 64, w8 (k.val : Int) = [0, 0, 0, 0, 0, 0, 0] ++ [UInt8.ofNat k.val] := by decide +kernel
  exact this ⟨k, h⟩
theorem fP_inj (n : Int) (k m : Nat) (hk : k < 64) (hm : m < 64) (h : fP n k = fP n m) : k = m := by
  by_cases e : k = m
  · exact e
  · exfalso
    unfold fP pointN keyN at h
    have h2 := stir_inj _ _ (sum_lt _ basis_lt _) (sum_lt _ basis_lt _) h
    rw [w8_low k hk, w8_low m hm, ← List.append_assoc, ← List.append_assoc] at h2
    refine sum_other basisN (w8 n ++ [0, 0, 0, 0, 0, 0, 0]) [] (UInt8.ofNat k) (UInt8.ofNat m) basis_lt (fun e2 => e ?_) h2
    have := congrArg UInt8.toNat e2
    rw [UInt8.toNat_ofNat', UInt8.toNat_ofNat'] at this
    omega
theorem ofNode_nodup (n : Int) (e : Nat) (he : e ≤ 64) : (ofNode fP n e).Nodup := by
  unfold ofNode
  rw [List.nodup_iff_pairwise_ne, List.pairwise_map]
  refine List.Pairwise.imp_of_mem (R := (· < ·)) (fun {a b} ha hb hab e2 => ?_) List.pairwise_lt_range
  have ha := List.mem_range.1 ha
  have hb := List.mem_range.1 hb
  injection e2 with e3 _
  have := fP_inj n a b (by omega) (by omega) e3
  omega
theorem rawP_nodup (ns : List Int) (hn : ns.Nodup) (e : Nat) (he : e ≤ 64) : (rawP fP ns e).Nodup := by
  induction ns with
  | nil => simp [rawP]
  | cons n ns ih =>
    have hn' := List.nodup_cons.1 hn
    show (ofNode fP n e ++ rawP fP ns e).Nodup
    refine List.nodup_append.2 ⟨ofNode_nodup n e he, ih hn'.2, fun a ha b hb e2 => ?_⟩
    subst e2
    obtain ⟨m, hm, k, _, hx⟩ := (rawP_mem fP ns e a).1 hb
    unfold ofNode at ha
    obtain ⟨k2, _, hx2⟩ := List.mem_map.1 ha
    rw [← hx2] at hx
    injection hx with _ h2
    rw [h2] at hn'
    exact hn'.1 hm
theorem pts_sorted (ns : List Int) (hn : ns.Nodup) (e : Nat) (he : e ≤ 64) : sortedP (rawP fP ns e) = ptsP fP ns e :=
  ptsP_one fP ns e (sortedP_sl (rawP_nodup ns hn e he)) fun x => (sortedP_perm _).mem_iff
theorem arranged_any (l : List Pt) (hn : l.Nodup) (g cap B : Nat) (hl : l.length ≤ 4096) (w : World) (ho : w.ownsRow B 77 2 (.slice (some ⟨g, 0, none⟩) l.length cap) l.length (ptsC l)) (hB : B ≤ w.heap.size) :
    Calls Try.prog 54 #[.slice (some ⟨g, 0, none⟩) l.length cap] w fun e w' => e = .returned (.slice (some ⟨g, 0, none⟩) l.length cap) ∧ Row w' w'.heap.size (some ⟨g, 0, none⟩) (ptsC (sortedP l)) ∧ Below B w w' := by
  have HS := Lib.hid (sortpt_any l g cap B w ho hB (by omega))
  have HC := fun W (h : Row W W.heap.size (some ⟨g, 0, none⟩) (ptsC (sortedP l))) => compact_any (sortedP l) (sortedP_sl hn) _ l.length cap _ (sortedP_perm l).length_eq.symm (by omega) W h
  have HCC := Lib.hid HC
  clear HC ho hB
  generalize l.length = n at HS HCC hl ⊢
  go_enter Try.func54, Try.ntmps54
  go_wp2_with fail
  refine HS.out.mono ?_
  rintro e w1 ⟨rfl, hr, hb⟩
  have HR := Lib.hid hr
  have HB := Lib.hid hb
  clear hr hb
  go_wp2_with fail
  refine (HCC.out _ HR.out).mono ?_
  rintro e w2 ⟨rfl, q, rfl⟩
  go_wp2
  go_ret
  exact ⟨rfl, HR.out, HB.out.trans (below_drew' _ _ _)⟩
theorem info_p : (Try.prog.info? 77).map (fun i => (i.zero, i.size, i.bytes)) = some (some (.agg #[.int .u64 0, .int .i64 0]), 2, 16) := by kernel_rfl
theorem ptsC_one (l : List Pt) : ∀ u ∈ ptsC l, u.oneCell' = true := by
  intro u hu
  obtain ⟨x, _, hx⟩ := List.mem_flatMap.1 hu
  simp only [ptC, List.mem_cons, List.not_mem_nil, or_false] at hx
  rcases hx with rfl | rfl <;> rfl
theorem ptsC_app (a b : List Pt) : ptsC (a ++ b) = ptsC a ++ ptsC b := List.flatMap_append
def PtsE (l : List Pt) (w : World) (x : Ending) (w' : World) : Prop := ∃ A c, x = .returned (.tuple #[.slice A l.length c, .int .i64 0]) ∧ Row w' w'.heap.size A (ptsC l) ∧ Below w.heap.size w w'
/-- A ring's points under way: v holds those of some nodes. -/
def OwnP (b : Nat) (l : List Pt) (v : Value) (w : World) : Prop := w.ownsRow b 77 2 v l.length (ptsC l)
theorem ownP_shape {b : Nat} {l : List Pt} {v : Value} {w : World} (h : OwnP b l v w) (hl : 0 < l.length) : ∃ g cap, v = .slice (some ⟨g, 0, none⟩) l.length cap := by
  rcases h.2 with ⟨_, h0⟩ | ⟨g, cap, cur, hv, _⟩
  · omega
  · exact ⟨g, cap, hv⟩
theorem pt_row (w : World) (p : Pt) : Row (w.alloc (.cells #[.int .u64 (p.1 : Int), .int .i64 p.2] 77)) (w.heap.size + 1) (some ⟨w.heap.size, 0, none⟩) (ptsC [p]) :=
  row_cells (xs := ptsC [p]) rfl
theorem points_ok (A : Option Addr) (n c : Nat) (ns : List Int) (e k : Nat) (hn : n = ns.length) (ok : OkR ns e k) (w : World) (h : Row w w.heap.size A (ns.map iV)) :
    Calls Try.prog 44 #[.agg #[.slice A n c, .int .i64 (e : Int), .int .i64 (k : Int)]] w (PtsE (ptsP fP ns e) w) := by
  obtain ⟨i0, hi0, hz0, hz1, hz2⟩ := info_parts info_p
  have HCK := Lib.hid fun W (hb : Below w.heap.size w W) => check_ok A n c ns e k hn ok W ((h.below hb).more hb.size)
  obtain ⟨o1, o2, o3, o4, o5, o6, o7, o8⟩ := ok
  have hnod : ns.Nodup := o8.imp fun h => by omega
  have hne : n * e ≤ 4096 := Nat.le_trans (Nat.mul_le_mul (show n ≤ 64 by omega) (show e ≤ 64 by omega)) (by decide)
  have hlen := rawP_len fP ns e
  have HFIN : Hid (∀ (g cap : Nat) (W : World), OwnP (w.heap.size + 1) (rawP fP ns e) (.slice (some ⟨g, 0, none⟩) (n * e) cap) W → w.heap.size + 1 ≤ W.heap.size → Calls Try.prog 54 #[.slice (some ⟨g, 0, none⟩) ((n * e : Nat) : Int).toNat cap] W fun x w' => x = .returned (.slice (some ⟨g, 0, none⟩) (ptsP fP ns e).length cap) ∧ Row w' w'.heap.size (some ⟨g, 0, none⟩) (ptsC (ptsP fP ns e)) ∧ Below (w.heap.size + 1) W w') := Lib.hid fun g cap W ho hW => by
    have hl : n * e = (rawP fP ns e).length := by rw [hlen, hn]
    have hs := pts_sorted ns hnod e (by omega)
    have hl2 : (ptsP fP ns e).length = (rawP fP ns e).length := by rw [← hs]; exact (sortedP_perm _).length_eq
    rw [Int.toNat_natCast, hl2, hl]
    rw [hl] at ho
    have := arranged_any (rawP fP ns e) (rawP_nodup ns hnod e (by omega)) g cap (w.heap.size + 1) (by omega) W ho hW
    rw [hs] at this
    exact this
  obtain ⟨C, hC⟩ := make_room (P := Try.prog) 69 77 _ 2 16 Try.underlying69 info_p (n * e) (by omega) (by unfold maxLen; omega)
  have hmk := fun W => (hC W).1
  have HOWN := Lib.hid fun W => (hC W).2
  have hmul : IntKind.i64.wrap ((n : Int) * (e : Int)) = ((n * e : Nat) : Int) := by
    rw [← Int.natCast_mul]; exact IntWalk.i64_in _ (by omega)
  have HROW := Lib.hid h
  have HN := Lib.hid hn
  have HLEN := Lib.hid hlen
  have hn0 : (1 : Int) ≤ (n : Int) := by omega
  have hn1 : (n : Int) ≤ 64 := by omega
  have he0 : (1 : Int) ≤ (e : Int) := by omega
  have he1 : (e : Int) ≤ 64 := by omega
  have HNE := Lib.hid hne
  have HNOD := Lib.hid hnod
  obtain ⟨m, hm⟩ : ∃ m, n * e = m := ⟨_, rfl⟩
  rw [hm] at hmk HOWN hmul HNE HFIN
  have HM := Lib.hid hm
  clear hC h hn hlen hne o1 o2 o3 o4 o5 o6 o7 o8 hnod hm
  go_enter Try.func44, Try.ntmps44
  go_wp2_with fail
  refine (HCK.out _ ((Below.refl _ _).alloc (Nat.le_refl _) _)).mono ?_
  rintro e1 w1 ⟨rfl, hb1⟩
  have HB1 := Lib.hid (below_after1 hb1)
  have hk1 := (Blk.new w 30 #[.slice A n c, .int .i64 (e : Int), .int .i64 (k : Int)]).below hb1 (by simp)
  have HK1 := Lib.hid hk1
  have c0 : w1.cell? ⟨w.heap.size, 0, none⟩ = some (.slice A n c) := hk1.cell 0
  have c1 : w1.cell? ⟨w.heap.size, 1, none⟩ = some (.int .i64 (e : Int)) := hk1.cell 1
  have hsz : w.heap.size < w1.heap.size := hk1.lt
  clear hk1 hb1
  go_wp2
  have HO0 : Hid (OwnP (w.heap.size + 1) (rawP fP (ns.take 0) e) (.slice (some ⟨w1.heap.size, 0, none⟩) 0 m) (w1.alloc (.cells C 77))) := Lib.hid (ownBase (HOWN.out w1) (by omega))
  clear hmk hmul c0 c1
  go_loopw [5, 24] (fun v i wr => ∃ q : Nat, q ≤ n ∧ i = .int .i64 q ∧ Hid (OwnP (w.heap.size + 1) (rawP fP (ns.take q) e) v wr) ∧ Hid (Below w.heap.size w wr) ∧ Hid (Blk wr w.heap.size 30 #[.slice A n c, .int .i64 (e : Int), .int .i64 (k : Int)])) (fun _ i _ => n - (intOf i).toNat)
  case atStart => exact ⟨0, by omega, rfl, HO0, Lib.hid (HB1.out.alloc (by omega) _), Lib.hid (HK1.out.alloc _)⟩
  case round =>
    obtain ⟨q, hq, rfl, HO, HB, HK⟩ := hrel
    by_cases hlt : q < n
    · obtain ⟨b, o, rfl, hbw, hc⟩ := int_cell (HROW.out.below HB.out) (by rw [← HN.out]; omega)
      have hcq := hc q (by rw [← HN.out]; omega)
      have hsn := rawP_snoc fP ns e q (by rw [← HN.out]; omega)
      obtain ⟨x, hx⟩ : ∃ x, ns[q]'(by rw [← HN.out]; omega) = x := ⟨_, rfl⟩
      rw [hx] at hcq hsn
      have HSN := Lib.hid hsn
      have d1 : wr.cell? ⟨w.heap.size, 1, none⟩ = some (.int .i64 (e : Int)) := HK.out.cell 1
      have hq0 : (0 : Int) ≤ (q : Int) := by omega
      have hq1 : (q : Int) < (n : Int) := by omega
      clear hc hx hsn
      go_wp2
      clear d1 hcq
      go_loopw [5, 30] (fun v2 i wr2 => ∃ j : Nat, j ≤ e ∧ i = .int .i64 j ∧ Hid (OwnP (w.heap.size + 1) (rawP fP (ns.take q) e ++ (ofNode fP x e).take j) v2 wr2) ∧ Hid (Below w.heap.size w wr2) ∧ Hid (Blk wr2 w.heap.size 30 #[.slice (some ⟨b, o, none⟩) n c, .int .i64 (e : Int), .int .i64 (k : Int)])) (fun _ i _ => e - (intOf i).toNat)
      case atStart => exact ⟨0, by omega, rfl, Lib.hid (by rw [List.take_zero, List.append_nil]; exact HO.out), HB, HK⟩
      case round =>
        obtain ⟨j, hj, rfl, HO2, HB2, HK2⟩ := hrel
        by_cases hje : j < e
        · have hsn := ofNode_at fP x e j hje
          obtain ⟨p, hp⟩ : ∃ p, fP x j = p := ⟨_, rfl⟩
          rw [hp] at hsn
          obtain ⟨L, hL⟩ : ∃ L, rawP fP (ns.take q) e ++ (ofNode fP x e).take j = L := ⟨_, rfl⟩
          have HNEXT : Hid (rawP fP (ns.take q) e ++ (ofNode fP x e).take (j + 1) = L ++ [(p, x)]) := Lib.hid (by rw [hsn, ← List.append_assoc, hL])
          have HLL : Hid (L.length < m) := Lib.hid (by
            rw [← hL, List.length_append, rawP_len, List.length_take, List.length_take, ofNode_len, ← HM.out]
            have h1 : (q + 1) * e ≤ n * e := Nat.mul_le_mul_right e (by omega)
            rw [Nat.succ_mul] at h1
            have h2 : min q ns.length = q := by have := HN.out; omega
            rw [h2]
            omega)
          rw [hL] at HO2
          have HP := Lib.hid hp
          have hj0 : (0 : Int) ≤ (j : Int) := by omega
          have hj1 : (j : Int) < (e : Int) := by omega
          clear hp hL hsn
          go_wp2_with fail
          refine (point_any x (j : Int) _).mono ?_
          rintro e2 w2 ⟨rfl, hb2⟩
          rw [show pointN x (j : Int) = p from HP.out]
          have HB3 := Lib.hid (HB2.out.trans (hb2.mono HB2.out.size))
          have HK3 := Lib.hid (HK2.out.below hb2 HK2.out.lt)
          have HO3 : Hid (OwnP (w.heap.size + 1) L _ w2) := Lib.hid (ownLater HO2.out hb2)
          have HW : Hid (w.heap.size + 1 ≤ w2.heap.size) := Lib.hid (by have := HK3.out.lt; omega)
          clear hb2
          have HB4 : Hid (Below w.heap.size w (w2.alloc (.cells #[.int .u64 (p : Int), .int .i64 x] 77))) := Lib.hid (HB3.out.alloc (by have := HW.out; omega) _)
          have HK4 : Hid (Blk (w2.alloc (.cells #[.int .u64 (p : Int), .int .i64 x] 77)) w.heap.size 30 #[.slice (some ⟨b, o, none⟩) n c, .int .i64 (e : Int), .int .i64 (k : Int)]) := Lib.hid (HK3.out.alloc _)
          have HO4 := Lib.hid (ownLater HO3.out ((Below.refl w2.heap.size w2).alloc (Nat.le_refl _) (.cells #[.int .u64 (p : Int), .int .i64 x] 77)))
          go_wp2_with (at_builtin; refine wpList_appS rfl _ _ 69 rfl (w.heap.size + 1) 77 i0 _ 2 16 Try.underlying69 hi0 hz0 hz1 hz2 rfl (by decide) _ L.length (ptsC L) rfl HO4.out (w2.heap.size + 1) (some ⟨w2.heap.size, 0, none⟩) 1 1 (ptsC [(p, x)]) rfl rfl (pt_row w2 (p, x)) (ptsC_one _) (by have := HLL.out; have := HNE.out; unfold maxLen; omega) (by have := HLL.out; have := HNE.out; omega) (by have := HW.out; simp; omega) ?_)
          intro v' w5 hown hgr _
          have HO5 : Hid (OwnP (w.heap.size + 1) (L ++ [(p, x)]) v' w5) := Lib.hid (by unfold OwnP; rw [ptsC_app, List.length_append]; exact hown)
          have HB5 : Hid (Below w.heap.size w w5) := Lib.hid (HB4.out.grown hgr HB4.out.size fun g hg => by have := (HO4.out.lt g hg).1; omega)
          have HK5 : Hid (Blk w5 w.heap.size 30 #[.slice (some ⟨b, o, none⟩) n c, .int .i64 (e : Int), .int .i64 (k : Int)]) := Lib.hid (HK4.out.grown hgr fun hg => by have := (HO4.out.lt w.heap.size hg.symm).1; omega)
          clear hown hgr
          go_wp2
          go_roundw
          case rel => exact ⟨j + 1, by omega, by go_num, Lib.hid (by rw [HNEXT.out]; exact HO5.out), HB5, HK5⟩
          case measure => simp [intOf]; omega
        · obtain rfl : j = e := by omega
          have HO6 : Hid (OwnP (w.heap.size + 1) (rawP fP (ns.take (q + 1)) j) u5 wr) := Lib.hid (by
            have := HO2.out
            rw [List.take_of_length_le (l := ofNode fP x j) (by rw [ofNode_len]; omega)] at this
            rw [HSN.out]; exact this)
          go_wp2
          go_roundw
          case rel => exact ⟨q + 1, by omega, by go_num, HO6, HB2, HK2⟩
          case measure => simp [intOf]; omega
    · obtain rfl : q = n := by omega
      have ho := HO.out
      rw [List.take_of_length_le (l := ns) (by have := HN.out; omega)] at ho
      have hlm : (rawP fP ns e).length = m := by rw [HLEN.out, ← HM.out, ← HN.out]
      have hmpos : 0 < m := by rw [← HM.out]; exact Nat.mul_pos (by omega) (by omega)
      obtain ⟨g, cap, hv⟩ := ownP_shape ho (by omega)
      rw [hlm] at hv
      subst hv
      have HCALL := Lib.hid (HFIN.out g cap wr ho (by have := HK.out.lt; omega))
      have hmt : ((m : Nat) : Int).toNat = m := Int.toNat_natCast m
      rw [hmt] at HCALL
      clear ho hlm hmpos hmt
      go_wp2_with fail
      refine HCALL.out.mono ?_
      rintro e2 w2 ⟨rfl, hr, hb⟩
      have HR2 := Lib.hid hr
      have HB2 := Lib.hid (HB.out.trans (hb.mono (by omega)))
      clear hr hb
      go_wp2
      go_ret2
      exact ⟨_, _, rfl, HR2.out, HB2.out⟩
end Go.Proofs.Ytafajikjojpaaaa
