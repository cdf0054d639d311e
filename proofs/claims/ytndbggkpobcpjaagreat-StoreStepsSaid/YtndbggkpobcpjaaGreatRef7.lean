/- The reference's Last and Open. -/
import Derived.Test.YtndbggkpobcpjaaGreatLast
import Derived.Test.YtndbggkpobcpjaaGreatRefScan5
import Derived.Test.YtndbggkpobcpjaaGreatGrpB
import Derived.Test.YtndbggkpobcpjaaGreatLog
namespace Go.Proofs.YtndbggkpobcpjaaGreat
open Go.RowKit Mem Be Word Frm
set_option maxRecDepth 100000
set_option maxHeartbeats 4000000
set_option linter.unusedVariables false
theorem lastIs_zero (rs : List Rc) : LastIs (rs.take 0) 0 := ⟨by simp, fun j h => by simp at h, fun k hk => by omega⟩
theorem lastIs_yes {rs : List Rc} {j : Nat} (h : j < rs.length) (h0 : rs[j].1 = 0) : LastIs (rs.take (j + 1)) (j + 1) := by
  refine ⟨by rw [List.length_take]; omega, fun i hi hp => ?_, fun k hk => ?_⟩
  · rw [List.length_take] at hi; omega
  · obtain rfl : k = j := by omega
    exact ⟨by rw [List.length_take]; omega, by rw [List.getElem_take]; exact h0⟩
theorem lastIs_no {rs : List Rc} {j p : Nat} (hl : LastIs (rs.take j) p) (h : j < rs.length) (h0 : rs[j].1 ≠ 0) : LastIs (rs.take (j + 1)) p := by
  have hle := hl.le
  rw [List.length_take] at hle
  refine ⟨by rw [List.length_take]; omega, fun i hi hp => ?_, fun k hk => ?_⟩
  · rw [List.length_take] at hi
    rw [List.getElem_take]
    rcases Nat.lt_or_ge i j with hij | hij
    · have := hl.no i (by rw [List.length_take]; omega) hp
      rw [List.getElem_take] at this; exact this
    · obtain rfl : i = j := by omega
      exact h0
  · obtain ⟨h1, h2⟩ := hl.yes k hk
    rw [List.length_take] at h1
    rw [List.getElem_take] at h2
    exact ⟨by rw [List.length_take]; omega, by rw [List.getElem_take]; exact h2⟩
theorem reflast_any (AL AT R : Option Addr) (n cL m cT k c x : Nat) (q : Int) (vs : List RecV) (hk : k = vs.length) (hkm : k ≤ 1000000000) (w : World) (h : Row w w.heap.size R (recsC vs)) :
    Calls Tryz.prog 82 #[.agg #[.slice AL n cL, .slice AT m cT, .int .i64 q, .slice R k c, .int .i64 (x : Int)]] w fun e w' => (∃ p, LastIs (vs.map rcOf) p ∧ e = .returned (.int .i64 ((p : Int) - 1))) ∧ Below w.heap.size w w' := by
  obtain ⟨w0, hw0⟩ : ∃ w0, w.alloc (.cells #[.slice AL n cL, .slice AT m cT, .int .i64 q, .slice R k c, .int .i64 (x : Int)] 32) = w0 := ⟨_, rfl⟩
  have hb0 : Below w.heap.size w w0 := by rw [← hw0]; exact (Below.refl _ _).alloc (Nat.le_refl _) _
  have hblk : Blk w0 w.heap.size 32 #[.slice AL n cL, .slice AT m cT, .int .i64 q, .slice R k c, .int .i64 (x : Int)] := by rw [← hw0]; exact Blk.new _ _ _
  obtain ⟨b, hbb⟩ : ∃ b, w.heap.size = b := ⟨_, rfl⟩
  have HR := Lib.hid (h.below hb0)
  have HB0 := Lib.hid hb0
  have b3 : w0.cell? ⟨b, 3, none⟩ = some (.slice R k c) := by rw [← hbb]; exact hblk.cell 3
  have HK := Lib.hid hk
  have hki : (k : Int) ≤ 1000000000 := by omega
  have HW0 := Lib.hid hw0
  have HBB := Lib.hid hbb
  clear h hb0 hblk hw0 hk hbb
  go_enter Tryz.func82, Tryz.ntmps82
  go_wp2_with fail
  rw [HW0.out]
  rw [HBB.out]
  go_wp2
  go_loop [3, 4] (fun a i => ∃ j p : Nat, j ≤ k ∧ i = .int .i64 j ∧ a = .int .i64 ((p : Int) - 1) ∧ Hid (LastIs ((vs.map rcOf).take j) p)) (fun _ i => k - (intOf i).toNat)
  case atStart => exact ⟨0, 0, by omega, rfl, rfl, Lib.hid (lastIs_zero _)⟩
  case round =>
    obtain ⟨j, p, hj, rfl, rfl, HP⟩ := hrel
    by_cases hlt : j < k
    · have hj1 : j < vs.length := by rw [← HK.out]; exact hlt
      obtain ⟨b1, o, rfl, _, hc⟩ := recs_open HR.out (by omega)
      have hcell := (hc j hj1).1
      have hji : (0 : Int) ≤ (j : Int) := by omega
      have hji2 : (j : Int) < (k : Int) := by omega
      have hjr : j < (vs.map rcOf).length := by rw [List.length_map]; exact hj1
      have hkd : ((vs.map rcOf)[j]'hjr).1 = vs[j].1 := by rw [List.getElem_map]; rfl
      by_cases hz : vs[j].1 = 0
      · have HP2 := Lib.hid (lastIs_yes hjr (hkd.trans hz))
        rw [hz] at hcell
        clear hc hkd hz
        go_wp2
        go_round
        case rel => exact ⟨j + 1, j + 1, by omega, by go_num, by congr 1; omega, HP2⟩
        case measure => simp [intOf]; omega
      · have HP2 := Lib.hid (lastIs_no HP.out hjr (by rw [hkd]; exact hz))
        have hz2 := u8_zero hz
        clear hc hkd hz
        go_wp2
        go_round
        case rel => exact ⟨j + 1, p, by omega, by go_num, rfl, HP2⟩
        case measure => simp [intOf]; omega
    · obtain rfl : j = k := by omega
      have hT : (vs.map rcOf).take j = vs.map rcOf := List.take_of_length_le (by rw [List.length_map, ← HK.out]; exact Nat.le_refl _)
      have HP2 : Hid (LastIs (vs.map rcOf) p) := Lib.hid (by rw [← hT]; exact HP.out)
      clear hT
      go_wp2
      go_ret
      exact ⟨⟨p, HP2.out, rfl⟩, HB0.out⟩
/-- What the reference tells of bytes: a log, how many are cut off. -/
def RefOpenP (bs : List UInt8) (w : World) (e : Ending) (w' : World) : Prop :=
  ∃ (AL : Option Addr) (cL : Nat) (vs : List RecV) (R : Option Addr) (c : Nat), vs.map rcOf = (scanS bs).1 ∧
    e = .returned (.tuple #[.agg #[.slice AL (scanS bs).2.1 cL, .slice none 0 0, .int .i64 0, .slice R vs.length c, .int .i64 (vs.length : Int)], .int .i64 ((bs.length : Int) - ((scanS bs).2.1 : Int))]) ∧
    w'.ownsRow w.heap.size 5 1 (.slice AL (scanS bs).2.1 cL) (scanS bs).2.1 ((bs.take (scanS bs).2.1).map byteV) ∧ w'.ownsRow w.heap.size 145 2 (.slice R vs.length c) vs.length (recsC vs) ∧ RecsO w' w.heap.size vs ∧ Below w.heap.size w w'
theorem refopen_fin {w3 : World} {b : Nat} {x0 x1 x2 x3 x4 u0 u1 u2 u3 u4 : Value} (h : Blk w3 b 32 #[x0, x1, x2, x3, x4]) :
    Blk (((((w3.setCell ⟨b, 0, none⟩ u0).setCell ⟨b, 1, none⟩ u1).setCell ⟨b, 2, none⟩ u2).setCell ⟨b, 3, none⟩ u3).setCell ⟨b, 4, none⟩ u4) b 32 #[u0, u1, u2, u3, u4] ∧
    (∀ k, k ≠ b → (((((w3.setCell ⟨b, 0, none⟩ u0).setCell ⟨b, 1, none⟩ u1).setCell ⟨b, 2, none⟩ u2).setCell ⟨b, 3, none⟩ u3).setCell ⟨b, 4, none⟩ u4).heap[k]? = w3.heap[k]?) ∧
    ∀ w : World, Below w.heap.size w w3 → w.heap.size ≤ b → Below w.heap.size w (((((w3.setCell ⟨b, 0, none⟩ u0).setCell ⟨b, 1, none⟩ u1).setCell ⟨b, 2, none⟩ u2).setCell ⟨b, 3, none⟩ u3).setCell ⟨b, 4, none⟩ u4) :=
  ⟨((((h.set_ 0 u0).set_ 1 u1).set_ 2 u2).set_ 3 u3).set_ 4 u4, fun k hk => ((((Below.heap_setCell _ ⟨b, 4, none⟩ u4 _ hk).trans (Below.heap_setCell _ ⟨b, 3, none⟩ u3 _ hk)).trans (Below.heap_setCell _ ⟨b, 2, none⟩ u2 _ hk)).trans (Below.heap_setCell _ ⟨b, 1, none⟩ u1 _ hk)).trans (Below.heap_setCell _ ⟨b, 0, none⟩ u0 _ hk),
    fun w hb hg => ((((hb.setCell (p := ⟨b, 0, none⟩) hg _).setCell (p := ⟨b, 1, none⟩) hg _).setCell (p := ⟨b, 2, none⟩) hg _).setCell (p := ⟨b, 3, none⟩) hg _).setCell (p := ⟨b, 4, none⟩) hg _⟩
theorem refopen_any (n c0 : Nat) (A0 : Option Addr) (bs : List UInt8) (hn : n = bs.length) (hc : n ≤ c0) (hl : n ≤ 4194304) (w : World) (h : Row w w.heap.size A0 (bs.map byteV)) :
    Calls Tryz.prog 81 #[.slice A0 n c0] w (RefOpenP bs w) := by
  obtain ⟨w0, hw0⟩ : ∃ w0, w.alloc (.cells #[.slice none 0 0, .slice none 0 0, .int .i64 0, .slice none 0 0, .int .i64 0] 32) = w0 := ⟨_, rfl⟩
  have hb0 : Below w.heap.size w w0 := by rw [← hw0]; exact (Below.refl _ _).alloc (Nat.le_refl _) _
  have hblk : Blk w0 w.heap.size 32 #[.slice none 0 0, .slice none 0 0, .int .i64 0, .slice none 0 0, .int .i64 0] := by rw [← hw0]; exact Blk.new _ _ _
  obtain ⟨b, hbb⟩ : ∃ b, w.heap.size = b := ⟨_, rfl⟩
  have HR := Lib.hid ((h.below hb0).more hb0.size)
  have HB0 := Lib.hid hb0
  have HN := Lib.hid hn
  have HW0 := Lib.hid hw0
  have HBB := Lib.hid hbb
  have HBK := Lib.hid hblk
  have HS := Lib.hid (refscan_any n w0.heap.size c0 n A0 bs (Nat.le_refl _) hn hc w0 HR.out (Nat.le_refl _) hl)
  have hat := scan_at bs
  have hni : (n : Int) ≤ 4194304 := by omega
  clear h hb0 hblk hw0 hbb hn
  go_enter Tryz.func81, Tryz.ntmps81
  go_wp2_with fail
  rw [HW0.out]
  go_wp2_with fail
  refine HS.out.mono ?_
  rintro e w2 ⟨vs, R, cR, hvs, rfl, hor, hbr, hb⟩
  obtain ⟨s, hs⟩ : ∃ s, (scanS bs).2.1 = s := ⟨_, rfl⟩
  have HVS := Lib.hid hvs
  have HSS := Lib.hid hs
  rw [hs] at hat ⊢
  have HOR := Lib.hid hor
  have HBR := Lib.hid hbr
  have HB2 := Lib.hid hb
  have hcut := fun W => run_cut_h (P := Tryz.prog) (w := W) 27 5 _ _ Tryz.underlying27 info_b A0 n c0 s (by have := HN.out; omega)
  have HR2 := Lib.hid ((HR.out.below hb).more hb.size)
  have hsn : s ≤ n := by have := HN.out; omega
  have hsi : (s : Int) ≤ (n : Int) := by omega
  have hvl : vs.length ≤ 4194304 := by
    have h1 := many_of (rs := vs.map rcOf) (M := n) (by rw [HVS.out, scan_again, List.length_take, HSS.out]; have := HN.out; omega)
    rw [List.length_map] at h1; omega
  have hvi : (vs.length : Int) ≤ 4194304 := by omega
  have HJ := Lib.hid (join_any s 0 c0 0 A0 none (bs.take s) [] (by rw [List.length_take]; omega) rfl w2 (by rw [List.map_take]; exact take_row HR2.out s) (Row.nil _ _ _) (by omega))
  clear hvs hs hor hbr hb HS
  go_wp2_with fail
  refine HJ.out.mono ?_
  rintro e w3 ⟨A3, c3, rfl, ho3, hb3⟩
  have hx3 : bs.take s ++ [] = bs.take s := List.append_nil _
  rw [hx3] at ho3
  have hx4 : (bs.take s ++ []).length = s := by rw [hx3, List.length_take]; have := HN.out; omega
  have hx5 : (bs.take s).length = s := by rw [List.length_take]; have := HN.out; omega
  rw [hx4]
  rw [hx5] at ho3
  have HB3 : Hid (Below w0.heap.size w0 w3) := Lib.hid (HB2.out.trans (hb3.mono HB2.out.size))
  have HK3 := Lib.hid (HBK.out.below HB3.out HBK.out.lt)
  have r0 := HK3.out.cell 0
  have r1 := HK3.out.cell 1
  have r2 := HK3.out.cell 2
  have r3 := HK3.out.cell 3
  have r4 := HK3.out.cell 4
  have z0 := HK3.out.frozen 0
  have z1 := HK3.out.frozen 1
  have z2 := HK3.out.frozen 2
  have z3 := HK3.out.frozen 3
  have z4 := HK3.out.frozen 4
  have HO3 := Lib.hid ho3
  have HOR3 := Lib.hid (ownLater HOR.out hb3)
  have HBR3 := Lib.hid (recsO_below HBR.out hb3)
  have HF := Lib.hid (refopen_fin (b := w.heap.size) (u0 := .slice A3 s c3) (u1 := .slice none 0 0) (u2 := .int .i64 0) (u3 := .slice R vs.length cR) (u4 := .int .i64 (vs.length : Int)) HK3.out)
  have HBT : Hid (Below w.heap.size w w3) := Lib.hid (HB0.out.trans (HB3.out.mono HB0.out.size))
  clear ho3 hb3 hx3 hx4 hx5 HJ hcut
  go_wp2
  obtain ⟨W5, hW5⟩ : ∃ W, ((((w3.setCell ⟨w.heap.size, 0, none⟩ (.slice A3 s c3)).setCell ⟨w.heap.size, 1, none⟩ (.slice none 0 0)).setCell ⟨w.heap.size, 2, none⟩ (.int .i64 0)).setCell ⟨w.heap.size, 3, none⟩ (.slice R vs.length cR)).setCell ⟨w.heap.size, 4, none⟩ (.int .i64 (vs.length : Int)) = W := ⟨_, rfl⟩
  rw [hW5] at HF
  rw [hW5]
  have g0 := HF.out.1.cell 0
  have g1 := HF.out.1.cell 1
  have g2 := HF.out.1.cell 2
  have g3 := HF.out.1.cell 3
  have g4 := HF.out.1.cell 4
  refine bodyPost_ret (v := .tuple #[.agg #[.slice A3 s c3, .slice none 0 0, .int .i64 0, .slice R vs.length cR, .int .i64 (vs.length : Int)], .int .i64 ((n : Int) - (s : Int))]) (by simp [results, Tryz.results81, go_sem, g0, g1, g2, g3, g4]) rfl ?_
  have hs0 := HB0.out.size
  have hs2 := HB2.out.size
  refine ⟨A3, c3, vs, R, cR, HVS.out, by rw [HN.out, HSS.out], ?_, ?_, ?_, HF.out.2.2 _ HBT.out (Nat.le_refl _)⟩
  · rw [HSS.out]
    exact ownKeep (ownBase HO3.out (by omega)) fun a ha => HF.out.2.1 _ (ownNe HO3.out HK3.out (by decide) ha)
  · exact ownKeep (ownBase HOR3.out (by omega)) fun a ha => HF.out.2.1 _ (ownNe HOR3.out HK3.out (by decide) ha)
  · exact fun r hr => ownKeep (ownBase (HBR3.out r hr) (by omega)) fun a ha => HF.out.2.1 _ (ownNe (HBR3.out r hr) HK3.out (by decide) ha)
end Go.Proofs.YtndbggkpobcpjaaGreat
