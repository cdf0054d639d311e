/- The law TagsReads, walked. -/
import Derived.Test.YtnljljfopelopaaWritesLaw
namespace Go.Proofs.Ytnljljfopelopaa
open Go.RowKit Mem Be
set_option maxRecDepth 100000
set_option maxHeartbeats 8000000
theorem sameV_refl (h : Bool) (xs : List UInt8) : sameV h h xs xs = true := by unfold sameV; simp
theorem sameE_refl (k : ByteArray) (s u o : Int) (h : Bool) (xs : List UInt8) : sameE k k s u o s u o h h xs xs = true := by rw [sameE_self, sameV_refl]
theorem val_of_own {w : World} {B : Nat} {A : Option Addr} {xs : List UInt8} {c : Nat} {has : Bool} (h : w.ownsRow B 5 1 (.slice A xs.length c) xs.length (xs.map byteV)) (hl : (xs.length : Int) ≤ 1073741824) : ValOk w has A xs c :=
  ⟨Row.of_own h, hl, (own_cap h).1⟩
theorem stepE_len (bs : List UInt8) : (stepE bs 0).1.v.length ≤ 65536 := by
  unfold stepE endE
  split
  · exact stepV_len _ _
  · exact Nat.zero_le _
theorem readP_len (bs : List UInt8) : (readP bs).1.v.length ≤ 65536 := by
  unfold readP
  split
  · exact stepE_len bs
  · exact Nat.zero_le _
theorem stepE_klen (bs : List UInt8) : (stepE bs 0).1.k.length ≤ 65536 := by
  unfold stepE endE
  split
  · exact stepR_len _ _
  · exact Nat.zero_le _
theorem readP_klen (bs : List UInt8) : (readP bs).1.k.length ≤ 65536 := by
  unfold readP
  split
  · exact stepE_klen bs
  · exact Nat.zero_le _
theorem refE_le (bs : List UInt8) : (refE bs).2.1 ≤ bs.length := by
  obtain ⟨⟨ks, k1, e1⟩, h1⟩ : ∃ y, getR bs = y := ⟨_, rfl⟩
  obtain ⟨⟨s, k2, e2⟩, h2⟩ : ∃ y, getB 1099511627776 (bs.drop k1) = y := ⟨_, rfl⟩
  obtain ⟨⟨u, k3, e3⟩, h3⟩ : ∃ y, getB 1048576 (bs.drop (k1 + k2)) = y := ⟨_, rfl⟩
  obtain ⟨⟨o, k4, e4⟩, h4⟩ : ∃ y, getB 1048576 (bs.drop (k1 + k2 + k3)) = y := ⟨_, rfl⟩
  obtain ⟨⟨has, k5, e5⟩, h5⟩ : ∃ y, getT (bs.drop (k1 + k2 + k3 + k4)) = y := ⟨_, rfl⟩
  obtain ⟨⟨xs, k6, e6⟩, h6⟩ : ∃ y, getR (bs.drop (k1 + k2 + k3 + k4 + k5)) = y := ⟨_, rfl⟩
  have hE : refE bs = if e1 ≠ 0 then (entP0, 0, e1) else if e2 ≠ 0 then (entP0, 0, e2) else if e3 ≠ 0 then (entP0, 0, e3) else if e4 ≠ 0 then (entP0, 0, e4) else if e5 ≠ 0 then (entP0, 0, e5) else
      if has = true then (if e6 ≠ 0 then (entP0, 0, e6) else if rightE ks.length xs.length s u o true ≠ 0 then (entP0, 0, 11) else (⟨ks, s, u, o, true, xs⟩, k1 + k2 + k3 + k4 + k5 + k6, 0))
      else (if rightE ks.length 0 s u o false ≠ 0 then (entP0, 0, 11) else (⟨ks, s, u, o, false, []⟩, k1 + k2 + k3 + k4 + k5, 0)) := by
    unfold refE; simp only [h1, h2, h3, h4, h5, h6]
  have l1 := getR_err bs
  have l2 := getB_err 1099511627776 (bs.drop k1)
  have l3 := getB_err 1048576 (bs.drop (k1 + k2))
  have l4 := getB_err 1048576 (bs.drop (k1 + k2 + k3))
  have l5 := getT_err (bs.drop (k1 + k2 + k3 + k4))
  have l6 := getR_err (bs.drop (k1 + k2 + k3 + k4 + k5))
  rw [h1] at l1
  rw [h2] at l2
  rw [h3] at l3
  rw [h4] at l4
  rw [h5] at l5
  rw [h6] at l6
  simp only [List.length_drop] at l1 l2 l3 l4 l5 l6
  rw [hE]
  clear hE h1 h2 h3 h4 h5 h6
  repeat' split
  all_goals (first | exact Nat.zero_le _ | (simp only; omega))
theorem refsame_same (k : ByteArray) (s u o : Int) (h : Bool) (A A' : Option Addr) (xs : List UInt8) (c c' : Nat) (w : World) (h1 : ValOk w h A xs c) (h2 : ValOk w h A' xs c') :
    Calls Try.prog 34 #[entV k s u o h A xs.length c, entV k s u o h A' xs.length c'] w (IsB true w) := by
  have := refsame_ent k k s u o s u o h h A A' xs xs c c' xs.length xs.length rfl rfl w h1 h2
  rw [sameE_refl] at this; exact this
theorem reads_walk (A : Option Addr) (bs : List UInt8) (n c : Nat) (hn : n = bs.length) (hc : n ≤ c) (w : World) (h : Row w w.heap.size A (bs.map byteV)) :
    Calls Try.prog 6 #[.slice A n c] w fun e w' => e = .returned (.bool true) ∧ Below w.heap.size w w' := by
  by_cases hl : (1500 : Int) < (n : Int)
  · clear h hn hc
    go_enter Try.func6, Try.ntmps6
    go_wp2_with (go_at_call 19; refine (known_any _).mono ?_; rintro e w' ⟨rfl, hb⟩; have HB := Lib.hid hb; clear hb)
    go_ret
    exact ⟨rfl, HB.out⟩
  have hnl : (n : Int) ≤ 1500 := by omega
  have HL : Hid (n ≤ 1000000) := Lib.hid (by omega)
  have HR := Lib.hid h
  have HN := Lib.hid hn
  have HC := Lib.hid hc
  obtain ⟨⟨x, ex⟩, hx⟩ : ∃ y, readP bs = y := ⟨_, rfl⟩
  have hx2 := (read_ref bs).symm.trans hx
  obtain ⟨⟨y, rest, ey⟩, hy⟩ : ∃ y, stepE bs 0 = y := ⟨_, rfl⟩
  obtain ⟨hs1, hs2, hs3⟩ := step_ref bs
  obtain ⟨⟨z, q, ez⟩, hz⟩ : ∃ y, refE bs = y := ⟨_, rfl⟩
  rw [hy, hz] at hs1 hs2 hs3
  simp only at hs1 hs2 hs3
  subst hs1; subst hs2
  have l1 := readP_len bs
  have l2 := stepE_len bs
  rw [hx] at l1
  rw [hy] at l2
  simp only at l1 l2
  have HX := Lib.hid hx
  have HX2 := Lib.hid hx2
  have HY := Lib.hid hy
  have HZ := Lib.hid hz
  have L1 := Lib.hid l1
  have L2 := Lib.hid l2
  have HS : Hid (ey = 0 → (rest.length : Int) = (n : Int) - (q : Int)) := Lib.hid (fun h0 => by
    have := hs3 h0
    have hq : q ≤ bs.length := by
      have := refE_le bs
      rw [hz] at this
      exact this
    rw [this, List.length_drop]
    omega)
  clear h hn hc hx hx2 hy hz l1 l2 hs3 hl
  go_enter Try.func6, Try.ntmps6
  go_wp2_with fail
  refine (read_any _ n c A bs HN.out HL.out _ HR.out (Nat.le_refl _)).mono ?_
  rw [HX.out]
  rintro e w1 ⟨A1, c1, rfl, ho, hb⟩
  have HB1 := Lib.hid hb
  have HV1 := Lib.hid (val_of_own (has := x.has) ho (by have := L1.out; simp only; omega))
  have HB1a : Hid (Below w.heap.size w (w1.alloc (entO ⟨x.k.toArray⟩ x.s x.u x.o x.has A1 x.v.length c1))) := Lib.hid (HB1.out.alloc HB1.out.size _)
  clear ho hb
  go_wp2_with fail
  refine (refread_any n c A bs HN.out HL.out HC.out _ ((HR.out.below HB1a.out).more HB1a.out.size)).mono ?_
  rw [HX2.out]
  rintro e w2 ⟨A2, c2, rfl, ho, hb⟩
  have HB2 : Hid (Below w.heap.size w w2) := Lib.hid (HB1a.out.trans (hb.mono HB1a.out.size))
  have K3 := Lib.hid ((Blk.new w1 43 #[.string ⟨x.k.toArray⟩, .int .i64 x.s, .int .i64 x.u, .int .i64 x.o, .bool x.has, .slice A1 x.v.length c1]).below hb (by simp))
  have HV1b := Lib.hid ((HV1.out.below ((Below.refl _ _).alloc (Nat.le_refl _) (entO ⟨x.k.toArray⟩ x.s x.u x.o x.has A1 x.v.length c1))).below hb)
  have HV2 := Lib.hid (val_of_own (has := x.has) ho (by have := L1.out; simp only; omega))
  have HB2a : Hid (Below w.heap.size w (w2.alloc (entO ⟨x.k.toArray⟩ x.s x.u x.o x.has A2 x.v.length c2))) := Lib.hid (HB2.out.alloc HB2.out.size _)
  have K3a := Lib.hid (K3.out.alloc (entO ⟨x.k.toArray⟩ x.s x.u x.o x.has A2 x.v.length c2))
  have K5 := Lib.hid (Blk.new w2 43 #[.string ⟨x.k.toArray⟩, .int .i64 x.s, .int .i64 x.u, .int .i64 x.o, .bool x.has, .slice A2 x.v.length c2])
  have R1 : Hid (Row (w2.alloc (entO ⟨x.k.toArray⟩ x.s x.u x.o x.has A2 x.v.length c2)) (w2.heap.size + 1) A1 (x.v.map byteV)) := Lib.hid (by have := HV1b.out.row.alloc (Nat.le_refl _) (entO ⟨x.k.toArray⟩ x.s x.u x.o x.has A2 x.v.length c2); exact this.more (by omega))
  have R2 : Hid (Row (w2.alloc (entO ⟨x.k.toArray⟩ x.s x.u x.o x.has A2 x.v.length c2)) (w2.heap.size + 1) A2 (x.v.map byteV)) := Lib.hid (by have := HV2.out.row.alloc (Nat.le_refl _) (entO ⟨x.k.toArray⟩ x.s x.u x.o x.has A2 x.v.length c2); exact this.more (by omega))
  have C1 : Hid (x.v.length ≤ c1) := Lib.hid HV1.out.cap
  have C2 : Hid (x.v.length ≤ c2) := Lib.hid HV2.out.cap
  have l12 : w1.heap.size < w2.heap.size := K3.out.lt
  clear ho hb
  go_wp2_with fail
  refine (new_any _ c n A bs HN.out _ (HR.out.below HB2a.out) HB2a.out.size (by have := HL.out; have := HN.out; omega)).mono ?_
  rintro e w3 ⟨g, rfl, hg, hrd, hb⟩
  have hg2 : w2.heap.size + 1 ≤ g := by simpa using hg
  have HB3 : Hid (Below w.heap.size w w3) := Lib.hid (HB2a.out.trans (hb.mono HB2a.out.size))
  have K3b := Lib.hid (K3a.out.below hb K3a.out.lt)
  have K5b := Lib.hid (K5.out.below hb K5.out.lt)
  have R1b := Lib.hid (R1.out.below (hb.mono (by simp)))
  have R2b := Lib.hid (R2.out.below (hb.mono (by simp)))
  have HD3 := Lib.hid hrd
  have l23 : w2.heap.size < w3.heap.size := K5b.out.lt
  clear hg hb hrd
  go_wp2_with fail
  refine (get_any g bs 0 _ HD3.out).mono ?_
  rw [HY.out]
  rintro e w4 ⟨A4, c4, rfl, ho, hrd, hgr⟩
  have hl2s := HB2.out.size
  have HB4 : Hid (Below w.heap.size w w4) := Lib.hid (below_grown HB3.out hgr HB3.out.size (by omega))
  have K3c := Lib.hid (K3b.out.grown hgr (fun e => by injection e with e; omega))
  have K5c := Lib.hid (K5b.out.grown hgr (fun e => by injection e with e; omega))
  have R1c := Lib.hid (R1b.out.grown hgr (by omega) hg2)
  have R2c := Lib.hid (R2b.out.grown hgr (by omega) hg2)
  have HD4 := Lib.hid (rd_alloc hrd (entO ⟨y.k.toArray⟩ y.s y.u y.o y.has A4 y.v.length c4))
  have HV4 := Lib.hid (val_of_own (has := y.has) ho (by have := L2.out; simp only; omega))
  have HB4a : Hid (Below w.heap.size w (w4.alloc (entO ⟨y.k.toArray⟩ y.s y.u y.o y.has A4 y.v.length c4))) := Lib.hid (HB4.out.alloc HB4.out.size _)
  have K8 := Lib.hid (Blk.new w4 43 #[.string ⟨y.k.toArray⟩, .int .i64 y.s, .int .i64 y.u, .int .i64 y.o, .bool y.has, .slice A4 y.v.length c4])
  have l24 : w2.heap.size < w4.heap.size := K5c.out.lt
  clear ho hrd hgr
  go_wp2_with fail
  refine (refgete_any n c A bs HN.out HL.out HC.out _ ((HR.out.below HB4a.out).more HB4a.out.size)).mono ?_
  rw [HZ.out]
  rintro e w5 ⟨A5, c5, rfl, ho, hb⟩
  have HB5 : Hid (Below w.heap.size w w5) := Lib.hid (HB4a.out.trans (hb.mono HB4a.out.size))
  have K3d := Lib.hid (((K3c.out.alloc (entO ⟨y.k.toArray⟩ y.s y.u y.o y.has A4 y.v.length c4)).below hb (by simp; omega)).alloc (entO ⟨y.k.toArray⟩ y.s y.u y.o y.has A5 y.v.length c5))
  have K5d := Lib.hid (((K5c.out.alloc (entO ⟨y.k.toArray⟩ y.s y.u y.o y.has A4 y.v.length c4)).below hb (by simp; omega)).alloc (entO ⟨y.k.toArray⟩ y.s y.u y.o y.has A5 y.v.length c5))
  have K8d := Lib.hid ((K8.out.below hb (by simp)).alloc (entO ⟨y.k.toArray⟩ y.s y.u y.o y.has A5 y.v.length c5))
  have K9d := Lib.hid (Blk.new w5 43 #[.string ⟨y.k.toArray⟩, .int .i64 y.s, .int .i64 y.u, .int .i64 y.o, .bool y.has, .slice A5 y.v.length c5])
  have HD5 := Lib.hid (rd_alloc (rd_below HD4.out hb) (entO ⟨y.k.toArray⟩ y.s y.u y.o y.has A5 y.v.length c5))
  have HB5a : Hid (Below w.heap.size w (w5.alloc (entO ⟨y.k.toArray⟩ y.s y.u y.o y.has A5 y.v.length c5))) := Lib.hid (HB5.out.alloc HB5.out.size _)
  have l45 : w4.heap.size < w5.heap.size := by have := hb.size; simp at this; omega
  have V4 : Hid (ValOk (w5.alloc (entO ⟨y.k.toArray⟩ y.s y.u y.o y.has A5 y.v.length c5)) y.has A4 y.v c4) := Lib.hid (((HV4.out.below ((Below.refl _ _).alloc (Nat.le_refl _) (entO ⟨y.k.toArray⟩ y.s y.u y.o y.has A4 y.v.length c4))).below hb).below ((Below.refl _ _).alloc (Nat.le_refl _) (entO ⟨y.k.toArray⟩ y.s y.u y.o y.has A5 y.v.length c5)))
  have V5 : Hid (ValOk (w5.alloc (entO ⟨y.k.toArray⟩ y.s y.u y.o y.has A5 y.v.length c5)) y.has A5 y.v c5) := Lib.hid ((val_of_own (has := y.has) ho (by have := L2.out; simp only; omega)).below ((Below.refl _ _).alloc (Nat.le_refl _) (entO ⟨y.k.toArray⟩ y.s y.u y.o y.has A5 y.v.length c5)))
  have V1 : Hid (ValOk (w5.alloc (entO ⟨y.k.toArray⟩ y.s y.u y.o y.has A5 y.v.length c5)) x.has A1 x.v c1) := Lib.hid ⟨(((R1c.out.alloc (by omega) (entO ⟨y.k.toArray⟩ y.s y.u y.o y.has A4 y.v.length c4)).below (hb.mono (by simp; omega))).alloc (by omega) (entO ⟨y.k.toArray⟩ y.s y.u y.o y.has A5 y.v.length c5)).more (by simp; omega), by have := L1.out; omega, C1.out⟩
  have V2 : Hid (ValOk (w5.alloc (entO ⟨y.k.toArray⟩ y.s y.u y.o y.has A5 y.v.length c5)) x.has A2 x.v c2) := Lib.hid ⟨(((R2c.out.alloc (by omega) (entO ⟨y.k.toArray⟩ y.s y.u y.o y.has A4 y.v.length c4)).below (hb.mono (by simp; omega))).alloc (by omega) (entO ⟨y.k.toArray⟩ y.s y.u y.o y.has A5 y.v.length c5)).more (by simp; omega), by have := L1.out; omega, C2.out⟩
  clear ho hb
  have p0 : (w5.alloc (entO ⟨y.k.toArray⟩ y.s y.u y.o y.has A5 y.v.length c5)).cell? ⟨w4.heap.size, 0, none⟩ = some (.string ⟨y.k.toArray⟩) := K8d.out.cell 0
  have p1 : (w5.alloc (entO ⟨y.k.toArray⟩ y.s y.u y.o y.has A5 y.v.length c5)).cell? ⟨w4.heap.size, 1, none⟩ = some (.int .i64 y.s) := K8d.out.cell 1
  have p2 : (w5.alloc (entO ⟨y.k.toArray⟩ y.s y.u y.o y.has A5 y.v.length c5)).cell? ⟨w4.heap.size, 2, none⟩ = some (.int .i64 y.u) := K8d.out.cell 2
  have p3 : (w5.alloc (entO ⟨y.k.toArray⟩ y.s y.u y.o y.has A5 y.v.length c5)).cell? ⟨w4.heap.size, 3, none⟩ = some (.int .i64 y.o) := K8d.out.cell 3
  have p4 : (w5.alloc (entO ⟨y.k.toArray⟩ y.s y.u y.o y.has A5 y.v.length c5)).cell? ⟨w4.heap.size, 4, none⟩ = some (.bool y.has) := K8d.out.cell 4
  have p5 : (w5.alloc (entO ⟨y.k.toArray⟩ y.s y.u y.o y.has A5 y.v.length c5)).cell? ⟨w4.heap.size, 5, none⟩ = some (.slice A4 y.v.length c4) := K8d.out.cell 5
  have q0 : (w5.alloc (entO ⟨y.k.toArray⟩ y.s y.u y.o y.has A5 y.v.length c5)).cell? ⟨w5.heap.size, 0, none⟩ = some (.string ⟨y.k.toArray⟩) := K9d.out.cell 0
  have q1 : (w5.alloc (entO ⟨y.k.toArray⟩ y.s y.u y.o y.has A5 y.v.length c5)).cell? ⟨w5.heap.size, 1, none⟩ = some (.int .i64 y.s) := K9d.out.cell 1
  have q2 : (w5.alloc (entO ⟨y.k.toArray⟩ y.s y.u y.o y.has A5 y.v.length c5)).cell? ⟨w5.heap.size, 2, none⟩ = some (.int .i64 y.u) := K9d.out.cell 2
  have q3 : (w5.alloc (entO ⟨y.k.toArray⟩ y.s y.u y.o y.has A5 y.v.length c5)).cell? ⟨w5.heap.size, 3, none⟩ = some (.int .i64 y.o) := K9d.out.cell 3
  have q4 : (w5.alloc (entO ⟨y.k.toArray⟩ y.s y.u y.o y.has A5 y.v.length c5)).cell? ⟨w5.heap.size, 4, none⟩ = some (.bool y.has) := K9d.out.cell 4
  have q5 : (w5.alloc (entO ⟨y.k.toArray⟩ y.s y.u y.o y.has A5 y.v.length c5)).cell? ⟨w5.heap.size, 5, none⟩ = some (.slice A5 y.v.length c5) := K9d.out.cell 5
  go_wp2_with fail
  refine (refsame_same _ _ _ _ _ _ _ _ _ _ _ V4.out V5.out).mono ?_
  rintro e w6 ⟨rfl, hb⟩
  have HB6 : Hid (Below w.heap.size w w6) := Lib.hid (HB5a.out.trans (hb.mono HB5a.out.size))
  have K3e := Lib.hid (K3d.out.below hb K3d.out.lt)
  have K5e := Lib.hid (K5d.out.below hb K5d.out.lt)
  have HD6 := Lib.hid (rd_below HD5.out hb)
  have V1e := Lib.hid (V1.out.below hb)
  have V2e := Lib.hid (V2.out.below hb)
  clear hb p0 p1 p2 p3 p4 p5 q0 q1 q2 q3 q4 q5
  by_cases h0 : ey = 0
  · have hS := HS.out h0
    subst h0
    have hbS : ((rest.length : Int) != (n : Int) - (q : Int)) = false := by rw [hS]; simp
    have hqn : (q : Int) ≤ (n : Int) := by omega
    clear hS
    go_wp2_with fail
    refine (failed_no g rest _ HD6.out).mono ?_
    rintro e w' ⟨rfl, rfl⟩
    go_wp2_with fail
    refine (left_any g rest _ _ HD6.out).mono ?_
    rintro e w' ⟨rfl, rfl⟩
    have p0 : w6.cell? ⟨w1.heap.size, 0, none⟩ = some (.string ⟨x.k.toArray⟩) := K3e.out.cell 0
    have p1 : w6.cell? ⟨w1.heap.size, 1, none⟩ = some (.int .i64 x.s) := K3e.out.cell 1
    have p2 : w6.cell? ⟨w1.heap.size, 2, none⟩ = some (.int .i64 x.u) := K3e.out.cell 2
    have p3 : w6.cell? ⟨w1.heap.size, 3, none⟩ = some (.int .i64 x.o) := K3e.out.cell 3
    have p4 : w6.cell? ⟨w1.heap.size, 4, none⟩ = some (.bool x.has) := K3e.out.cell 4
    have p5 : w6.cell? ⟨w1.heap.size, 5, none⟩ = some (.slice A1 x.v.length c1) := K3e.out.cell 5
    have q0 : w6.cell? ⟨w2.heap.size, 0, none⟩ = some (.string ⟨x.k.toArray⟩) := K5e.out.cell 0
    have q1 : w6.cell? ⟨w2.heap.size, 1, none⟩ = some (.int .i64 x.s) := K5e.out.cell 1
    have q2 : w6.cell? ⟨w2.heap.size, 2, none⟩ = some (.int .i64 x.u) := K5e.out.cell 2
    have q3 : w6.cell? ⟨w2.heap.size, 3, none⟩ = some (.int .i64 x.o) := K5e.out.cell 3
    have q4 : w6.cell? ⟨w2.heap.size, 4, none⟩ = some (.bool x.has) := K5e.out.cell 4
    have q5 : w6.cell? ⟨w2.heap.size, 5, none⟩ = some (.slice A2 x.v.length c2) := K5e.out.cell 5
    go_wp2_with fail
    refine (refsame_same _ _ _ _ _ _ _ _ _ _ _ V1e.out V2e.out).mono ?_
    rintro e w7 ⟨rfl, hb⟩
    have HB7 : Hid (Below w.heap.size w w7) := Lib.hid (HB6.out.trans (hb.mono HB6.out.size))
    clear hb
    go_wp2_with fail
    refine (known_any _).mono ?_
    rintro e w8 ⟨rfl, hb⟩
    have HB8 : Hid (Below w.heap.size w w8) := Lib.hid (HB7.out.trans (hb.mono HB7.out.size))
    clear hb
    go_wp2
    go_ret
    exact ⟨rfl, HB8.out⟩
  · have hne : (ey != 0) = true := by simpa using h0
    have hne2 : (ey == 0) = false := by simpa using h0
    have HN0 := Lib.hid h0
    clear h0
    go_wp2_with fail
    refine (failed_yes g rest ey HN0.out _ HD6.out).mono ?_
    rintro e w' ⟨rfl, rfl⟩
    have p0 : w6.cell? ⟨w1.heap.size, 0, none⟩ = some (.string ⟨x.k.toArray⟩) := K3e.out.cell 0
    have p1 : w6.cell? ⟨w1.heap.size, 1, none⟩ = some (.int .i64 x.s) := K3e.out.cell 1
    have p2 : w6.cell? ⟨w1.heap.size, 2, none⟩ = some (.int .i64 x.u) := K3e.out.cell 2
    have p3 : w6.cell? ⟨w1.heap.size, 3, none⟩ = some (.int .i64 x.o) := K3e.out.cell 3
    have p4 : w6.cell? ⟨w1.heap.size, 4, none⟩ = some (.bool x.has) := K3e.out.cell 4
    have p5 : w6.cell? ⟨w1.heap.size, 5, none⟩ = some (.slice A1 x.v.length c1) := K3e.out.cell 5
    have q0 : w6.cell? ⟨w2.heap.size, 0, none⟩ = some (.string ⟨x.k.toArray⟩) := K5e.out.cell 0
    have q1 : w6.cell? ⟨w2.heap.size, 1, none⟩ = some (.int .i64 x.s) := K5e.out.cell 1
    have q2 : w6.cell? ⟨w2.heap.size, 2, none⟩ = some (.int .i64 x.u) := K5e.out.cell 2
    have q3 : w6.cell? ⟨w2.heap.size, 3, none⟩ = some (.int .i64 x.o) := K5e.out.cell 3
    have q4 : w6.cell? ⟨w2.heap.size, 4, none⟩ = some (.bool x.has) := K5e.out.cell 4
    have q5 : w6.cell? ⟨w2.heap.size, 5, none⟩ = some (.slice A2 x.v.length c2) := K5e.out.cell 5
    go_wp2_with fail
    refine (refsame_same _ _ _ _ _ _ _ _ _ _ _ V1e.out V2e.out).mono ?_
    rintro e w7 ⟨rfl, hb⟩
    have HB7 : Hid (Below w.heap.size w w7) := Lib.hid (HB6.out.trans (hb.mono HB6.out.size))
    clear hb
    go_wp2_with fail
    refine (known_any _).mono ?_
    rintro e w8 ⟨rfl, hb⟩
    have HB8 : Hid (Below w.heap.size w w8) := Lib.hid (HB7.out.trans (hb.mono HB7.out.size))
    clear hb
    go_wp2
    go_ret
    exact ⟨rfl, HB8.out⟩
end Go.Proofs.Ytnljljfopelopaa
