/- The bytes of an entry, by the document. -/
import Derived.Test.YtnljljfopelopaaBytesE
namespace Go.Proofs.Ytnljljfopelopaa
open Go.RowKit Mem Be
set_option maxRecDepth 10000
set_option maxHeartbeats 4000000
theorem blk_own {w w' : World} {g : Nat} {t : TypeId} {cs : Array Value} {B : Nat} {v : Value} {n : Nat} {e : TypeId} {xs : List Value} (hk : Blk w g t cs) (hg : w.grownBy w' v.ownBlock) (ho : w.ownsRow B e 1 v n xs) (hB : g < B) : Blk w' g t cs :=
  hk.grown hg (fun e => by have := (ho.lt g e.symm).1; omega)
theorem below_own {w0 w w' : World} {B C : Nat} {v : Value} {n : Nat} {e : TypeId} {xs : List Value} (hb : Below C w0 w) (hg : w.grownBy w' v.ownBlock) (ho : w.ownsRow B e 1 v n xs) (hC : C ≤ w0.heap.size) (hB : C ≤ B) : Below C w0 w' :=
  hb.grown hg (Nat.le_trans hC hb.size) (fun k hk => Nat.le_trans hB (ho.lt k hk).1)
theorem own_other {w w' : World} {B n : Nat} {e : TypeId} {u v : Value} {xs : List Value} (h : w.ownsRow B e 1 v n xs) (hg : w.grownBy w' u.ownBlock) (hu : ∀ k, u.ownBlock = some k → k < B) : w'.ownsRow B e 1 v n xs := by
  refine h.kept hg ?_
  cases hv : v.ownBlock with
  | none => exact Or.inl rfl
  | some k => exact Or.inr (fun e => by have := (h.lt k hv).1; have := hu k e.symm; omega)
theorem refbytes_err (key : ByteArray) (s u o : Int) (has : Bool) (A : Option Addr) (m c : Nat) (hm : (m : Int) ≤ 1073741824) (hsz : (key.size : Int) ≤ 1073741824) (hr : rightE key.size m s u o has = 2) (w : World) :
    Calls Try.prog 24 #[entV key s u o has A m c] w (Made2 w.heap.size [] 2 w) := by
  have HR : Hid (∀ W, Calls Try.prog 27 #[entV key s u o has A m c] W (IsI 2 W)) := Lib.hid fun W => by
    rw [← hr]; exact refright_any key s u o has A m c hm hsz W
  clear hr
  go_enter Try.func24, Try.ntmps24
  go_wp2_with fail
  refine (HR.out _).mono ?_
  rintro e w1 ⟨rfl, hb⟩
  have HB := Lib.hid (below_after1 hb)
  clear hb
  go_wp2
  go_ret2
  exact ⟨none, 0, rfl, World.ownsRow_nil _ _ _ _, HB.out⟩
theorem refbytes_no (key : ByteArray) (s u o : Int) (A : Option Addr) (xs : List UInt8) (n c : Nat) (hn : n = xs.length) (hr : rightE key.size n s u o false = 0) (w : World) (h : ValOk w false A xs c) :
    Calls Try.prog 24 #[entV key s u o false A n c] w (Made2 w.heap.size (entB (kb key) s u o false xs) 0 w) := by
  obtain ⟨i0, hi0, hz0, hz1, hz2⟩ := info_parts info_b
  have hyes := rightE_yes hr
  have HK : Hid (key.size ≤ 250) := Lib.hid hyes.2.1
  have HX : Hid (xs.length ≤ 60000) := Lib.hid (by omega)
  have HR : Hid (∀ W, Calls Try.prog 27 #[entV key s u o false A n c] W (IsI 0 W)) := Lib.hid fun W => by
    rw [← hr]; exact refright_any key s u o false A n c (by omega) (by omega) W
  have HV := Lib.hid h
  have HN := Lib.hid hn
  clear hr h hn hyes
  have hblk := Blk.new w 43 #[.string key, .int .i64 s, .int .i64 u, .int .i64 o, .bool false, .slice A n c]
  have HBK := Lib.hid hblk
  clear hblk
  have h90 := numB_le ((kb key).length : Int)
  have h91 := numB_le s
  have h92 := numB_le u
  have h93 := numB_le o
  obtain ⟨R0, hR0⟩ : ∃ R0, R0 = rowB (kb key) := ⟨_, rfl⟩
  obtain ⟨N1, hN1⟩ : ∃ N1, N1 = numB s := ⟨_, rfl⟩
  obtain ⟨N2, hN2⟩ : ∃ N2, N2 = numB u := ⟨_, rfl⟩
  obtain ⟨N3, hN3⟩ : ∃ N3, N3 = numB o := ⟨_, rfl⟩
  obtain ⟨R1, hR1⟩ : ∃ R1, R1 = R0 ++ N1 := ⟨_, rfl⟩
  obtain ⟨R2, hR2⟩ : ∃ R2, R2 = R1 ++ N2 := ⟨_, rfl⟩
  obtain ⟨R3, hR3⟩ : ∃ R3, R3 = R2 ++ N3 := ⟨_, rfl⟩
  obtain ⟨R4, hR4⟩ : ∃ R4, R4 = R3 ++ truthB false := ⟨_, rfl⟩
  have L0 : Hid (R0.length ≤ 300) := Lib.hid (by rw [hR0]; unfold rowB; rw [List.length_append, kb_len] at *; have := HK.out; omega)
  have M1 : Hid (N1.length ≤ 9) := Lib.hid (by rw [hN1]; exact h91)
  have M2 : Hid (N2.length ≤ 9) := Lib.hid (by rw [hN2]; exact h92)
  have M3 : Hid (N3.length ≤ 9) := Lib.hid (by rw [hN3]; exact h93)
  have L1 : Hid (R1.length ≤ 400) := Lib.hid (by rw [hR1, List.length_append]; have := L0.out; have := M1.out; omega)
  have L2 : Hid (R2.length ≤ 500) := Lib.hid (by rw [hR2, List.length_append]; have := L1.out; have := M2.out; omega)
  have L3 : Hid (R3.length ≤ 600) := Lib.hid (by rw [hR3, List.length_append]; have := L2.out; have := M3.out; omega)
  have L4 : Hid (R4.length ≤ 700) := Lib.hid (by rw [hR4, List.length_append]; have := L3.out; unfold truthB; simp; omega)
  have X1 : Hid (R0.map byteV ++ N1.map byteV = R1.map byteV) := Lib.hid (by rw [hR1, List.map_append])
  have X2 : Hid (R1.map byteV ++ N2.map byteV = R2.map byteV) := Lib.hid (by rw [hR2, List.map_append])
  have X3 : Hid (R2.map byteV ++ N3.map byteV = R3.map byteV) := Lib.hid (by rw [hR3, List.map_append])
  have X4 : Hid (R3.map byteV ++ [byteV 0] = R4.map byteV) := Lib.hid (by rw [hR4, List.map_append]; rfl)
  have HE : Hid (entB (kb key) s u o false xs = R4) := Lib.hid (by rw [hR4, hR3, hR2, hR1, hR0, hN1, hN2, hN3]; simp [entB, tagB])
  have HR0 := Lib.hid hR0
  have HN1 := Lib.hid hN1
  have HN2 := Lib.hid hN2
  have HN3 := Lib.hid hN3
  rw [HE.out]
  clear hR0 hN1 hN2 hN3 hR1 hR2 hR3 hR4 h90 h91 h92 h93
  go_enter Try.func24, Try.ntmps24
  go_wp2_with fail
  refine (HR.out _).mono ?_
  rintro e w1 ⟨rfl, hb⟩
  have HB1 := Lib.hid (below_after1 hb)
  have HK1 := Lib.hid (HBK.out.below hb (by simp))
  have k0 : w1.cell? ⟨w.heap.size, 0, none⟩ = some (.string key) := HK1.out.cell 0
  clear hb
  go_wp2_with (with_reducible refine wpList_conv _ rfl _ _ _ _ rfl key rfl Try.underlying9 Try.underlying39 Try.underlying5 ?_)
  intro A1 c1 w2 hrow hb _
  have HB2 : Hid (Below w.heap.size w w2) := Lib.hid (HB1.out.trans (hb.mono HB1.out.size))
  have HK2 := Lib.hid (HK1.out.below hb HK1.out.lt)
  have HRO := Lib.hid hrow
  clear k0 hrow hb
  go_wp2_with fail
  refine (refrow_any _ c1 _ A1 (kb key) (kb_len key).symm _ HRO.out (Nat.le_refl _) (by rw [kb_len]; have := HK.out; omega)).mono ?_
  rw [← HR0.out]
  rintro e w3 ⟨A3, c3, rfl, ho, hb⟩
  have HB3 : Hid (Below w.heap.size w w3) := Lib.hid (HB2.out.trans (hb.mono HB2.out.size))
  have HK3 := Lib.hid (HK2.out.below hb HK2.out.lt)
  have HO3 : Hid (w3.ownsRow (w.heap.size + 1) 5 1 (.slice A3 R0.length c3) R0.length (R0.map byteV)) := Lib.hid (own_base ho HK2.out.lt)
  clear ho hb
  have q1 : w3.cell? ⟨w.heap.size, 1, none⟩ = some (.int .i64 s) := HK3.out.cell 1
  go_wp2_with fail
  refine (refnum_any s _).mono ?_
  rw [← HN1.out]
  rintro e w4 ⟨A4, c4, rfl, ho, hb⟩
  have HB4 : Hid (Below w.heap.size w w4) := Lib.hid (HB3.out.trans (hb.mono HB3.out.size))
  have HK4 := Lib.hid (HK3.out.below hb HK3.out.lt)
  have HP4 := Lib.hid (own_below HO3.out hb)
  have HQ4 := Lib.hid (Row.of_own ho)
  clear ho hb q1
  go_wp2_with (at_builtin; refine wpList_app _ rfl _ _ 39 rfl (w.heap.size + 1) 5 i0 (.int .u8 0) 1 Try.underlying39 hi0 hz0 hz1 hz2 rfl _ _ _ rfl HP4.out w4.heap.size _ N1.length c4 (N1.map byteV) rfl (by simp) HQ4.out (byte_one N1) (by have := L0.out; have := M1.out; unfold maxLen; omega) (by have := L0.out; have := M1.out; omega) HK4.out.lt ?_)
  intro v' w5 hown hgr _
  have HB5 : Hid (Below w.heap.size w w5) := Lib.hid (below_own HB4.out hgr HP4.out (Nat.le_refl _) (by omega))
  have HK5 := Lib.hid (blk_own HK4.out hgr HP4.out (by omega))
  obtain ⟨A5, c5, rfl, ho5⟩ := own_of R1 hown X1.out
  have HO5 := Lib.hid ho5
  clear hown hgr ho5
  have q2 : w5.cell? ⟨w.heap.size, 2, none⟩ = some (.int .i64 u) := HK5.out.cell 2
  go_wp2_with fail
  refine (refnum_any u _).mono ?_
  rw [← HN2.out]
  rintro e w6 ⟨A6, c6, rfl, ho, hb⟩
  have HB6 : Hid (Below w.heap.size w w6) := Lib.hid (HB5.out.trans (hb.mono HB5.out.size))
  have HK6 := Lib.hid (HK5.out.below hb HK5.out.lt)
  have HP6 := Lib.hid (own_below HO5.out hb)
  have HQ6 := Lib.hid (Row.of_own ho)
  clear ho hb q2
  go_wp2_with (at_builtin; refine wpList_app _ rfl _ _ 39 rfl (w.heap.size + 1) 5 i0 (.int .u8 0) 1 Try.underlying39 hi0 hz0 hz1 hz2 rfl _ _ _ rfl HP6.out w6.heap.size _ N2.length c6 (N2.map byteV) rfl (by simp) HQ6.out (byte_one N2) (by have := L1.out; have := M2.out; unfold maxLen; omega) (by have := L1.out; have := M2.out; omega) HK6.out.lt ?_)
  intro v' w7 hown hgr _
  have HB7 : Hid (Below w.heap.size w w7) := Lib.hid (below_own HB6.out hgr HP6.out (Nat.le_refl _) (by omega))
  have HK7 := Lib.hid (blk_own HK6.out hgr HP6.out (by omega))
  obtain ⟨A7, c7, rfl, ho7⟩ := own_of R2 hown X2.out
  have HO7 := Lib.hid ho7
  clear hown hgr ho7
  have q3 : w7.cell? ⟨w.heap.size, 3, none⟩ = some (.int .i64 o) := HK7.out.cell 3
  go_wp2_with fail
  refine (refnum_any o _).mono ?_
  rw [← HN3.out]
  rintro e w8 ⟨A8, c8, rfl, ho, hb⟩
  have HB8 : Hid (Below w.heap.size w w8) := Lib.hid (HB7.out.trans (hb.mono HB7.out.size))
  have HK8 := Lib.hid (HK7.out.below hb HK7.out.lt)
  have HP8 := Lib.hid (own_below HO7.out hb)
  have HQ8 := Lib.hid (Row.of_own ho)
  clear ho hb q3
  go_wp2_with (at_builtin; refine wpList_app _ rfl _ _ 39 rfl (w.heap.size + 1) 5 i0 (.int .u8 0) 1 Try.underlying39 hi0 hz0 hz1 hz2 rfl _ _ _ rfl HP8.out w8.heap.size _ N3.length c8 (N3.map byteV) rfl (by simp) HQ8.out (byte_one N3) (by have := L2.out; have := M3.out; unfold maxLen; omega) (by have := L2.out; have := M3.out; omega) HK8.out.lt ?_)
  intro v' w9 hown hgr _
  have HB9 : Hid (Below w.heap.size w w9) := Lib.hid (below_own HB8.out hgr HP8.out (Nat.le_refl _) (by omega))
  have HK9 := Lib.hid (blk_own HK8.out hgr HP8.out (by omega))
  obtain ⟨A9, c9, rfl, ho9⟩ := own_of R3 hown X3.out
  have HO9 := Lib.hid ho9
  clear hown hgr ho9
  have q4 : w9.cell? ⟨w.heap.size, 4, none⟩ = some (.bool false) := HK9.out.cell 4
  go_wp2_with (at_builtin; refine wpList_app _ rfl _ _ 39 rfl (w.heap.size + 1) 5 i0 (.int .u8 0) 1 Try.underlying39 hi0 hz0 hz1 hz2 rfl _ _ _ rfl (HO9.out.alloc _) (w9.heap.size + 1) _ 1 1 [byteV 0] rfl rfl (row_cells rfl) (by simp [byteV, Value.oneCell']) (by have := L3.out; unfold maxLen; omega) (by have := L3.out; omega) (by have := HK9.out.lt; simp; omega) ?_)
  intro v' w11 hown hgr _
  have HB11 : Hid (Below w.heap.size w w11) := Lib.hid (below_own (HB9.out.alloc HB9.out.size _) hgr (HO9.out.alloc _) (Nat.le_refl _) (by omega))
  obtain ⟨A11, c11, rfl, ho11⟩ := own_of R4 hown X4.out
  have HO11 := Lib.hid (own_base ho11 (by omega : w.heap.size ≤ _))
  clear hown hgr ho11
  go_wp2
  go_ret2
  exact made2_of HO11.out rfl HB11.out
theorem refbytes_yes (key : ByteArray) (s u o : Int) (A : Option Addr) (xs : List UInt8) (n c : Nat) (hn : n = xs.length) (hr : rightE key.size n s u o true = 0) (w : World) (h : ValOk w true A xs c) :
    Calls Try.prog 24 #[entV key s u o true A n c] w (Made2 w.heap.size (entB (kb key) s u o true xs) 0 w) := by
  obtain ⟨i0, hi0, hz0, hz1, hz2⟩ := info_parts info_b
  have hyes := rightE_yes hr
  have HK : Hid (key.size ≤ 250) := Lib.hid hyes.2.1
  have HX : Hid (xs.length ≤ 60000) := Lib.hid (by omega)
  have HR : Hid (∀ W, Calls Try.prog 27 #[entV key s u o true A n c] W (IsI 0 W)) := Lib.hid fun W => by
    rw [← hr]; exact refright_any key s u o true A n c (by omega) (by omega) W
  have HV := Lib.hid h
  have HN := Lib.hid hn
  clear hr h hn hyes
  have hblk := Blk.new w 43 #[.string key, .int .i64 s, .int .i64 u, .int .i64 o, .bool true, .slice A n c]
  have HBK := Lib.hid hblk
  clear hblk
  have h90 := numB_le ((kb key).length : Int)
  have h91 := numB_le s
  have h92 := numB_le u
  have h93 := numB_le o
  obtain ⟨R0, hR0⟩ : ∃ R0, R0 = rowB (kb key) := ⟨_, rfl⟩
  obtain ⟨N1, hN1⟩ : ∃ N1, N1 = numB s := ⟨_, rfl⟩
  obtain ⟨N2, hN2⟩ : ∃ N2, N2 = numB u := ⟨_, rfl⟩
  obtain ⟨N3, hN3⟩ : ∃ N3, N3 = numB o := ⟨_, rfl⟩
  obtain ⟨R1, hR1⟩ : ∃ R1, R1 = R0 ++ N1 := ⟨_, rfl⟩
  obtain ⟨R2, hR2⟩ : ∃ R2, R2 = R1 ++ N2 := ⟨_, rfl⟩
  obtain ⟨R3, hR3⟩ : ∃ R3, R3 = R2 ++ N3 := ⟨_, rfl⟩
  obtain ⟨R4, hR4⟩ : ∃ R4, R4 = R3 ++ truthB true := ⟨_, rfl⟩
  have L0 : Hid (R0.length ≤ 300) := Lib.hid (by rw [hR0]; unfold rowB; rw [List.length_append, kb_len] at *; have := HK.out; omega)
  have M1 : Hid (N1.length ≤ 9) := Lib.hid (by rw [hN1]; exact h91)
  have M2 : Hid (N2.length ≤ 9) := Lib.hid (by rw [hN2]; exact h92)
  have M3 : Hid (N3.length ≤ 9) := Lib.hid (by rw [hN3]; exact h93)
  have L1 : Hid (R1.length ≤ 400) := Lib.hid (by rw [hR1, List.length_append]; have := L0.out; have := M1.out; omega)
  have L2 : Hid (R2.length ≤ 500) := Lib.hid (by rw [hR2, List.length_append]; have := L1.out; have := M2.out; omega)
  have L3 : Hid (R3.length ≤ 600) := Lib.hid (by rw [hR3, List.length_append]; have := L2.out; have := M3.out; omega)
  have L4 : Hid (R4.length ≤ 700) := Lib.hid (by rw [hR4, List.length_append]; have := L3.out; unfold truthB; simp; omega)
  have X1 : Hid (R0.map byteV ++ N1.map byteV = R1.map byteV) := Lib.hid (by rw [hR1, List.map_append])
  have X2 : Hid (R1.map byteV ++ N2.map byteV = R2.map byteV) := Lib.hid (by rw [hR2, List.map_append])
  have X3 : Hid (R2.map byteV ++ N3.map byteV = R3.map byteV) := Lib.hid (by rw [hR3, List.map_append])
  have X4 : Hid (R3.map byteV ++ [byteV 1] = R4.map byteV) := Lib.hid (by rw [hR4, List.map_append]; rfl)
  have HE : Hid (entB (kb key) s u o true xs = R4 ++ rowB xs) := Lib.hid (by rw [hR4, hR3, hR2, hR1, hR0, hN1, hN2, hN3]; simp [entB, tagB])
  have HR0 := Lib.hid hR0
  have HN1 := Lib.hid hN1
  have HN2 := Lib.hid hN2
  have HN3 := Lib.hid hN3
  rw [HE.out]
  clear hR0 hN1 hN2 hN3 hR1 hR2 hR3 hR4 h90 h91 h92 h93
  go_enter Try.func24, Try.ntmps24
  go_wp2_with fail
  refine (HR.out _).mono ?_
  rintro e w1 ⟨rfl, hb⟩
  have HB1 := Lib.hid (below_after1 hb)
  have HK1 := Lib.hid (HBK.out.below hb (by simp))
  have k0 : w1.cell? ⟨w.heap.size, 0, none⟩ = some (.string key) := HK1.out.cell 0
  clear hb
  go_wp2_with (with_reducible refine wpList_conv _ rfl _ _ _ _ rfl key rfl Try.underlying9 Try.underlying39 Try.underlying5 ?_)
  intro A1 c1 w2 hrow hb _
  have HB2 : Hid (Below w.heap.size w w2) := Lib.hid (HB1.out.trans (hb.mono HB1.out.size))
  have HK2 := Lib.hid (HK1.out.below hb HK1.out.lt)
  have HRO := Lib.hid hrow
  clear k0 hrow hb
  go_wp2_with fail
  refine (refrow_any _ c1 _ A1 (kb key) (kb_len key).symm _ HRO.out (Nat.le_refl _) (by rw [kb_len]; have := HK.out; omega)).mono ?_
  rw [← HR0.out]
  rintro e w3 ⟨A3, c3, rfl, ho, hb⟩
  have HB3 : Hid (Below w.heap.size w w3) := Lib.hid (HB2.out.trans (hb.mono HB2.out.size))
  have HK3 := Lib.hid (HK2.out.below hb HK2.out.lt)
  have HO3 : Hid (w3.ownsRow (w.heap.size + 1) 5 1 (.slice A3 R0.length c3) R0.length (R0.map byteV)) := Lib.hid (own_base ho HK2.out.lt)
  clear ho hb
  have q1 : w3.cell? ⟨w.heap.size, 1, none⟩ = some (.int .i64 s) := HK3.out.cell 1
  go_wp2_with fail
  refine (refnum_any s _).mono ?_
  rw [← HN1.out]
  rintro e w4 ⟨A4, c4, rfl, ho, hb⟩
  have HB4 : Hid (Below w.heap.size w w4) := Lib.hid (HB3.out.trans (hb.mono HB3.out.size))
  have HK4 := Lib.hid (HK3.out.below hb HK3.out.lt)
  have HP4 := Lib.hid (own_below HO3.out hb)
  have HQ4 := Lib.hid (Row.of_own ho)
  clear ho hb q1
  go_wp2_with (at_builtin; refine wpList_app _ rfl _ _ 39 rfl (w.heap.size + 1) 5 i0 (.int .u8 0) 1 Try.underlying39 hi0 hz0 hz1 hz2 rfl _ _ _ rfl HP4.out w4.heap.size _ N1.length c4 (N1.map byteV) rfl (by simp) HQ4.out (byte_one N1) (by have := L0.out; have := M1.out; unfold maxLen; omega) (by have := L0.out; have := M1.out; omega) HK4.out.lt ?_)
  intro v' w5 hown hgr _
  have HB5 : Hid (Below w.heap.size w w5) := Lib.hid (below_own HB4.out hgr HP4.out (Nat.le_refl _) (by omega))
  have HK5 := Lib.hid (blk_own HK4.out hgr HP4.out (by omega))
  obtain ⟨A5, c5, rfl, ho5⟩ := own_of R1 hown X1.out
  have HO5 := Lib.hid ho5
  clear hown hgr ho5
  have q2 : w5.cell? ⟨w.heap.size, 2, none⟩ = some (.int .i64 u) := HK5.out.cell 2
  go_wp2_with fail
  refine (refnum_any u _).mono ?_
  rw [← HN2.out]
  rintro e w6 ⟨A6, c6, rfl, ho, hb⟩
  have HB6 : Hid (Below w.heap.size w w6) := Lib.hid (HB5.out.trans (hb.mono HB5.out.size))
  have HK6 := Lib.hid (HK5.out.below hb HK5.out.lt)
  have HP6 := Lib.hid (own_below HO5.out hb)
  have HQ6 := Lib.hid (Row.of_own ho)
  clear ho hb q2
  go_wp2_with (at_builtin; refine wpList_app _ rfl _ _ 39 rfl (w.heap.size + 1) 5 i0 (.int .u8 0) 1 Try.underlying39 hi0 hz0 hz1 hz2 rfl _ _ _ rfl HP6.out w6.heap.size _ N2.length c6 (N2.map byteV) rfl (by simp) HQ6.out (byte_one N2) (by have := L1.out; have := M2.out; unfold maxLen; omega) (by have := L1.out; have := M2.out; omega) HK6.out.lt ?_)
  intro v' w7 hown hgr _
  have HB7 : Hid (Below w.heap.size w w7) := Lib.hid (below_own HB6.out hgr HP6.out (Nat.le_refl _) (by omega))
  have HK7 := Lib.hid (blk_own HK6.out hgr HP6.out (by omega))
  obtain ⟨A7, c7, rfl, ho7⟩ := own_of R2 hown X2.out
  have HO7 := Lib.hid ho7
  clear hown hgr ho7
  have q3 : w7.cell? ⟨w.heap.size, 3, none⟩ = some (.int .i64 o) := HK7.out.cell 3
  go_wp2_with fail
  refine (refnum_any o _).mono ?_
  rw [← HN3.out]
  rintro e w8 ⟨A8, c8, rfl, ho, hb⟩
  have HB8 : Hid (Below w.heap.size w w8) := Lib.hid (HB7.out.trans (hb.mono HB7.out.size))
  have HK8 := Lib.hid (HK7.out.below hb HK7.out.lt)
  have HP8 := Lib.hid (own_below HO7.out hb)
  have HQ8 := Lib.hid (Row.of_own ho)
  clear ho hb q3
  go_wp2_with (at_builtin; refine wpList_app _ rfl _ _ 39 rfl (w.heap.size + 1) 5 i0 (.int .u8 0) 1 Try.underlying39 hi0 hz0 hz1 hz2 rfl _ _ _ rfl HP8.out w8.heap.size _ N3.length c8 (N3.map byteV) rfl (by simp) HQ8.out (byte_one N3) (by have := L2.out; have := M3.out; unfold maxLen; omega) (by have := L2.out; have := M3.out; omega) HK8.out.lt ?_)
  intro v' w9 hown hgr _
  have HB9 : Hid (Below w.heap.size w w9) := Lib.hid (below_own HB8.out hgr HP8.out (Nat.le_refl _) (by omega))
  have HK9 := Lib.hid (blk_own HK8.out hgr HP8.out (by omega))
  obtain ⟨A9, c9, rfl, ho9⟩ := own_of R3 hown X3.out
  have HO9 := Lib.hid ho9
  clear hown hgr ho9
  have q4 : w9.cell? ⟨w.heap.size, 4, none⟩ = some (.bool true) := HK9.out.cell 4
  have q5 : w9.cell? ⟨w.heap.size, 5, none⟩ = some (.slice A n c) := HK9.out.cell 5
  go_wp2_with fail
  refine (refrow_any w.heap.size c n A xs HN.out _ (HV.out.row.below HB9.out) HB9.out.size (by have := HX.out; omega)).mono ?_
  rintro e w10 ⟨A10, c10, rfl, ho, hb⟩
  have HB10 : Hid (Below w.heap.size w w10) := Lib.hid (HB9.out.trans (hb.mono HB9.out.size))
  have HK10 := Lib.hid (HK9.out.below hb HK9.out.lt)
  have HP10 := Lib.hid (own_below HO9.out hb)
  have HQ10 := Lib.hid ho
  clear ho hb q4 q5
  go_wp2_with (at_builtin; refine wpList_app _ rfl _ _ 39 rfl (w.heap.size + 1) 5 i0 (.int .u8 0) 1 Try.underlying39 hi0 hz0 hz1 hz2 rfl _ _ _ rfl (HP10.out.alloc _) (w10.heap.size + 1) _ 1 1 [byteV 1] rfl rfl (row_cells rfl) (by simp [byteV, Value.oneCell']) (by have := L3.out; unfold maxLen; omega) (by have := L3.out; omega) (by have := HK10.out.lt; simp; omega) ?_)
  intro v' w11 hown hgr _
  have HB11 : Hid (Below w.heap.size w w11) := Lib.hid (below_own (HB10.out.alloc HB10.out.size _) hgr (HP10.out.alloc _) (Nat.le_refl _) (by omega))
  have HQ11 := Lib.hid (Row.of_own (own_other (HQ10.out.alloc _) hgr (fun k hk => (HO9.out.lt k hk).2)))
  obtain ⟨A11, c11, rfl, ho11⟩ := own_of R4 hown X4.out
  have HO11 := Lib.hid ho11
  have HS11 : Hid (w.heap.size + 1 ≤ w11.heap.size) := Lib.hid (by have := HK10.out.lt; have := hgr.size; simp at this; omega)
  clear hown hgr ho11
  have hx9 := numB_le (xs.length : Int)
  have LX : Hid ((rowB xs).length ≤ 60009) := Lib.hid (by unfold rowB; rw [List.length_append]; have := HX.out; omega)
  clear hx9
  go_wp2_with (at_builtin; refine wpList_app _ rfl _ _ 39 rfl (w.heap.size + 1) 5 i0 (.int .u8 0) 1 Try.underlying39 hi0 hz0 hz1 hz2 rfl _ _ _ rfl HO11.out w11.heap.size _ (rowB xs).length c10 ((rowB xs).map byteV) rfl (by simp) HQ11.out (byte_one (rowB xs)) (by have := L4.out; have := LX.out; unfold maxLen; omega) (by have := L4.out; have := LX.out; omega) HS11.out ?_)
  intro v' w12 hown hgr _
  have HB12 : Hid (Below w.heap.size w w12) := Lib.hid (below_own HB11.out hgr HO11.out (Nat.le_refl _) (by omega))
  have HO12 := Lib.hid (own_base hown (by omega : w.heap.size ≤ _))
  clear hown hgr
  go_wp2
  go_ret2
  exact made2_of HO12.out (by rw [List.map_append]) HB12.out
end Go.Proofs.Ytnljljfopelopaa
