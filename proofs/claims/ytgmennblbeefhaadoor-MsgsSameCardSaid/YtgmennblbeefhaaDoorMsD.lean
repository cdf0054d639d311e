/- MsD: Package msgs: Back. -/
import Derived.Test.YtgmennblbeefhaaDoorMsR0
import Derived.BigQuiet
namespace Go.Proofs.YtgmennblbeefhaaDoor
open Go.RowKit Mem Be Rg
set_option maxRecDepth 100000
set_option maxHeartbeats 16000000
set_option linter.unusedVariables false
theorem back_any_yes (k : Int) (he : hasE k = true) (kind fr dst ep op n : Int) (flag : Bool) (key : ByteArray) (s u o : Int) (has : Bool) (A : Option Addr) (m c : Nat) (lA : Option Addr) (ln lc : Nat) (rA : Option Addr) (rn rc : Nat) (each keep : Int) (w : World) (h : KT w) :
    Calls Tryd.prog 25 #[.agg (msgC kind fr dst ep op n flag key s u o has A m c lA ln lc rA rn rc each keep), .int .i64 k] w (BackP k fr dst ep op key w) := by
  have hb0 : Below w.heap.size w ((((w.alloc (.cells #[.int .i64 kind, .int .i64 fr, .int .i64 dst, .int .i64 ep, .int .i64 op, .int .i64 n, .bool flag, .string key, .int .i64 s, .int .i64 u, .int .i64 o, .bool has, .slice A m c, .slice lA ln lc, .slice rA rn rc, .int .i64 each, .int .i64 keep] 34))).alloc (.cells #[.int .i64 0, .int .i64 0, .int .i64 0, .int .i64 0, .int .i64 0, .int .i64 0, .bool false, .string ⟨#[]⟩, .int .i64 0, .int .i64 0, .int .i64 0, .bool false, .slice none 0 0, .slice none 0 0, .slice none 0 0, .int .i64 0, .int .i64 0] 34)).alloc (.cells #[.int .i64 k, .int .i64 dst, .int .i64 fr, .int .i64 ep, .int .i64 op, .int .i64 0, .bool false, .string ⟨#[]⟩, .int .i64 0, .int .i64 0, .int .i64 0, .bool false, .slice none 0 0, .slice none 0 0, .slice none 0 0, .int .i64 0, .int .i64 0] 34)) := (((Below.refl _ _).alloc (Nat.le_refl _) _).alloc (by simp) _).alloc (by simp; omega) _
  have hk1 := Blk.new w 34 #[.int .i64 kind, .int .i64 fr, .int .i64 dst, .int .i64 ep, .int .i64 op, .int .i64 n, .bool flag, .string key, .int .i64 s, .int .i64 u, .int .i64 o, .bool has, .slice A m c, .slice lA ln lc, .slice rA rn rc, .int .i64 each, .int .i64 keep]
  have hk2 := Blk.new (w.alloc (.cells #[.int .i64 kind, .int .i64 fr, .int .i64 dst, .int .i64 ep, .int .i64 op, .int .i64 n, .bool flag, .string key, .int .i64 s, .int .i64 u, .int .i64 o, .bool has, .slice A m c, .slice lA ln lc, .slice rA rn rc, .int .i64 each, .int .i64 keep] 34)) 34 #[.int .i64 0, .int .i64 0, .int .i64 0, .int .i64 0, .int .i64 0, .int .i64 0, .bool false, .string ⟨#[]⟩, .int .i64 0, .int .i64 0, .int .i64 0, .bool false, .slice none 0 0, .slice none 0 0, .slice none 0 0, .int .i64 0, .int .i64 0]
  have hk3 := Blk.new ((w.alloc (.cells #[.int .i64 kind, .int .i64 fr, .int .i64 dst, .int .i64 ep, .int .i64 op, .int .i64 n, .bool flag, .string key, .int .i64 s, .int .i64 u, .int .i64 o, .bool has, .slice A m c, .slice lA ln lc, .slice rA rn rc, .int .i64 each, .int .i64 keep] 34)).alloc (.cells #[.int .i64 0, .int .i64 0, .int .i64 0, .int .i64 0, .int .i64 0, .int .i64 0, .bool false, .string ⟨#[]⟩, .int .i64 0, .int .i64 0, .int .i64 0, .bool false, .slice none 0 0, .slice none 0 0, .slice none 0 0, .int .i64 0, .int .i64 0] 34)) 34 #[.int .i64 k, .int .i64 dst, .int .i64 fr, .int .i64 ep, .int .i64 op, .int .i64 0, .bool false, .string ⟨#[]⟩, .int .i64 0, .int .i64 0, .int .i64 0, .bool false, .slice none 0 0, .slice none 0 0, .slice none 0 0, .int .i64 0, .int .i64 0]
  rw [World.size_alloc] at hk2
  rw [World.size_alloc, World.size_alloc] at hk3
  have HK1 := Lib.hid ((hk1.alloc (.cells #[.int .i64 0, .int .i64 0, .int .i64 0, .int .i64 0, .int .i64 0, .int .i64 0, .bool false, .string ⟨#[]⟩, .int .i64 0, .int .i64 0, .int .i64 0, .bool false, .slice none 0 0, .slice none 0 0, .slice none 0 0, .int .i64 0, .int .i64 0] 34)).alloc (.cells #[.int .i64 k, .int .i64 dst, .int .i64 fr, .int .i64 ep, .int .i64 op, .int .i64 0, .bool false, .string ⟨#[]⟩, .int .i64 0, .int .i64 0, .int .i64 0, .bool false, .slice none 0 0, .slice none 0 0, .slice none 0 0, .int .i64 0, .int .i64 0] 34))
  have HK2 := Lib.hid (hk2.alloc (.cells #[.int .i64 k, .int .i64 dst, .int .i64 fr, .int .i64 ep, .int .i64 op, .int .i64 0, .bool false, .string ⟨#[]⟩, .int .i64 0, .int .i64 0, .int .i64 0, .bool false, .slice none 0 0, .slice none 0 0, .slice none 0 0, .int .i64 0, .int .i64 0] 34))
  have HK3 := Lib.hid hk3
  have HB0 := Lib.hid hb0
  have HE := Lib.hid he
  have HF := Lib.hid (fields_any k _ (h.below HB0.out))
  unfold FldE fldV b5 at HF
  clear h
  rw [he] at HF
  clear he
  clear hk1 hk2 hk3 hb0
  go_enter Tryd.func25, Tryd.ntmps25
  go_wp2_with fail
  refine HF.out.mono ?_
  rintro e w1 ⟨rfl, hb⟩
  have HB1 := Lib.hid (HB0.out.trans (hb.mono HB0.out.size))
  have q1 := HK1.out.below hb HK1.out.lt
  have q2 := HK2.out.below hb HK2.out.lt
  have q3 := HK3.out.below hb HK3.out.lt
  have a7 : w1.cell? ⟨w.heap.size, 7, none⟩ = some (.string key) := q1.cell 7
  have HZ : w.heap.size + 1 + 1 < w1.heap.size := q3.lt
  have HQ2 := Lib.hid q2
  have t7 : w1.cell? ⟨w.heap.size + 1 + 1, 7, none⟩ = some (.string ⟨#[]⟩) := q3.cell 7
  have y7 := q3.frozen 7
  have HL3 : Hid (Blk (w1.setCell ⟨w.heap.size + 1 + 1, 7, none⟩ (.string key)) (w.heap.size + 1 + 1) 34 #[.int .i64 k, .int .i64 dst, .int .i64 fr, .int .i64 ep, .int .i64 op, .int .i64 0, .bool false, .string key, .int .i64 0, .int .i64 0, .int .i64 0, .bool false, .slice none 0 0, .slice none 0 0, .slice none 0 0, .int .i64 0, .int .i64 0]) := Lib.hid (by have := q3.set_ 7 (.string key); simpa only [List.setIfInBounds_toArray, List.set_cons_succ, List.set_cons_zero] using this)
  have HTH := Lib.hid (there_blk (q2.far (p := ⟨w.heap.size + 1 + 1, 7, none⟩) (by show w.heap.size + 1 ≠ w.heap.size + 1 + 1; omega) (.string key)))
  clear hb q1 q2 q3
  have HV : Hid (backKey k key = key) := Lib.hid (if_pos HE.out)
  have hix := fun W => idxb_2 (hasN k) (hasF k) true (hasL k) (hasR k) W
  have HKF := Lib.hid (set17 (HQ2.out.far (p := ⟨w.heap.size + 1 + 1, 7, none⟩) (by show w.heap.size + 1 ≠ w.heap.size + 1 + 1; omega) (.string key)) (.int .i64 k) (.int .i64 dst) (.int .i64 fr) (.int .i64 ep) (.int .i64 op) (.int .i64 0) (.bool false) (.string key) (.int .i64 0) (.int .i64 0) (.int .i64 0) (.bool false) (.slice none 0 0) (.slice none 0 0) (.slice none 0 0) (.int .i64 0) (.int .i64 0))
  have HBF := Lib.hid (below17 (below_set HB1.out (show w.heap.size ≤ w.heap.size + 1 + 1 by omega) 7 (.string key)) (show w.heap.size ≤ w.heap.size + 1 by omega) (.int .i64 k) (.int .i64 dst) (.int .i64 fr) (.int .i64 ep) (.int .i64 op) (.int .i64 0) (.bool false) (.string key) (.int .i64 0) (.int .i64 0) (.int .i64 0) (.bool false) (.slice none 0 0) (.slice none 0 0) (.slice none 0 0) (.int .i64 0) (.int .i64 0))
  go_wp2_with (first | (refine wpList_load_row rfl 34 _ rfl _ rfl _ _ _ _ (show _ = _ from HL3.out) Tryd.underlying34 rfl (by kernel_rfl) ?_) | (refine wpList_store_mid rfl 34 _ _ rfl (w.heap.size + 1) 0 #[.int .i64 k, .int .i64 dst, .int .i64 fr, .int .i64 ep, .int .i64 op, .int .i64 0, .bool false, .string key, .int .i64 0, .int .i64 0, .int .i64 0, .bool false, .slice none 0 0, .slice none 0 0, .slice none 0 0, .int .i64 0, .int .i64 0] rfl rfl HTH.out (by kernel_rfl) (by kernel_rfl) ?_; generalize hW : World.setCells _ _ _ _ = W))
  have HKG : Hid (Blk W (w.heap.size + 1) 34 #[.int .i64 k, .int .i64 dst, .int .i64 fr, .int .i64 ep, .int .i64 op, .int .i64 0, .bool false, .string key, .int .i64 0, .int .i64 0, .int .i64 0, .bool false, .slice none 0 0, .slice none 0 0, .slice none 0 0, .int .i64 0, .int .i64 0]) := Lib.hid (by rw [← hW]; exact HKF.out)
  have HBG : Hid (Below w.heap.size w W) := Lib.hid (by rw [← hW]; exact HBF.out)
  exact bodyPost_ret (v := .agg #[.int .i64 k, .int .i64 dst, .int .i64 fr, .int .i64 ep, .int .i64 op, .int .i64 0, .bool false, .string key, .int .i64 0, .int .i64 0, .int .i64 0, .bool false, .slice none 0 0, .slice none 0 0, .slice none 0 0, .int .i64 0, .int .i64 0]) (results_cell_row (p := 4) (ty := 34) Tryd.results25 _ _ (w.heap.size + 1) 34 #[.int .i64 k, .int .i64 dst, .int .i64 fr, .int .i64 ep, .int .i64 op, .int .i64 0, .bool false, .string key, .int .i64 0, .int .i64 0, .int .i64 0, .bool false, .slice none 0 0, .slice none 0 0, .slice none 0 0, .int .i64 0, .int .i64 0] (0, 0) _ rfl HKG.out Tryd.underlying34 rfl (by kernel_rfl)) rfl ⟨by rw [HV.out], HBG.out⟩
theorem back_any_no (k : Int) (he : hasE k = false) (kind fr dst ep op n : Int) (flag : Bool) (key : ByteArray) (s u o : Int) (has : Bool) (A : Option Addr) (m c : Nat) (lA : Option Addr) (ln lc : Nat) (rA : Option Addr) (rn rc : Nat) (each keep : Int) (w : World) (h : KT w) :
    Calls Tryd.prog 25 #[.agg (msgC kind fr dst ep op n flag key s u o has A m c lA ln lc rA rn rc each keep), .int .i64 k] w (BackP k fr dst ep op key w) := by
  have hb0 : Below w.heap.size w ((((w.alloc (.cells #[.int .i64 kind, .int .i64 fr, .int .i64 dst, .int .i64 ep, .int .i64 op, .int .i64 n, .bool flag, .string key, .int .i64 s, .int .i64 u, .int .i64 o, .bool has, .slice A m c, .slice lA ln lc, .slice rA rn rc, .int .i64 each, .int .i64 keep] 34))).alloc (.cells #[.int .i64 0, .int .i64 0, .int .i64 0, .int .i64 0, .int .i64 0, .int .i64 0, .bool false, .string ⟨#[]⟩, .int .i64 0, .int .i64 0, .int .i64 0, .bool false, .slice none 0 0, .slice none 0 0, .slice none 0 0, .int .i64 0, .int .i64 0] 34)).alloc (.cells #[.int .i64 k, .int .i64 dst, .int .i64 fr, .int .i64 ep, .int .i64 op, .int .i64 0, .bool false, .string ⟨#[]⟩, .int .i64 0, .int .i64 0, .int .i64 0, .bool false, .slice none 0 0, .slice none 0 0, .slice none 0 0, .int .i64 0, .int .i64 0] 34)) := (((Below.refl _ _).alloc (Nat.le_refl _) _).alloc (by simp) _).alloc (by simp; omega) _
  have hk1 := Blk.new w 34 #[.int .i64 kind, .int .i64 fr, .int .i64 dst, .int .i64 ep, .int .i64 op, .int .i64 n, .bool flag, .string key, .int .i64 s, .int .i64 u, .int .i64 o, .bool has, .slice A m c, .slice lA ln lc, .slice rA rn rc, .int .i64 each, .int .i64 keep]
  have hk2 := Blk.new (w.alloc (.cells #[.int .i64 kind, .int .i64 fr, .int .i64 dst, .int .i64 ep, .int .i64 op, .int .i64 n, .bool flag, .string key, .int .i64 s, .int .i64 u, .int .i64 o, .bool has, .slice A m c, .slice lA ln lc, .slice rA rn rc, .int .i64 each, .int .i64 keep] 34)) 34 #[.int .i64 0, .int .i64 0, .int .i64 0, .int .i64 0, .int .i64 0, .int .i64 0, .bool false, .string ⟨#[]⟩, .int .i64 0, .int .i64 0, .int .i64 0, .bool false, .slice none 0 0, .slice none 0 0, .slice none 0 0, .int .i64 0, .int .i64 0]
  have hk3 := Blk.new ((w.alloc (.cells #[.int .i64 kind, .int .i64 fr, .int .i64 dst, .int .i64 ep, .int .i64 op, .int .i64 n, .bool flag, .string key, .int .i64 s, .int .i64 u, .int .i64 o, .bool has, .slice A m c, .slice lA ln lc, .slice rA rn rc, .int .i64 each, .int .i64 keep] 34)).alloc (.cells #[.int .i64 0, .int .i64 0, .int .i64 0, .int .i64 0, .int .i64 0, .int .i64 0, .bool false, .string ⟨#[]⟩, .int .i64 0, .int .i64 0, .int .i64 0, .bool false, .slice none 0 0, .slice none 0 0, .slice none 0 0, .int .i64 0, .int .i64 0] 34)) 34 #[.int .i64 k, .int .i64 dst, .int .i64 fr, .int .i64 ep, .int .i64 op, .int .i64 0, .bool false, .string ⟨#[]⟩, .int .i64 0, .int .i64 0, .int .i64 0, .bool false, .slice none 0 0, .slice none 0 0, .slice none 0 0, .int .i64 0, .int .i64 0]
  rw [World.size_alloc] at hk2
  rw [World.size_alloc, World.size_alloc] at hk3
  have HK1 := Lib.hid ((hk1.alloc (.cells #[.int .i64 0, .int .i64 0, .int .i64 0, .int .i64 0, .int .i64 0, .int .i64 0, .bool false, .string ⟨#[]⟩, .int .i64 0, .int .i64 0, .int .i64 0, .bool false, .slice none 0 0, .slice none 0 0, .slice none 0 0, .int .i64 0, .int .i64 0] 34)).alloc (.cells #[.int .i64 k, .int .i64 dst, .int .i64 fr, .int .i64 ep, .int .i64 op, .int .i64 0, .bool false, .string ⟨#[]⟩, .int .i64 0, .int .i64 0, .int .i64 0, .bool false, .slice none 0 0, .slice none 0 0, .slice none 0 0, .int .i64 0, .int .i64 0] 34))
  have HK2 := Lib.hid (hk2.alloc (.cells #[.int .i64 k, .int .i64 dst, .int .i64 fr, .int .i64 ep, .int .i64 op, .int .i64 0, .bool false, .string ⟨#[]⟩, .int .i64 0, .int .i64 0, .int .i64 0, .bool false, .slice none 0 0, .slice none 0 0, .slice none 0 0, .int .i64 0, .int .i64 0] 34))
  have HK3 := Lib.hid hk3
  have HB0 := Lib.hid hb0
  have HE := Lib.hid he
  have HF := Lib.hid (fields_any k _ (h.below HB0.out))
  unfold FldE fldV b5 at HF
  clear h
  rw [he] at HF
  clear he
  clear hk1 hk2 hk3 hb0
  go_enter Tryd.func25, Tryd.ntmps25
  go_wp2_with fail
  refine HF.out.mono ?_
  rintro e w1 ⟨rfl, hb⟩
  have HB1 := Lib.hid (HB0.out.trans (hb.mono HB0.out.size))
  have q1 := HK1.out.below hb HK1.out.lt
  have q2 := HK2.out.below hb HK2.out.lt
  have q3 := HK3.out.below hb HK3.out.lt
  have a7 : w1.cell? ⟨w.heap.size, 7, none⟩ = some (.string key) := q1.cell 7
  have HZ : w.heap.size + 1 + 1 < w1.heap.size := q3.lt
  have HQ2 := Lib.hid q2
  have HL3 := Lib.hid q3
  have HTH := Lib.hid (there_blk q2)
  clear hb q1 q2 q3
  have HV : Hid (backKey k key = ⟨#[]⟩) := Lib.hid (if_neg (by rw [HE.out]; simp))
  have hix := fun W => idxb_2 (hasN k) (hasF k) false (hasL k) (hasR k) W
  have HKF := Lib.hid (set17 (HQ2.out) (.int .i64 k) (.int .i64 dst) (.int .i64 fr) (.int .i64 ep) (.int .i64 op) (.int .i64 0) (.bool false) (.string ⟨#[]⟩) (.int .i64 0) (.int .i64 0) (.int .i64 0) (.bool false) (.slice none 0 0) (.slice none 0 0) (.slice none 0 0) (.int .i64 0) (.int .i64 0))
  have HBF := Lib.hid (below17 (HB1.out) (show w.heap.size ≤ w.heap.size + 1 by omega) (.int .i64 k) (.int .i64 dst) (.int .i64 fr) (.int .i64 ep) (.int .i64 op) (.int .i64 0) (.bool false) (.string ⟨#[]⟩) (.int .i64 0) (.int .i64 0) (.int .i64 0) (.bool false) (.slice none 0 0) (.slice none 0 0) (.slice none 0 0) (.int .i64 0) (.int .i64 0))
  go_wp2_with (first | (refine wpList_load_row rfl 34 _ rfl _ rfl _ _ _ _ (show _ = _ from HL3.out) Tryd.underlying34 rfl (by kernel_rfl) ?_) | (refine wpList_store_mid rfl 34 _ _ rfl (w.heap.size + 1) 0 #[.int .i64 k, .int .i64 dst, .int .i64 fr, .int .i64 ep, .int .i64 op, .int .i64 0, .bool false, .string ⟨#[]⟩, .int .i64 0, .int .i64 0, .int .i64 0, .bool false, .slice none 0 0, .slice none 0 0, .slice none 0 0, .int .i64 0, .int .i64 0] rfl rfl HTH.out (by kernel_rfl) (by kernel_rfl) ?_; generalize hW : World.setCells _ _ _ _ = W))
  have HKG : Hid (Blk W (w.heap.size + 1) 34 #[.int .i64 k, .int .i64 dst, .int .i64 fr, .int .i64 ep, .int .i64 op, .int .i64 0, .bool false, .string ⟨#[]⟩, .int .i64 0, .int .i64 0, .int .i64 0, .bool false, .slice none 0 0, .slice none 0 0, .slice none 0 0, .int .i64 0, .int .i64 0]) := Lib.hid (by rw [← hW]; exact HKF.out)
  have HBG : Hid (Below w.heap.size w W) := Lib.hid (by rw [← hW]; exact HBF.out)
  exact bodyPost_ret (v := .agg #[.int .i64 k, .int .i64 dst, .int .i64 fr, .int .i64 ep, .int .i64 op, .int .i64 0, .bool false, .string ⟨#[]⟩, .int .i64 0, .int .i64 0, .int .i64 0, .bool false, .slice none 0 0, .slice none 0 0, .slice none 0 0, .int .i64 0, .int .i64 0]) (results_cell_row (p := 4) (ty := 34) Tryd.results25 _ _ (w.heap.size + 1) 34 #[.int .i64 k, .int .i64 dst, .int .i64 fr, .int .i64 ep, .int .i64 op, .int .i64 0, .bool false, .string ⟨#[]⟩, .int .i64 0, .int .i64 0, .int .i64 0, .bool false, .slice none 0 0, .slice none 0 0, .slice none 0 0, .int .i64 0, .int .i64 0] (0, 0) _ rfl HKG.out Tryd.underlying34 rfl (by kernel_rfl)) rfl ⟨by rw [HV.out], HBG.out⟩
theorem back_any (k : Int) (kind fr dst ep op n : Int) (flag : Bool) (key : ByteArray) (s u o : Int) (has : Bool) (A : Option Addr) (m c : Nat) (lA : Option Addr) (ln lc : Nat) (rA : Option Addr) (rn rc : Nat) (each keep : Int) (w : World) (h : KT w) :
    Calls Tryd.prog 25 #[.agg (msgC kind fr dst ep op n flag key s u o has A m c lA ln lc rA rn rc each keep), .int .i64 k] w (BackP k fr dst ep op key w) := by
  cases he : hasE k
  · exact back_any_no k he kind fr dst ep op n flag key s u o has A m c lA ln lc rA rn rc each keep w h
  · exact back_any_yes k he kind fr dst ep op n flag key s u o has A m c lA ln lc rA rn rc each keep w h
end Go.Proofs.YtgmennblbeefhaaDoor
