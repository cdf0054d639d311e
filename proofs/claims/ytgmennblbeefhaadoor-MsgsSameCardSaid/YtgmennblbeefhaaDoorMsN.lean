/- MsN: What the chapter's example fixes. -/
import Derived.Test.YtgmennblbeefhaaDoorMsR0
namespace Go.Proofs.YtgmennblbeefhaaDoor
open Go.RowKit Mem Be Rg
set_option maxRecDepth 100000
set_option maxHeartbeats 8000000
set_option linter.unusedVariables false
abbrev kMV : MV := ⟨17, 3, 0, 0, 0, 0, false, (⟨[], 0, 0, 0, false, []⟩, none, 0), none, [], 0, none, [], 0, 0, 0⟩
theorem kMV_m (w : World) : MsgM w kMV := ⟨⟨Row.nil _ _ _, by decide, by decide, by decide⟩, ⟨Row.nil _ _ _, by simp⟩, by decide, Row.nil _ _ _, by decide⟩
theorem kMV_b : bytesM (mP kMV) = ([1, 17, 1, 3, 0, 0, 0], 0) := by decide +kernel
def IsT12 (w : World) (e : Ending) (w' : World) : Prop := e = .returned (.bool true) ∧ Below w.heap.size w w'
theorem known12 (w : World) (ht : KT w) : Calls Tryd.prog 11 #[] w (IsT12 w) := by
  have HB := Lib.hid (bytes_any12 kMV w ht (kMV_m w))
  unfold BytE at HB
  rw [kMV_b] at HB
  unfold kMV at HB
  have HT := Lib.hid ht
  clear ht
  go_enter Tryd.func11, Tryd.ntmps11
  go_wp2_with fail
  refine HB.out.mono ?_
  rintro e w1 ⟨A1, c1, rfl, ho1, hb1⟩
  have HB1 := Lib.hid hb1
  have HT1 := Lib.hid (HT.out.below hb1)
  have HR1 : Hid (Row w1 w1.heap.size A1 (([1, 17, 1, 3, 0, 0, 0] : List UInt8).map byteV)) := Lib.hid (ownRow ho1)
  clear hb1 ho1 HB HT
  obtain ⟨W2, hW2⟩ : ∃ W2, w1.alloc (.cells #[.int .u8 0] 5) = W2 := ⟨_, rfl⟩
  have hal : Below w1.heap.size w1 W2 := by rw [← hW2]; exact (Below.refl _ _).alloc (Nat.le_refl _) _
  have hk : Blk W2 w1.heap.size 5 #[.int .u8 0] := by rw [← hW2]; exact Blk.new w1 _ _
  have HB2 := Lib.hid (HB1.out.trans (hal.mono HB1.out.size))
  have HT2 := Lib.hid (HT1.out.below hal)
  have HR2 := Lib.hid ((HR1.out.below hal).more hal.size)
  have HRD := Lib.hid (read0_any W2.heap.size 1 (some ⟨w1.heap.size, 0, none⟩) W2 HT2.out (.inr ⟨w1.heap.size, 0, rfl, hk.lt, fun j h => by
    match j, h with
    | 0, _ => exact hk.cell 0⟩) (Nat.le_refl _))
  clear hal hk HB1 HT1 HR1
  go_wp2_with fail
  refine HRD.out.mono ?_
  rintro e w3 ⟨rfl, hb3⟩
  clear hW2
  have HB3 := Lib.hid (HB2.out.trans (hb3.mono HB2.out.size))
  have HR3 := Lib.hid ((HR2.out.below hb3).more hb3.size)
  clear hb3 HB2 HT2 HR2 HRD
  have HTH := Lib.hid (there_blk (Blk.new w3 34 #[.int .i64 0, .int .i64 0, .int .i64 0, .int .i64 0, .int .i64 0, .int .i64 0, .bool false, .string ⟨#[]⟩, .int .i64 0, .int .i64 0, .int .i64 0, .bool false, .slice none 0 0, .slice none 0 0, .slice none 0 0, .int .i64 0, .int .i64 0]))
  go_wp2_with (refine wpList_store_mid rfl 34 _ _ rfl w3.heap.size 0 #[.int .i64 0, .int .i64 0, .int .i64 0, .int .i64 0, .int .i64 0, .int .i64 0, .bool false, .string ⟨#[]⟩, .int .i64 0, .int .i64 0, .int .i64 0, .bool false, .slice none 0 0, .slice none 0 0, .slice none 0 0, .int .i64 0, .int .i64 0] rfl rfl HTH.out (by kernel_rfl) (by kernel_rfl) ?_; generalize hW4 : World.setCells _ _ _ _ = W4)
  have hal : Below w3.heap.size w3 W4 := by rw [← hW4]; exact below_grown ((Below.refl _ _).alloc (Nat.le_refl _) _) (gr17 (w3.alloc (.cells #[.int .i64 0, .int .i64 0, .int .i64 0, .int .i64 0, .int .i64 0, .int .i64 0, .bool false, .string ⟨#[]⟩, .int .i64 0, .int .i64 0, .int .i64 0, .bool false, .slice none 0 0, .slice none 0 0, .slice none 0 0, .int .i64 0, .int .i64 0] 34)) w3.heap.size (.int .i64 0) (.int .i64 0) (.int .i64 0) (.int .i64 0) (.int .i64 0) (.int .i64 0) (.bool false) (.string ⟨#[]⟩) (.int .i64 0) (.int .i64 0) (.int .i64 0) (.bool false) (.slice none 0 0) (.slice none 0 0) (.slice none 0 0) (.int .i64 0) (.int .i64 0)) (by rw [World.size_alloc]; omega) (Nat.le_refl _)
  have HB4 := Lib.hid (HB3.out.trans (hal.mono HB3.out.size))
  have HR4 := Lib.hid ((HR3.out.below hal).more hal.size)
  clear hal HB3 HR3 hW4
  obtain ⟨W5, hW5⟩ : ∃ W5, W4.alloc (.cells #[.int .u8 1, .int .u8 17, .int .u8 1, .int .u8 3, .int .u8 0, .int .u8 0, .int .u8 0] 5) = W5 := ⟨_, rfl⟩
  have hal : Below W4.heap.size W4 W5 := by rw [← hW5]; exact (Below.refl _ _).alloc (Nat.le_refl _) _
  have hk : Blk W5 W4.heap.size 5 #[.int .u8 1, .int .u8 17, .int .u8 1, .int .u8 3, .int .u8 0, .int .u8 0, .int .u8 0] := by rw [← hW5]; exact Blk.new W4 _ _
  have HB5 := Lib.hid (HB4.out.trans (hal.mono HB4.out.size))
  have HR5 := Lib.hid ((HR4.out.below hal).more hal.size)
  have HRL : Hid (Row W5 W5.heap.size (some ⟨W4.heap.size, 0, none⟩) (([1, 17, 1, 3, 0, 0, 0] : List UInt8).map byteV)) := Lib.hid (.inr ⟨W4.heap.size, 0, rfl, hk.lt, fun j h => by
    rw [Nat.zero_add, hk.cell j]
    match j, h with
    | 0, _ => rfl
    | 1, _ => rfl
    | 2, _ => rfl
    | 3, _ => rfl
    | 4, _ => rfl
    | 5, _ => rfl
    | 6, _ => rfl⟩)
  have HS := Lib.hid (same_true W5.heap.size W5.heap.size c1 7 7 7 A1 (some ⟨W4.heap.size, 0, none⟩) [1, 17, 1, 3, 0, 0, 0] [1, 17, 1, 3, 0, 0, 0] rfl W5 HR5.out HRL.out rfl rfl)
  clear hal hk HB4 HR4
  simp only [hW5]
  refine HS.out.mono ?_
  rintro e w6 ⟨rfl, rfl⟩
  go_wp2
  go_ret
  exact ⟨rfl, HB5.out⟩
end Go.Proofs.YtgmennblbeefhaaDoor
