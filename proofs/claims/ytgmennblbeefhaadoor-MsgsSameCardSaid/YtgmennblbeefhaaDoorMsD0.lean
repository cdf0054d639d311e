/- MsD: Package msgs: Back; the document's Back. -/
import Derived.Test.YtgmennblbeefhaaDoorMsB
import Derived.BigQuiet
namespace Go.Proofs.YtgmennblbeefhaaDoor
open Go.RowKit Mem Be Rg
set_option maxRecDepth 100000
set_option maxHeartbeats 16000000
set_option linter.unusedVariables false
theorem set17 {w : World} {g : Nat} {t : TypeId} {c0 c1 c2 c3 c4 c5 c6 c7 c8 c9 c10 c11 c12 c13 c14 c15 c16 : Value} (h : Blk w g t #[c0, c1, c2, c3, c4, c5, c6, c7, c8, c9, c10, c11, c12, c13, c14, c15, c16]) (v0 v1 v2 v3 v4 v5 v6 v7 v8 v9 v10 v11 v12 v13 v14 v15 v16 : Value) :
    Blk (((((((((((((((((w.setCell ⟨g, 0, none⟩ v0).setCell ⟨g, 1, none⟩ v1).setCell ⟨g, 2, none⟩ v2).setCell ⟨g, 3, none⟩ v3).setCell ⟨g, 4, none⟩ v4).setCell ⟨g, 5, none⟩ v5).setCell ⟨g, 6, none⟩ v6).setCell ⟨g, 7, none⟩ v7).setCell ⟨g, 8, none⟩ v8).setCell ⟨g, 9, none⟩ v9).setCell ⟨g, 10, none⟩ v10).setCell ⟨g, 11, none⟩ v11).setCell ⟨g, 12, none⟩ v12).setCell ⟨g, 13, none⟩ v13).setCell ⟨g, 14, none⟩ v14).setCell ⟨g, 15, none⟩ v15).setCell ⟨g, 16, none⟩ v16) g t #[v0, v1, v2, v3, v4, v5, v6, v7, v8, v9, v10, v11, v12, v13, v14, v15, v16] := by
  replace h : Blk (w.setCell ⟨g, 0, none⟩ v0) g t #[v0, c1, c2, c3, c4, c5, c6, c7, c8, c9, c10, c11, c12, c13, c14, c15, c16] := by have := h.set_ 0 v0; simpa only [List.setIfInBounds_toArray, List.set_cons_succ, List.set_cons_zero] using this
  generalize (w.setCell ⟨g, 0, none⟩ v0) = w0 at h ⊢
  replace h : Blk (w0.setCell ⟨g, 1, none⟩ v1) g t #[v0, v1, c2, c3, c4, c5, c6, c7, c8, c9, c10, c11, c12, c13, c14, c15, c16] := by have := h.set_ 1 v1; simpa only [List.setIfInBounds_toArray, List.set_cons_succ, List.set_cons_zero] using this
  generalize (w0.setCell ⟨g, 1, none⟩ v1) = w1 at h ⊢
  replace h : Blk (w1.setCell ⟨g, 2, none⟩ v2) g t #[v0, v1, v2, c3, c4, c5, c6, c7, c8, c9, c10, c11, c12, c13, c14, c15, c16] := by have := h.set_ 2 v2; simpa only [List.setIfInBounds_toArray, List.set_cons_succ, List.set_cons_zero] using this
  generalize (w1.setCell ⟨g, 2, none⟩ v2) = w2 at h ⊢
  replace h : Blk (w2.setCell ⟨g, 3, none⟩ v3) g t #[v0, v1, v2, v3, c4, c5, c6, c7, c8, c9, c10, c11, c12, c13, c14, c15, c16] := by have := h.set_ 3 v3; simpa only [List.setIfInBounds_toArray, List.set_cons_succ, List.set_cons_zero] using this
  generalize (w2.setCell ⟨g, 3, none⟩ v3) = w3 at h ⊢
  replace h : Blk (w3.setCell ⟨g, 4, none⟩ v4) g t #[v0, v1, v2, v3, v4, c5, c6, c7, c8, c9, c10, c11, c12, c13, c14, c15, c16] := by have := h.set_ 4 v4; simpa only [List.setIfInBounds_toArray, List.set_cons_succ, List.set_cons_zero] using this
  generalize (w3.setCell ⟨g, 4, none⟩ v4) = w4 at h ⊢
  replace h : Blk (w4.setCell ⟨g, 5, none⟩ v5) g t #[v0, v1, v2, v3, v4, v5, c6, c7, c8, c9, c10, c11, c12, c13, c14, c15, c16] := by have := h.set_ 5 v5; simpa only [List.setIfInBounds_toArray, List.set_cons_succ, List.set_cons_zero] using this
  generalize (w4.setCell ⟨g, 5, none⟩ v5) = w5 at h ⊢
  replace h : Blk (w5.setCell ⟨g, 6, none⟩ v6) g t #[v0, v1, v2, v3, v4, v5, v6, c7, c8, c9, c10, c11, c12, c13, c14, c15, c16] := by have := h.set_ 6 v6; simpa only [List.setIfInBounds_toArray, List.set_cons_succ, List.set_cons_zero] using this
  generalize (w5.setCell ⟨g, 6, none⟩ v6) = w6 at h ⊢
  replace h : Blk (w6.setCell ⟨g, 7, none⟩ v7) g t #[v0, v1, v2, v3, v4, v5, v6, v7, c8, c9, c10, c11, c12, c13, c14, c15, c16] := by have := h.set_ 7 v7; simpa only [List.setIfInBounds_toArray, List.set_cons_succ, List.set_cons_zero] using this
  generalize (w6.setCell ⟨g, 7, none⟩ v7) = w7 at h ⊢
  replace h : Blk (w7.setCell ⟨g, 8, none⟩ v8) g t #[v0, v1, v2, v3, v4, v5, v6, v7, v8, c9, c10, c11, c12, c13, c14, c15, c16] := by have := h.set_ 8 v8; simpa only [List.setIfInBounds_toArray, List.set_cons_succ, List.set_cons_zero] using this
  generalize (w7.setCell ⟨g, 8, none⟩ v8) = w8 at h ⊢
  replace h : Blk (w8.setCell ⟨g, 9, none⟩ v9) g t #[v0, v1, v2, v3, v4, v5, v6, v7, v8, v9, c10, c11, c12, c13, c14, c15, c16] := by have := h.set_ 9 v9; simpa only [List.setIfInBounds_toArray, List.set_cons_succ, List.set_cons_zero] using this
  generalize (w8.setCell ⟨g, 9, none⟩ v9) = w9 at h ⊢
  replace h : Blk (w9.setCell ⟨g, 10, none⟩ v10) g t #[v0, v1, v2, v3, v4, v5, v6, v7, v8, v9, v10, c11, c12, c13, c14, c15, c16] := by have := h.set_ 10 v10; simpa only [List.setIfInBounds_toArray, List.set_cons_succ, List.set_cons_zero] using this
  generalize (w9.setCell ⟨g, 10, none⟩ v10) = w10 at h ⊢
  replace h : Blk (w10.setCell ⟨g, 11, none⟩ v11) g t #[v0, v1, v2, v3, v4, v5, v6, v7, v8, v9, v10, v11, c12, c13, c14, c15, c16] := by have := h.set_ 11 v11; simpa only [List.setIfInBounds_toArray, List.set_cons_succ, List.set_cons_zero] using this
  generalize (w10.setCell ⟨g, 11, none⟩ v11) = w11 at h ⊢
  replace h : Blk (w11.setCell ⟨g, 12, none⟩ v12) g t #[v0, v1, v2, v3, v4, v5, v6, v7, v8, v9, v10, v11, v12, c13, c14, c15, c16] := by have := h.set_ 12 v12; simpa only [List.setIfInBounds_toArray, List.set_cons_succ, List.set_cons_zero] using this
  generalize (w11.setCell ⟨g, 12, none⟩ v12) = w12 at h ⊢
  replace h : Blk (w12.setCell ⟨g, 13, none⟩ v13) g t #[v0, v1, v2, v3, v4, v5, v6, v7, v8, v9, v10, v11, v12, v13, c14, c15, c16] := by have := h.set_ 13 v13; simpa only [List.setIfInBounds_toArray, List.set_cons_succ, List.set_cons_zero] using this
  generalize (w12.setCell ⟨g, 13, none⟩ v13) = w13 at h ⊢
  replace h : Blk (w13.setCell ⟨g, 14, none⟩ v14) g t #[v0, v1, v2, v3, v4, v5, v6, v7, v8, v9, v10, v11, v12, v13, v14, c15, c16] := by have := h.set_ 14 v14; simpa only [List.setIfInBounds_toArray, List.set_cons_succ, List.set_cons_zero] using this
  generalize (w13.setCell ⟨g, 14, none⟩ v14) = w14 at h ⊢
  replace h : Blk (w14.setCell ⟨g, 15, none⟩ v15) g t #[v0, v1, v2, v3, v4, v5, v6, v7, v8, v9, v10, v11, v12, v13, v14, v15, c16] := by have := h.set_ 15 v15; simpa only [List.setIfInBounds_toArray, List.set_cons_succ, List.set_cons_zero] using this
  generalize (w14.setCell ⟨g, 15, none⟩ v15) = w15 at h ⊢
  replace h : Blk (w15.setCell ⟨g, 16, none⟩ v16) g t #[v0, v1, v2, v3, v4, v5, v6, v7, v8, v9, v10, v11, v12, v13, v14, v15, v16] := by have := h.set_ 16 v16; simpa only [List.setIfInBounds_toArray, List.set_cons_succ, List.set_cons_zero] using this
  generalize (w15.setCell ⟨g, 16, none⟩ v16) = w16 at h ⊢
  exact h
theorem below17 {w0 w : World} {B g : Nat} (h : Below B w0 w) (hg : B ≤ g) (v0 v1 v2 v3 v4 v5 v6 v7 v8 v9 v10 v11 v12 v13 v14 v15 v16 : Value) : Below B w0 ((((((((((((((((((w.setCell ⟨g, 0, none⟩ v0).setCell ⟨g, 1, none⟩ v1).setCell ⟨g, 2, none⟩ v2).setCell ⟨g, 3, none⟩ v3).setCell ⟨g, 4, none⟩ v4).setCell ⟨g, 5, none⟩ v5).setCell ⟨g, 6, none⟩ v6).setCell ⟨g, 7, none⟩ v7).setCell ⟨g, 8, none⟩ v8).setCell ⟨g, 9, none⟩ v9).setCell ⟨g, 10, none⟩ v10).setCell ⟨g, 11, none⟩ v11).setCell ⟨g, 12, none⟩ v12).setCell ⟨g, 13, none⟩ v13).setCell ⟨g, 14, none⟩ v14).setCell ⟨g, 15, none⟩ v15).setCell ⟨g, 16, none⟩ v16)) :=
  below_set (below_set (below_set (below_set (below_set (below_set (below_set (below_set (below_set (below_set (below_set (below_set (below_set (below_set (below_set (below_set (below_set h hg 0 v0) hg 1 v1) hg 2 v2) hg 3 v3) hg 4 v4) hg 5 v5) hg 6 v6) hg 7 v7) hg 8 v8) hg 9 v9) hg 10 v10) hg 11 v11) hg 12 v12) hg 13 v13) hg 14 v14) hg 15 v15) hg 16 v16
def backKey (k : Int) (key : ByteArray) : ByteArray := if hasE k = true then key else ⟨#[]⟩
def BackP (k fr dst ep op : Int) (key : ByteArray) (w : World) (e : Ending) (w' : World) : Prop := e = .returned (.agg #[.int .i64 k, .int .i64 dst, .int .i64 fr, .int .i64 ep, .int .i64 op, .int .i64 0, .bool false, .string (backKey k key), .int .i64 0, .int .i64 0, .int .i64 0, .bool false, .slice none 0 0, .slice none 0 0, .slice none 0 0, .int .i64 0, .int .i64 0]) ∧ Below w.heap.size w w'
end Go.Proofs.YtgmennblbeefhaaDoor
