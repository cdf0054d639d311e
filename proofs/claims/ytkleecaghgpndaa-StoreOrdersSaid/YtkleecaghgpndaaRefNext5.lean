/- The first frame, found by the document: one contract. -/
import Derived.Test.YtkleecaghgpndaaNext5
import Derived.Test.YtkleecaghgpndaaCore
namespace Go.Proofs.Ytkleecaghgpndaa
open Go.RowKit Mem Be Word Frm
set_option maxRecDepth 10000
set_option maxHeartbeats 1000000
set_option linter.unusedVariables false
def OwnB (B0 : Nat) (ys : List UInt8) (A : Option Addr) (c : Nat) (w : World) : Prop := w.ownsRow B0 5 1 (.slice A ys.length c) ys.length (ys.map byteV)
def r16T (B0 : Nat) (A C : Option Addr) (P : Value) (n c c6 E L : Nat) (kd : Nat) (ys : List UInt8) : Nat → Value → World → Prop
  | 0, v, _ => v = .slice A n c
  | 1, v, _ => v = P
  | 2, v, _ => v = .int .u8 (kd : Int)
  | 3, v, _ => v = .slice A n c
  | 4, v, _ => v = .int .i64 (L : Int)
  | 5, v, _ => v = .int .i64 (E : Int)
  | 6, v, _ => v = .slice C L c6
  | 7, v, w => ∃ A' c', v = .tuple #[.slice A' ys.length c', .int .i64 0] ∧ OwnB B0 ys A' c' w
  | 8, v, w => ∃ A' c', v = .tuple #[.slice A' ys.length c', .int .i64 0] ∧ OwnB B0 ys A' c' w
  | 9, v, w => ∃ A' c', v = .slice A' ys.length c' ∧ OwnB B0 ys A' c' w
  | 10, v, _ => v = .int .i64 0
  | 11, v, w => ∃ A' c', v = .slice A' ys.length c' ∧ OwnB B0 ys A' c' w
  | _, v, _ => v = .int .i64 0
theorem r16T_later (B0 : Nat) (A C : Option Addr) (P : Value) (n c c6 E L : Nat) (kd : Nat) (ys : List UInt8) : ∀ i v w1 w2, r16T B0 A C P n c c6 E L kd ys i v w1 → Below w1.heap.size w1 w2 → r16T B0 A C P n c c6 E L kd ys i v w2 := by
  intro i v w1 w2 h hb
  unfold r16T at h ⊢
  split at h <;> first | exact h | (obtain ⟨a, b, e, hk⟩ := h; exact ⟨a, b, e, own_later hk hb⟩)
def r19T (B0 : Nat) (A C : Option Addr) (P : Value) (n c c6 E Z L : Nat) (kd : Nat) (ys : List UInt8) : Nat → Value → World → Prop
  | 0, v, _ => v = .slice A n c
  | 1, v, _ => v = P
  | 2, v, _ => v = .int .u8 (kd : Int)
  | 3, v, _ => v = .slice A n c
  | 4, v, _ => v = .int .i64 (L : Int)
  | 5, v, _ => v = .int .i64 (E : Int)
  | 6, v, _ => v = .slice C L c6
  | 7, v, w => ∃ A' c', v = .slice A' ys.length c' ∧ OwnB B0 ys A' c' w
  | 8, v, _ => v = .int .i64 (L : Int)
  | 9, v, _ => v = .int .i64 (Z : Int)
  | 10, v, _ => v = .int .u8 (kd : Int)
  | 11, v, w => ∃ A' c', v = .slice A' ys.length c' ∧ OwnB B0 ys A' c' w
  | 12, v, _ => v = .int .i64 (Z : Int)
  | _, v, _ => v = .int .i64 0
theorem r19T_later (B0 : Nat) (A C : Option Addr) (P : Value) (n c c6 E Z L : Nat) (kd : Nat) (ys : List UInt8) : ∀ i v w1 w2, r19T B0 A C P n c c6 E Z L kd ys i v w1 → Below w1.heap.size w1 w2 → r19T B0 A C P n c c6 E Z L kd ys i v w2 := by
  intro i v w1 w2 h hb
  unfold r19T at h ⊢
  split at h <;> first | exact h | (obtain ⟨a, b, e, hk⟩ := h; exact ⟨a, b, e, own_later hk hb⟩)
theorem nx_nil {bs : List UInt8} (h : bs.length = 0) : nextS bs = .bad 4 := by
  obtain rfl : bs = [] := List.eq_nil_of_length_eq_zero h
  rfl
theorem nx_11 {bs : List UInt8} (h0 : bs.length ≠ 0) (h : bs.getD 0 0 ≠ 165) : nextS bs = .bad 11 := by
  have hl : lenS bs = (0, 11) := by unfold lenS; rw [if_neg h0, if_pos h]
  unfold nextS; rw [hl]; rfl
theorem nx_12 {bs : List UInt8} (h0 : bs.length ≠ 0) (h : bs.getD 0 0 = 165) (h6 : bs.length < 6) : nextS bs = .bad 12 := by
  have hl : lenS bs = (0, 12) := by unfold lenS; rw [if_neg h0, if_neg (by simpa using h), if_pos h6]
  unfold nextS; rw [hl]; rfl
theorem len_6 {bs : List UInt8} (h : bs.getD 0 0 = 165) (h6 : ¬ bs.length < 6) : lenS bs = if 65536 < rd ((bs.drop 2).take 4) then (0, 11) else (rd ((bs.drop 2).take 4), 0) := by
  unfold lenS; rw [if_neg (by omega), if_neg (by simpa using h), if_neg h6]
end Go.Proofs.Ytkleecaghgpndaa
