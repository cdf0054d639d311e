/- The first frame, found by the program: one contract. -/
import Derived.Test.YtkleecaghgpndaaRefOne5
import Derived.Test.YtkleecaghgpndaaRely
namespace Go.Proofs.Ytkleecaghgpndaa
open Go.RowKit Mem Be Word Frm
set_option maxRecDepth 10000
set_option maxHeartbeats 1000000
set_option linter.unusedVariables false
theorem getD_at (bs : List UInt8) (i : Nat) (h : i < bs.length) : bs.getD i 0 = bs[i] := by
  rw [List.getD_eq_getElem?_getD, List.getElem?_eq_getElem h]; rfl
theorem byte_ne (x : UInt8) (h : x ≠ 165) : x.toNat ≠ 165 := fun e => h (by
  apply UInt8.toNat_inj.1
  rw [e]; rfl)
/-- What the first frame is told to be. -/
def NextP (x : Nx) (w : World) (e : Ending) (w' : World) : Prop := match x with
  | .bad e0 => e = .returned (.tuple #[.int .u8 0, .slice none 0 0, .int .i64 0, .int .i64 e0]) ∧ Below w.heap.size w w'
  | .ok r => ∃ A c, e = .returned (.tuple #[.int .u8 (r.1.toNat : Int), .slice A r.2.length c, .int .i64 ((r.2.length + 10 : Nat) : Int), .int .i64 0]) ∧
      w'.ownsRow w.heap.size 5 1 (.slice A r.2.length c) r.2.length (r.2.map byteV) ∧ Below w.heap.size w w'
theorem check_blk (p : Nat) (A : Option Addr) (bs : List UInt8) (n c : Nat) (hn : n = bs.length) (K : Nat) (hK : chk bs = K) (hl : n ≤ 1000000) (W : World) (hb : Blk W p 24 #[.slice A n c]) (hr : Row W W.heap.size A (bs.map byteV)) :
    Calls Try.prog 64 #[.slice (some ⟨p, 0, none⟩) 1 1] W fun e w' => e = .returned (.int .u32 (K : Int)) ∧ W = w' := by
  have h := check_any W.heap.size 1 1 (some ⟨p, 0, none⟩) [(A, bs, c)] rfl W (Or.inr ⟨p, 0, rfl, hb.lt, fun j hj => by
    have : j = 0 := by simpa using hj
    subst this
    rw [hb.cell]
    subst hn; rfl⟩) (fun r hr2 => by simp at hr2; subst hr2; exact hr) (fun r hr2 => by simp at hr2; subst hr2; show bs.length ≤ _; omega) (by omega)
  rw [show catB [(A, bs, c)] = bs by simp [catB], show checkN (sumN basisN bs) = K from hK] at h
  exact h
def n8T (A C : Option Addr) (n c c4 E Z : Nat) (x : Int) (K : Nat) (bb : Bool) : Nat → Value → World → Prop
  | 0, v, _ => v = .slice A n c
  | 1, v, _ => v = .int .i64 (E : Int)
  | 2, v, _ => v = .int .i64 (Z : Int)
  | 3, v, _ => v = .slice C 4 c4
  | 4, v, _ => v = .int .u32 x
  | 5, v, _ => v = .slice A n c
  | 6, v, _ => v = .int .i64 (E : Int)
  | 7, v, _ => v = .slice A E c
  | 8, v, w => ∃ p, v = .slice (some ⟨p, 0, none⟩) 1 1 ∧ Blk w p 24 #[.slice A E c]
  | 9, v, _ => v = .int .u32 (K : Int)
  | _, v, _ => v = .bool bb
theorem n8T_later (A C : Option Addr) (n c c4 E Z : Nat) (x : Int) (K : Nat) (bb : Bool) : ∀ i v w1 w2, n8T A C n c c4 E Z x K bb i v w1 → Below w1.heap.size w1 w2 → n8T A C n c c4 E Z x K bb i v w2 := by
  intro i v w1 w2 h hb
  unfold n8T at h ⊢
  split at h <;> first | exact h | (obtain ⟨p, e, hk⟩ := h; exact ⟨p, e, hk.below hb hk.lt⟩)
def n10T (B0 : Nat) (A C : Option Addr) (P : Value) (n c c6 E Z L : Nat) (kd : Nat) (ys : List UInt8) : Nat → Value → World → Prop
  | 0, v, _ => v = .slice A n c
  | 1, v, _ => v = P
  | 2, v, _ => v = .int .u8 (kd : Int)
  | 3, v, _ => v = .slice A n c
  | 4, v, _ => v = .int .i64 (E : Int)
  | 5, v, _ => v = .slice C L c6
  | 6, v, w => ∃ A' c', v = .slice A' ys.length c' ∧ w.ownsRow B0 5 1 (.slice A' ys.length c') ys.length (ys.map byteV)
  | 7, v, _ => v = .int .i64 (Z : Int)
  | 8, v, _ => v = .int .u8 (kd : Int)
  | 9, v, w => ∃ A' c', v = .slice A' ys.length c' ∧ w.ownsRow B0 5 1 (.slice A' ys.length c') ys.length (ys.map byteV)
  | 10, v, _ => v = .int .i64 (Z : Int)
  | _, v, _ => v = .int .i64 0
theorem n10T_later (B0 : Nat) (A C : Option Addr) (P : Value) (n c c6 E Z L : Nat) (kd : Nat) (ys : List UInt8) : ∀ i v w1 w2, n10T B0 A C P n c c6 E Z L kd ys i v w1 → Below w1.heap.size w1 w2 → n10T B0 A C P n c c6 E Z L kd ys i v w2 := by
  intro i v w1 w2 h hb
  unfold n10T at h ⊢
  split at h <;> first | exact h | (obtain ⟨a, b, e, hk⟩ := h; exact ⟨a, b, e, own_later hk hb⟩)
end Go.Proofs.Ytkleecaghgpndaa
