/- The law FramesScans, walked. -/
import Derived.Test.YtkagfjjocmjeoaaSame5
namespace Go.Proofs.Ytkagfjjocmjeoaa
open Go.RowKit Mem Be Word Frm
set_option maxRecDepth 100000
set_option maxHeartbeats 2000000
set_option linter.unusedVariables false
theorem same_true (B B' c c' n n' : Nat) (A A' : Option Addr) (xs : List UInt8) (w : World) (h : Row w B A (xs.map byteV)) (h' : Row w B' A' (xs.map byteV)) (hn : n = xs.length) (hn' : n' = xs.length) :
    Calls Try.prog 21 #[.slice A n c, .slice A' n' c'] w fun e w' => e = .returned (.bool true) ∧ w = w' := by
  have := same_any B B' c c' n n' A A' xs xs w h h' hn hn'
  rw [show (xs == xs) = true by simp] at this
  exact this
/-- Records that are the same lie the same. -/
theorem refsame5_true (n m c d : Nat) (A A' : Option Addr) (rs ss : List RecV) (hn : n = rs.length) (hm : m = ss.length) (he : rs.map rcOf = ss.map rcOf) (w : World) (h : Row w w.heap.size A (recsC rs)) (h' : Row w w.heap.size A' (recsC ss)) (hr : Recs_ w rs) (hs : Recs_ w ss) (hnm : n ≤ 1073741824) :
    Calls Try.prog 26 #[.slice A n c, .slice A' m d] w (IsT true w) := by
  have := refsame5_any n m c d A A' rs ss hn hm w h h' hr hs hnm
  rw [decide_eq_true he] at this
  exact this
theorem scan_len (bs : List UInt8) : (scanS bs).1.length * 10 ≤ bs.length := by
  have h1 := long_many (scanS bs).1
  have h2 := scan_back _ bs (Nat.le_refl _)
  unfold longN at h1
  omega
/-- A first frame that is there. -/
def NextQ (kk : UInt8) (ys : List UInt8) (Z : Nat) (w : World) (e : Ending) (w' : World) : Prop :=
  ∃ A c, e = .returned (.tuple #[.int .u8 (kk.toNat : Int), .slice A ys.length c, .int .i64 (Z : Int), .int .i64 0]) ∧
      w'.ownsRow w.heap.size 5 1 (.slice A ys.length c) ys.length (ys.map byteV) ∧ Below w.heap.size w w'
theorem nextQ_of {kk : UInt8} {ys : List UInt8} {Z : Nat} (hZ : ys.length + 10 = Z) {w : World} {e : Ending} {w' : World} (h : NextP (.ok (kk, ys)) w e w') : NextQ kk ys Z w e w' := by
  subst hZ; exact h
theorem map_len {rs : List RecV} {l : List Rc} (h : rs.map rcOf = l) : rs.length = l.length := by rw [← h, List.length_map]
end Go.Proofs.Ytkagfjjocmjeoaa
