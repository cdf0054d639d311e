/- The newer one of two entries, by the program and by the document. -/
import Derived.Test.YtmbcdakfnckcmaaCopyE
namespace Go.Proofs.Ytmbcdakfnckcmaa
open Go.RowKit Mem
set_option maxRecDepth 10000
set_option maxHeartbeats 2000000
theorem cmpT_range (a b c x y z : Int) : cmpT a b c x y z = -1 ∨ cmpT a b c x y z = 0 ∨ cmpT a b c x y z = 1 := by
  unfold cmpT
  rcases cmpI_cases a x with ⟨_, h⟩ | ⟨_, h⟩ | ⟨_, h⟩ <;> rcases cmpI_cases b y with ⟨_, h'⟩ | ⟨_, h'⟩ | ⟨_, h'⟩ <;> rcases cmpI_cases c z with ⟨_, h''⟩ | ⟨_, h''⟩ | ⟨_, h''⟩ <;> rw [h, h', h''] <;> simp
theorem compare_val (a b c x y z n : Int) (h : Hid (cmpT a b c x y z = n)) (w : World) : Calls Try.prog 7 #[tagV a b c, tagV x y z] w (IsI n w) := by
  have := compare_any a b c x y z w
  rw [h.out] at this; exact this
theorem refcompare_val (a b c x y z n : Int) (h : Hid (cmpT a b c x y z = n)) (w : World) : Calls Try.prog 15 #[tagV a b c, tagV x y z] w (IsI n w) := by
  have := refcompare_any a b c x y z w
  rw [h.out] at this; exact this
abbrev ent0 : Obj := .cells #[.string .empty, .int .i64 0, .int .i64 0, .int .i64 0, .bool false, .slice none 0 0] 38
theorem newer_res {w w1 w2 : World} {key : ByteArray} {s u o : Int} {has : Bool} {xs : List UInt8} {A : Option Addr} {c g : Nat} {v0 v1 v2 v3 v4 v5 : Value}
    (hb : Below w.heap.size w w1) (ho : w2.ownsRow w1.heap.size 5 1 (.slice A xs.length c) xs.length (xs.map byteV)) (hb2 : Below w1.heap.size w1 w2) (hg : w.heap.size ≤ g) (hg1 : g < w1.heap.size) :
    MadeE w.heap.size key s u o has xs w (.returned (entV key s u o has A xs.length c)) ((((((w2.setCell ⟨g, 0, none⟩ v0).setCell ⟨g, 1, none⟩ v1).setCell ⟨g, 2, none⟩ v2).setCell ⟨g, 3, none⟩ v3).setCell ⟨g, 4, none⟩ v4).setCell ⟨g, 5, none⟩ v5) :=
  ⟨A, c, rfl, own_base (own_put (own_put (own_put (own_put (own_put (own_put ho hg1 _ _) hg1 _ _) hg1 _ _) hg1 _ _) hg1 _ _) hg1 _ _) hb.size,
    below_set (below_set (below_set (below_set (below_set (below_set (hb.trans (hb2.mono hb.size)) hg _ _) hg _ _) hg _ _) hg _ _) hg _ _) hg _ _⟩
end Go.Proofs.Ytmbcdakfnckcmaa
