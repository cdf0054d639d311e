/- Whether two entries are the same, by the program and by the document; a copy of one; the newer one of two. -/
import Derived.Test.YtnljljfopelopaaVal
namespace Go.Proofs.Ytnljljfopelopaa
open Go.RowKit Mem
set_option maxRecDepth 10000
set_option maxHeartbeats 2000000
def sameE (k1 k2 : ByteArray) (s u o s' u' o' : Int) (h1 h2 : Bool) (xs ys : List UInt8) : Bool := decide (k1 = k2) && (eqT s u o s' u' o' && sameV h1 h2 xs ys)
theorem list_ne {a b : ByteArray} (h : a ≠ b) : (a.toList == b.toList) = false := by
  rw [beq_eq_false_iff_ne]
  intro e
  rw [ByteArray.toList_eq, ByteArray.toList_eq] at e
  apply h
  obtain ⟨⟨x⟩⟩ := a
  obtain ⟨⟨y⟩⟩ := b
  simp at e
  rw [e]
theorem same_ent (k1 k2 : ByteArray) (s u o s' u' o' : Int) (h1 h2 : Bool) (A A' : Option Addr) (xs ys : List UInt8) (c c' n n' : Nat) (hn : n = xs.length) (hn' : n' = ys.length) (w : World) (h : ValOk w h1 A xs c) (h' : ValOk w h2 A' ys c') :
    Calls Try.prog 41 #[entV k1 s u o h1 A n c, entV k2 s' u' o' h2 A' n' c'] w (IsB (sameE k1 k2 s u o s' u' o' h1 h2 xs ys) w) := by
  have HB : Hid (Below w.heap.size w ((w.alloc (entO k1 s u o h1 A n c)).alloc (entO k2 s' u' o' h2 A' n' c'))) := Lib.hid (((Below.refl _ _).alloc (Nat.le_refl _) _).alloc (by simp) _)
  have HR := Lib.hid (h.below HB.out)
  have HR' := Lib.hid (h'.below HB.out)
  have HN := Lib.hid hn
  have HN' := Lib.hid hn'
  clear h h' hn hn'
  by_cases hk : k1 = k2
  · subst hk
    have HV1 : Hid (sameE k1 k1 s u o s' u' o' h1 h2 xs ys = (eqT s u o s' u' o' && sameV h1 h2 xs ys)) := Lib.hid (by unfold sameE; simp)
    have hq := run_eqT s u o s' u' o'
    cases he : eqT s u o s' u' o'
    · rw [he] at hq
      have HV : Hid (sameE k1 k1 s u o s' u' o' h1 h2 xs ys = false) := Lib.hid (by rw [HV1.out, he]; rfl)
      clear he
      go_enter Try.func41, Try.ntmps41
      go_wp2
      go_ret
      exact isB_of HV.out.symm HB.out
    · rw [he] at hq
      have HV : Hid (sameE k1 k1 s u o s' u' o' h1 h2 xs ys = sameV h1 h2 xs ys) := Lib.hid (by rw [HV1.out, he]; rfl)
      clear he
      go_enter Try.func41, Try.ntmps41
      go_wp2_with (go_at_call 42; refine (sameval_any _ _ _ _ xs ys _ _ _ _ HN.out HN'.out _ HR.out HR'.out).mono ?_; rintro e w2 ⟨rfl, hb⟩; have HB2 := Lib.hid (HB.out.trans (hb.mono HB.out.size)); clear hb)
      go_ret
      exact isB_of HV.out.symm HB2.out
  · have hb2 : (k1.toList == k2.toList) = false := list_ne hk
    have HV : Hid (sameE k1 k2 s u o s' u' o' h1 h2 xs ys = false) := Lib.hid (by unfold sameE; rw [decide_eq_false hk]; rfl)
    clear hk
    go_enter Try.func41, Try.ntmps41
    go_wp2
    go_ret
    exact isB_of HV.out.symm HB.out
theorem refsame_ent (k1 k2 : ByteArray) (s u o s' u' o' : Int) (h1 h2 : Bool) (A A' : Option Addr) (xs ys : List UInt8) (c c' n n' : Nat) (hn : n = xs.length) (hn' : n' = ys.length) (w : World) (h : ValOk w h1 A xs c) (h' : ValOk w h2 A' ys c') :
    Calls Try.prog 34 #[entV k1 s u o h1 A n c, entV k2 s' u' o' h2 A' n' c'] w (IsB (sameE k1 k2 s u o s' u' o' h1 h2 xs ys) w) := by
  have HB : Hid (Below w.heap.size w ((w.alloc (entO k1 s u o h1 A n c)).alloc (entO k2 s' u' o' h2 A' n' c'))) := Lib.hid (((Below.refl _ _).alloc (Nat.le_refl _) _).alloc (by simp) _)
  have HR := Lib.hid (h.below HB.out)
  have HR' := Lib.hid (h'.below HB.out)
  have HN := Lib.hid hn
  have HN' := Lib.hid hn'
  clear h h' hn hn'
  by_cases hk : k1 = k2
  · subst hk
    have HV1 : Hid (sameE k1 k1 s u o s' u' o' h1 h2 xs ys = (eqT s u o s' u' o' && sameV h1 h2 xs ys)) := Lib.hid (by unfold sameE; simp)
    have hq := run_eqT s u o s' u' o'
    cases he : eqT s u o s' u' o'
    · rw [he] at hq
      have HV : Hid (sameE k1 k1 s u o s' u' o' h1 h2 xs ys = false) := Lib.hid (by rw [HV1.out, he]; rfl)
      clear he
      go_enter Try.func34, Try.ntmps34
      go_wp2
      go_ret
      exact isB_of HV.out.symm HB.out
    · rw [he] at hq
      have HV : Hid (sameE k1 k1 s u o s' u' o' h1 h2 xs ys = sameV h1 h2 xs ys) := Lib.hid (by rw [HV1.out, he]; rfl)
      clear he
      go_enter Try.func34, Try.ntmps34
      go_wp2_with (go_at_call 43; refine (refsameval_any _ _ _ _ xs ys _ _ _ _ HN.out HN'.out _ HR.out HR'.out).mono ?_; rintro e w2 ⟨rfl, hb⟩; have HB2 := Lib.hid (HB.out.trans (hb.mono HB.out.size)); clear hb)
      go_ret
      exact isB_of HV.out.symm HB2.out
  · have hb2 : (k1.toList == k2.toList) = false := list_ne hk
    have HV : Hid (sameE k1 k2 s u o s' u' o' h1 h2 xs ys = false) := Lib.hid (by unfold sameE; rw [decide_eq_false hk]; rfl)
    clear hk
    go_enter Try.func34, Try.ntmps34
    go_wp2
    go_ret
    exact isB_of HV.out.symm HB.out
end Go.Proofs.Ytnljljfopelopaa
