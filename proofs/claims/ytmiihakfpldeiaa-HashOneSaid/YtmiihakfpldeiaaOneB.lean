/- The law HashOne: what its walk stands on. -/
import Derived.Test.YtmiihakfpldeiaaLawsA
import Derived.Test.YtmiihakfpldeiaaCopyB
import Derived.Test.YtmiihakfpldeiaaCut
import Derived.Test.YtmiihakfpldeiaaRely
namespace Go.Proofs.Ytmiihakfpldeiaa
open Go.RowKit Mem Be Word
set_option maxRecDepth 100000
set_option maxHeartbeats 8000000
set_option linter.unusedVariables false
theorem set_map (bs : List UInt8) (k y : Nat) (hy : y < 256) : (bs.map byteV).set k (.int .u8 (y : Int)) = (bs.set k (UInt8.ofNat y)).map byteV := by
  rw [List.map_set]
  congr 1
  unfold byteV
  rw [UInt8.toNat_ofNat', Nat.mod_eq_of_lt hy]
theorem one_other (h : Nat) (bs : List UInt8) (k y : Nat) (hk : k < bs.length) (hy : y < 256) (hh : U64 h) (hne : bs[k].toNat ≠ y) : sumN h bs ≠ sumN h (bs.set k (UInt8.ofNat y)) := by
  have e1 : bs = bs.take k ++ bs[k] :: bs.drop (k + 1) := by simp
  have e2 : bs.set k (UInt8.ofNat y) = bs.take k ++ UInt8.ofNat y :: bs.drop (k + 1) := by
    rw [List.set_eq_take_append_cons_drop, if_pos hk]
  rw [e2]
  intro e
  have e3 : sumN h bs = sumN h (bs.take k ++ bs[k] :: bs.drop (k + 1)) := congrArg _ e1
  rw [e3] at e
  refine sum_other h _ _ _ _ hh (fun e => hne ?_) e
  rw [e, UInt8.toNat_ofNat', Nat.mod_eq_of_lt hy]
theorem xor_other (a x : Nat) (hx : x ≠ 0) : a ≠ a ^^^ x := by
  intro e
  have := xor_inj' x 0 a (by rw [← e, Nat.xor_zero])
  exact hx this
/-- The sum of one row, wherever its slice lies. -/
theorem sum_blk (p : Nat) (A : Option Addr) (bs : List UInt8) (n c : Nat) (hn : n = bs.length) (S : Nat) (hS : Hid (sumN basisN bs = S)) (hl : n ≤ 100000) (W : World) (hb : Blk W p 23 #[.slice A n c]) (hr : Row W W.heap.size A (bs.map byteV)) :
    Calls Try.prog 11 #[.slice (some ⟨p, 0, none⟩) 1 1] W fun e w' => e = .returned (.int .u64 (S : Int)) ∧ W = w' := by
  have h := sum_any W.heap.size 1 1 (some ⟨p, 0, none⟩) [(A, bs, c)] rfl W (Or.inr ⟨p, 0, rfl, hb.lt, fun j hj => by
    have : j = 0 := by simpa using hj
    subst this
    rw [hb.cell]
    subst hn; rfl⟩) (rows_one hr) (lens_one (by omega)) (by omega)
  rw [show catB [(A, bs, c)] = bs by simp [catB], hS.out] at h
  exact h
theorem sum_blk2 (p : Nat) (A A' : Option Addr) (bs bs' cs : List UInt8) (n c n' c' : Nat) (hn : n = bs.length) (hn' : n' = bs'.length) (hc : bs ++ bs' = cs) (S : Nat) (hS : Hid (sumN basisN cs = S)) (hl : cs.length ≤ 100000) (W : World) (hb : Blk W p 23 #[.slice A n c, .slice A' n' c']) (hr : Row W W.heap.size A (bs.map byteV)) (hr' : Row W W.heap.size A' (bs'.map byteV)) :
    Calls Try.prog 11 #[.slice (some ⟨p, 0, none⟩) 2 2] W fun e w' => e = .returned (.int .u64 (S : Int)) ∧ W = w' := by
  have hl2 : bs.length + bs'.length ≤ 100000 := by rw [← List.length_append, hc]; exact hl
  have h := sum_any W.heap.size 2 2 (some ⟨p, 0, none⟩) [(A, bs, c), (A', bs', c')] rfl W (Or.inr ⟨p, 0, rfl, hb.lt, fun j hj => by
    have : j < 2 := by simpa using hj
    rw [hb.cell]
    subst hn; subst hn'
    match j, this with
    | 0, _ => rfl
    | 1, _ => rfl⟩) (rows_two hr hr') (lens_two (by omega) (by omega)) (by omega)
  rw [show catB [(A, bs, c), (A', bs', c')] = cs by simp [catB, hc], hS.out] at h
  exact h
theorem blk_to {w : World} {g g' : Nat} {t : TypeId} {cs : Array Value} (hg : g' = g) (h : Blk w g t cs) : Blk w g' t cs := by subst hg; exact h
theorem al1 {w0 W : World} {o : Obj} (h : Below w0.heap.size w0 W) : Below w0.heap.size w0 (W.alloc o) := h.alloc h.size _
theorem tr_later {w0 W w' : World} (h : Below w0.heap.size w0 W) (hb : Below W.heap.size W w') : Below w0.heap.size w0 w' := h.trans (hb.mono h.size)
theorem keyb_any (bs : List UInt8) (K : Nat) (hK : Hid (keyN bs = K)) (hl : bs.length ≤ 100000) (W : World) : Calls Try.prog 21 #[.string ⟨bs.toArray⟩] W (IsW K W) := by
  have := key_any ⟨bs.toArray⟩ (by show bs.toArray.size ≤ 100000; simpa using hl) W
  rw [kb_mk, hK.out] at this
  exact this
end Go.Proofs.Ytmiihakfpldeiaa
