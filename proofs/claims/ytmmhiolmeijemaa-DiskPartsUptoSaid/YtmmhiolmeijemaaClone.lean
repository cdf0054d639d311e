/- A copy of bytes, in memory of its own. -/
import Derived.Test.YtmmhiolmeijemaaCut
import Derived.Lib.SliceRun
namespace Go.Proofs.Ytmmhiolmeijemaa
open Go.RowKit Mem
set_option maxRecDepth 10000
set_option maxHeartbeats 1000000
theorem info_b : (Try.prog.info? 5).map (fun i => (i.zero, i.size, i.bytes)) = some (some (.int .u8 0), 1, 1) := by kernel_rfl
/-- A new slice of these bytes; all that was there below B is as it was. -/
def Made (B : Nat) (bs : List UInt8) (w : World) (e : Ending) (w' : World) : Prop := ∃ A c, e = .returned (.slice A bs.length c) ∧ w'.ownsRow B 5 1 (.slice A bs.length c) bs.length (bs.map byteV) ∧ Below B w w'
theorem own_cap {w : World} {B : Nat} {e : TypeId} {A : Option Addr} {n m c : Nat} {xs : List Value} (h : w.ownsRow B e 1 (.slice A m c) n xs) : m ≤ c ∧ c ≤ maxLen := by
  rcases h.2 with ⟨hv, hn⟩ | ⟨g, cap, cur, hv, _, _, hc, hm, _⟩
  · injection hv with _ h1 h2
    subst h1; subst h2
    exact ⟨Nat.le_refl _, by unfold maxLen; omega⟩
  · injection hv with _ h1 h2
    subst h1; subst h2
    exact ⟨hc, hm⟩
theorem made_of {B : Nat} {bs : List UInt8} {n : Nat} {w w1 : World} {v : Value} {xs : List Value} (ho : w1.ownsRow B 5 1 v n xs) (hx : xs = bs.map byteV) (hb : Below B w w1) : Made B bs w (.returned v) w1 := by
  have hn : n = bs.length := by have := ho.1; rw [hx] at this; simp at this; exact this.symm
  subst hn; subst hx
  rcases ho.2 with ⟨rfl, hn⟩ | ⟨g, cap, cur, rfl, _⟩
  · rw [hn] at ho
    refine ⟨none, 0, by rw [hn], ?_, hb⟩
    rw [hn]; exact ho
  · exact ⟨_, cap, rfl, ho, hb⟩
theorem empty_own (w : World) : (w.alloc (.cells #[] 5)).ownsRow w.heap.size 5 1 (.slice (some ⟨w.heap.size, 0, none⟩) 0 0) 0 [] :=
  World.ownsRow_made w #[] 0 (Nat.le_refl _) (by unfold maxLen; omega) rfl
theorem eql_nil (A : Option Addr) (n c : Nat) (W : World) : (binOp .eql 22 (.slice A n c) (.slice none 0 0)).run Try.prog W = .ok (.bool A.isNone) W :=
  Lib.run_eql_slice_nil W 22 5 A n c 0 0 Try.underlying22
theorem clone_any (B c : Nat) (A : Option Addr) (bs : List UInt8) (n : Nat) (hn : n = bs.length) (w : World) (h : Row w B A (bs.map byteV)) (hB : B ≤ w.heap.size) (hl : bs.length ≤ 140737488355328) :
    Calls Try.prog 28 #[.slice A n c] w (Made w.heap.size bs w) := by
  subst hn
  obtain ⟨i0, hi0, hz0, hz1, hz2⟩ := info_parts info_b
  rcases A with _ | a
  · have hb : bs = [] := by
      rcases h with h | ⟨b, o, e, _⟩
      · simpa using h
      · cases e
    subst hb
    clear h
    have he := eql_nil none 0 c
    go_enter Try.func28, Try.ntmps28
    go_wp2
    go_ret
    exact ⟨none, 0, rfl, World.ownsRow_nil _ _ _ _, Below.refl _ _⟩
  · have HR := Lib.hid (h.alloc hB (.cells #[] 5))
    have HO := Lib.hid (empty_own w)
    clear h
    have he := eql_nil (some a) bs.length c
    go_enter Try.func28, Try.ntmps28
    go_wp2_with (at_builtin; refine wpList_app _ rfl _ _ 22 rfl w.heap.size 5 i0 (.int .u8 0) 1 Try.underlying22 hi0 hz0 hz1 hz2 rfl _ 0 [] rfl HO.out B _ bs.length c (bs.map byteV) rfl (by simp) HR.out (byte_one bs) (by unfold maxLen; omega) (by omega) (by simp) ?_)
    intro v' w1 hown hg _
    have HW := Lib.hid hown
    have HB : Hid (Below w.heap.size w w1) := Lib.hid (((Below.refl _ _).alloc (Nat.le_refl _) _).grown hg (by simp) (fun g hg => by simp [Value.ownBlock] at hg; omega))
    clear hown hg
    go_wp2
    go_ret
    exact made_of HW.out (by simp) HB.out
end Go.Proofs.Ytmmhiolmeijemaa
