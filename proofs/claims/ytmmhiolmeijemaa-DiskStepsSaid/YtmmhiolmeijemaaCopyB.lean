/- The statements' own copy of bytes. -/
import Derived.Test.YtmmhiolmeijemaaClone
namespace Go.Proofs.Ytmmhiolmeijemaa
open Go.RowKit Mem
set_option maxRecDepth 100000
set_option maxHeartbeats 8000000
set_option linter.unusedVariables false
theorem copyb_any (B c n : Nat) (A : Option Addr) (bs : List UInt8) (hn : n = bs.length) (w : World) (h : Row w B A (bs.map byteV)) (hB : B ≤ w.heap.size) (hl : bs.length ≤ 1073741824) :
    Calls Try.prog 25 #[.slice A n c] w (Made w.heap.size bs w) := by
  subst hn
  obtain ⟨i0, hi0, hz0, hz1, hz2⟩ := info_parts info_b
  have HR := Lib.hid h
  clear h
  go_enter Try.func25, Try.ntmps25
  go_wp2_with (at_builtin; refine wpList_app _ rfl _ _ 22 rfl w.heap.size 5 i0 (.int .u8 0) 1 Try.underlying22 hi0 hz0 hz1 hz2 rfl (.slice none 0 0) 0 [] rfl (World.ownsRow_nil _ _ _ _) B _ bs.length c (bs.map byteV) rfl (by simp) HR.out (byte_one bs) (by unfold maxLen; omega) (by omega) (Nat.le_refl _) ?_)
  intro v' w1 hown hgr _
  have HO := Lib.hid hown
  have HB : Hid (Below w.heap.size w w1) := Lib.hid ⟨hgr.os, hgr.tape, hgr.output, hgr.size, fun k hk => hgr.block k hk (by simp [Value.ownBlock])⟩
  clear hown hgr
  go_wp2
  go_ret
  exact made_of HO.out (by simp) HB.out
end Go.Proofs.Ytmmhiolmeijemaa
