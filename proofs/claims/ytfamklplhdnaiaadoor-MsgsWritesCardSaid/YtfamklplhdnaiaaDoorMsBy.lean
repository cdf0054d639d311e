/- MsBy: The bytes of a message, told by the reference. -/
import Derived.Test.YtfamklplhdnaiaaDoorMsBa
import Derived.Test.YtfamklplhdnaiaaDoorMsBb
import Derived.Test.YtfamklplhdnaiaaDoorMsBc
namespace Go.Proofs.YtfamklplhdnaiaaDoor
open Go.RowKit Mem Be Rg
set_option maxRecDepth 100000
set_option maxHeartbeats 16000000
set_option linter.unusedVariables false
set_option linter.unusedSimpArgs false
theorem kind_sets7 {k : Int} (h : exK k = true) : (hasN k = false ∧ hasF k = false ∧ hasE k = false ∧ hasL k = false ∧ hasR k = false) ∨ (hasN k = false ∧ hasF k = false ∧ hasE k = true ∧ hasL k = false ∧ hasR k = false) ∨ (hasN k = true ∧ hasF k = false ∧ hasE k = false ∧ hasL k = false ∧ hasR k = false) ∨ (hasN k = true ∧ hasF k = false ∧ hasE k = true ∧ hasL k = false ∧ hasR k = false) ∨ (hasN k = false ∧ hasF k = false ∧ hasE k = false ∧ hasL k = false ∧ hasR k = true) ∨ (hasN k = true ∧ hasF k = true ∧ hasE k = true ∧ hasL k = false ∧ hasR k = false) ∨ (hasN k = true ∧ hasF k = true ∧ hasE k = false ∧ hasL k = true ∧ hasR k = false) := by
  have key : ∀ i : Fin 18, 1 ≤ i.val → (hasN (i.val : Int) = false ∧ hasF (i.val : Int) = false ∧ hasE (i.val : Int) = false ∧ hasL (i.val : Int) = false ∧ hasR (i.val : Int) = false) ∨ (hasN (i.val : Int) = false ∧ hasF (i.val : Int) = false ∧ hasE (i.val : Int) = true ∧ hasL (i.val : Int) = false ∧ hasR (i.val : Int) = false) ∨ (hasN (i.val : Int) = true ∧ hasF (i.val : Int) = false ∧ hasE (i.val : Int) = false ∧ hasL (i.val : Int) = false ∧ hasR (i.val : Int) = false) ∨ (hasN (i.val : Int) = true ∧ hasF (i.val : Int) = false ∧ hasE (i.val : Int) = true ∧ hasL (i.val : Int) = false ∧ hasR (i.val : Int) = false) ∨ (hasN (i.val : Int) = false ∧ hasF (i.val : Int) = false ∧ hasE (i.val : Int) = false ∧ hasL (i.val : Int) = false ∧ hasR (i.val : Int) = true) ∨ (hasN (i.val : Int) = true ∧ hasF (i.val : Int) = true ∧ hasE (i.val : Int) = true ∧ hasL (i.val : Int) = false ∧ hasR (i.val : Int) = false) ∨ (hasN (i.val : Int) = true ∧ hasF (i.val : Int) = true ∧ hasE (i.val : Int) = false ∧ hasL (i.val : Int) = true ∧ hasR (i.val : Int) = false) := by decide +kernel
  obtain ⟨h1, h2⟩ := exK_yes h
  have := key ⟨k.toNat, by omega⟩ (by show 1 ≤ k.toNat; omega)
  have e : ((k.toNat : Nat) : Int) = k := by omega
  simp only [e] at this
  exact this
theorem refbytes12_no (x : MV) (h0 : okM (mP x) = false) (w : World) (h : MsgM w x) : Calls Tryd.prog 13 #[.agg #[.int .i64 x.kind, .int .i64 x.fr, .int .i64 x.dst, .int .i64 x.ep, .int .i64 x.op, .int .i64 x.n, .bool x.flag, .string ⟨x.e.1.k.toArray⟩, .int .i64 x.e.1.s, .int .i64 x.e.1.u, .int .i64 x.e.1.o, .bool x.e.1.has, .slice x.e.2.1 x.e.1.v.length x.e.2.2, .slice x.lA x.l.length x.lc, .slice x.rA x.ns.length x.rc, .int .i64 x.each, .int .i64 x.keep]] w (Made2 w.heap.size [] 2 w) := by
  have hb : Below w.heap.size w (w.alloc (.cells #[.int .i64 x.kind, .int .i64 x.fr, .int .i64 x.dst, .int .i64 x.ep, .int .i64 x.op, .int .i64 x.n, .bool x.flag, .string ⟨x.e.1.k.toArray⟩, .int .i64 x.e.1.s, .int .i64 x.e.1.u, .int .i64 x.e.1.o, .bool x.e.1.has, .slice x.e.2.1 x.e.1.v.length x.e.2.2, .slice x.lA x.l.length x.lc, .slice x.rA x.ns.length x.rc, .int .i64 x.each, .int .i64 x.keep] 34)) := (Below.refl _ _).alloc (Nat.le_refl _) _
  have HX := Lib.hid (Blk.new w 34 #[.int .i64 x.kind, .int .i64 x.fr, .int .i64 x.dst, .int .i64 x.ep, .int .i64 x.op, .int .i64 x.n, .bool x.flag, .string ⟨x.e.1.k.toArray⟩, .int .i64 x.e.1.s, .int .i64 x.e.1.u, .int .i64 x.e.1.o, .bool x.e.1.has, .slice x.e.2.1 x.e.1.v.length x.e.2.2, .slice x.lA x.l.length x.lc, .slice x.rA x.ns.length x.rc, .int .i64 x.each, .int .i64 x.keep])
  have HB := Lib.hid hb
  have HCK := Lib.hid (refcheck12 x _ (h.below hb))
  rw [show checkM (mP x) = 2 from checkM_no h0] at HCK
  clear h hb h0
  go_enter Tryd.func13, Tryd.ntmps13
  go_wp2_with (refine wpList_load_row rfl 34 _ rfl _ rfl _ _ _ _ (show _ = _ from HX.out) Tryd.underlying34 rfl (by kernel_rfl) ?_)
  refine HCK.out.mono ?_
  rintro e w1 ⟨rfl, hb1⟩
  have HB1 := Lib.hid (HB.out.trans (hb1.mono HB.out.size))
  clear hb1
  go_wp2
  exact bodyPost_ret (v := .tuple #[.slice none 0 0, .int .i64 2]) (by simp [results, Tryd.results13, go_sem]) rfl ⟨none, 0, rfl, World.ownsRow_nil _ _ _ _, HB1.out⟩
theorem refbytes12_any (x : MV) (w : World) (h : MsgM w x) : Calls Tryd.prog 13 #[.agg #[.int .i64 x.kind, .int .i64 x.fr, .int .i64 x.dst, .int .i64 x.ep, .int .i64 x.op, .int .i64 x.n, .bool x.flag, .string ⟨x.e.1.k.toArray⟩, .int .i64 x.e.1.s, .int .i64 x.e.1.u, .int .i64 x.e.1.o, .bool x.e.1.has, .slice x.e.2.1 x.e.1.v.length x.e.2.2, .slice x.lA x.l.length x.lc, .slice x.rA x.ns.length x.rc, .int .i64 x.each, .int .i64 x.keep]] w (Made2 w.heap.size (bytesM (mP x)).1 (bytesM (mP x)).2 w) := by
  unfold bytesM
  cases h0 : okM (mP x)
  · exact refbytes12_no x h0 w h
  · rw [if_pos rfl]
    simp only
    have hx : exK x.kind = true := by
      cases hh : exK x.kind
      · exact absurd h0 (by rw [headno_1 (m := mP x) hh]; simp)
      · rfl
    rcases kind_sets7 hx with ⟨a, b, c, d, e⟩ | ⟨a, b, c, d, e⟩ | ⟨a, b, c, d, e⟩ | ⟨a, b, c, d, e⟩ | ⟨a, b, c, d, e⟩ | ⟨a, b, c, d, e⟩ | ⟨a, b, c, d, e⟩
    · exact refbytes12_o x h0 a b c d e w h
    · exact refbytes12_e x h0 a b c d e w h
    · exact refbytes12_n x h0 a b c d e w h
    · exact refbytes12_ne x h0 a b c d e w h
    · exact refbytes12_r x h0 a b c d e w h
    · rcases Bool.eq_false_or_eq_true x.flag with hf | hf
      · exact refbytes12_nfeT x h0 a b c d e hf w h
      · exact refbytes12_nfeF x h0 a b c d e hf w h
    · rcases Bool.eq_false_or_eq_true x.flag with hf | hf
      · exact refbytes12_nflT x h0 a b c d e hf w h
      · exact refbytes12_nflF x h0 a b c d e hf w h
end Go.Proofs.YtfamklplhdnaiaaDoor
