/- A copy of an entry; the newer one of two: by the program and by the document. -/
import Derived.Test.YtnljljfopelopaaSame
namespace Go.Proofs.Ytnljljfopelopaa
open Go.RowKit Mem
set_option maxRecDepth 10000
set_option maxHeartbeats 2000000
theorem own_base {w : World} {B B' : Nat} {e : TypeId} {v : Value} {n : Nat} {xs : List Value} (h : w.ownsRow B e 1 v n xs) (hB : B' ≤ B) : w.ownsRow B' e 1 v n xs := by
  obtain ⟨h1, h2⟩ := h
  refine ⟨h1, ?_⟩
  rcases h2 with h2 | ⟨g, cap, cur, hv, hg, r⟩
  · exact Or.inl h2
  · exact Or.inr ⟨g, cap, cur, hv, by omega, r⟩
theorem own_put {w : World} {B g : Nat} {e : TypeId} {v : Value} {n : Nat} {xs : List Value} (h : w.ownsRow B e 1 v n xs) (hg : g < B) (i : Nat) (u : Value) : (w.setCell ⟨g, i, none⟩ u).ownsRow B e 1 v n xs :=
  ownsRow_setCell_below h (a := ⟨g, i, none⟩) hg u
/-- An entry whose bytes are in new memory. -/
def MadeE (B : Nat) (key : ByteArray) (s u o : Int) (has : Bool) (xs : List UInt8) (w : World) (e : Ending) (w' : World) : Prop :=
  ∃ A c, e = .returned (entV key s u o has A xs.length c) ∧ w'.ownsRow B 5 1 (.slice A xs.length c) xs.length (xs.map byteV) ∧ Below B w w'
theorem copy_any (key : ByteArray) (s u o : Int) (has : Bool) (A : Option Addr) (xs : List UInt8) (n c : Nat) (hn : n = xs.length) (w : World) (h : ValOk w has A xs c) :
    Calls Try.prog 39 #[entV key s u o has A n c] w (MadeE w.heap.size key s u o has xs w) := by
  have hb0 : Below w.heap.size w ((w.alloc (entO key s u o has A n c)).alloc (.cells #[.string .empty, .int .i64 0, .int .i64 0, .int .i64 0, .bool false, .slice none 0 0] 43)) := ((Below.refl _ _).alloc (Nat.le_refl _) _).alloc (by simp) _
  have HR := Lib.hid (h.row.below hb0)
  have HL : Hid (xs.length ≤ 140737488355328) := Lib.hid (by have := h.len; omega)
  have HN := Lib.hid hn
  clear h hb0 hn
  go_enter Try.func39, Try.ntmps39
  go_wp2_with (go_at_call 56; refine (clone_any w.heap.size c A xs n HN.out _ HR.out (by simp; omega) HL.out).mono ?_; rintro e w2 ⟨A2, c2, rfl, ho, hb⟩; obtain ⟨hc, hf⟩ := bcell hb; have HO := Lib.hid ho; have HB2 := Lib.hid hb; (have hk1 := (((Blk.new w 43 #[.string key, .int .i64 s, .int .i64 u, .int .i64 o, .bool has, .slice A n c]).alloc (.cells #[.string .empty, .int .i64 0, .int .i64 0, .int .i64 0, .bool false, .slice none 0 0] 43)).below hb (by simp; omega))); (have c5 : w2.cell? ⟨w.heap.size, 5, none⟩ = some (.slice A n c) := hk1.cell 5); clear ho hb hk1)
  refine bodyPost_ret (v := entV key s u o has A2 xs.length c2) (by simp [results, Try.results39, go_sem, hc]) rfl ⟨A2, c2, rfl, ?_, ?_⟩
  · have h1 := own_put HO.out (g := w.heap.size) (by simp; omega)
    refine own_base (B := w.heap.size + 2) ?_ (by omega)
    have h0 : (w.heap.size + 2) = ((w.alloc (entO key s u o has A n c)).alloc (.cells #[.string .empty, .int .i64 0, .int .i64 0, .int .i64 0, .bool false, .slice none 0 0] 43)).heap.size := by simp
    have HO2 := HO.out
    rw [← h0] at HO2
    exact own_put (own_put (own_put (own_put (own_put (own_put (own_put HO2 (by omega) _ _) (by omega) _ _) (by omega) _ _) (by omega) _ _) (by omega) _ _) (by omega) _ _) (by omega) _ _
  · exact below_set (below_set (below_set (below_set (below_set (below_set (below_set (below_after2 HB2.out) (by omega) _ _) (by omega) _ _) (by omega) _ _) (by omega) _ _) (by omega) _ _) (by omega) _ _) (by omega) _ _
end Go.Proofs.Ytnljljfopelopaa
