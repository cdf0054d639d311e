/- An entry at the begin of bytes, by the document. -/
import Derived.Test.YtmbcdakfnckcmaaRefGetN
namespace Go.Proofs.Ytmbcdakfnckcmaa
open Go.RowKit Mem Be
set_option maxRecDepth 100000
set_option maxHeartbeats 8000000
/-- What the document reads: the entry, the place behind, what is wrong. -/
def refE (bs : List UInt8) : EntP × Nat × Int :=
  let r := getR bs
  if r.2.2 ≠ 0 then (entP0, 0, r.2.2) else
  let a := getB 1099511627776 (bs.drop r.2.1)
  if a.2.2 ≠ 0 then (entP0, 0, a.2.2) else
  let b := getB 1048576 (bs.drop (r.2.1 + a.2.1))
  if b.2.2 ≠ 0 then (entP0, 0, b.2.2) else
  let c := getB 1048576 (bs.drop (r.2.1 + a.2.1 + b.2.1))
  if c.2.2 ≠ 0 then (entP0, 0, c.2.2) else
  let t := getT (bs.drop (r.2.1 + a.2.1 + b.2.1 + c.2.1))
  if t.2.2 ≠ 0 then (entP0, 0, t.2.2) else
  if t.1 = true then
    let v := getR (bs.drop (r.2.1 + a.2.1 + b.2.1 + c.2.1 + t.2.1))
    if v.2.2 ≠ 0 then (entP0, 0, v.2.2) else
    if rightE r.1.length v.1.length a.1 b.1 c.1 true ≠ 0 then (entP0, 0, 11) else (⟨r.1, a.1, b.1, c.1, true, v.1⟩, r.2.1 + a.2.1 + b.2.1 + c.2.1 + t.2.1 + v.2.1, 0)
  else
    if rightE r.1.length 0 a.1 b.1 c.1 false ≠ 0 then (entP0, 0, 11) else (⟨r.1, a.1, b.1, c.1, false, []⟩, r.2.1 + a.2.1 + b.2.1 + c.2.1 + t.2.1, 0)
def RefGot (r : EntP × Nat × Int) (w : World) (E : Ending) (w' : World) : Prop :=
  ∃ A c, E = .returned (.tuple #[entV ⟨r.1.k.toArray⟩ r.1.s r.1.u r.1.o r.1.has A r.1.v.length c, .int .i64 (r.2.1 : Int), .int .i64 r.2.2]) ∧ w'.ownsRow w.heap.size 5 1 (.slice A r.1.v.length c) r.1.v.length (r.1.v.map byteV) ∧ Below w.heap.size w w'
theorem refgot_err {r : EntP × Nat × Int} {e : Int} (hr : r = (entP0, 0, e)) {w w' : World} (hb : Below w.heap.size w w') : RefGot r w (.returned (.tuple #[entV ⟨#[]⟩ 0 0 0 false none 0 0, .int .i64 0, .int .i64 e])) w' := by
  subst hr; exact ⟨none, 0, rfl, World.ownsRow_nil _ _ _ _, hb⟩
theorem below_res (w : World) (o1 o2 : Obj) (v0 v1 v2 v3 v4 v5 : Value) : Below w.heap.size w ((((((((w.alloc o1).alloc o2).setCell ⟨w.heap.size, 0, none⟩ v0).setCell ⟨w.heap.size, 1, none⟩ v1).setCell ⟨w.heap.size, 2, none⟩ v2).setCell ⟨w.heap.size, 3, none⟩ v3).setCell ⟨w.heap.size, 4, none⟩ v4).setCell ⟨w.heap.size, 5, none⟩ v5) :=
  below_set (below_set (below_set (below_set (below_set (below_set (((Below.refl _ _).alloc (Nat.le_refl _) _).alloc (by simp) _) (Nat.le_refl _) _ _) (Nat.le_refl _) _ _) (Nat.le_refl _) _ _) (Nat.le_refl _) _ _) (Nat.le_refl _) _ _) (Nat.le_refl _) _ _
theorem blk_at {w : World} {g g' : Nat} {t : TypeId} {cs : Array Value} (e : g = g') (h : Blk w g t cs) : Blk w g' t cs := by subst e; exact h
theorem below_res5 {w w5 : World} {v0 v1 v2 v3 v4 v5 : Value} (hb : Below w.heap.size w w5) : Below w.heap.size w ((((((w5.setCell ⟨w.heap.size, 0, none⟩ v0).setCell ⟨w.heap.size, 1, none⟩ v1).setCell ⟨w.heap.size, 2, none⟩ v2).setCell ⟨w.heap.size, 3, none⟩ v3).setCell ⟨w.heap.size, 4, none⟩ v4).setCell ⟨w.heap.size, 5, none⟩ v5) :=
  below_set (below_set (below_set (below_set (below_set (below_set hb (Nat.le_refl _) _ _) (Nat.le_refl _) _ _) (Nat.le_refl _) _ _) (Nat.le_refl _) _ _) (Nat.le_refl _) _ _) (Nat.le_refl _) _ _
theorem refgot_ok {r : EntP × Nat × Int} {ks xs : List UInt8} {s u o : Int} {has : Bool} {q : Nat} (hr : r = (⟨ks, s, u, o, has, xs⟩, q, 0)) {w w5 : World} {A : Option Addr} {c n : Nat} {v0 v1 v2 v3 v4 v5 : Value} (hn : n = xs.length) (ho : w5.ownsRow (w.heap.size + 1) 5 1 (.slice A n c) n (xs.map byteV)) (hb : Below w.heap.size w w5) :
    RefGot r w (.returned (.tuple #[entV ⟨ks.toArray⟩ s u o has A n c, .int .i64 q, .int .i64 0])) ((((((w5.setCell ⟨w.heap.size, 0, none⟩ v0).setCell ⟨w.heap.size, 1, none⟩ v1).setCell ⟨w.heap.size, 2, none⟩ v2).setCell ⟨w.heap.size, 3, none⟩ v3).setCell ⟨w.heap.size, 4, none⟩ v4).setCell ⟨w.heap.size, 5, none⟩ v5) := by
  subst hr; subst hn
  exact ⟨A, c, rfl, own_base (own_put (own_put (own_put (own_put (own_put (own_put ho (by omega) _ _) (by omega) _ _) (by omega) _ _) (by omega) _ _) (by omega) _ _) (by omega) _ _) (by omega), below_res5 hb⟩
def RowAt (B : Nat) (x : List UInt8) (q : Nat) (e : Int) (w : World) (E : Ending) (w' : World) : Prop := ∃ A c, E = .returned (.tuple #[.slice A x.length c, .int .i64 (q : Int), .int .i64 e]) ∧ Row w B A (x.map byteV) ∧ w = w'
end Go.Proofs.Ytmbcdakfnckcmaa
