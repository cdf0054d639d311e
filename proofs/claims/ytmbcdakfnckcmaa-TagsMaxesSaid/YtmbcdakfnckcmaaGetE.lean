/- An entry read by a reader: the fields. -/
import Derived.Test.YtmbcdakfnckcmaaGetTV
import Derived.Deep.DeepCutAuto
namespace Go.Proofs.Ytmbcdakfnckcmaa
open Go.RowKit Mem Be
set_option maxRecDepth 10000
set_option maxHeartbeats 4000000
structure EntP where
  k : List UInt8
  s : Int
  u : Int
  o : Int
  has : Bool
  v : List UInt8
def entP0 : EntP := ⟨[], 0, 0, 0, false, []⟩
abbrev zeroC : Array Value := #[.string ⟨#[]⟩, .int .i64 0, .int .i64 0, .int .i64 0, .bool false, .slice none 0 0]
theorem getR_len (bs : List UInt8) : (getR bs).1.length ≤ 65536 := by
  unfold getR
  split
  · simp
  split
  · simp
  split
  · simp
  · rename_i h1 h2 h3
    simp only [List.length_take]
    omega
theorem stepR_len (bs : List UInt8) (e : Int) : (stepR bs e).1.length ≤ 65536 := by
  unfold stepR; split
  · exact getR_len bs
  · simp
theorem stepV_len (bs : List UInt8) (e : Int) : (stepV bs e).1.2.length ≤ 65536 := by
  unfold stepV; split
  · exact stepR_len _ _
  · simp
def ReadE (g : Nat) (w : World) (x : EntP) (bs : List UInt8) (e : Int) (p : Value) (wx : World) : Prop :=
  ∃ L A c, p = .pointer (some ⟨L, 0, none⟩) ∧ Blk wx L 38 #[.string ⟨x.k.toArray⟩, .int .i64 x.s, .int .i64 x.u, .int .i64 x.o, .bool x.has, .slice A x.v.length c] ∧
    wx.ownsRow (w.heap.size + 1) 5 1 (.slice A x.v.length c) x.v.length (x.v.map byteV) ∧ Rd wx g bs e ∧ w.grownBy wx (some g) ∧ w.heap.size < L ∧ Blk wx w.heap.size 38 zeroC
theorem gcell {w w' : World} {g : Nat} (h : w.grownBy w' (some g)) : (∀ b o, b < w.heap.size → b ≠ g → w'.cell? ⟨b, o, none⟩ = w.cell? ⟨b, o, none⟩) ∧ (∀ b o, b < w.heap.size → b ≠ g → w'.frozen? ⟨b, o, none⟩ = w.frozen? ⟨b, o, none⟩) :=
  ⟨fun b o hb hne => World.cell?_of_block (w := w) (a := ⟨b, o, none⟩) (h.block b hb (fun e => hne (by injection e))), fun b o hb hne => World.frozen?_of_block (w := w) (a := ⟨b, o, none⟩) (h.block b hb (fun e => hne (by injection e)))⟩
def stepE1 (bs : List UInt8) (e : Int) : EntP × List UInt8 × Int :=
  (⟨(stepR bs e).1, (stepTag (stepR bs e).2.1 (stepR bs e).2.2).1.1, (stepTag (stepR bs e).2.1 (stepR bs e).2.2).1.2.1, (stepTag (stepR bs e).2.1 (stepR bs e).2.2).1.2.2,
    (stepV (stepTag (stepR bs e).2.1 (stepR bs e).2.2).2.1 (stepTag (stepR bs e).2.1 (stepR bs e).2.2).2.2).1.1, (stepV (stepTag (stepR bs e).2.1 (stepR bs e).2.2).2.1 (stepTag (stepR bs e).2.1 (stepR bs e).2.2).2.2).1.2⟩,
   (stepV (stepTag (stepR bs e).2.1 (stepR bs e).2.2).2.1 (stepTag (stepR bs e).2.1 (stepR bs e).2.2).2.2).2)
theorem own_keep {w w' : World} {B g n : Nat} {e : TypeId} {v : Value} {xs : List Value} (h : w.ownsRow B e 1 v n xs) (hg : w.grownBy w' (some g)) (hB : g < B) : w'.ownsRow B e 1 v n xs := by
  refine h.kept hg ?_
  cases hv : v.ownBlock with
  | none => exact Or.inl rfl
  | some k => exact Or.inr (fun e => by injection e with e; have := (h.lt k hv).1; omega)
theorem conv_own {w : World} {B c : Nat} {A : Option Addr} {xs : List UInt8} (h : w.ownsRow B 5 1 (.slice A xs.length c) xs.length (xs.map byteV)) : (convert 34 9 (.slice A xs.length c)).run Try.prog w = .ok (.string ⟨xs.toArray⟩) w :=
  conv_row c 34 9 5 Try.underlying34 Try.underlying5 Try.underlying9 (Row.of_own h)
theorem own_typ {w : World} {B L n : Nat} {v : Value} {xs : List Value} {cs : Array Value} (h : w.ownsRow B 5 1 v n xs) (hL : Blk w L 38 cs) (i : Nat) (u : Value) : (w.setCell ⟨L, i, none⟩ u).ownsRow B 5 1 v n xs := by
  refine h.kept (grown_set w L i u) ?_
  rcases h.2 with ⟨rfl, _⟩ | ⟨g', cap, cur, rfl, _, hh, _⟩
  · exact Or.inl rfl
  · refine Or.inr (fun he => ?_)
    have : g' = L := by simpa [Value.ownBlock] using he
    subst this
    exact Blk.ne_ (t := 5) hh hL (by decide) rfl
theorem leafA {w w4 : World} {g : Nat} {ks xs : List UInt8} {s u o e : Int} {has : Bool} {bs : List UInt8} {A : Option Addr} {c : Nat} (hV : w4.ownsRow (w.heap.size + 1) 5 1 (.slice A xs.length c) xs.length (xs.map byteV)) (hD : Rd w4 g bs e) (hG : w.grownBy w4 (some g)) (hR : Blk w4 w.heap.size 38 zeroC) :
    ReadE g w ⟨ks, s, u, o, has, xs⟩ bs e (.pointer (some ⟨w4.heap.size, 0, none⟩)) (w4.alloc (.cells #[.string ⟨ks.toArray⟩, .int .i64 s, .int .i64 u, .int .i64 o, .bool has, .slice A xs.length c] 38)) :=
  ⟨w4.heap.size, A, c, rfl, Blk.new _ _ _, hV.alloc _, rd_alloc hD _, grown_trans hG (World.grownBy_alloc _ _ _), hR.lt, hR.alloc _⟩
theorem leafB {w w4 : World} {g L : Nat} {ks xs : List UInt8} {s u o e : Int} {has : Bool} {bs : List UInt8} {A : Option Addr} {c : Nat} (hL : Blk w4 L 38 zeroC) (hV : w4.ownsRow (w.heap.size + 1) 5 1 (.slice A xs.length c) xs.length (xs.map byteV)) (hD : Rd w4 g bs e) (hG : w.grownBy w4 (some g)) (hR : Blk w4 w.heap.size 38 zeroC) (hg : g < L) (hw : w.heap.size < L) :
    ReadE g w ⟨ks, s, u, o, has, xs⟩ bs e (.pointer (some ⟨L, 0, none⟩)) ((((((w4.setCell ⟨L, 0, none⟩ (.string ⟨ks.toArray⟩)).setCell ⟨L, 1, none⟩ (.int .i64 s)).setCell ⟨L, 2, none⟩ (.int .i64 u)).setCell ⟨L, 3, none⟩ (.int .i64 o)).setCell ⟨L, 4, none⟩ (.bool has)).setCell ⟨L, 5, none⟩ (.slice A xs.length c)) := by
  have k1 := hL.set_ 0 (.string ⟨ks.toArray⟩)
  have k2 := k1.set_ 1 (.int .i64 s)
  have k3 := k2.set_ 2 (.int .i64 u)
  have k4 := k3.set_ 3 (.int .i64 o)
  have k5 := k4.set_ 4 (.bool has)
  have k6 := k5.set_ 5 (.slice A xs.length c)
  refine ⟨L, A, c, rfl, k6, ?_, ?_, ?_, hw, ?_⟩
  · exact own_typ (own_typ (own_typ (own_typ (own_typ (own_typ hV hL _ _) k1 _ _) k2 _ _) k3 _ _) k4 _ _) k5 _ _
  · exact rd_put (rd_put (rd_put (rd_put (rd_put (rd_put hD hg _ _) hg _ _) hg _ _) hg _ _) hg _ _) hg _ _
  · exact grown_put (grown_put (grown_put (grown_put (grown_put (grown_put hG (Nat.le_of_lt hw) _ _) (Nat.le_of_lt hw) _ _) (Nat.le_of_lt hw) _ _) (Nat.le_of_lt hw) _ _) (Nat.le_of_lt hw) _ _) (Nat.le_of_lt hw) _ _
  · have hne : w.heap.size ≠ L := by omega
    exact (((((hR.far (p := ⟨L, 0, none⟩) hne _).far (p := ⟨L, 1, none⟩) hne _).far (p := ⟨L, 2, none⟩) hne _).far (p := ⟨L, 3, none⟩) hne _).far (p := ⟨L, 4, none⟩) hne _).far (p := ⟨L, 5, none⟩) hne _
theorem alloc_first {w w2 : World} {g : Nat} (hgr : ((w.alloc (.cells zeroC 38)).alloc (.cells zeroC 38)).drew.grownBy w2 (some g)) (hlt : g < w.heap.size) : Blk w2 (w.heap.size + 1) 38 zeroC := by
  have h := ((Blk.new (w.alloc (.cells zeroC 38)) 38 zeroC).drew).grown hgr (by simp; omega)
  have e : (w.alloc (.cells zeroC 38)).heap.size = w.heap.size + 1 := by simp
  rw [e] at h
  exact h
end Go.Proofs.Ytmbcdakfnckcmaa
