/- A ring that is checked; one node more, one node less; whether two rings are the same: by the program. -/
import Derived.Test.YthnfinnlnkjomaaRgI
import Derived.Deep.RegionHeld3
namespace Go.Proofs.Ythnfinnlnkjomaa
open Go.RowKit Mem Rg
set_option maxRecDepth 100000
set_option maxHeartbeats 8000000
set_option linter.unusedVariables false
def rgV (A : Option Addr) (n c : Nat) (e k : Int) : Value := .agg #[.slice A n c, .int .i64 e, .int .i64 k]
theorem below_set3 {B g : Nat} {w w' : World} (h : Below B w w') (hg : B ≤ g) (x y z : Value) : Below B w (((w'.setCell ⟨g, 0, none⟩ x).setCell ⟨g, 1, none⟩ y).setCell ⟨g, 2, none⟩ z) :=
  below_set (below_set (below_set h hg 0 x) hg 1 y) hg 2 z
theorem blkSet3 {W : World} {g : Nat} {t : TypeId} {a b c : Value} (h : Blk W g t #[a, b, c]) (x y z : Value) : Blk (((W.setCell ⟨g, 0, none⟩ x).setCell ⟨g, 1, none⟩ y).setCell ⟨g, 2, none⟩ z) g t #[x, y, z] := by
  have := ((h.set_ 0 x).set_ 1 y).set_ 2 z
  simpa using this
theorem far3c {w : World} {b i g : Nat} {x : Option Value} {u0 u1 u2 : Value} (h : w.cell? ⟨b, i, none⟩ = x) (hb : b ≠ g) : (((w.setCell ⟨g, 0, none⟩ u0).setCell ⟨g, 1, none⟩ u1).setCell ⟨g, 2, none⟩ u2).cell? ⟨b, i, none⟩ = x := by
  have hk : (((w.setCell ⟨g, 0, none⟩ u0).setCell ⟨g, 1, none⟩ u1).setCell ⟨g, 2, none⟩ u2).heap[b]? = w.heap[b]? :=
    ((Below.heap_setCell _ ⟨g, 2, none⟩ u2 b hb).trans (Below.heap_setCell _ ⟨g, 1, none⟩ u1 b hb)).trans (Below.heap_setCell _ ⟨g, 0, none⟩ u0 b hb)
  exact (World.cell?_of_block (a := ⟨b, i, none⟩) hk).trans h
theorem ownSet3 {B g : Nat} {l : List Int} {v : Value} {w : World} (h : OwnI B l v w) (hg : g < B) (x y z : Value) : OwnI B l v (((w.setCell ⟨g, 0, none⟩ x).setCell ⟨g, 1, none⟩ y).setCell ⟨g, 2, none⟩ z) := by
  have hgr : w.grownBy (((w.setCell ⟨g, 0, none⟩ x).setCell ⟨g, 1, none⟩ y).setCell ⟨g, 2, none⟩ z) (some g) := grown_trans (grown_trans (grown_set w g 0 x) (grown_set _ g 1 y)) (grown_set _ g 2 z)
  refine World.ownsRow.kept h hgr ?_
  rcases h.2 with ⟨rfl, _⟩ | ⟨g', cap, cur, rfl, hb, _⟩
  · exact Or.inl rfl
  · refine Or.inr fun e => ?_
    have : g' = g := by simpa [Value.ownBlock] using e
    omega
theorem checked_ok (A : Option Addr) (n c : Nat) (ns : List Int) (e k : Int) (hn : n = ns.length) (ok : OkR ns e k) (w : World) (h : Row w w.heap.size A (ns.map iV)) :
    Calls Try.prog 44 #[.agg #[.slice A n c, .int .i64 e, .int .i64 k]] w fun x w' => x = .returned (.tuple #[.agg #[.slice A n c, .int .i64 e, .int .i64 k], .int .i64 0]) ∧ Below w.heap.size w w' := by
  have HCK := Lib.hid fun W (hb : Below w.heap.size w W) => check_ok A n c ns e k hn ok W ((h.below hb).more hb.size)
  have HB0 : Hid (Below w.heap.size w ((w.alloc (.cells #[.slice A n c, .int .i64 e, .int .i64 k] 24)).alloc (.cells #[.slice none 0 0, .int .i64 0, .int .i64 0] 24))) := Lib.hid (((Below.refl _ _).alloc (Nat.le_refl _) _).alloc (by simp) _)
  have HK0 : Hid (Blk ((w.alloc (.cells #[.slice A n c, .int .i64 e, .int .i64 k] 24)).alloc (.cells #[.slice none 0 0, .int .i64 0, .int .i64 0] 24)) w.heap.size 24 #[.slice A n c, .int .i64 e, .int .i64 k]) := Lib.hid ((Blk.new _ _ _).alloc _)
  have HZ0 : Hid (Blk ((w.alloc (.cells #[.slice A n c, .int .i64 e, .int .i64 k] 24)).alloc (.cells #[.slice none 0 0, .int .i64 0, .int .i64 0] 24)) (w.heap.size + 1) 24 #[.slice none 0 0, .int .i64 0, .int .i64 0]) := Lib.hid (blk_at' (by simp) (Blk.new _ _ _))
  clear h hn ok
  go_enter Try.func44, Try.ntmps44
  go_wp2_with fail
  refine (HCK.out _ HB0.out).mono ?_
  rintro e1 w1 ⟨rfl, hb1⟩
  have HB1 := Lib.hid (HB0.out.trans (hb1.mono HB0.out.size))
  have hk1 := HK0.out.below hb1 HK0.out.lt
  have hz1 := HZ0.out.below hb1 HZ0.out.lt
  have HZ1 := Lib.hid hz1
  have c0 : w1.cell? ⟨w.heap.size, 0, none⟩ = some (.slice A n c) := hk1.cell 0
  have c1 : w1.cell? ⟨w.heap.size, 1, none⟩ = some (.int .i64 e) := hk1.cell 1
  have c2 : w1.cell? ⟨w.heap.size, 2, none⟩ = some (.int .i64 k) := hk1.cell 2
  have z0 : w1.cell? ⟨w.heap.size + 1, 0, none⟩ = some (.slice none 0 0) := hz1.cell 0
  have z1 : w1.cell? ⟨w.heap.size + 1, 1, none⟩ = some (.int .i64 0) := hz1.cell 1
  have z2 : w1.cell? ⟨w.heap.size + 1, 2, none⟩ = some (.int .i64 0) := hz1.cell 2
  have f0 := hz1.frozen 0
  have f1 := hz1.frozen 1
  have f2 := hz1.frozen 2
  clear hb1 hk1 hz1
  go_wp2
  have hfin := blkSet3 HZ1.out (.slice A n c) (.int .i64 e) (.int .i64 k)
  have g0 := hfin.cell 0
  have g1 := hfin.cell 1
  have g2 := hfin.cell 2
  refine bodyPost_ret (v := .tuple #[.agg #[.slice A n c, .int .i64 e, .int .i64 k], .int .i64 0]) (by simp [results, Try.results44, go_sem, g0, g1, g2]) rfl ⟨rfl, below_set3 HB1.out (by omega) _ _ _⟩
theorem checked_bad (A : Option Addr) (n c : Nat) (ns : List Int) (e k : Int) (hn : n = ns.length) (hl : n ≤ maxLen) (bad : ¬ OkR ns e k) (w : World) (h : Row w w.heap.size A (ns.map iV)) :
    Calls Try.prog 44 #[.agg #[.slice A n c, .int .i64 e, .int .i64 k]] w fun x w' => x = .returned (.tuple #[.agg #[.slice none 0 0, .int .i64 0, .int .i64 0], .int .i64 2]) ∧ Below w.heap.size w w' := by
  have HCK := Lib.hid fun W (hb : Below w.heap.size w W) => check_bad A n c ns e k hn hl bad W ((h.below hb).more hb.size)
  have HB0 : Hid (Below w.heap.size w ((w.alloc (.cells #[.slice A n c, .int .i64 e, .int .i64 k] 24)).alloc (.cells #[.slice none 0 0, .int .i64 0, .int .i64 0] 24))) := Lib.hid (((Below.refl _ _).alloc (Nat.le_refl _) _).alloc (by simp) _)
  have HZ0 : Hid (Blk ((w.alloc (.cells #[.slice A n c, .int .i64 e, .int .i64 k] 24)).alloc (.cells #[.slice none 0 0, .int .i64 0, .int .i64 0] 24)) (w.heap.size + 1) 24 #[.slice none 0 0, .int .i64 0, .int .i64 0]) := Lib.hid (blk_at' (by simp) (Blk.new _ _ _))
  clear h hn bad hl
  go_enter Try.func44, Try.ntmps44
  go_wp2_with fail
  refine (HCK.out _ HB0.out).mono ?_
  rintro e1 w1 ⟨rfl, hb1⟩
  have HB1 := Lib.hid (HB0.out.trans (hb1.mono HB0.out.size))
  have hz1 := HZ0.out.below hb1 HZ0.out.lt
  have HZ1 := Lib.hid hz1
  have z0 : w1.cell? ⟨w.heap.size + 1, 0, none⟩ = some (.slice none 0 0) := hz1.cell 0
  have z1 : w1.cell? ⟨w.heap.size + 1, 1, none⟩ = some (.int .i64 0) := hz1.cell 1
  have z2 : w1.cell? ⟨w.heap.size + 1, 2, none⟩ = some (.int .i64 0) := hz1.cell 2
  have f0 := hz1.frozen 0
  have f1 := hz1.frozen 1
  have f2 := hz1.frozen 2
  clear hb1 hz1
  go_wp2
  have hfin := blkSet3 HZ1.out (.slice none 0 0) (.int .i64 0) (.int .i64 0)
  have g0 := hfin.cell 0
  have g1 := hfin.cell 1
  have g2 := hfin.cell 2
  refine bodyPost_ret (v := .tuple #[.agg #[.slice none 0 0, .int .i64 0, .int .i64 0], .int .i64 2]) (by simp [results, Try.results44, go_sem, g0, g1, g2]) rfl ⟨rfl, below_set3 HB1.out (by omega) _ _ _⟩
/-- A ring with itself. -/
theorem ringsame_any (A : Option Addr) (n c : Nat) (ns : List Int) (e k : Int) (hn : n = ns.length) (hl : n ≤ 1000000) (w : World) (h : Row w w.heap.size A (ns.map iV)) :
    Calls Try.prog 31 #[.agg #[.slice A n c, .int .i64 e, .int .i64 k], .agg #[.slice A n c, .int .i64 e, .int .i64 k]] w fun x w' => x = .returned (.bool true) ∧ Below w.heap.size w w' := by
  have HE := Lib.hid fun W (hb : Below w.heap.size w W) => equali_true _ _ c c n n A A ns W (h.below hb) (h.below hb) hn hn (by omega)
  have HB0 : Hid (Below w.heap.size w ((w.alloc (.cells #[.slice A n c, .int .i64 e, .int .i64 k] 24)).alloc (.cells #[.slice A n c, .int .i64 e, .int .i64 k] 24))) := Lib.hid (((Below.refl _ _).alloc (Nat.le_refl _) _).alloc (by simp) _)
  have h1 : (e == e) = true := by simp
  have h2 : (k == k) = true := by simp
  clear h hn hl
  go_enter Try.func31, Try.ntmps31
  go_wp2_with fail
  refine (HE.out _ HB0.out).mono ?_
  rintro e1 w1 ⟨rfl, q, rfl⟩
  go_wp2
  go_ret
  exact ⟨rfl, HB0.out.trans (below_drew' _ _ _)⟩
end Go.Proofs.Ythnfinnlnkjomaa
