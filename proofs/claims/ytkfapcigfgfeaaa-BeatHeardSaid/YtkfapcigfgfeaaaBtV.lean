/- BtV: Beats in a variable that is laid anew, their times in whatever row that lies elsewhere; a node heard of once more, well or not. -/
import Derived.Test.YtkfapcigfgfeaaaBtI
import Derived.Test.YtkfapcigfgfeaaaBtU
namespace Go.Proofs.Ytkfapcigfgfeaaa
open Go.RowKit Flo Mem
set_option maxRecDepth 100000
set_option maxHeartbeats 1000000
set_option linter.unusedVariables false
/-- A row that lies in no cell of block g. -/
def RowG (g : Nat) (w : World) (A : Option Addr) (xs : List Value) : Prop := xs = [] ∨ ∃ b o, A = some ⟨b, o, none⟩ ∧ b < w.heap.size ∧ b ≠ g ∧ ∀ j (h : j < xs.length), w.cell? ⟨b, o + j, none⟩ = some xs[j]
theorem RowG.row {g : Nat} {w : World} {A : Option Addr} {xs : List Value} (h : RowG g w A xs) : Row w w.heap.size A xs := by
  rcases h with h | ⟨b, o, h1, h2, _, h4⟩
  · exact Or.inl h
  · exact Or.inr ⟨b, o, h1, h2, h4⟩
theorem RowG.of_row {g B : Nat} {w w' : World} {A : Option Addr} {xs : List Value} (h : Row w B A xs) (hB : B ≤ g) (hs : B ≤ w'.heap.size) (hk : ∀ p : Addr, p.block < B → w'.cell? p = w.cell? p) : RowG g w' A xs := by
  rcases h with h | ⟨b, o, h1, h2, h4⟩
  · exact Or.inl h
  · exact Or.inr ⟨b, o, h1, by omega, by omega, fun j hj => by rw [hk ⟨b, o + j, none⟩ h2]; exact h4 j hj⟩
theorem RowG.of_own {g B : Nat} {w : World} {ys : List Int} {A : Option Addr} {c : Nat} (h : OwnF B ys (.slice A ys.length c) w) (hB : g < B) : RowG g w A (ys.map fv) := by
  rcases ownRow h with h1 | ⟨b, o, h1, h2, h4⟩
  · exact Or.inl h1
  · refine Or.inr ⟨b, o, h1, h2, ?_, h4⟩
    subst h1
    have := (h.lt b rfl).1
    omega
theorem RowG.below {g : Nat} {w w' : World} {A : Option Addr} {xs : List Value} (h : RowG g w A xs) (hb : Below w.heap.size w w') : RowG g w' A xs := by
  rcases h with h | ⟨b, o, h1, h2, h3, h4⟩
  · exact Or.inl h
  · exact Or.inr ⟨b, o, h1, Nat.lt_of_lt_of_le h2 hb.size, h3, fun j hj => (hb.cell (p := ⟨b, o + j, none⟩) h2).trans (h4 j hj)⟩
theorem RowG.set {g i : Nat} {w : World} {A : Option Addr} {xs : List Value} {x : Value} (h : RowG g w A xs) : RowG g (w.setCell ⟨g, i, none⟩ x) A xs := by
  rcases h with h | ⟨b, o, h1, h2, h3, h4⟩
  · exact Or.inl h
  · refine Or.inr ⟨b, o, h1, ?_, h3, fun j hj => ?_⟩
    · exact Nat.lt_of_lt_of_le h2 (grown_set w g i x).size
    · exact (World.cell?_of_block (a := ⟨b, o + j, none⟩) (Below.heap_setCell w ⟨g, i, none⟩ x b h3)).trans (h4 j hj)
structure UsH (w wr : World) (g : Nat) (last : Int) (xs : List Int) (A : Option Addr) (c : Nat) : Prop where
  hk : Blk wr g 27 #[.int .i64 last, .slice A xs.length c]
  hr : RowG g wr A (xs.map fv)
  hc : xs.length ≤ c
  hb : Below w.heap.size w wr
  hg : w.heap.size ≤ g
theorem UsH.below {w wr w2 : World} {g : Nat} {last : Int} {xs : List Int} {A : Option Addr} {c : Nat} (I : UsH w wr g last xs A c) (hb : Below wr.heap.size wr w2) : UsH w w2 g last xs A c :=
  ⟨I.hk.below hb I.hk.lt, I.hr.below hb, I.hc, I.hb.trans (hb.mono I.hb.size), I.hg⟩
theorem UsH.start {w w1 : World} {last : Int} {xs : List Int} {A : Option Addr} {c : Nat} (hb : Below w.heap.size w w1) (ho : OwnF w.heap.size xs (.slice A xs.length c) w1) : UsH w (w1.alloc (.cells #[.int .i64 last, .slice A xs.length c] 27)) w1.heap.size last xs A c :=
  ⟨Blk.new _ _ _, RowG.of_row (ownRow ho) (Nat.le_refl _) (by rw [World.size_alloc]; omega) (fun p hp => World.cell?_alloc_lt w1 _ p (by omega)), own_le ho, hb.alloc hb.size _, hb.size⟩
/-- The answer in a variable of its own. -/
structure CB (wr wx : World) (gc : Nat) (last : Int) (ys : List Int) (A : Option Addr) (c : Nat) : Prop where
  hk : Blk wx gc 27 #[.int .i64 last, .slice A ys.length c]
  ho : OwnF wr.heap.size ys (.slice A ys.length c) wx
  hb : Below wr.heap.size wr wx
  hg : wr.heap.size ≤ gc
theorem CB.below {wr wx w2 : World} {gc : Nat} {last : Int} {ys : List Int} {A : Option Addr} {c : Nat} (I : CB wr wx gc last ys A c) (hb : Below wx.heap.size wx w2) : CB wr w2 gc last ys A c :=
  ⟨I.hk.below hb I.hk.lt, ownLater I.ho hb, I.hb.trans (hb.mono I.hb.size), I.hg⟩
/-- The answer is taken over. -/
theorem UsH.take {w wr wx : World} {g gc : Nat} {last last' : Int} {xs ys : List Int} {A A2 : Option Addr} {c c2 : Nat} (I : UsH w wr g last xs A c) (C : CB wr wx gc last' ys A2 c2) :
    UsH w ((wx.setCell ⟨g, 0, none⟩ (.int .i64 last')).setCell ⟨g, 1, none⟩ (.slice A2 ys.length c2)) g last' ys A2 c2 := by
  have hlt := I.hk.lt
  have hk2 := I.hk.below C.hb I.hk.lt
  exact ⟨blkSet2 hk2 _ _, (RowG.of_own C.ho hlt).set.set, own_le C.ho, below_set2 (I.hb.trans (C.hb.mono I.hb.size)) I.hg _ _, I.hg⟩
/-- Call first, then the variable; or the other way. -/
theorem CB.first {wr w2 : World} {last : Int} {ys : List Int} {A : Option Addr} {c : Nat} (ho : OwnF wr.heap.size ys (.slice A ys.length c) w2) (hb : Below wr.heap.size wr w2) : CB wr (w2.alloc (.cells #[.int .i64 last, .slice A ys.length c] 27)) w2.heap.size last ys A c :=
  ⟨Blk.new _ _ _, World.ownsRow.alloc ho _, hb.alloc hb.size _, hb.size⟩
theorem CB.second {wr w2 : World} {last : Int} {ys : List Int} {A : Option Addr} {c : Nat} {z0 z1 : Value} (ho : OwnF (wr.heap.size + 1) ys (.slice A ys.length c) w2) (hb : Below wr.heap.size wr w2) (hz : Blk w2 wr.heap.size 27 #[z0, z1]) :
    CB wr ((w2.setCell ⟨wr.heap.size, 0, none⟩ (.int .i64 last)).setCell ⟨wr.heap.size, 1, none⟩ (.slice A ys.length c)) wr.heap.size last ys A c :=
  ⟨blkSet2 hz _ _, ownBase (ownFSet2 ho (by omega) _ _) (by omega), below_set2 hb (Nat.le_refl _) _ _, Nat.le_refl _⟩
def hL (last : Int) (xs : List Int) (now : Int) : Int := if rgtE last xs now = 0 then now else 0
def hY (last : Int) (xs : List Int) (now : Int) : List Int := if rgtE last xs now = 0 then nextX xs (tmZ (now - last)) else []
/-- Heard of once more, well or not. -/
def HrdQ (L : Int) (ys : List Int) (er : Int) (w : World) (e : Ending) (w' : World) : Prop :=
  ∃ A c, e = .returned (.tuple #[.agg #[.int .i64 L, .slice A ys.length c], .int .i64 er]) ∧ OwnF w.heap.size ys (.slice A ys.length c) w' ∧ Below w.heap.size w w'
theorem heard_all (last : Int) (xs : List Int) (n c : Nat) (A : Option Addr) (hn : n = xs.length) (hl : xs.length ≤ 200) (hlc : xs.length ≤ c) (hw : ∀ x ∈ xs, Word x) (now : Int) (w : World) (h : Row w w.heap.size A (xs.map fv)) :
    Calls Try.prog 22 #[.agg (bC last A n c), .int .i64 now] w (HrdQ (hL last xs now) (hY last xs now) (rgtE last xs now) w) := by
  unfold hL hY
  rcases rgt_cases last xs now with ⟨h0, _⟩ | h0
  · rw [if_pos h0, if_pos h0, h0]
    exact heard_ok last xs n c A hn hl hlc hw now h0 w h
  · rw [if_neg (by omega), if_neg (by omega), h0]
    exact (heard_bad last xs n c A hn hl hlc hw now h0 w h).mono fun e w' ⟨h1, h2⟩ => ⟨none, 0, h1, World.ownsRow_nil _ _ _ _, h2⟩
theorem refheard_all (last : Int) (xs : List Int) (n c : Nat) (A : Option Addr) (hn : n = xs.length) (hl : xs.length ≤ 200) (hlc : xs.length ≤ c) (hw : ∀ x ∈ xs, Word x) (now : Int) (w : World) (h : Row w w.heap.size A (xs.map fv)) :
    Calls Try.prog 23 #[.agg (bC last A n c), .int .i64 now] w (HrdQ (hL last xs now) (hY last xs now) (rgtE last xs now) w) := by
  unfold hL hY
  rcases rgt_cases last xs now with ⟨h0, _⟩ | h0
  · rw [if_pos h0, if_pos h0, h0]
    exact refheard_ok last xs n c A hn hl hlc hw now h0 w h
  · rw [if_neg (by omega), if_neg (by omega), h0]
    exact (refheard_bad last xs n c A hn hl hlc hw now h0 w h).mono fun e w' ⟨h1, h2⟩ => ⟨none, 0, h1, World.ownsRow_nil _ _ _ _, h2⟩
end Go.Proofs.Ytkfapcigfgfeaaa
