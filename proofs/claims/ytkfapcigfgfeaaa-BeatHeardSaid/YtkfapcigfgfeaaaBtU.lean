/- BtU: Times that are all the same; a variable of beats that is laid anew in each round of a loop. -/
import Derived.Test.YtkfapcigfgfeaaaBtI
namespace Go.Proofs.Ytkfapcigfgfeaaa
open Go.RowKit Flo Mem
set_option maxRecDepth 100000
set_option maxHeartbeats 1000000
set_option linter.unusedVariables false
def repT (i : Nat) (t : Int) : List Int := List.replicate (min i 16) t
theorem rep_len (i : Nat) (t : Int) : (repT i t).length = min i 16 := by unfold repT; simp
theorem rep_next (i : Nat) (t : Int) : nextX (repT i t) t = repT (i + 1) t := by
  unfold nextX
  rw [rep_len]
  unfold repT
  by_cases h : min i 16 = 16
  · rw [if_pos h, h, show min (i + 1) 16 = 16 by omega, List.drop_replicate, ← List.replicate_succ']
  · rw [if_neg h, show min (i + 1) 16 = min i 16 + 1 by omega, ← List.replicate_succ']
theorem rep_mem {i : Nat} {t x : Int} (h : x ∈ repT i t) : x = t := (List.mem_replicate.1 h).2
theorem rep_ok {i : Nat} {t last : Int} (h0 : 0 ≤ last) (h1 : last ≤ 1099511627775) (ht : okT t) : OkB last (repT i t) :=
  ⟨h0, h1, by rw [rep_len]; omega, fun x hx => by rw [rep_mem hx]; exact ht⟩
theorem sum_rep {s : Nat} (k : Nat) (h : s * k < 9007199254740992) : sumO (List.replicate k (rungN s : Int)) = some ((rungN (s * k) : Nat) : Int) := by
  induction k with
  | zero => rfl
  | succ k ih =>
    have h1 : s * k + s < 9007199254740992 := by rw [Nat.mul_succ] at h; exact h
    rw [List.replicate_succ']
    unfold sumO at ih ⊢
    rw [List.foldl_append, ih (by omega), Nat.mul_succ]
    show addO (some ((rungN (s * k) : Nat) : Int)) ((rungN s : Nat) : Int) = _
    exact addO_some (addN h1)
theorem us_rep {s : Nat} {i : Nat} (hs : s ≤ 65535) (hi : 0 < i) : usZ (repT i (tmZ (s : Int))) = tmZ (s : Int) := by
  have ht : tmZ (s : Int) = ((rungN s : Nat) : Int) := (tm_facts (d := (s : Int)) (by omega) (by omega)).2.2.2.2
  have hk : s * min i 16 < 9007199254740992 := by
    have := Nat.mul_le_mul hs (show min i 16 ≤ 16 by omega); omega
  unfold usZ
  rw [rep_len, if_neg (by omega)]
  unfold meanV
  rw [rep_len]
  unfold repT
  rw [ht, sum_rep _ hk]
  simp only
  rw [float_nat (by omega)]
  have hd := divN (s := s) (k := min i 16) (by omega) (by omega) hk
  have e : fnat ((rungN (s * min i 16) : Nat) : Int) = rungN (s * min i 16) := rfl
  rw [e, hd]; rfl
theorem sc_rep {s : Nat} {i : Nat} (hs : s ≤ 65535) (hi : 0 < i) : scZ (repT i (tmZ (s : Int))) (s : Int) = if s = 0 then 0 else 4607182418800017408 := by
  obtain ⟨tw, t0, t1, t2, _⟩ := tm_facts (d := (s : Int)) (by omega) (by omega)
  unfold scZ
  rw [us_rep hs hi]
  by_cases h : s = 0
  · subst h
    have : tmZ ((0 : Nat) : Int) = 0 := t2.2 rfl
    rw [this]; decide
  · have hp : 0 < tmZ (s : Int) := by
      have : tmZ (s : Int) ≠ 0 := fun e => h (by have := t2.1 e; omega)
      omega
    have hmod : fnat (tmZ (s : Int)) % 9223372036854775808 = fnat (tmZ (s : Int)) := Nat.mod_eq_of_lt (by unfold fnat; omega)
    have hd := div_self (b := fnat (tmZ (s : Int))) (by rw [hmod]; unfold fnat; omega) (by rw [hmod]; unfold fnat; omega)
    rw [if_pos hp, if_neg h]
    unfold quoZ
    rw [hd]; decide
/-- Beats in a variable of a block, their times in a row of their own behind it. -/
structure UsI (w wr : World) (g : Nat) (last : Int) (xs : List Int) (A : Option Addr) (c : Nat) : Prop where
  hk : Blk wr g 27 #[.int .i64 last, .slice A xs.length c]
  ho : OwnF (g + 1) xs (.slice A xs.length c) wr
  hb : Below w.heap.size w wr
  hg : w.heap.size ≤ g
theorem UsI.start {w w1 : World} (hb : Below w.heap.size w w1) (last : Int) : UsI w (w1.alloc (.cells #[.int .i64 last, .slice none 0 0] 27)) w1.heap.size last [] none 0 :=
  ⟨Blk.new _ _ _, World.ownsRow_nil _ _ _ _, hb.alloc hb.size _, hb.size⟩
theorem UsI.step {w wr w2 : World} {g : Nat} {last last' : Int} {xs ys : List Int} {A A2 : Option Addr} {c c2 : Nat} (I : UsI w wr g last xs A c) (hb : Below wr.heap.size wr w2) (ho : OwnF wr.heap.size ys (.slice A2 ys.length c2) w2) (o : Obj) :
    UsI w (((w2.setCell ⟨g, 0, none⟩ (.int .i64 last')).setCell ⟨g, 1, none⟩ (.slice A2 ys.length c2)).alloc o) g last' ys A2 c2 := by
  have hk2 := I.hk.below hb I.hk.lt
  have hlt := I.hk.lt
  have hsz := I.hb.size
  have h1 : Below w.heap.size w w2 := I.hb.trans (hb.mono hsz)
  have h2 : Below w.heap.size w ((w2.setCell ⟨g, 0, none⟩ (.int .i64 last')).setCell ⟨g, 1, none⟩ (.slice A2 ys.length c2)) := below_set2 h1 I.hg _ _
  have ho2 : OwnF (g + 1) ys (.slice A2 ys.length c2) w2 := ownBase ho (by omega)
  exact ⟨(blkSet2 hk2 _ _).alloc o, World.ownsRow.alloc (ownFSet2 ho2 (by omega) _ _) o, h2.alloc h2.size o, I.hg⟩
theorem UsI.below {w wr w2 : World} {g : Nat} {last : Int} {xs : List Int} {A : Option Addr} {c : Nat} (I : UsI w wr g last xs A c) (hb : Below wr.heap.size wr w2) : UsI w w2 g last xs A c :=
  ⟨I.hk.below hb I.hk.lt, ownLater I.ho hb, I.hb.trans (hb.mono I.hb.size), I.hg⟩
theorem UsI.row {w wr : World} {g : Nat} {last : Int} {xs : List Int} {A : Option Addr} {c : Nat} (I : UsI w wr g last xs A c) : Row wr wr.heap.size A (xs.map fv) := ownRow I.ho
end Go.Proofs.Ytkfapcigfgfeaaa
