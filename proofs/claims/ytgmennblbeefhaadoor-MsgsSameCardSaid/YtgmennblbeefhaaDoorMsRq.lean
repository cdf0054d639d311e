/- BoxS: BoxS: A struct's value stored into a variable of its own block: the world behind it, told by the block alone.
   RelyS: RelyS: A region that draws its order, whose operations only read, but for one store at its end that hangs on all that is read: what is known while it runs (for RelyJ).
   MsGt: MsGt: The reference's Get of an entry, from whatever place on (stage 3's refgete_any, turned by tools/gen_msgt.py).
   MsNu: MsNu: The reference's numbers: so many, one behind the other, each in its own range.
   MsHp: MsHp: What the head of a message tells, pure: the numbers that the reference reads, against the whole.
   MsRp: MsRp: What is read behind a message's head, field by field, against the whole: pure.
   MsHh: MsHh: The reference's head of a message, of any bytes.
   MsLs: MsLs: The reference's list of entries, from whatever place on.
   MsRg: MsRg: The reference's ring of nodes, from whatever place on. -/
import Derived.Test.YtgmennblbeefhaaDoorBoxM
import Derived.Test.YtgmennblbeefhaaDoorRelyJ
import Derived.Test.YtgmennblbeefhaaDoorTg
import Derived.Test.YtgmennblbeefhaaDoorRgB
import Derived.Deep.LoopGhost
import Derived.Test.YtgmennblbeefhaaDoorMsP
import Derived.Test.YtgmennblbeefhaaDoorMsR0
import Derived.Test.YtgmennblbeefhaaDoorMsRL
import Derived.Deep.OwnRows
namespace Go.Proofs.YtgmennblbeefhaaDoor
open Go.RowKit Mem
set_option maxRecDepth 10000
set_option maxHeartbeats 2000000
set_option linter.unusedVariables false
theorem setCells_blk (g : Nat) (t : TypeId) : ∀ (l : List Value) (o : Nat) (c : Array Value) (w : World), Blk w g t c → Blk (w.setCells g o l) g t (setFrom c o l) ∧ w.grownBy (w.setCells g o l) (some g)
  | [], o, c, w, h => ⟨h, grown_refl _ _⟩
  | v :: r, o, c, w, h =>
    have h1 := setCells_blk g t r (o + 1) _ _ (h.set_ o v)
    ⟨h1.1, grown_trans (grown_set w g o v) h1.2⟩
theorem setCells_box {w : World} {g : Nat} {t : TypeId} {z : Array Value} (hb : Blk w g t z) (cs : Array Value) (hsz : z.size = cs.size) : Blk (w.setCells g 0 cs.toList) g t cs ∧ w.grownBy (w.setCells g 0 cs.toList) (some g) := by
  have h := setCells_blk g t cs.toList 0 z w hb
  rw [setFrom_all z cs hsz] at h
  exact h
theorem there_box {w : World} {g : Nat} {t : TypeId} {cs : Array Value} (h : Blk w g t cs) : w.there g 0 cs.size := fun j hj => by
  rw [Nat.zero_add]
  exact ⟨by rw [h.cell j, Array.getElem?_eq_getElem hj]; rfl, h.frozen j⟩
/-- '*p = v', where p is the pointer at a variable of its own. -/
theorem wpList_store_box {P : Program} {ops : Array Oper} {rest : List Oper} {op : Oper} {a : Act} {w : World} {Q : Exit → Act → World → Prop} (hgd : op.guard = none) (ty : TypeId) (x y : Operand) (ho : op.op = .store ty x y) (g : Nat) (t : TypeId) (z cs : Array Value) (hb : Blk w g t z)
    (hx : a.eval x = .pointer (some ⟨g, 0, none⟩)) (hy : a.eval y = .agg cs) (hsz : z.size = cs.size) (hi : (P.info? ty).map (·.size) = some cs.size) (h1 : cs.all (·.oneCell') = true)
    (h : ∀ w2, Blk w2 g t cs → w.grownBy w2 (some g) → wpList P ops Q rest (a.put op.dst undef) w2) : wpList P ops Q (op :: rest) a w :=
  wpList_store_mid hgd ty x y ho g 0 cs hx hy (by rw [← hsz]; exact there_box hb) hi h1 (h _ (setCells_box hb cs hsz).1 (setCells_box hb cs hsz).2)
end Go.Proofs.YtgmennblbeefhaaDoor
namespace Go.Proofs.YtgmennblbeefhaaDoor
open RelyJ
set_option maxRecDepth 10000
set_option maxHeartbeats 2000000
set_option linter.unusedVariables false
/-- ls: the loads; b: what is stored; s: the store; W1, W2: the world ahead of it and behind it. -/
structure JS (val : Nat → Value) (W1 W2 : World) (ls : List Nat) (b s : Nat) (S : Nat → Bool) (vs : Nat → Value) (w : World) : Prop where
  sp : ∀ i, S i = true → i ≠ s → vs i = val i
  wd : w = if S s = true then W2 else W1
  cs : S s = true → S b = true
  cl : S b = true → ∀ i ∈ ls, S i = true
variable {val : Nat → Value} {W1 W2 w : World} {ls : List Nat} {b s : Nat} {S : Nat → Bool} {vs : Nat → Value}
theorem JS.start (vs : Nat → Value) : JS val W1 W2 ls b s (fun _ => false) vs W1 := ⟨fun i h => (by cases h), rfl, fun h => (by cases h), fun h => (by cases h)⟩
theorem JS.plain (h : JS val W1 W2 ls b s S vs w) (i : Nat) (hi : i ≠ s ∧ i ≠ b) : JS val W1 W2 ls b s (up S i true) (up vs i (val i)) w := by
  obtain ⟨h1, h2⟩ := hi
  refine ⟨fun k hk hks => ?_, ?_, ?_, ?_⟩
  · by_cases e : k = i
    · subst e; rw [up_same]
    · rw [up_ne _ _ e] at hk ⊢; exact h.sp k hk hks
  · rw [up_ne _ _ (Ne.symm h1)]; exact h.wd
  · rw [up_ne _ _ (Ne.symm h1), up_ne _ _ (Ne.symm h2)]; exact h.cs
  · rw [up_ne _ _ (Ne.symm h2)]
    intro hb k hk
    by_cases e : k = i
    · subst e; exact up_same _ _ _
    · rw [up_ne _ _ e]; exact h.cl hb k hk
theorem JS.build (h : JS val W1 W2 ls b s S vs w) (hbs : b ≠ s) (hl : ∀ i ∈ ls, S i = true) : JS val W1 W2 ls b s (up S b true) (up vs b (val b)) w := by
  refine ⟨fun k hk hks => ?_, ?_, ?_, ?_⟩
  · by_cases e : k = b
    · subst e; rw [up_same]
    · rw [up_ne _ _ e] at hk ⊢; exact h.sp k hk hks
  · rw [up_ne _ _ (Ne.symm hbs)]; exact h.wd
  · intro _; exact up_same _ _ _
  · intro _ k hk
    by_cases e : k = b
    · subst e; exact up_same _ _ _
    · rw [up_ne _ _ e]; exact hl k hk
theorem JS.store (h : JS val W1 W2 ls b s S vs w) (hbs : b ≠ s) (hb : S b = true) (u : Value) : JS val W1 W2 ls b s (up S s true) (up vs s u) W2 := by
  refine ⟨fun k hk hks => ?_, ?_, ?_, ?_⟩
  · rw [up_ne _ _ hks] at hk ⊢; exact h.sp k hk hks
  · rw [up_same]; rfl
  · intro _; rw [up_ne _ _ hbs]; exact hb
  · rw [up_ne _ _ hbs]
    intro _ k hk
    by_cases e : k = s
    · subst e; exact up_same _ _ _
    · rw [up_ne _ _ e]; exact h.cl hb k hk
theorem JS.w1 (h : JS val W1 W2 ls b s S vs w) {i : Nat} (hi : i ∈ ls) (hS : S i = false) : w = W1 := by
  rw [h.wd, if_neg]
  intro hs
  have := h.cl (h.cs hs) i hi
  rw [hS] at this; cases this
theorem JS.w1s (h : JS val W1 W2 ls b s S vs w) (hS : S s = false) : w = W1 := by
  rw [h.wd, if_neg (by rw [hS]; simp)]
theorem JS.w2 (h : JS val W1 W2 ls b s S vs w) (hS : S s = true) : w = W2 := by
  rw [h.wd, if_pos hS]
end Go.Proofs.YtgmennblbeefhaaDoor
namespace Go.Proofs.YtgmennblbeefhaaDoor
open Go.RowKit Mem Be
set_option maxRecDepth 100000
set_option maxHeartbeats 8000000
set_option linter.unusedVariables false
def RefGotAt (p0 : Nat) (r : EntP × Nat × Int) (w : World) (E : Ending) (w' : World) : Prop :=
  ∃ A c, E = .returned (.tuple #[entV ⟨r.1.k.toArray⟩ r.1.s r.1.u r.1.o r.1.has A r.1.v.length c, .int .i64 ((p0 + r.2.1 : Nat) : Int), .int .i64 r.2.2]) ∧ w'.ownsRow w.heap.size 5 1 (.slice A r.1.v.length c) r.1.v.length (r.1.v.map byteV) ∧ Below w.heap.size w w'
theorem refgotat_err {p0 : Nat} {r : EntP × Nat × Int} {e : Int} (hr : r = (entP0, 0, e)) {w w' : World} (hb : Below w.heap.size w w') : RefGotAt p0 r w (.returned (.tuple #[entV ⟨#[]⟩ 0 0 0 false none 0 0, .int .i64 (p0 : Int), .int .i64 e])) w' := by
  subst hr; exact ⟨none, 0, rfl, World.ownsRow_nil _ _ _ _, hb⟩
theorem refgotat_ok {p0 a : Nat} {r : EntP × Nat × Int} {ks xs : List UInt8} {s u o : Int} {has : Bool} {q : Nat} (ha : Hid (p0 + q = a)) (hr : r = (⟨ks, s, u, o, has, xs⟩, q, 0)) {w w5 : World} {A : Option Addr} {c n : Nat} {v0 v1 v2 v3 v4 v5 : Value} (hn : n = xs.length) (ho : w5.ownsRow (w.heap.size + 1) 5 1 (.slice A n c) n (xs.map byteV)) (hb : Below w.heap.size w w5) :
    RefGotAt p0 r w (.returned (.tuple #[entV ⟨ks.toArray⟩ s u o has A n c, .int .i64 (a : Int), .int .i64 0])) ((((((w5.setCell ⟨w.heap.size, 0, none⟩ v0).setCell ⟨w.heap.size, 1, none⟩ v1).setCell ⟨w.heap.size, 2, none⟩ v2).setCell ⟨w.heap.size, 3, none⟩ v3).setCell ⟨w.heap.size, 4, none⟩ v4).setCell ⟨w.heap.size, 5, none⟩ v5) := by
  subst hr; subst hn
  exact ⟨A, c, by rw [← ha.out], own_base (own_put (own_put (own_put (own_put (own_put (own_put ho (by omega) _ _) (by omega) _ _) (by omega) _ _) (by omega) _ _) (by omega) _ _) (by omega) _ _) (by omega), below_res5 hb⟩
theorem refgetat_any (n c p0 : Nat) (A : Option Addr) (bs : List UInt8) (hn : n = bs.length) (hl : n ≤ 1000000) (hc : n ≤ c) (hp0 : p0 ≤ n) (w : World) (h : Row w w.heap.size A (bs.map byteV)) :
    Calls Tryd.prog 69 #[.slice A n c, .int .i64 (p0 : Int)] w (RefGotAt p0 (refE (bs.drop p0)) w) := by
  obtain ⟨i0, hi0, hz0, hz1, hz2⟩ := info_parts info_b
  obtain ⟨⟨ks, k1, e1⟩, h1⟩ : ∃ y, getR (bs.drop p0) = y := ⟨_, rfl⟩
  obtain ⟨⟨s, k2, e2⟩, h2⟩ : ∃ y, getB 1099511627776 ((bs.drop p0).drop k1) = y := ⟨_, rfl⟩
  obtain ⟨⟨u, k3, e3⟩, h3⟩ : ∃ y, getB 1048576 ((bs.drop p0).drop (k1 + k2)) = y := ⟨_, rfl⟩
  obtain ⟨⟨o, k4, e4⟩, h4⟩ : ∃ y, getB 1048576 ((bs.drop p0).drop (k1 + k2 + k3)) = y := ⟨_, rfl⟩
  obtain ⟨⟨has, k5, e5⟩, h5⟩ : ∃ y, getT ((bs.drop p0).drop (k1 + k2 + k3 + k4)) = y := ⟨_, rfl⟩
  obtain ⟨⟨xs, k6, e6⟩, h6⟩ : ∃ y, getR ((bs.drop p0).drop (k1 + k2 + k3 + k4 + k5)) = y := ⟨_, rfl⟩
  have hE : refE (bs.drop p0) = if e1 ≠ 0 then (entP0, 0, e1) else if e2 ≠ 0 then (entP0, 0, e2) else if e3 ≠ 0 then (entP0, 0, e3) else if e4 ≠ 0 then (entP0, 0, e4) else if e5 ≠ 0 then (entP0, 0, e5) else
      if has = true then (if e6 ≠ 0 then (entP0, 0, e6) else if rightE ks.length xs.length s u o true ≠ 0 then (entP0, 0, 11) else (⟨ks, s, u, o, true, xs⟩, k1 + k2 + k3 + k4 + k5 + k6, 0))
      else (if rightE ks.length 0 s u o false ≠ 0 then (entP0, 0, 11) else (⟨ks, s, u, o, false, []⟩, k1 + k2 + k3 + k4 + k5, 0)) := by
    unfold refE; simp only [h1, h2, h3, h4, h5, h6]
  have l1 := getR_err (bs.drop p0)
  have l2 := getB_err 1099511627776 ((bs.drop p0).drop k1)
  have l3 := getB_err 1048576 ((bs.drop p0).drop (k1 + k2))
  have l4 := getB_err 1048576 ((bs.drop p0).drop (k1 + k2 + k3))
  have l5 := getT_err ((bs.drop p0).drop (k1 + k2 + k3 + k4))
  have l6 := getR_len (bs.drop p0)
  have l7 := getR_len ((bs.drop p0).drop (k1 + k2 + k3 + k4 + k5))
  rw [h1] at l1 l6
  rw [h2] at l2
  rw [h3] at l3
  rw [h4] at l4
  rw [h5] at l5
  rw [h6] at l7
  simp only [List.length_drop] at l1 l2 l3 l4 l5 l6 l7
  have hb0 : Below w.heap.size w ((w.alloc (.cells zeroC 28)).alloc (.cells zeroC 28)) := ((Below.refl _ _).alloc (Nat.le_refl _) _).alloc (by simp) _
  have hr0 := h.below hb0
  obtain ⟨q2, hq2⟩ : ∃ q, k1 + k2 = q := ⟨_, rfl⟩
  rw [hq2] at h3 h4 h5 h6 l3 l4 l5 hE
  obtain ⟨q3, hq3⟩ : ∃ q, q2 + k3 = q := ⟨_, rfl⟩
  rw [hq3] at h4 h5 h6 l4 l5 hE
  obtain ⟨q4, hq4⟩ : ∃ q, q3 + k4 = q := ⟨_, rfl⟩
  rw [hq4] at h5 h6 l5 hE
  obtain ⟨q5, hq5⟩ : ∃ q, q4 + k5 = q := ⟨_, rfl⟩
  rw [hq5] at h6 hE
  obtain ⟨q6, hq6⟩ : ∃ q, q5 + k6 = q := ⟨_, rfl⟩
  rw [hq6] at hE
  have hd : ∀ j, (bs.drop p0).drop j = bs.drop (p0 + j) := fun j => List.drop_drop
  rw [hd] at h2 h3 h4 h5 h6
  obtain ⟨a1, ha1⟩ : ∃ a, p0 + k1 = a := ⟨_, rfl⟩
  obtain ⟨a2, ha2⟩ : ∃ a, p0 + q2 = a := ⟨_, rfl⟩
  obtain ⟨a3, ha3⟩ : ∃ a, p0 + q3 = a := ⟨_, rfl⟩
  obtain ⟨a4, ha4⟩ : ∃ a, p0 + q4 = a := ⟨_, rfl⟩
  obtain ⟨a5, ha5⟩ : ∃ a, p0 + q5 = a := ⟨_, rfl⟩
  obtain ⟨a6, ha6⟩ : ∃ a, p0 + q6 = a := ⟨_, rfl⟩
  rw [ha1] at h2
  rw [ha2] at h3
  rw [ha3] at h4
  rw [ha4] at h5
  rw [ha5] at h6
  have HA5 := Lib.hid ha5
  have HA6 := Lib.hid ha6
  have HC1 := Lib.hid (row_at (p := p0) hr0 hn hl hc hp0 h1 ha1)
  have HC2 := Lib.hid (num_at (c := c) (m := 1099511627775) hr0 hn hl (by rw [show (1099511627775 : Int) + 1 = 1099511627776 by omega]; exact h2) (show a1 + k2 = a2 by omega))
  have HC3 := Lib.hid (num_at (c := c) (m := 1048575) hr0 hn hl (by rw [show (1048575 : Int) + 1 = 1048576 by omega]; exact h3) (show a2 + k3 = a3 by omega))
  have HC4 := Lib.hid (num_at (c := c) (m := 1048575) hr0 hn hl (by rw [show (1048575 : Int) + 1 = 1048576 by omega]; exact h4) (show a3 + k4 = a4 by omega))
  have HC5 := Lib.hid (truth_at (c := c) hr0 hn hl h5 (show a4 + k5 = a5 by omega))
  have HCW : Hid (∀ W, Row W w.heap.size A (bs.map byteV) → a5 ≤ n → Calls Tryd.prog 99 #[.slice A n c, .int .i64 (a5 : Int)] W (RowAt w.heap.size xs a6 e6 W)) := Lib.hid (fun W hW h5n => row_at hW hn hl hc h5n h6 (show a5 + k6 = a6 by omega))
  have HROW := Lib.hid h
  have HQ : Hid (e1 = 0 → e2 = 0 → e3 = 0 → e4 = 0 → e5 = 0 → a5 ≤ n) := Lib.hid (by omega)
  have HK := Lib.hid l6
  have HX := Lib.hid l7
  have HE := Lib.hid hE
  have HB0 := Lib.hid hb0
  clear h h1 h2 h3 h4 h5 h6 l1 l2 l3 l4 l5 l6 l7 hr0 hq2 hq3 hq4 hq5 hq6 ha1 ha2 ha3 ha4 ha5 ha6 hd hp0 hn hl hc hE hb0
  go_enter Tryd.func69, Tryd.ntmps69
  go_wp2_with fail
  refine HC1.out.mono ?_
  rintro e w1 ⟨A1, c1, rfl, hrow1, rfl⟩
  have HRK := Lib.hid hrow1
  clear hrow1
  by_cases hx1 : e1 = 0
  case neg =>
    have HV : Hid (refE (bs.drop p0) = (entP0, 0, e1)) := Lib.hid (HE.out.trans (if_pos hx1))
    have hne : (e1 != 0) = true := by simpa using hx1
    clear hx1
    go_wp2
    exact bodyPost_ret (v := .tuple #[entV ⟨#[]⟩ 0 0 0 false none 0 0, .int .i64 (p0 : Int), .int .i64 e1]) (by simp [results, Tryd.results69, go_sem]) rfl (refgotat_err HV.out HB0.out)
  subst hx1
  go_wp2_with fail
  refine HC2.out.mono ?_
  rintro e w' ⟨rfl, rfl⟩
  by_cases hx2 : e2 = 0
  case neg =>
    have HV : Hid (refE (bs.drop p0) = (entP0, 0, e2)) := Lib.hid (HE.out.trans ((if_neg (by simp)).trans (if_pos hx2)))
    have hne : (e2 != 0) = true := by simpa using hx2
    clear hx2
    go_wp2
    exact bodyPost_ret (v := .tuple #[entV ⟨#[]⟩ 0 0 0 false none 0 0, .int .i64 (p0 : Int), .int .i64 e2]) (by simp [results, Tryd.results69, go_sem]) rfl (refgotat_err HV.out HB0.out)
  subst hx2
  go_wp2_with fail
  refine HC3.out.mono ?_
  rintro e w' ⟨rfl, rfl⟩
  by_cases hx3 : e3 = 0
  case neg =>
    have HV : Hid (refE (bs.drop p0) = (entP0, 0, e3)) := Lib.hid (HE.out.trans ((if_neg (by simp)).trans ((if_neg (by simp)).trans (if_pos hx3))))
    have hne : (e3 != 0) = true := by simpa using hx3
    clear hx3
    go_wp2
    exact bodyPost_ret (v := .tuple #[entV ⟨#[]⟩ 0 0 0 false none 0 0, .int .i64 (p0 : Int), .int .i64 e3]) (by simp [results, Tryd.results69, go_sem]) rfl (refgotat_err HV.out HB0.out)
  subst hx3
  go_wp2_with fail
  refine HC4.out.mono ?_
  rintro e w' ⟨rfl, rfl⟩
  by_cases hx4 : e4 = 0
  case neg =>
    have HV : Hid (refE (bs.drop p0) = (entP0, 0, e4)) := Lib.hid (HE.out.trans ((if_neg (by simp)).trans ((if_neg (by simp)).trans ((if_neg (by simp)).trans (if_pos hx4)))))
    have hne : (e4 != 0) = true := by simpa using hx4
    clear hx4
    go_wp2
    exact bodyPost_ret (v := .tuple #[entV ⟨#[]⟩ 0 0 0 false none 0 0, .int .i64 (p0 : Int), .int .i64 e4]) (by simp [results, Tryd.results69, go_sem]) rfl (refgotat_err HV.out HB0.out)
  subst hx4
  go_wp2_with fail
  refine HC5.out.mono ?_
  rintro e w' ⟨rfl, rfl⟩
  by_cases hx5 : e5 = 0
  case neg =>
    have HV : Hid (refE (bs.drop p0) = (entP0, 0, e5)) := Lib.hid (HE.out.trans ((if_neg (by simp)).trans ((if_neg (by simp)).trans ((if_neg (by simp)).trans ((if_neg (by simp)).trans (if_pos hx5))))))
    have hne : (e5 != 0) = true := by simpa using hx5
    clear hx5
    go_wp2
    exact bodyPost_ret (v := .tuple #[entV ⟨#[]⟩ 0 0 0 false none 0 0, .int .i64 (p0 : Int), .int .i64 e5]) (by simp [results, Tryd.results69, go_sem]) rfl (refgotat_err HV.out HB0.out)
  subst hx5
  have cv := conv_row (P := Tryd.prog) c1 24 9 5 Tryd.underlying24 Tryd.underlying5 Tryd.underlying9 HRK.out
  have HV0 : Hid (refE (bs.drop p0) = if has = true then (if e6 ≠ 0 then (entP0, 0, e6) else if rightE ks.length xs.length s u o true ≠ 0 then (entP0, 0, 11) else (⟨ks, s, u, o, true, xs⟩, q6, 0))
      else (if rightE ks.length 0 s u o false ≠ 0 then (entP0, 0, 11) else (⟨ks, s, u, o, false, []⟩, q5, 0))) := Lib.hid (HE.out.trans ((if_neg (by simp)).trans ((if_neg (by simp)).trans ((if_neg (by simp)).trans ((if_neg (by simp)).trans (if_neg (by simp)))))))
  have hl0 := HQ.out (by simp) (by simp) (by simp) (by simp) (by simp)
  cases has
  · have HF : Hid (refE (bs.drop p0) = if rightE ks.length 0 s u o false ≠ 0 then (entP0, 0, 11) else (⟨ks, s, u, o, false, []⟩, q5, 0)) := Lib.hid (HV0.out.trans (if_neg (by simp)))
    have HBX : Hid (Below w.heap.size w (((w.alloc (.cells zeroC 28)).alloc (.cells zeroC 28)).alloc (.cells #[.string ⟨ks.toArray⟩, .int .i64 s, .int .i64 u, .int .i64 o, .bool false, .slice none 0 0] 28))) := Lib.hid (HB0.out.alloc HB0.out.size _)
    have HRX : Hid (Blk (((w.alloc (.cells zeroC 28)).alloc (.cells zeroC 28)).alloc (.cells #[.string ⟨ks.toArray⟩, .int .i64 s, .int .i64 u, .int .i64 o, .bool false, .slice none 0 0] 28)) w.heap.size 28 zeroC) := Lib.hid (((Blk.new w _ _).alloc _).alloc _)
    have HNX : Hid (Blk (((w.alloc (.cells zeroC 28)).alloc (.cells zeroC 28)).alloc (.cells #[.string ⟨ks.toArray⟩, .int .i64 s, .int .i64 u, .int .i64 o, .bool false, .slice none 0 0] 28)) (w.heap.size + 1) 28 zeroC) := Lib.hid (blk_at (by simp) ((Blk.new (w.alloc _) _ _).alloc _))
    have HLX : Hid (Blk (((w.alloc (.cells zeroC 28)).alloc (.cells zeroC 28)).alloc (.cells #[.string ⟨ks.toArray⟩, .int .i64 s, .int .i64 u, .int .i64 o, .bool false, .slice none 0 0] 28)) (w.heap.size + 2) 28 #[.string ⟨ks.toArray⟩, .int .i64 s, .int .i64 u, .int .i64 o, .bool false, .slice none 0 0]) := Lib.hid (blk_at (by simp) (Blk.new _ _ _))
    have hcall : ∀ W, Calls Tryd.prog 48 #[entV ⟨ks.toArray⟩ s u o false none 0 0] W (IsI (rightE ks.length 0 s u o false) W) := fun W => refright_any ⟨ks.toArray⟩ s u o false none 0 0 (by omega) (by show (ks.length : Int) ≤ _; have := HK.out; omega) W
    clear hl0
    rcases rightE_02 ks.length 0 s u o false with hq | hq
    · have HV : Hid (refE (bs.drop p0) = (⟨ks, s, u, o, false, []⟩, q5, 0)) := Lib.hid (HF.out.trans (if_neg (by rw [hq]; simp)))
      rw [hq] at hcall
      have HC := Lib.hid hcall
      clear hcall hq
      go_wp2_with fail
      refine (HC.out _).mono ?_
      rintro e w5 ⟨rfl, hb⟩
      have HL5 := Lib.hid (HLX.out.below hb HLX.out.lt)
      have HR5 := Lib.hid (HRX.out.below hb HRX.out.lt)
      have HB5 : Hid (Below w.heap.size w w5) := Lib.hid (HBX.out.trans (hb.mono HBX.out.size))
      clear hb
      have c0 : w5.cell? ⟨w.heap.size + 2, 0, none⟩ = some (.string ⟨ks.toArray⟩) := HL5.out.cell 0
      have c1 : w5.cell? ⟨w.heap.size + 2, 1, none⟩ = some (.int .i64 s) := HL5.out.cell 1
      have c2 : w5.cell? ⟨w.heap.size + 2, 2, none⟩ = some (.int .i64 u) := HL5.out.cell 2
      have c3 : w5.cell? ⟨w.heap.size + 2, 3, none⟩ = some (.int .i64 o) := HL5.out.cell 3
      have c4 : w5.cell? ⟨w.heap.size + 2, 4, none⟩ = some (.bool false) := HL5.out.cell 4
      have c5 : w5.cell? ⟨w.heap.size + 2, 5, none⟩ = some (.slice none 0 0) := HL5.out.cell 5
      have r0 : w5.cell? ⟨w.heap.size, 0, none⟩ = some (.string ⟨#[]⟩) := HR5.out.cell 0
      have r1 : w5.cell? ⟨w.heap.size, 1, none⟩ = some (.int .i64 0) := HR5.out.cell 1
      have r2 : w5.cell? ⟨w.heap.size, 2, none⟩ = some (.int .i64 0) := HR5.out.cell 2
      have r3 : w5.cell? ⟨w.heap.size, 3, none⟩ = some (.int .i64 0) := HR5.out.cell 3
      have r4 : w5.cell? ⟨w.heap.size, 4, none⟩ = some (.bool false) := HR5.out.cell 4
      have r5 : w5.cell? ⟨w.heap.size, 5, none⟩ = some (.slice none 0 0) := HR5.out.cell 5
      have z0 := HR5.out.frozen 0
      have z1 := HR5.out.frozen 1
      have z2 := HR5.out.frozen 2
      have z3 := HR5.out.frozen 3
      have z4 := HR5.out.frozen 4
      have z5 := HR5.out.frozen 5
      go_wp2
      exact bodyPost_ret (v := .tuple #[entV ⟨ks.toArray⟩ s u o false none 0 0, .int .i64 (a5 : Int), .int .i64 0]) (by simp [results, Tryd.results69, go_sem, r0, r1, r2, r3, r4, r5]) rfl (refgotat_ok HA5 HV.out rfl (World.ownsRow_nil _ _ _ _) HB5.out)
    · have HV : Hid (refE (bs.drop p0) = (entP0, 0, 11)) := Lib.hid (HF.out.trans (if_pos (by rw [hq]; simp)))
      rw [hq] at hcall
      have HC := Lib.hid hcall
      clear hcall hq
      go_wp2_with fail
      refine (HC.out _).mono ?_
      rintro e w5 ⟨rfl, hb⟩
      have HN5 := Lib.hid (HNX.out.below hb HNX.out.lt)
      have HR5 := Lib.hid (HRX.out.below hb HRX.out.lt)
      have HB5 : Hid (Below w.heap.size w w5) := Lib.hid (HBX.out.trans (hb.mono HBX.out.size))
      clear hb
      have d0 : w5.cell? ⟨w.heap.size + 1, 0, none⟩ = some (.string ⟨#[]⟩) := HN5.out.cell 0
      have d1 : w5.cell? ⟨w.heap.size + 1, 1, none⟩ = some (.int .i64 0) := HN5.out.cell 1
      have d2 : w5.cell? ⟨w.heap.size + 1, 2, none⟩ = some (.int .i64 0) := HN5.out.cell 2
      have d3 : w5.cell? ⟨w.heap.size + 1, 3, none⟩ = some (.int .i64 0) := HN5.out.cell 3
      have d4 : w5.cell? ⟨w.heap.size + 1, 4, none⟩ = some (.bool false) := HN5.out.cell 4
      have d5 : w5.cell? ⟨w.heap.size + 1, 5, none⟩ = some (.slice none 0 0) := HN5.out.cell 5
      have r0 : w5.cell? ⟨w.heap.size, 0, none⟩ = some (.string ⟨#[]⟩) := HR5.out.cell 0
      have r1 : w5.cell? ⟨w.heap.size, 1, none⟩ = some (.int .i64 0) := HR5.out.cell 1
      have r2 : w5.cell? ⟨w.heap.size, 2, none⟩ = some (.int .i64 0) := HR5.out.cell 2
      have r3 : w5.cell? ⟨w.heap.size, 3, none⟩ = some (.int .i64 0) := HR5.out.cell 3
      have r4 : w5.cell? ⟨w.heap.size, 4, none⟩ = some (.bool false) := HR5.out.cell 4
      have r5 : w5.cell? ⟨w.heap.size, 5, none⟩ = some (.slice none 0 0) := HR5.out.cell 5
      have z0 := HR5.out.frozen 0
      have z1 := HR5.out.frozen 1
      have z2 := HR5.out.frozen 2
      have z3 := HR5.out.frozen 3
      have z4 := HR5.out.frozen 4
      have z5 := HR5.out.frozen 5
      go_wp2
      exact bodyPost_ret (v := .tuple #[entV ⟨#[]⟩ 0 0 0 false none 0 0, .int .i64 (p0 : Int), .int .i64 11]) (by simp [results, Tryd.results69, go_sem, r0, r1, r2, r3, r4, r5]) rfl (refgotat_err HV.out (below_res5 HB5.out))
  · have HF0 : Hid (refE (bs.drop p0) = if e6 ≠ 0 then (entP0, 0, e6) else if rightE ks.length xs.length s u o true ≠ 0 then (entP0, 0, 11) else (⟨ks, s, u, o, true, xs⟩, q6, 0)) := Lib.hid (HV0.out.trans (if_pos (by simp)))
    have HBX : Hid (Below w.heap.size w (((w.alloc (.cells zeroC 28)).alloc (.cells zeroC 28)).alloc (.cells #[.string ⟨ks.toArray⟩, .int .i64 s, .int .i64 u, .int .i64 o, .bool true, .slice none 0 0] 28))) := Lib.hid (HB0.out.alloc HB0.out.size _)
    have HRX : Hid (Blk (((w.alloc (.cells zeroC 28)).alloc (.cells zeroC 28)).alloc (.cells #[.string ⟨ks.toArray⟩, .int .i64 s, .int .i64 u, .int .i64 o, .bool true, .slice none 0 0] 28)) w.heap.size 28 zeroC) := Lib.hid (((Blk.new w _ _).alloc _).alloc _)
    have HNX : Hid (Blk (((w.alloc (.cells zeroC 28)).alloc (.cells zeroC 28)).alloc (.cells #[.string ⟨ks.toArray⟩, .int .i64 s, .int .i64 u, .int .i64 o, .bool true, .slice none 0 0] 28)) (w.heap.size + 1) 28 zeroC) := Lib.hid (blk_at (by simp) ((Blk.new (w.alloc _) _ _).alloc _))
    have HLX : Hid (Blk (((w.alloc (.cells zeroC 28)).alloc (.cells zeroC 28)).alloc (.cells #[.string ⟨ks.toArray⟩, .int .i64 s, .int .i64 u, .int .i64 o, .bool true, .slice none 0 0] 28)) (w.heap.size + 2) 28 #[.string ⟨ks.toArray⟩, .int .i64 s, .int .i64 u, .int .i64 o, .bool true, .slice none 0 0]) := Lib.hid (blk_at (by simp) (Blk.new _ _ _))
    have HC6 := Lib.hid (HCW.out (((w.alloc (.cells zeroC 28)).alloc (.cells zeroC 28)).alloc (.cells #[.string ⟨ks.toArray⟩, .int .i64 s, .int .i64 u, .int .i64 o, .bool true, .slice none 0 0] 28)) (HROW.out.below HBX.out) hl0)
    clear hl0
    go_wp2_with fail
    refine HC6.out.mono ?_
    rintro e w6 ⟨A6, c6, rfl, hrow6, rfl⟩
    have HX6 := Lib.hid hrow6
    clear hrow6
    by_cases hx6 : e6 = 0
    case neg =>
      have HV : Hid (refE (bs.drop p0) = (entP0, 0, e6)) := Lib.hid (HF0.out.trans (if_pos hx6))
      have hne : (e6 != 0) = true := by simpa using hx6
      clear hx6
      go_wp2
      exact bodyPost_ret (v := .tuple #[entV ⟨#[]⟩ 0 0 0 false none 0 0, .int .i64 (p0 : Int), .int .i64 e6]) (by simp [results, Tryd.results69, go_sem]) rfl (refgotat_err HV.out HBX.out)
    subst hx6
    have HF : Hid (refE (bs.drop p0) = if rightE ks.length xs.length s u o true ≠ 0 then (entP0, 0, 11) else (⟨ks, s, u, o, true, xs⟩, q6, 0)) := Lib.hid (HF0.out.trans (if_neg (by simp)))
    go_wp2_with (at_builtin; refine wpList_app _ rfl _ _ 24 rfl (w.heap.size + 3) 5 i0 (.int .u8 0) 1 Tryd.underlying24 hi0 hz0 hz1 hz2 rfl (.slice none 0 0) 0 [] rfl (World.ownsRow_nil _ _ _ _) w.heap.size _ xs.length c6 (xs.map byteV) rfl (by simp) HX6.out (byte_one xs) (by have := HX.out; unfold maxLen; omega) (by have := HX.out; omega) (by simp) ?_)
    intro v' w3 hown hgr _
    obtain ⟨A7, c7, rfl, ho7⟩ := own_of xs hown (by simp)
    have hb3 : Below (((w.alloc (.cells zeroC 28)).alloc (.cells zeroC 28)).alloc (.cells #[.string ⟨ks.toArray⟩, .int .i64 s, .int .i64 u, .int .i64 o, .bool true, .slice none 0 0] 28)).heap.size (((w.alloc (.cells zeroC 28)).alloc (.cells zeroC 28)).alloc (.cells #[.string ⟨ks.toArray⟩, .int .i64 s, .int .i64 u, .int .i64 o, .bool true, .slice none 0 0] 28)) w3 := ⟨hgr.os, hgr.tape, hgr.output, hgr.size, fun k hk => hgr.block k hk (by simp [Value.ownBlock])⟩
    have HO3 := Lib.hid ho7
    have HL3 := Lib.hid (HLX.out.below hb3 (by simp))
    have HN3 := Lib.hid (HNX.out.below hb3 (by simp))
    have HR3 := Lib.hid (HRX.out.below hb3 (by simp; omega))
    have HB3 : Hid (Below w.heap.size w w3) := Lib.hid (HBX.out.trans (hb3.mono HBX.out.size))
    clear hown hgr ho7 hb3
    have c0 : w3.cell? ⟨w.heap.size + 2, 0, none⟩ = some (.string ⟨ks.toArray⟩) := HL3.out.cell 0
    have c1x : w3.cell? ⟨w.heap.size + 2, 1, none⟩ = some (.int .i64 s) := HL3.out.cell 1
    have c2 : w3.cell? ⟨w.heap.size + 2, 2, none⟩ = some (.int .i64 u) := HL3.out.cell 2
    have c3 : w3.cell? ⟨w.heap.size + 2, 3, none⟩ = some (.int .i64 o) := HL3.out.cell 3
    have c4 : w3.cell? ⟨w.heap.size + 2, 4, none⟩ = some (.bool true) := HL3.out.cell 4
    have c5 : w3.cell? ⟨w.heap.size + 2, 5, none⟩ = some (.slice none 0 0) := HL3.out.cell 5
    have y5 := HL3.out.frozen 5
    have hcall : ∀ W, Calls Tryd.prog 48 #[entV ⟨ks.toArray⟩ s u o true A7 xs.length c7] W (IsI (rightE ks.length xs.length s u o true) W) := fun W => refright_any ⟨ks.toArray⟩ s u o true A7 xs.length c7 (by have := HX.out; omega) (by show (ks.length : Int) ≤ _; have := HK.out; omega) W
    have HO4 := Lib.hid (own_put HO3.out (g := w.heap.size + 2) (by omega) 5 (.slice A7 xs.length c7))
    have HL4 := Lib.hid (HL3.out.set_ 5 (.slice A7 xs.length c7))
    have HN4 := Lib.hid (HN3.out.far (p := ⟨w.heap.size + 2, 5, none⟩) (by show w.heap.size + 1 ≠ w.heap.size + 2; omega) (.slice A7 xs.length c7))
    have HR4 := Lib.hid (HR3.out.far (p := ⟨w.heap.size + 2, 5, none⟩) (by show w.heap.size ≠ w.heap.size + 2; omega) (.slice A7 xs.length c7))
    have HB4 := Lib.hid (below_set HB3.out (g := w.heap.size + 2) (by omega) 5 (.slice A7 xs.length c7))
    rcases rightE_02 ks.length xs.length s u o true with hq | hq
    · have HV : Hid (refE (bs.drop p0) = (⟨ks, s, u, o, true, xs⟩, q6, 0)) := Lib.hid (HF.out.trans (if_neg (by rw [hq]; simp)))
      rw [hq] at hcall
      have HC := Lib.hid hcall
      clear hcall hq
      go_wp2_with fail
      refine (HC.out _).mono ?_
      rintro e w5 ⟨rfl, hb⟩
      have HL5 : Hid (Blk w5 (w.heap.size + 2) 28 #[.string ⟨ks.toArray⟩, .int .i64 s, .int .i64 u, .int .i64 o, .bool true, .slice A7 xs.length c7]) := Lib.hid (HL4.out.below hb HL4.out.lt)
      have HR5 := Lib.hid (HR4.out.below hb HR4.out.lt)
      have HO5 := Lib.hid (own_below HO4.out hb)
      have HB5 : Hid (Below w.heap.size w w5) := Lib.hid (HB4.out.trans (hb.mono HB4.out.size))
      clear hb c0 c1x c2 c3 c4 c5 y5
      have d0 : w5.cell? ⟨w.heap.size + 2, 0, none⟩ = some (.string ⟨ks.toArray⟩) := HL5.out.cell 0
      have d1 : w5.cell? ⟨w.heap.size + 2, 1, none⟩ = some (.int .i64 s) := HL5.out.cell 1
      have d2 : w5.cell? ⟨w.heap.size + 2, 2, none⟩ = some (.int .i64 u) := HL5.out.cell 2
      have d3 : w5.cell? ⟨w.heap.size + 2, 3, none⟩ = some (.int .i64 o) := HL5.out.cell 3
      have d4 : w5.cell? ⟨w.heap.size + 2, 4, none⟩ = some (.bool true) := HL5.out.cell 4
      have d5 : w5.cell? ⟨w.heap.size + 2, 5, none⟩ = some (.slice A7 xs.length c7) := HL5.out.cell 5
      have r0 : w5.cell? ⟨w.heap.size, 0, none⟩ = some (.string ⟨#[]⟩) := HR5.out.cell 0
      have r1 : w5.cell? ⟨w.heap.size, 1, none⟩ = some (.int .i64 0) := HR5.out.cell 1
      have r2 : w5.cell? ⟨w.heap.size, 2, none⟩ = some (.int .i64 0) := HR5.out.cell 2
      have r3 : w5.cell? ⟨w.heap.size, 3, none⟩ = some (.int .i64 0) := HR5.out.cell 3
      have r4 : w5.cell? ⟨w.heap.size, 4, none⟩ = some (.bool false) := HR5.out.cell 4
      have r5 : w5.cell? ⟨w.heap.size, 5, none⟩ = some (.slice none 0 0) := HR5.out.cell 5
      have z0 := HR5.out.frozen 0
      have z1 := HR5.out.frozen 1
      have z2 := HR5.out.frozen 2
      have z3 := HR5.out.frozen 3
      have z4 := HR5.out.frozen 4
      have z5 := HR5.out.frozen 5
      go_wp2
      exact bodyPost_ret (v := .tuple #[entV ⟨ks.toArray⟩ s u o true A7 xs.length c7, .int .i64 (a6 : Int), .int .i64 0]) (by simp [results, Tryd.results69, go_sem, r0, r1, r2, r3, r4, r5]) rfl (refgotat_ok HA6 HV.out rfl (own_base HO5.out (by omega)) HB5.out)
    · have HV : Hid (refE (bs.drop p0) = (entP0, 0, 11)) := Lib.hid (HF.out.trans (if_pos (by rw [hq]; simp)))
      rw [hq] at hcall
      have HC := Lib.hid hcall
      clear hcall hq
      go_wp2_with fail
      refine (HC.out _).mono ?_
      rintro e w5 ⟨rfl, hb⟩
      have HN5 := Lib.hid (HN4.out.below hb HN4.out.lt)
      have HR5 := Lib.hid (HR4.out.below hb HR4.out.lt)
      have HB5 : Hid (Below w.heap.size w w5) := Lib.hid (HB4.out.trans (hb.mono HB4.out.size))
      clear hb c0 c1x c2 c3 c4 c5 y5
      have d0 : w5.cell? ⟨w.heap.size + 1, 0, none⟩ = some (.string ⟨#[]⟩) := HN5.out.cell 0
      have d1 : w5.cell? ⟨w.heap.size + 1, 1, none⟩ = some (.int .i64 0) := HN5.out.cell 1
      have d2 : w5.cell? ⟨w.heap.size + 1, 2, none⟩ = some (.int .i64 0) := HN5.out.cell 2
      have d3 : w5.cell? ⟨w.heap.size + 1, 3, none⟩ = some (.int .i64 0) := HN5.out.cell 3
      have d4 : w5.cell? ⟨w.heap.size + 1, 4, none⟩ = some (.bool false) := HN5.out.cell 4
      have d5 : w5.cell? ⟨w.heap.size + 1, 5, none⟩ = some (.slice none 0 0) := HN5.out.cell 5
      have r0 : w5.cell? ⟨w.heap.size, 0, none⟩ = some (.string ⟨#[]⟩) := HR5.out.cell 0
      have r1 : w5.cell? ⟨w.heap.size, 1, none⟩ = some (.int .i64 0) := HR5.out.cell 1
      have r2 : w5.cell? ⟨w.heap.size, 2, none⟩ = some (.int .i64 0) := HR5.out.cell 2
      have r3 : w5.cell? ⟨w.heap.size, 3, none⟩ = some (.int .i64 0) := HR5.out.cell 3
      have r4 : w5.cell? ⟨w.heap.size, 4, none⟩ = some (.bool false) := HR5.out.cell 4
      have r5 : w5.cell? ⟨w.heap.size, 5, none⟩ = some (.slice none 0 0) := HR5.out.cell 5
      have z0 := HR5.out.frozen 0
      have z1 := HR5.out.frozen 1
      have z2 := HR5.out.frozen 2
      have z3 := HR5.out.frozen 3
      have z4 := HR5.out.frozen 4
      have z5 := HR5.out.frozen 5
      go_wp2
      exact bodyPost_ret (v := .tuple #[entV ⟨#[]⟩ 0 0 0 false none 0 0, .int .i64 (p0 : Int), .int .i64 11]) (by simp [results, Tryd.results69, go_sem, r0, r1, r2, r3, r4, r5]) rfl (refgotat_err HV.out (below_res5 HB5.out))
end Go.Proofs.YtgmennblbeefhaaDoor
namespace Go.Proofs.YtgmennblbeefhaaDoor
open Go.RowKit Mem Be Rg
set_option maxRecDepth 100000
set_option maxHeartbeats 8000000
set_option linter.unusedVariables false
/-- Numbers read from a place on: they, the place behind, what is wrong. -/
def numsA : List Int → List Int → Nat → List UInt8 → List Int × Nat × Int
  | [], acc, p, _ => (acc, p, 0)
  | m :: r, acc, p, bs => if (getB (m + 1) bs).2.2 ≠ 0 then ([], p, (getB (m + 1) bs).2.2) else numsA r (acc ++ [(getB (m + 1) bs).1]) (p + (getB (m + 1) bs).2.1) (bs.drop (getB (m + 1) bs).2.1)
theorem getB_in (m : Int) (bs : List UInt8) : (getB m bs).2.1 ≤ bs.length := by
  rcases getB_err m bs with h | h
  · exact h.2.2.1
  · rw [h.2.1]; exact Nat.zero_le _
theorem numsA_in : ∀ (ms acc : List Int) (p : Nat) (bs : List UInt8), (numsA ms acc p bs).2.1 ≤ p + bs.length ∧ p ≤ (numsA ms acc p bs).2.1
  | [], acc, p, bs => ⟨Nat.le_add_right _ _, Nat.le_refl _⟩
  | m :: r, acc, p, bs => by
    unfold numsA
    split
    · exact ⟨Nat.le_add_right _ _, Nat.le_refl _⟩
    · have h1 := getB_in (m + 1) bs
      have h2 := numsA_in r (acc ++ [(getB (m + 1) bs).1]) (p + (getB (m + 1) bs).2.1) (bs.drop (getB (m + 1) bs).2.1)
      rw [List.length_drop] at h2
      omega
theorem numsA_len : ∀ (ms acc : List Int) (p : Nat) (bs : List UInt8), (numsA ms acc p bs).2.2 = 0 → (numsA ms acc p bs).1.length = acc.length + ms.length
  | [], acc, p, bs, _ => rfl
  | m :: r, acc, p, bs, h => by
    unfold numsA at h ⊢
    split
    · rename_i hc; rw [if_pos hc] at h; exact absurd h hc
    · rename_i hc; rw [if_neg hc] at h
      rw [numsA_len r _ _ _ h]
      simp; omega
def NumsR (r : List Int × Nat × Int) (w : World) (E : Ending) (w' : World) : Prop :=
  ∃ A c, E = .returned (.tuple #[.slice A r.1.length c, .int .i64 (r.2.1 : Int), .int .i64 r.2.2]) ∧ w'.ownsRow w.heap.size 3 1 (.slice A r.1.length c) r.1.length (r.1.map iV) ∧ Below w.heap.size w w'
theorem refnums_any (B B' c c' n m p0 : Nat) (A A' : Option Addr) (bs : List UInt8) (ms : List Int) (hn : n = bs.length) (hl : n ≤ 1000000) (hp : p0 ≤ n) (hm : m = ms.length) (hml : m ≤ 1000) (w : World) (h : Row w B A (bs.map byteV)) (h' : Row w B' A' (ms.map iV)) (hB : B ≤ w.heap.size) (hB' : B' ≤ w.heap.size) :
    Calls Tryd.prog 96 #[.slice A n c, .int .i64 (p0 : Int), .slice A' m c'] w (NumsR (numsA ms [] p0 (bs.drop p0)) w) := by
  obtain ⟨i0, hi0, hz0, hz1, hz2⟩ := info_parts info_i
  obtain ⟨R, hR⟩ : ∃ r, numsA ms [] p0 (bs.drop p0) = r := ⟨_, rfl⟩
  rw [hR]
  have HR0 := Lib.hid hR
  have HRB := Lib.hid h
  have HRM := Lib.hid h'
  have HN := Lib.hid hn
  have HM := Lib.hid hm
  have hni : (n : Int) ≤ 1000000 := by omega
  have hmi : (m : Int) ≤ 1000 := by omega
  have hmi0 : (0 : Int) ≤ (m : Int) := by omega
  clear h h' hR hn hm
  go_enter Tryd.func96, Tryd.ntmps96
  go_wp2
  go_loopg [1, 9, 10] m (fun gk at_ v i wr => ∃ (k p : Nat) (acc : List Int) (A2 : Option Addr) (c2 : Nat), k + gk = m ∧ i = .int .i64 k ∧ at_ = .int .i64 p ∧ v = .slice A2 acc.length c2 ∧ Hid (acc.length = k) ∧ p ≤ n ∧ Hid (numsA (ms.drop k) acc p (bs.drop p) = R) ∧
    Hid (wr.ownsRow w.heap.size 3 1 (.slice A2 acc.length c2) acc.length (acc.map iV)) ∧ Hid (Below w.heap.size w wr))
  case atStart => exact ⟨0, p0, [], none, 0, by omega, rfl, rfl, rfl, Lib.hid rfl, hp, HR0, Lib.hid (World.ownsRow_nil _ _ _ _), Lib.hid (Below.refl _ _)⟩
  case round =>
    obtain ⟨k, p, acc, A2, c2, hkg, rfl, rfl, rfl, HAK, hpn, HJ, HO, HB⟩ := hrel
    by_cases hlt : k < m
    · have hlt2 : k < ms.length := by rw [← HM.out]; exact hlt
      obtain ⟨bb, oo, hAA, _, hcc⟩ := int_cell (HRM.out.below (HB.out.mono hB')) (by omega)
      have hcel := hcc k hlt2
      have hj := HJ.out
      rw [List.drop_eq_getElem_cons hlt2] at hj
      unfold numsA at hj
      obtain ⟨mk, hmk⟩ : ∃ y, ms[k]'hlt2 = y := ⟨_, rfl⟩
      rw [hmk] at hcel hj
      have hgi := getB_in (mk + 1) (bs.drop p)
      have HC := Lib.hid (refgetnum_any B c n p mk A bs wr (HRB.out.below (HB.out.mono hB)) HN.out (by omega))
      obtain ⟨⟨x, q, e⟩, hg⟩ : ∃ y, getB (mk + 1) (bs.drop p) = y := ⟨_, rfl⟩
      rw [hg] at hj hgi HC
      simp only [List.length_drop] at hj hgi
      unfold At3 three at HC
      simp only at HC
      have hki : (0 : Int) ≤ (k : Int) := by omega
      have hki2 : (k : Int) < (m : Int) := by omega
      have hpq : p + q ≤ n := by have := HN.out; omega
      have HJ2 := Lib.hid hj
      subst hAA
      obtain ⟨pq, hpq2⟩ : ∃ y, p + q = y := ⟨_, rfl⟩
      rw [hpq2] at hpq
      rw [List.drop_drop, hpq2] at hj
      have HJ3 := Lib.hid hj
      rw [hpq2] at HC
      clear hcc hmk hj hg hgi HJ HJ2 hpq2
      by_cases he : e = 0
      · subst he
        have HJ4 : Hid (numsA (ms.drop (k + 1)) (acc ++ [x]) pq (bs.drop pq) = R) := Lib.hid (by have := HJ3.out; rw [if_neg (by simp)] at this; exact this)
        clear HJ3
        go_wp2_with fail
        refine HC.out.mono ?_
        rintro e w5 ⟨rfl, rfl⟩
        have HAL : Hid (∀ o, Below wr.heap.size wr (wr.alloc o)) := Lib.hid fun o => (Below.refl _ _).alloc (Nat.le_refl _) o
        have HO2 : Hid (∀ o, (wr.alloc o).ownsRow w.heap.size 3 1 (.slice A2 acc.length c2) acc.length (acc.map iV)) := Lib.hid fun o => own_later HO.out (HAL.out o)
        have hsz := HB.out.size
        go_wp2_with (at_builtin; refine wpList_app _ rfl _ _ 30 rfl w.heap.size 3 i0 _ 8 Tryd.underlying30 hi0 hz0 hz1 hz2 rfl _ acc.length (acc.map iV) rfl (HO2.out _) (wr.heap.size + 1) (some ⟨wr.heap.size, 0, none⟩) 1 1 ([x].map iV) rfl rfl (int_row wr x) (iV_one _) (by have := HAK.out; unfold maxLen; omega) (by have := HAK.out; omega) (by simp; omega) ?_)
        intro v' w6 hown hgr hat
        obtain ⟨A6, c6, rfl, _, _⟩ := ownShape hown
        have HB6 : Hid (Below w.heap.size w w6) := Lib.hid ((HB.out.trans ((HAL.out _).mono hsz)).grown hgr (by simp; omega) fun g hg => ((HO2.out (.cells #[.int .i64 x] 3)).lt g hg).1)
        have HO6 : Hid (w6.ownsRow w.heap.size 3 1 (.slice A6 (acc ++ [x]).length c6) (acc ++ [x]).length ((acc ++ [x]).map iV)) := Lib.hid (by rw [List.length_append, List.map_append]; exact hown)
        clear hown hgr hat HAL HO2 HO HB HC
        go_wp2
        go_roundg (gk - 1)
        case rel => exact ⟨k + 1, pq, acc ++ [x], A6, c6, by omega, by go_num, rfl, by rw [List.length_append]; rfl, Lib.hid (by rw [List.length_append, HAK.out]; rfl), hpq, HJ4, HO6, HB6⟩
        case measure => omega
      · have HJ4 : Hid (([], p, e) = R) := Lib.hid (by have := HJ3.out; rw [if_pos he] at this; exact this)
        have hne : (e != 0) = true := by simpa using he
        have hne1 : (e == 0) = false := by simpa using he
        clear HJ3 he
        go_wp2_with fail
        refine HC.out.mono ?_
        rintro e2 w5 ⟨rfl, rfl⟩
        go_wp2
        exact bodyPost_ret (v := .tuple #[.slice none 0 0, .int .i64 (p : Int), .int .i64 e]) (by simp [results, Tryd.results96, go_sem]) rfl ⟨none, 0, by rw [← HJ4.out]; rfl, by rw [← HJ4.out]; exact World.ownsRow_nil _ _ _ _, HB.out⟩
    · obtain rfl : k = m := by omega
      have HJ4 : Hid ((acc, p, 0) = R) := Lib.hid (by have := HJ.out; rw [List.drop_eq_nil_of_le (by have := HM.out; omega)] at this; exact this)
      clear HJ
      go_wp2
      exact bodyPost_ret (v := .tuple #[.slice A2 acc.length c2, .int .i64 (p : Int), .int .i64 0]) (by simp [results, Tryd.results96, go_sem]) rfl ⟨A2, c2, by rw [← HJ4.out], by rw [← HJ4.out]; exact HO.out, HB.out⟩
end Go.Proofs.YtgmennblbeefhaaDoor
namespace Go.Proofs.YtgmennblbeefhaaDoor
open Go.RowKit Mem Be Rg
set_option maxRecDepth 10000
set_option maxHeartbeats 4000000
set_option linter.unusedVariables false
def restP (k : Int) : Pr (Int × Bool × EntP × (Int × List EntP) × (Int × Int × Int × List Int)) := bindP (optP (hasN k) (getB 1099511627776) 0) fun _ => bindP (optP (hasF k) getT false) fun _ => bindP (optP (hasE k) refE entP0) fun _ => bindP (optP (hasL k) getL12 (0, [])) fun _ => optP (hasR k) getR12 (0, 0, 0, [])
def mP4 (k : Int) := bindP (getB 1099511627776) fun _ => restP k
def mP3 (k : Int) := bindP (getB 1099511627776) fun _ => mP4 k
def mP2 (k : Int) := bindP (getB 1048576) fun _ => mP3 k
def mP1 (k : Int) := bindP (getB 1048576) fun _ => mP2 k
theorem getM_parts : getM = bindP getK12 mP1 := rfl
theorem nums_step {m : Int} {r acc : List Int} {p : Nat} {bs : List UInt8} {x e : Int} {q : Nat} (h : getB (m + 1) bs = (x, q, e)) : numsA (m :: r) acc p bs = if e ≠ 0 then ([], p, e) else numsA r (acc ++ [x]) (p + q) (bs.drop q) := by
  conv => lhs; unfold numsA
  rw [h]
theorem bind_no12 {α β : Type} [Inhabited β] {g1 : Pr α} {g2 : α → Pr β} {bs : List UInt8} {a : α} {k : Nat} {e : Int} (h : g1 bs = (a, k, e)) (he : e ≠ 0) : (bindP g1 g2 bs).2.2 = e := by
  rw [bind_no (by rw [h]; exact he), h]
theorem getB_lenle {m : Int} {bs : List UInt8} {x e : Int} {q : Nat} (h : getB m bs = (x, q, e)) : q ≤ bs.length := by
  have := getB_in m bs
  rw [h] at this; exact this
abbrev ids4 : List Int := [1048575, 1048575, 1099511627775, 1099511627775]
theorem head_pure (bs : List UInt8) :
    (∃ e, e ≠ 0 ∧ numsA [17] [] 0 bs = ([], 0, e) ∧ (getM bs).2.2 = e) ∨
    (∃ p1, p1 ≤ bs.length ∧ numsA [17] [] 0 bs = ([0], p1, 0) ∧ (getM bs).2.2 = 11) ∨
    (∃ k p1, k ≠ 0 ∧ exK k = true ∧ p1 ≤ bs.length ∧ numsA [17] [] 0 bs = ([k], p1, 0) ∧
      ((∃ e p2, e ≠ 0 ∧ numsA ids4 [] p1 (bs.drop p1) = ([], p2, e) ∧ (getM bs).2.2 = e) ∨
       (∃ f d ep op p2, p2 ≤ bs.length ∧ numsA ids4 [] p1 (bs.drop p1) = ([f, d, ep, op], p2, 0) ∧
          getM bs = ((k, f, d, ep, op, (restP k (bs.drop p2)).1), p2 + (restP k (bs.drop p2)).2.1, (restP k (bs.drop p2)).2.2)))) := by
  obtain ⟨⟨k, q0, e0⟩, h0⟩ : ∃ y, getB 18 bs = y := ⟨_, rfl⟩
  have hr := getB_err 18 bs
  rw [h0] at hr
  simp only at hr
  have hl0 := getB_lenle h0
  have n0 : numsA [17] [] 0 bs = if e0 ≠ 0 then ([], 0, e0) else ([k], q0, 0) := by
    rw [nums_step (m := 17) (show getB (17 + 1) bs = _ from h0)]
    simp [numsA]
  rw [getM_parts]
  by_cases he0 : e0 = 0
  · subst he0
    rw [if_neg (by simp)] at n0
    have hk := hr.resolve_right (fun h => by rcases h.2.2 with h | h <;> cases h)
    by_cases hk0 : k = 0
    · subst hk0
      refine Or.inr (Or.inl ⟨q0, hl0, n0, ?_⟩)
      exact bind_no12 (a := 0) (k := 0) (by unfold getK12; rw [h0]; rfl) (by decide)
    · have hK : getK12 bs = (k, q0, 0) := by unfold getK12; rw [h0]; exact if_neg (fun h => hk0 h.2)
      have hex : exK k = true := decide_eq_true (by omega)
      refine Or.inr (Or.inr ⟨k, q0, hk0, hex, hl0, n0, ?_⟩)
      rw [bind_yes hK]
      obtain ⟨⟨f, q1, e1⟩, h1⟩ : ∃ y, getB 1048576 (bs.drop q0) = y := ⟨_, rfl⟩
      have hl1 := getB_lenle h1
      rw [List.length_drop] at hl1
      have n1 := nums_step (m := 1048575) (r := [1048575, 1099511627775, 1099511627775]) (acc := []) (p := q0) (show getB (1048575 + 1) (bs.drop q0) = _ from h1)
      by_cases he1 : e1 = 0
      · subst he1
        rw [if_neg (by simp), List.drop_drop] at n1
        have b1 : mP1 k (bs.drop q0) = _ := bind_yes (g2 := fun _ => mP2 k) h1
        rw [List.drop_drop] at b1
        obtain ⟨⟨d, q2, e2⟩, h2⟩ : ∃ y, getB 1048576 (bs.drop (q0 + q1)) = y := ⟨_, rfl⟩
        have hl2 := getB_lenle h2
        rw [List.length_drop] at hl2
        have n2 := nums_step (m := 1048575) (r := [1099511627775, 1099511627775]) (acc := [] ++ [f]) (p := q0 + q1) (show getB (1048575 + 1) (bs.drop (q0 + q1)) = _ from h2)
        by_cases he2 : e2 = 0
        · subst he2
          rw [if_neg (by simp), List.drop_drop] at n2
          have b2 : mP2 k (bs.drop (q0 + q1)) = _ := bind_yes (g2 := fun _ => mP3 k) h2
          rw [List.drop_drop] at b2
          obtain ⟨⟨ep, q3, e3⟩, h3⟩ : ∃ y, getB 1099511627776 (bs.drop (q0 + q1 + q2)) = y := ⟨_, rfl⟩
          have hl3 := getB_lenle h3
          rw [List.length_drop] at hl3
          have n3 := nums_step (m := 1099511627775) (r := [1099511627775]) (acc := [] ++ [f] ++ [d]) (p := q0 + q1 + q2) (show getB (1099511627775 + 1) (bs.drop (q0 + q1 + q2)) = _ from h3)
          by_cases he3 : e3 = 0
          · subst he3
            rw [if_neg (by simp), List.drop_drop] at n3
            have b3 : mP3 k (bs.drop (q0 + q1 + q2)) = _ := bind_yes (g2 := fun _ => mP4 k) h3
            rw [List.drop_drop] at b3
            obtain ⟨⟨op, q4, e4⟩, h4⟩ : ∃ y, getB 1099511627776 (bs.drop (q0 + q1 + q2 + q3)) = y := ⟨_, rfl⟩
            have hl4 := getB_lenle h4
            rw [List.length_drop] at hl4
            have n4 := nums_step (m := 1099511627775) (r := []) (acc := [] ++ [f] ++ [d] ++ [ep]) (p := q0 + q1 + q2 + q3) (show getB (1099511627775 + 1) (bs.drop (q0 + q1 + q2 + q3)) = _ from h4)
            by_cases he4 : e4 = 0
            · subst he4
              rw [if_neg (by simp), List.drop_drop] at n4
              have b4 : mP4 k (bs.drop (q0 + q1 + q2 + q3)) = _ := bind_yes (g2 := fun _ => restP k) h4
              rw [List.drop_drop] at b4
              refine Or.inr ⟨f, d, ep, op, q0 + q1 + q2 + q3 + q4, by omega, ?_, ?_⟩
              · rw [n1, n2, n3, n4]; rfl
              · rw [b1, b2, b3, b4]
                simp only [Nat.add_assoc]
            · refine Or.inl ⟨e4, q0 + q1 + q2 + q3, he4, by rw [n1, n2, n3, n4, if_pos he4], ?_⟩
              rw [b1, b2, b3]
              exact bind_no12 (g2 := fun _ => restP k) h4 he4
          · refine Or.inl ⟨e3, q0 + q1 + q2, he3, by rw [n1, n2, n3, if_pos he3], ?_⟩
            rw [b1, b2]
            exact bind_no12 (g2 := fun _ => mP4 k) h3 he3
        · refine Or.inl ⟨e2, q0 + q1, he2, by rw [n1, n2, if_pos he2], ?_⟩
          rw [b1]
          exact bind_no12 (g2 := fun _ => mP3 k) h2 he2
      · refine Or.inl ⟨e1, q0, he1, by rw [n1, if_pos he1], ?_⟩
        exact bind_no12 (g2 := fun _ => mP2 k) h1 he1
  · rw [if_pos he0] at n0
    refine Or.inl ⟨e0, he0, n0, ?_⟩
    have hK : getK12 bs = (k, q0, e0) := by unfold getK12; rw [h0]; exact if_neg (fun h => he0 h.1)
    exact bind_no12 hK he0
end Go.Proofs.YtgmennblbeefhaaDoor
namespace Go.Proofs.YtgmennblbeefhaaDoor
open Go.RowKit Mem Be Rg
set_option maxRecDepth 10000
set_option maxHeartbeats 4000000
set_option linter.unusedVariables false
def rdT (n : Nat) (r : Tup × Nat × Int) : MsgP × Int := if r.2.2 ≠ 0 then (msgP0, r.2.2) else if r.2.1 < n ∨ okM (toM r.1) = false then (msgP0, 11) else (toM r.1, 0)
theorem readM_rdT (bs : List UInt8) : readM bs = rdT bs.length (getM bs) := rfl
/-- A field that is read if the kind has it. -/
def fldS {α : Type} (b : Bool) (get : Pr α) (z : α) (F : α → Nat → List UInt8 → MsgP × Int) (p : Nat) (B : List UInt8) : MsgP × Int :=
  if b = true then (if (get B).2.2 ≠ 0 then (msgP0, (get B).2.2) else F (get B).1 (p + (get B).2.1) (B.drop (get B).2.1)) else F z p B
theorem fldS_no {α : Type} {b : Bool} {get : Pr α} {z : α} {F : α → Nat → List UInt8 → MsgP × Int} {p : Nat} {B : List UInt8} (h : b = false) : fldS b get z F p B = F z p B := by
  subst h; rfl
theorem fldS_err {α : Type} {b : Bool} {get : Pr α} {z : α} {F : α → Nat → List UInt8 → MsgP × Int} {p : Nat} {B : List UInt8} (h : b = true) {x : α} {q : Nat} {e : Int} (hg : get B = (x, q, e)) (he : e ≠ 0) : fldS b get z F p B = (msgP0, e) := by
  subst h
  unfold fldS
  rw [if_pos rfl, hg, if_pos he]
theorem fldS_ok {α : Type} {b : Bool} {get : Pr α} {z : α} {F : α → Nat → List UInt8 → MsgP × Int} {p : Nat} {B : List UInt8} (h : b = true) {x : α} {q : Nat} (hg : get B = (x, q, 0)) : fldS b get z F p B = F x (p + q) (B.drop q) := by
  subst h
  unfold fldS
  rw [if_pos rfl, hg, if_neg (by simp)]
theorem stage_last {α : Type} (n : Nat) (b : Bool) (get : Pr α) (z : α) (B : List UInt8) (p : Nat) (T : α → Tup) (F : α → Nat → List UInt8 → MsgP × Int) (h : ∀ a p B, rdT n (T a, p, 0) = F a p B) :
    rdT n (T (optP b get z B).1, p + (optP b get z B).2.1, (optP b get z B).2.2) = fldS b get z F p B := by
  cases b
  · rw [fldS_no rfl, ← h]; rfl
  · obtain ⟨⟨a, q, e⟩, hg⟩ : ∃ y, get B = y := ⟨_, rfl⟩
    have ho : optP true get z B = (a, q, e) := hg
    rw [ho]
    by_cases he : e = 0
    · subst he
      rw [fldS_ok rfl hg, ← h]
    · rw [fldS_err rfl hg he]
      unfold rdT
      rw [if_pos he]
theorem stage_next {α β : Type} [Inhabited β] (n : Nat) (b : Bool) (get : Pr α) (z : α) (g2 : Pr β) (B : List UInt8) (p : Nat) (T : α × β → Tup) (F : α → Nat → List UInt8 → MsgP × Int)
    (h : ∀ a p B, rdT n (T (a, (g2 B).1), p + (g2 B).2.1, (g2 B).2.2) = F a p B) :
    rdT n (T (bindP (optP b get z) (fun _ => g2) B).1, p + (bindP (optP b get z) (fun _ => g2) B).2.1, (bindP (optP b get z) (fun _ => g2) B).2.2) = fldS b get z F p B := by
  cases b
  · rw [fldS_no rfl, ← h]
    have ho : optP false get z B = (z, 0, 0) := rfl
    rw [bind_yes (g2 := fun _ => g2) ho]
    simp
  · obtain ⟨⟨a, q, e⟩, hg⟩ : ∃ y, get B = y := ⟨_, rfl⟩
    have ho : optP true get z B = (a, q, e) := hg
    by_cases he : e = 0
    · subst he
      rw [fldS_ok rfl hg, ← h, bind_yes (g2 := fun _ => g2) ho]
      simp only [Nat.add_assoc]
    · have h2 := bind_no12 (g2 := fun _ => g2) ho he
      rw [fldS_err rfl hg he]
      unfold rdT
      simp only
      rw [h2, if_pos he]
def fin5 (n : Nat) (m : MsgP) (p : Nat) : MsgP × Int := if p < n ∨ okM m = false then (msgP0, 11) else (m, 0)
def fin4 (n : Nat) (k : Int) (m : MsgP) (p : Nat) (B : List UInt8) : MsgP × Int := fldS (hasR k) getR12 (0, 0, 0, []) (fun a p B => fin5 n { m with ns := a.2.2.2, each := a.1, keep := a.2.1 } p) p B
def fin3 (n : Nat) (k : Int) (m : MsgP) (p : Nat) (B : List UInt8) : MsgP × Int := fldS (hasL k) getL12 (0, []) (fun a p B => fin4 n k { m with l := a.2 } p B) p B
def fin2 (n : Nat) (k : Int) (m : MsgP) (p : Nat) (B : List UInt8) : MsgP × Int := fldS (hasE k) refE entP0 (fun a p B => fin3 n k { m with e := a } p B) p B
def fin1 (n : Nat) (k : Int) (m : MsgP) (p : Nat) (B : List UInt8) : MsgP × Int := fldS (hasF k) getT false (fun a p B => fin2 n k { m with flag := a } p B) p B
def fin0 (n : Nat) (k : Int) (m : MsgP) (p : Nat) (B : List UInt8) : MsgP × Int := fldS (hasN k) (getB 1099511627776) 0 (fun a p B => fin1 n k { m with n := a } p B) p B
theorem read_fin {bs : List UInt8} {k f d ep op : Int} {p2 : Nat} (h : getM bs = ((k, f, d, ep, op, (restP k (bs.drop p2)).1), p2 + (restP k (bs.drop p2)).2.1, (restP k (bs.drop p2)).2.2)) : readM bs = fin0 bs.length k ⟨k, f, d, ep, op, 0, false, entP0, [], [], 0, 0⟩ p2 (bs.drop p2) := by
  rw [readM_rdT, h]
  unfold restP fin0
  refine stage_next _ _ _ _ _ _ _ (fun v => (k, f, d, ep, op, v)) _ fun a1 p1 B1 => ?_
  unfold fin1
  refine stage_next _ _ _ _ _ _ _ (fun v => (k, f, d, ep, op, a1, v)) _ fun a2 p2 B2 => ?_
  unfold fin2
  refine stage_next _ _ _ _ _ _ _ (fun v => (k, f, d, ep, op, a1, a2, v)) _ fun a3 p3 B3 => ?_
  unfold fin3
  refine stage_next _ _ _ _ _ _ _ (fun v => (k, f, d, ep, op, a1, a2, a3, v)) _ fun a4 p4 B4 => ?_
  unfold fin4
  refine stage_last _ _ _ _ _ _ (fun v => (k, f, d, ep, op, a1, a2, a3, a4, v)) _ fun a5 p5 B5 => ?_
  unfold rdT fin5 toM
  simp
theorem read_err {bs : List UInt8} {e : Int} (he : e ≠ 0) (h : (getM bs).2.2 = e) : readM bs = (msgP0, e) := by
  unfold readM
  rw [h, if_pos he]
end Go.Proofs.YtgmennblbeefhaaDoor
namespace Go.Proofs.YtgmennblbeefhaaDoor
open Go.RowKit Mem Be Rg
set_option maxRecDepth 100000
set_option maxHeartbeats 16000000
set_option linter.unusedVariables false
set_option linter.unusedSimpArgs false
theorem results_cell_row3 {P : Program} {fn : Func} {p q r : Tmp} {ty : TypeId} (h : fn.results = #[.cell p ty, .tmp q, .tmp r]) (tmps : Array Value) (w : World) (g : Nat) (t : TypeId) (cs : Array Value) (fr : Nat × Nat) (d : TypeDesc)
    (hp : tmps.getD p undef = .pointer (some ⟨g, 0, none⟩)) (hg : w.heap[g]? = some (.cells cs t fr))
    (hu : P.underlying ty = some d) (hd : (match d with | .struct _ | .array _ _ => true | _ => false) = true) (hi : (P.info? ty).map (·.size) = some cs.size) :
    (results fn tmps).run P w = .ok (.tuple #[.agg cs, tmps.getD q undef, tmps.getD r undef]) w := by
  have hp' : tmps[p]?.getD undef = .pointer (some ⟨g, 0, none⟩) := by simpa using hp
  simp [results, h, hp', asAddr, run_loadVar_row w g t ty cs fr d hg hu hd hi]
theorem nums_err12 {P : Program} {f : FuncId} {args : Array Value} {V : World} {p : Nat} {e : Int} (h : Calls P f args V (NumsR ([], p, e) V)) : Calls P f args V (fun E w' => ∃ A c, E = .returned (.tuple #[.slice A 0 c, .int .i64 (p : Int), .int .i64 e]) ∧ Below V.heap.size V w') :=
  h.mono fun E w' ⟨A, c, h1, h2, h3⟩ => ⟨A, c, h1, h3⟩
theorem nums_got12 {P : Program} {f : FuncId} {args : Array Value} {V : World} {p m : Nat} {xs : List Int} (hm : xs.length = m) (h : Calls P f args V (NumsR (xs, p, 0) V)) : Calls P f args V (fun E w' => ∃ A c, E = .returned (.tuple #[.slice A m c, .int .i64 (p : Int), .int .i64 0]) ∧ w'.ownsRow V.heap.size 3 1 (.slice A m c) m (xs.map iV) ∧ Below V.heap.size V w') := by
  subst hm
  exact h.mono fun E w' ⟨A, c, h1, h2, h3⟩ => ⟨A, c, h1, h2, h3⟩
/-- What head yields: a kind, four numbers and the place behind, or why not. -/
def HeadE (e : Int) (w : World) (E : Ending) (w' : World) : Prop := E = .returned (.tuple #[.agg #[.int .i64 0, .int .i64 0, .int .i64 0, .int .i64 0, .int .i64 0, .int .i64 0, .bool false, .string ⟨#[]⟩, .int .i64 0, .int .i64 0, .int .i64 0, .bool false, .slice none 0 0, .slice none 0 0, .slice none 0 0, .int .i64 0, .int .i64 0], .int .i64 0, .int .i64 e]) ∧ Below w.heap.size w w'
def HeadY (k f d ep op : Int) (p2 : Nat) (w : World) (E : Ending) (w' : World) : Prop := E = .returned (.tuple #[.agg #[.int .i64 k, .int .i64 f, .int .i64 d, .int .i64 ep, .int .i64 op, .int .i64 0, .bool false, .string ⟨#[]⟩, .int .i64 0, .int .i64 0, .int .i64 0, .bool false, .slice none 0 0, .slice none 0 0, .slice none 0 0, .int .i64 0, .int .i64 0], .int .i64 (p2 : Int), .int .i64 0]) ∧ Below w.heap.size w w'
def headVal (b5 o5 c5 b8 o8 c8 : Nat) (k f d ep op : Int) (p2 : Nat) : Nat → Value
  | 0 => .slice (some ⟨b5, o5, none⟩) 1 c5
  | 1 => .pointer (some ⟨b5, o5, none⟩)
  | 2 => .int .i64 k
  | 3 => .slice (some ⟨b8, o8, none⟩) 4 c8
  | 4 => .pointer (some ⟨b8, o8, none⟩)
  | 5 => .int .i64 f
  | 6 => .slice (some ⟨b8, o8, none⟩) 4 c8
  | 7 => .pointer (some ⟨b8, o8 + 1, none⟩)
  | 8 => .int .i64 d
  | 9 => .slice (some ⟨b8, o8, none⟩) 4 c8
  | 10 => .pointer (some ⟨b8, o8 + 2, none⟩)
  | 11 => .int .i64 ep
  | 12 => .slice (some ⟨b8, o8, none⟩) 4 c8
  | 13 => .pointer (some ⟨b8, o8 + 3, none⟩)
  | 14 => .int .i64 op
  | 15 => .agg #[.int .i64 k, .int .i64 f, .int .i64 d, .int .i64 ep, .int .i64 op, .int .i64 0, .bool false, .string ⟨#[]⟩, .int .i64 0, .int .i64 0, .int .i64 0, .bool false, .slice none 0 0, .slice none 0 0, .slice none 0 0, .int .i64 0, .int .i64 0]
  | 16 => .int .i64 (p2 : Int)
  | 18 => .int .i64 (p2 : Int)
  | 19 => .int .i64 0
  | _ => undef
theorem refhead_1 (B n c : Nat) (A : Option Addr) (bs : List UInt8) (hn : n = bs.length) (hl : n ≤ 1000000) (w : World) (h : Row w B A (bs.map byteV)) (hB : B ≤ w.heap.size) {e : Int} (he : e ≠ 0) (hN : numsA [17] [] 0 bs = ([], 0, e)) : Calls Tryd.prog 66 #[.slice A n c] w (HeadE e w) := by
  subst hn
  have hb0 : Below w.heap.size w (w.alloc (.cells #[.int .i64 0, .int .i64 0, .int .i64 0, .int .i64 0, .int .i64 0, .int .i64 0, .bool false, .string ⟨#[]⟩, .int .i64 0, .int .i64 0, .int .i64 0, .bool false, .slice none 0 0, .slice none 0 0, .slice none 0 0, .int .i64 0, .int .i64 0] 34)) := (Below.refl _ _).alloc (Nat.le_refl _) _
  have HK := Lib.hid (Blk.new w 34 #[.int .i64 0, .int .i64 0, .int .i64 0, .int .i64 0, .int .i64 0, .int .i64 0, .bool false, .string ⟨#[]⟩, .int .i64 0, .int .i64 0, .int .i64 0, .bool false, .slice none 0 0, .slice none 0 0, .slice none 0 0, .int .i64 0, .int .i64 0])
  have hr0 := h.alloc hB (.cells #[.int .i64 0, .int .i64 0, .int .i64 0, .int .i64 0, .int .i64 0, .int .i64 0, .bool false, .string ⟨#[]⟩, .int .i64 0, .int .i64 0, .int .i64 0, .bool false, .slice none 0 0, .slice none 0 0, .slice none 0 0, .int .i64 0, .int .i64 0] 34)
  have hs0 : (w.alloc (.cells #[.int .i64 0, .int .i64 0, .int .i64 0, .int .i64 0, .int .i64 0, .int .i64 0, .bool false, .string ⟨#[]⟩, .int .i64 0, .int .i64 0, .int .i64 0, .bool false, .slice none 0 0, .slice none 0 0, .slice none 0 0, .int .i64 0, .int .i64 0] 34)).heap.size = w.heap.size + 1 := World.size_alloc _ _
  obtain ⟨W, hW⟩ : ∃ W, w.alloc (.cells #[.int .i64 0, .int .i64 0, .int .i64 0, .int .i64 0, .int .i64 0, .int .i64 0, .bool false, .string ⟨#[]⟩, .int .i64 0, .int .i64 0, .int .i64 0, .bool false, .slice none 0 0, .slice none 0 0, .slice none 0 0, .int .i64 0, .int .i64 0] 34) = W := ⟨_, rfl⟩
  rw [hW] at HK hb0 hr0 hs0
  have hr1 := hr0.alloc (by omega) (.cells #[.int .i64 17] 3)
  have hal : Below W.heap.size W (W.alloc (.cells #[.int .i64 17] 3)) := (Below.refl _ _).alloc (Nat.le_refl _) _
  have hi1 := int_row W 17
  have hs1 : (W.alloc (.cells #[.int .i64 17] 3)).heap.size = W.heap.size + 1 := World.size_alloc _ _
  obtain ⟨V1, hV1⟩ : ∃ V, W.alloc (.cells #[.int .i64 17] 3) = V := ⟨_, rfl⟩
  obtain ⟨P1, hP1⟩ : ∃ p, W.heap.size = p := ⟨_, rfl⟩
  rw [hV1] at hr1 hal hi1 hs1
  rw [hP1] at hal hi1 hs1 hs0
  have HB1 : Hid (Below w.heap.size w V1) := Lib.hid (hb0.trans (hal.mono (by omega)))
  have HK1 : Hid (Blk V1 w.heap.size 34 #[.int .i64 0, .int .i64 0, .int .i64 0, .int .i64 0, .int .i64 0, .int .i64 0, .bool false, .string ⟨#[]⟩, .int .i64 0, .int .i64 0, .int .i64 0, .bool false, .slice none 0 0, .slice none 0 0, .slice none 0 0, .int .i64 0, .int .i64 0]) := Lib.hid (HK.out.below hal (by omega))
  have HR1 := Lib.hid hr1
  have HN1 : Hid (Calls Tryd.prog 96 #[.slice A bs.length c, .int .i64 0, .slice (some ⟨P1, 0, none⟩) 1 1] V1 (NumsR (numsA [17] [] 0 bs) V1)) := Lib.hid (refnums_any B (P1 + 1) c 1 bs.length 1 0 A (some ⟨P1, 0, none⟩) bs [17] rfl hl (by omega) rfl (by omega) V1 hr1 hi1 (by omega) (by omega))
  rw [hN] at HN1
  have HC1 := Lib.hid (nums_err12 HN1.out)
  clear h hb0 hr0 hr1 hal hi1 hs0 hs1 HN1 HK hN
  go_enter Tryd.func66, Tryd.ntmps66
  go_wp2_with fail
  refine HC1.out.mono ?_
  rintro e1 w1 ⟨A1, c1, rfl, hb1⟩
  have HB2 := Lib.hid (HB1.out.trans (hb1.mono HB1.out.size))
  have HK2 := Lib.hid (HK1.out.below hb1 HK1.out.lt)
  have hne : (e != 0) = true := by simpa using he
  clear hb1 HB1 HK1 HC1 HR1 hW hV1 hP1  he
  go_wp2_with (refine wpList_store_box rfl 34 _ _ rfl w.heap.size 34 #[.int .i64 0, .int .i64 0, .int .i64 0, .int .i64 0, .int .i64 0, .int .i64 0, .bool false, .string ⟨#[]⟩, .int .i64 0, .int .i64 0, .int .i64 0, .bool false, .slice none 0 0, .slice none 0 0, .slice none 0 0, .int .i64 0, .int .i64 0] #[.int .i64 0, .int .i64 0, .int .i64 0, .int .i64 0, .int .i64 0, .int .i64 0, .bool false, .string ⟨#[]⟩, .int .i64 0, .int .i64 0, .int .i64 0, .bool false, .slice none 0 0, .slice none 0 0, .slice none 0 0, .int .i64 0, .int .i64 0] HK2.out rfl rfl rfl (by kernel_rfl) (by kernel_rfl) ?_)
  intro w3 hk3 hg3
  have HK3 := Lib.hid hk3
  have HB3 := Lib.hid (HB2.out.grown hg3 HB2.out.size fun g hg => by cases hg; exact Nat.le_refl _)
  clear hk3 hg3
  go_wp2
  exact bodyPost_ret (v := .tuple #[.agg #[.int .i64 0, .int .i64 0, .int .i64 0, .int .i64 0, .int .i64 0, .int .i64 0, .bool false, .string ⟨#[]⟩, .int .i64 0, .int .i64 0, .int .i64 0, .bool false, .slice none 0 0, .slice none 0 0, .slice none 0 0, .int .i64 0, .int .i64 0], .int .i64 0, .int .i64 e]) (results_cell_row3 (p := 2) (q := 3) (r := 4) (ty := 34) Tryd.results66 _ _ w.heap.size 34 #[.int .i64 0, .int .i64 0, .int .i64 0, .int .i64 0, .int .i64 0, .int .i64 0, .bool false, .string ⟨#[]⟩, .int .i64 0, .int .i64 0, .int .i64 0, .bool false, .slice none 0 0, .slice none 0 0, .slice none 0 0, .int .i64 0, .int .i64 0] (0, 0) _ rfl HK3.out Tryd.underlying34 rfl (by kernel_rfl)) rfl ⟨rfl, HB3.out⟩
theorem refhead_2 (B n c : Nat) (A : Option Addr) (bs : List UInt8) (hn : n = bs.length) (hl : n ≤ 1000000) (w : World) (h : Row w B A (bs.map byteV)) (hB : B ≤ w.heap.size) {p1 : Nat} (hN : numsA [17] [] 0 bs = ([0], p1, 0)) : Calls Tryd.prog 66 #[.slice A n c] w (HeadE 11 w) := by
  subst hn
  have hb0 : Below w.heap.size w (w.alloc (.cells #[.int .i64 0, .int .i64 0, .int .i64 0, .int .i64 0, .int .i64 0, .int .i64 0, .bool false, .string ⟨#[]⟩, .int .i64 0, .int .i64 0, .int .i64 0, .bool false, .slice none 0 0, .slice none 0 0, .slice none 0 0, .int .i64 0, .int .i64 0] 34)) := (Below.refl _ _).alloc (Nat.le_refl _) _
  have HK := Lib.hid (Blk.new w 34 #[.int .i64 0, .int .i64 0, .int .i64 0, .int .i64 0, .int .i64 0, .int .i64 0, .bool false, .string ⟨#[]⟩, .int .i64 0, .int .i64 0, .int .i64 0, .bool false, .slice none 0 0, .slice none 0 0, .slice none 0 0, .int .i64 0, .int .i64 0])
  have hr0 := h.alloc hB (.cells #[.int .i64 0, .int .i64 0, .int .i64 0, .int .i64 0, .int .i64 0, .int .i64 0, .bool false, .string ⟨#[]⟩, .int .i64 0, .int .i64 0, .int .i64 0, .bool false, .slice none 0 0, .slice none 0 0, .slice none 0 0, .int .i64 0, .int .i64 0] 34)
  have hs0 : (w.alloc (.cells #[.int .i64 0, .int .i64 0, .int .i64 0, .int .i64 0, .int .i64 0, .int .i64 0, .bool false, .string ⟨#[]⟩, .int .i64 0, .int .i64 0, .int .i64 0, .bool false, .slice none 0 0, .slice none 0 0, .slice none 0 0, .int .i64 0, .int .i64 0] 34)).heap.size = w.heap.size + 1 := World.size_alloc _ _
  obtain ⟨W, hW⟩ : ∃ W, w.alloc (.cells #[.int .i64 0, .int .i64 0, .int .i64 0, .int .i64 0, .int .i64 0, .int .i64 0, .bool false, .string ⟨#[]⟩, .int .i64 0, .int .i64 0, .int .i64 0, .bool false, .slice none 0 0, .slice none 0 0, .slice none 0 0, .int .i64 0, .int .i64 0] 34) = W := ⟨_, rfl⟩
  rw [hW] at HK hb0 hr0 hs0
  have hr1 := hr0.alloc (by omega) (.cells #[.int .i64 17] 3)
  have hal : Below W.heap.size W (W.alloc (.cells #[.int .i64 17] 3)) := (Below.refl _ _).alloc (Nat.le_refl _) _
  have hi1 := int_row W 17
  have hs1 : (W.alloc (.cells #[.int .i64 17] 3)).heap.size = W.heap.size + 1 := World.size_alloc _ _
  obtain ⟨V1, hV1⟩ : ∃ V, W.alloc (.cells #[.int .i64 17] 3) = V := ⟨_, rfl⟩
  obtain ⟨P1, hP1⟩ : ∃ p, W.heap.size = p := ⟨_, rfl⟩
  rw [hV1] at hr1 hal hi1 hs1
  rw [hP1] at hal hi1 hs1 hs0
  have HB1 : Hid (Below w.heap.size w V1) := Lib.hid (hb0.trans (hal.mono (by omega)))
  have HK1 : Hid (Blk V1 w.heap.size 34 #[.int .i64 0, .int .i64 0, .int .i64 0, .int .i64 0, .int .i64 0, .int .i64 0, .bool false, .string ⟨#[]⟩, .int .i64 0, .int .i64 0, .int .i64 0, .bool false, .slice none 0 0, .slice none 0 0, .slice none 0 0, .int .i64 0, .int .i64 0]) := Lib.hid (HK.out.below hal (by omega))
  have HR1 := Lib.hid hr1
  have HN1 : Hid (Calls Tryd.prog 96 #[.slice A bs.length c, .int .i64 0, .slice (some ⟨P1, 0, none⟩) 1 1] V1 (NumsR (numsA [17] [] 0 bs) V1)) := Lib.hid (refnums_any B (P1 + 1) c 1 bs.length 1 0 A (some ⟨P1, 0, none⟩) bs [17] rfl hl (by omega) rfl (by omega) V1 hr1 hi1 (by omega) (by omega))
  rw [hN] at HN1
  have HC1 := Lib.hid (nums_got12 (m := 1) rfl HN1.out)
  clear h hb0 hr0 hr1 hal hi1 hs0 hs1 HN1 HK hN
  go_enter Tryd.func66, Tryd.ntmps66
  go_wp2_with fail
  refine HC1.out.mono ?_
  rintro e1 w1 ⟨A1, c1, rfl, ho1, hb1⟩
  have HB2 := Lib.hid (HB1.out.trans (hb1.mono HB1.out.size))
  have HK2 := Lib.hid (HK1.out.below hb1 HK1.out.lt)
  obtain ⟨b5, o5, rfl, hb5, hc5⟩ := int_cell (Row.of_own ho1) (by simp)
  have c5' := hc5 0 (by simp)
  simp only [Nat.add_zero, List.getElem_cons_zero] at c5'
  clear hb1 HB1 HK1 HC1 HR1 hW hV1 hP1 ho1 hc5
  go_wp2_with (refine wpList_store_box rfl 34 _ _ rfl w.heap.size 34 #[.int .i64 0, .int .i64 0, .int .i64 0, .int .i64 0, .int .i64 0, .int .i64 0, .bool false, .string ⟨#[]⟩, .int .i64 0, .int .i64 0, .int .i64 0, .bool false, .slice none 0 0, .slice none 0 0, .slice none 0 0, .int .i64 0, .int .i64 0] #[.int .i64 0, .int .i64 0, .int .i64 0, .int .i64 0, .int .i64 0, .int .i64 0, .bool false, .string ⟨#[]⟩, .int .i64 0, .int .i64 0, .int .i64 0, .bool false, .slice none 0 0, .slice none 0 0, .slice none 0 0, .int .i64 0, .int .i64 0] HK2.out rfl rfl rfl (by kernel_rfl) (by kernel_rfl) ?_)
  intro w3 hk3 hg3
  have HK3 := Lib.hid hk3
  have HB3 := Lib.hid (HB2.out.grown hg3 HB2.out.size fun g hg => by cases hg; exact Nat.le_refl _)
  clear hk3 hg3
  go_wp2
  exact bodyPost_ret (v := .tuple #[.agg #[.int .i64 0, .int .i64 0, .int .i64 0, .int .i64 0, .int .i64 0, .int .i64 0, .bool false, .string ⟨#[]⟩, .int .i64 0, .int .i64 0, .int .i64 0, .bool false, .slice none 0 0, .slice none 0 0, .slice none 0 0, .int .i64 0, .int .i64 0], .int .i64 0, .int .i64 11]) (results_cell_row3 (p := 2) (q := 3) (r := 4) (ty := 34) Tryd.results66 _ _ w.heap.size 34 #[.int .i64 0, .int .i64 0, .int .i64 0, .int .i64 0, .int .i64 0, .int .i64 0, .bool false, .string ⟨#[]⟩, .int .i64 0, .int .i64 0, .int .i64 0, .bool false, .slice none 0 0, .slice none 0 0, .slice none 0 0, .int .i64 0, .int .i64 0] (0, 0) _ rfl HK3.out Tryd.underlying34 rfl (by kernel_rfl)) rfl ⟨rfl, HB3.out⟩
theorem refhead_3 (B n c : Nat) (A : Option Addr) (bs : List UInt8) (hn : n = bs.length) (hl : n ≤ 1000000) (w : World) (h : Row w B A (bs.map byteV)) (hB : B ≤ w.heap.size) {k : Int} {p1 : Nat} (hk : k ≠ 0) (hp1 : p1 ≤ n) (hN : numsA [17] [] 0 bs = ([k], p1, 0)) {e : Int} {p2 : Nat} (he : e ≠ 0) (hN2 : numsA ids4 [] p1 (bs.drop p1) = ([], p2, e)) : Calls Tryd.prog 66 #[.slice A n c] w (HeadE e w) := by
  subst hn
  have hb0 : Below w.heap.size w (w.alloc (.cells #[.int .i64 0, .int .i64 0, .int .i64 0, .int .i64 0, .int .i64 0, .int .i64 0, .bool false, .string ⟨#[]⟩, .int .i64 0, .int .i64 0, .int .i64 0, .bool false, .slice none 0 0, .slice none 0 0, .slice none 0 0, .int .i64 0, .int .i64 0] 34)) := (Below.refl _ _).alloc (Nat.le_refl _) _
  have HK := Lib.hid (Blk.new w 34 #[.int .i64 0, .int .i64 0, .int .i64 0, .int .i64 0, .int .i64 0, .int .i64 0, .bool false, .string ⟨#[]⟩, .int .i64 0, .int .i64 0, .int .i64 0, .bool false, .slice none 0 0, .slice none 0 0, .slice none 0 0, .int .i64 0, .int .i64 0])
  have hr0 := h.alloc hB (.cells #[.int .i64 0, .int .i64 0, .int .i64 0, .int .i64 0, .int .i64 0, .int .i64 0, .bool false, .string ⟨#[]⟩, .int .i64 0, .int .i64 0, .int .i64 0, .bool false, .slice none 0 0, .slice none 0 0, .slice none 0 0, .int .i64 0, .int .i64 0] 34)
  have hs0 : (w.alloc (.cells #[.int .i64 0, .int .i64 0, .int .i64 0, .int .i64 0, .int .i64 0, .int .i64 0, .bool false, .string ⟨#[]⟩, .int .i64 0, .int .i64 0, .int .i64 0, .bool false, .slice none 0 0, .slice none 0 0, .slice none 0 0, .int .i64 0, .int .i64 0] 34)).heap.size = w.heap.size + 1 := World.size_alloc _ _
  obtain ⟨W, hW⟩ : ∃ W, w.alloc (.cells #[.int .i64 0, .int .i64 0, .int .i64 0, .int .i64 0, .int .i64 0, .int .i64 0, .bool false, .string ⟨#[]⟩, .int .i64 0, .int .i64 0, .int .i64 0, .bool false, .slice none 0 0, .slice none 0 0, .slice none 0 0, .int .i64 0, .int .i64 0] 34) = W := ⟨_, rfl⟩
  rw [hW] at HK hb0 hr0 hs0
  have hr1 := hr0.alloc (by omega) (.cells #[.int .i64 17] 3)
  have hal : Below W.heap.size W (W.alloc (.cells #[.int .i64 17] 3)) := (Below.refl _ _).alloc (Nat.le_refl _) _
  have hi1 := int_row W 17
  have hs1 : (W.alloc (.cells #[.int .i64 17] 3)).heap.size = W.heap.size + 1 := World.size_alloc _ _
  obtain ⟨V1, hV1⟩ : ∃ V, W.alloc (.cells #[.int .i64 17] 3) = V := ⟨_, rfl⟩
  obtain ⟨P1, hP1⟩ : ∃ p, W.heap.size = p := ⟨_, rfl⟩
  rw [hV1] at hr1 hal hi1 hs1
  rw [hP1] at hal hi1 hs1 hs0
  have HB1 : Hid (Below w.heap.size w V1) := Lib.hid (hb0.trans (hal.mono (by omega)))
  have HK1 : Hid (Blk V1 w.heap.size 34 #[.int .i64 0, .int .i64 0, .int .i64 0, .int .i64 0, .int .i64 0, .int .i64 0, .bool false, .string ⟨#[]⟩, .int .i64 0, .int .i64 0, .int .i64 0, .bool false, .slice none 0 0, .slice none 0 0, .slice none 0 0, .int .i64 0, .int .i64 0]) := Lib.hid (HK.out.below hal (by omega))
  have HR1 := Lib.hid hr1
  have HN1 : Hid (Calls Tryd.prog 96 #[.slice A bs.length c, .int .i64 0, .slice (some ⟨P1, 0, none⟩) 1 1] V1 (NumsR (numsA [17] [] 0 bs) V1)) := Lib.hid (refnums_any B (P1 + 1) c 1 bs.length 1 0 A (some ⟨P1, 0, none⟩) bs [17] rfl hl (by omega) rfl (by omega) V1 hr1 hi1 (by omega) (by omega))
  rw [hN] at HN1
  have HC1 := Lib.hid (nums_got12 (m := 1) rfl HN1.out)
  clear h hb0 hr0 hr1 hal hi1 hs0 hs1 HN1 HK hN
  go_enter Tryd.func66, Tryd.ntmps66
  go_wp2_with fail
  refine HC1.out.mono ?_
  rintro e1 w1 ⟨A1, c1, rfl, ho1, hb1⟩
  have HB2 := Lib.hid (HB1.out.trans (hb1.mono HB1.out.size))
  have HK2 := Lib.hid (HK1.out.below hb1 HK1.out.lt)
  have hr2 := HR1.out.below (hb1.mono (Nat.le_trans hB (HB1.out.size)))
  obtain ⟨b5, o5, rfl, hb5, hc5⟩ := int_cell (Row.of_own ho1) (by simp)
  have c5' := hc5 0 (by simp)
  simp only [Nat.add_zero, List.getElem_cons_zero] at c5'
  have hk0 : (k == 0) = false := by simpa using hk
  have al2 : Below w1.heap.size w1 (w1.alloc (.cells #[.int .i64 1048575, .int .i64 1048575, .int .i64 1099511627775, .int .i64 1099511627775] 3)) := (Below.refl _ _).alloc (Nat.le_refl _) _
  have hr3 := hr2.alloc (Nat.le_trans hB HB2.out.size) (.cells #[.int .i64 1048575, .int .i64 1048575, .int .i64 1099511627775, .int .i64 1099511627775] 3)
  have hi2 : Row (w1.alloc (.cells #[.int .i64 1048575, .int .i64 1048575, .int .i64 1099511627775, .int .i64 1099511627775] 3)) (w1.heap.size + 1) (some ⟨w1.heap.size, 0, none⟩) (ids4.map iV) := row_cells (xs := ids4.map iV) rfl
  have hs2 : (w1.alloc (.cells #[.int .i64 1048575, .int .i64 1048575, .int .i64 1099511627775, .int .i64 1099511627775] 3)).heap.size = w1.heap.size + 1 := World.size_alloc _ _
  obtain ⟨V2, hV2⟩ : ∃ V, w1.alloc (.cells #[.int .i64 1048575, .int .i64 1048575, .int .i64 1099511627775, .int .i64 1099511627775] 3) = V := ⟨_, rfl⟩
  obtain ⟨P2, hP2⟩ : ∃ p, w1.heap.size = p := ⟨_, rfl⟩
  rw [hV2] at al2 hr3 hi2 hs2
  have HB3 := Lib.hid (HB2.out.trans (al2.mono HB2.out.size))
  have HK3 := Lib.hid (HK2.out.below al2 HK2.out.lt)
  have HO3 := Lib.hid (own_later ho1 al2)
  have hBw := HB2.out.size
  rw [hP2] at al2 hi2 hs2 hBw
  have HN2 : Hid (Calls Tryd.prog 96 #[.slice A bs.length c, .int .i64 (p1 : Int), .slice (some ⟨P2, 0, none⟩) 4 4] V2 (NumsR (numsA ids4 [] p1 (bs.drop p1)) V2)) := Lib.hid (refnums_any B (P2 + 1) c 4 bs.length 4 p1 A (some ⟨P2, 0, none⟩) bs ids4 rfl hl hp1 rfl (by omega) V2 hr3 hi2 (by omega) (by omega))
  rw [hN2] at HN2
  have HC2 := Lib.hid (nums_err12 HN2.out)
  have HK0 := Lib.hid hk
  clear hb1 HB1 HK1 HC1 HR1 hW hV1 hP1 ho1 hc5 hr2 hr3 hi2 hs2 al2 HB2 HK2 HN2 hBw hb5 hk hN2
  go_wp2_with fail
  refine HC2.out.mono ?_
  rintro e2 w2 ⟨A2, c2, rfl, hb2⟩
  have HB4 := Lib.hid (HB3.out.trans (hb2.mono HB3.out.size))
  have HK4 := Lib.hid (HK3.out.below hb2 HK3.out.lt)
  have hne : (e != 0) = true := by simpa using he
  clear hb2 HB3 HK3 HC2 HO3 hV2 hP2 he c5' hk0
  go_wp2_with (refine wpList_store_box rfl 34 _ _ rfl w.heap.size 34 #[.int .i64 0, .int .i64 0, .int .i64 0, .int .i64 0, .int .i64 0, .int .i64 0, .bool false, .string ⟨#[]⟩, .int .i64 0, .int .i64 0, .int .i64 0, .bool false, .slice none 0 0, .slice none 0 0, .slice none 0 0, .int .i64 0, .int .i64 0] #[.int .i64 0, .int .i64 0, .int .i64 0, .int .i64 0, .int .i64 0, .int .i64 0, .bool false, .string ⟨#[]⟩, .int .i64 0, .int .i64 0, .int .i64 0, .bool false, .slice none 0 0, .slice none 0 0, .slice none 0 0, .int .i64 0, .int .i64 0] HK4.out rfl rfl rfl (by kernel_rfl) (by kernel_rfl) ?_)
  intro w5 hk5 hg5
  have HK5 := Lib.hid hk5
  have HB5 := Lib.hid (HB4.out.grown hg5 HB4.out.size fun g hg => by cases hg; exact Nat.le_refl _)
  clear hk5 hg5
  go_wp2
  exact bodyPost_ret (v := .tuple #[.agg #[.int .i64 0, .int .i64 0, .int .i64 0, .int .i64 0, .int .i64 0, .int .i64 0, .bool false, .string ⟨#[]⟩, .int .i64 0, .int .i64 0, .int .i64 0, .bool false, .slice none 0 0, .slice none 0 0, .slice none 0 0, .int .i64 0, .int .i64 0], .int .i64 0, .int .i64 e]) (results_cell_row3 (p := 2) (q := 3) (r := 4) (ty := 34) Tryd.results66 _ _ w.heap.size 34 #[.int .i64 0, .int .i64 0, .int .i64 0, .int .i64 0, .int .i64 0, .int .i64 0, .bool false, .string ⟨#[]⟩, .int .i64 0, .int .i64 0, .int .i64 0, .bool false, .slice none 0 0, .slice none 0 0, .slice none 0 0, .int .i64 0, .int .i64 0] (0, 0) _ rfl HK5.out Tryd.underlying34 rfl (by kernel_rfl)) rfl ⟨rfl, HB5.out⟩
theorem refhead_4 (B n c : Nat) (A : Option Addr) (bs : List UInt8) (hn : n = bs.length) (hl : n ≤ 1000000) (w : World) (h : Row w B A (bs.map byteV)) (hB : B ≤ w.heap.size) {k : Int} {p1 : Nat} (hk : k ≠ 0) (hp1 : p1 ≤ n) (hN : numsA [17] [] 0 bs = ([k], p1, 0)) {f d ep op : Int} {p2 : Nat} (hN2 : numsA ids4 [] p1 (bs.drop p1) = ([f, d, ep, op], p2, 0)) : Calls Tryd.prog 66 #[.slice A n c] w (HeadY k f d ep op p2 w) := by
  subst hn
  have hb0 : Below w.heap.size w (w.alloc (.cells #[.int .i64 0, .int .i64 0, .int .i64 0, .int .i64 0, .int .i64 0, .int .i64 0, .bool false, .string ⟨#[]⟩, .int .i64 0, .int .i64 0, .int .i64 0, .bool false, .slice none 0 0, .slice none 0 0, .slice none 0 0, .int .i64 0, .int .i64 0] 34)) := (Below.refl _ _).alloc (Nat.le_refl _) _
  have HK := Lib.hid (Blk.new w 34 #[.int .i64 0, .int .i64 0, .int .i64 0, .int .i64 0, .int .i64 0, .int .i64 0, .bool false, .string ⟨#[]⟩, .int .i64 0, .int .i64 0, .int .i64 0, .bool false, .slice none 0 0, .slice none 0 0, .slice none 0 0, .int .i64 0, .int .i64 0])
  have hr0 := h.alloc hB (.cells #[.int .i64 0, .int .i64 0, .int .i64 0, .int .i64 0, .int .i64 0, .int .i64 0, .bool false, .string ⟨#[]⟩, .int .i64 0, .int .i64 0, .int .i64 0, .bool false, .slice none 0 0, .slice none 0 0, .slice none 0 0, .int .i64 0, .int .i64 0] 34)
  have hs0 : (w.alloc (.cells #[.int .i64 0, .int .i64 0, .int .i64 0, .int .i64 0, .int .i64 0, .int .i64 0, .bool false, .string ⟨#[]⟩, .int .i64 0, .int .i64 0, .int .i64 0, .bool false, .slice none 0 0, .slice none 0 0, .slice none 0 0, .int .i64 0, .int .i64 0] 34)).heap.size = w.heap.size + 1 := World.size_alloc _ _
  obtain ⟨W, hW⟩ : ∃ W, w.alloc (.cells #[.int .i64 0, .int .i64 0, .int .i64 0, .int .i64 0, .int .i64 0, .int .i64 0, .bool false, .string ⟨#[]⟩, .int .i64 0, .int .i64 0, .int .i64 0, .bool false, .slice none 0 0, .slice none 0 0, .slice none 0 0, .int .i64 0, .int .i64 0] 34) = W := ⟨_, rfl⟩
  rw [hW] at HK hb0 hr0 hs0
  have hr1 := hr0.alloc (by omega) (.cells #[.int .i64 17] 3)
  have hal : Below W.heap.size W (W.alloc (.cells #[.int .i64 17] 3)) := (Below.refl _ _).alloc (Nat.le_refl _) _
  have hi1 := int_row W 17
  have hs1 : (W.alloc (.cells #[.int .i64 17] 3)).heap.size = W.heap.size + 1 := World.size_alloc _ _
  obtain ⟨V1, hV1⟩ : ∃ V, W.alloc (.cells #[.int .i64 17] 3) = V := ⟨_, rfl⟩
  obtain ⟨P1, hP1⟩ : ∃ p, W.heap.size = p := ⟨_, rfl⟩
  rw [hV1] at hr1 hal hi1 hs1
  rw [hP1] at hal hi1 hs1 hs0
  have HB1 : Hid (Below w.heap.size w V1) := Lib.hid (hb0.trans (hal.mono (by omega)))
  have HK1 : Hid (Blk V1 w.heap.size 34 #[.int .i64 0, .int .i64 0, .int .i64 0, .int .i64 0, .int .i64 0, .int .i64 0, .bool false, .string ⟨#[]⟩, .int .i64 0, .int .i64 0, .int .i64 0, .bool false, .slice none 0 0, .slice none 0 0, .slice none 0 0, .int .i64 0, .int .i64 0]) := Lib.hid (HK.out.below hal (by omega))
  have HR1 := Lib.hid hr1
  have HN1 : Hid (Calls Tryd.prog 96 #[.slice A bs.length c, .int .i64 0, .slice (some ⟨P1, 0, none⟩) 1 1] V1 (NumsR (numsA [17] [] 0 bs) V1)) := Lib.hid (refnums_any B (P1 + 1) c 1 bs.length 1 0 A (some ⟨P1, 0, none⟩) bs [17] rfl hl (by omega) rfl (by omega) V1 hr1 hi1 (by omega) (by omega))
  rw [hN] at HN1
  have HC1 := Lib.hid (nums_got12 (m := 1) rfl HN1.out)
  clear h hb0 hr0 hr1 hal hi1 hs0 hs1 HN1 HK hN
  go_enter Tryd.func66, Tryd.ntmps66
  go_wp2_with fail
  refine HC1.out.mono ?_
  rintro e1 w1 ⟨A1, c1, rfl, ho1, hb1⟩
  have HB2 := Lib.hid (HB1.out.trans (hb1.mono HB1.out.size))
  have HK2 := Lib.hid (HK1.out.below hb1 HK1.out.lt)
  have hr2 := HR1.out.below (hb1.mono (Nat.le_trans hB (HB1.out.size)))
  obtain ⟨b5, o5, rfl, hb5, hc5⟩ := int_cell (Row.of_own ho1) (by simp)
  have c5' := hc5 0 (by simp)
  simp only [Nat.add_zero, List.getElem_cons_zero] at c5'
  have hk0 : (k == 0) = false := by simpa using hk
  have al2 : Below w1.heap.size w1 (w1.alloc (.cells #[.int .i64 1048575, .int .i64 1048575, .int .i64 1099511627775, .int .i64 1099511627775] 3)) := (Below.refl _ _).alloc (Nat.le_refl _) _
  have hr3 := hr2.alloc (Nat.le_trans hB HB2.out.size) (.cells #[.int .i64 1048575, .int .i64 1048575, .int .i64 1099511627775, .int .i64 1099511627775] 3)
  have hi2 : Row (w1.alloc (.cells #[.int .i64 1048575, .int .i64 1048575, .int .i64 1099511627775, .int .i64 1099511627775] 3)) (w1.heap.size + 1) (some ⟨w1.heap.size, 0, none⟩) (ids4.map iV) := row_cells (xs := ids4.map iV) rfl
  have hs2 : (w1.alloc (.cells #[.int .i64 1048575, .int .i64 1048575, .int .i64 1099511627775, .int .i64 1099511627775] 3)).heap.size = w1.heap.size + 1 := World.size_alloc _ _
  obtain ⟨V2, hV2⟩ : ∃ V, w1.alloc (.cells #[.int .i64 1048575, .int .i64 1048575, .int .i64 1099511627775, .int .i64 1099511627775] 3) = V := ⟨_, rfl⟩
  obtain ⟨P2, hP2⟩ : ∃ p, w1.heap.size = p := ⟨_, rfl⟩
  rw [hV2] at al2 hr3 hi2 hs2
  have HB3 := Lib.hid (HB2.out.trans (al2.mono HB2.out.size))
  have HK3 := Lib.hid (HK2.out.below al2 HK2.out.lt)
  have HO3 := Lib.hid (own_later ho1 al2)
  have hBw := HB2.out.size
  rw [hP2] at al2 hi2 hs2 hBw
  have HN2 : Hid (Calls Tryd.prog 96 #[.slice A bs.length c, .int .i64 (p1 : Int), .slice (some ⟨P2, 0, none⟩) 4 4] V2 (NumsR (numsA ids4 [] p1 (bs.drop p1)) V2)) := Lib.hid (refnums_any B (P2 + 1) c 4 bs.length 4 p1 A (some ⟨P2, 0, none⟩) bs ids4 rfl hl hp1 rfl (by omega) V2 hr3 hi2 (by omega) (by omega))
  rw [hN2] at HN2
  have HC2 := Lib.hid (nums_got12 (m := 4) rfl HN2.out)
  have HK0 := Lib.hid hk
  clear hb1 HB1 HK1 HC1 HR1 hW hV1 hP1 ho1 hc5 hr2 hr3 hi2 hs2 al2 HB2 HK2 HN2 hBw hb5 hk hN2
  go_wp2_with fail
  refine HC2.out.mono ?_
  rintro e2 w2 ⟨A2, c2, rfl, ho2, hb2⟩
  have HB4 := Lib.hid (HB3.out.trans (hb2.mono HB3.out.size))
  have HK4 := Lib.hid (HK3.out.below hb2 HK3.out.lt)
  have ho1' := own_later HO3.out hb2
  obtain ⟨b8, o8, rfl, hb8, hc8⟩ := int_cell (Row.of_own ho2) (by simp)
  obtain ⟨b5', o5', e5, _, hc5⟩ := int_cell (Row.of_own ho1') (by simp)
  simp only [Option.some.injEq, Addr.mk.injEq, and_true] at e5
  obtain ⟨rfl, rfl⟩ := e5
  clear c5'
  obtain ⟨W1, hW1⟩ : ∃ W, w2.drew = W := ⟨_, rfl⟩
  have HB5 : Hid (Below w.heap.size w W1) := Lib.hid (by rw [← hW1]; exact HB4.out.drew)
  have HK5 : Hid (Blk W1 w.heap.size 34 #[.int .i64 0, .int .i64 0, .int .i64 0, .int .i64 0, .int .i64 0, .int .i64 0, .bool false, .string ⟨#[]⟩, .int .i64 0, .int .i64 0, .int .i64 0, .bool false, .slice none 0 0, .slice none 0 0, .slice none 0 0, .int .i64 0, .int .i64 0]) := Lib.hid (by rw [← hW1]; exact HK4.out.drew)
  have c5' : W1.cell? ⟨b5, o5, none⟩ = some (.int .i64 k) := by rw [← hW1]; exact hc5 0 (by simp)
  have f0 : W1.cell? ⟨b8, o8, none⟩ = some (.int .i64 f) := by rw [← hW1]; exact hc8 0 (by simp)
  have f1 : W1.cell? ⟨b8, o8 + 1, none⟩ = some (.int .i64 d) := by rw [← hW1]; exact hc8 1 (by simp)
  have f2 : W1.cell? ⟨b8, o8 + 2, none⟩ = some (.int .i64 ep) := by rw [← hW1]; exact hc8 2 (by simp)
  have f3 : W1.cell? ⟨b8, o8 + 3, none⟩ = some (.int .i64 op) := by rw [← hW1]; exact hc8 3 (by simp)
  have c50 : w2.cell? ⟨b5, o5, none⟩ = some (.int .i64 k) := hc5 0 (by simp)
  have hbox := setCells_box HK5.out #[.int .i64 k, .int .i64 f, .int .i64 d, .int .i64 ep, .int .i64 op, .int .i64 0, .bool false, .string ⟨#[]⟩, .int .i64 0, .int .i64 0, .int .i64 0, .bool false, .slice none 0 0, .slice none 0 0, .slice none 0 0, .int .i64 0, .int .i64 0] rfl
  have HTH := Lib.hid (there_box HK5.out)
  obtain ⟨W2, hW2⟩ : ∃ W, W1.setCells w.heap.size 0 (#[.int .i64 k, .int .i64 f, .int .i64 d, .int .i64 ep, .int .i64 op, .int .i64 0, .bool false, .string ⟨#[]⟩, .int .i64 0, .int .i64 0, .int .i64 0, .bool false, .slice none 0 0, .slice none 0 0, .slice none 0 0, .int .i64 0, .int .i64 0] : Array Value).toList = W := ⟨_, rfl⟩
  rw [hW2] at hbox
  have HW2 := Lib.hid hW2
  have HK6 := Lib.hid hbox.1
  have HB6 := Lib.hid (HB5.out.grown hbox.2 HB5.out.size fun g hg => by cases hg; exact Nat.le_refl _)
  clear hb2 HB3 HK3 HC2 HO3 hV2 hP2 ho1' ho2 hb8 hc8 hc5 hbox hW2 HB4 HK4 HB5 HK5
  go_wp2
  refine RelyJ.wp_region_byJ [[], [(0, 39)], [(1, 40)], [], [(3, 42)], [(4, 43)], [], [(6, 45)], [(7, 46)], [], [(9, 48)], [(10, 49)], [], [(12, 51)], [(13, 52)], [(2, 41), (5, 44), (8, 47), (11, 50), (14, 53)], [], [(15, 54)], [(16, 55)], []] [(0, 39), (1, 40), (2, 41), (3, 42), (4, 43), (5, 44), (6, 45), (7, 46), (8, 47), (9, 48), (10, 49), (11, 50), (12, 51), (13, 52), (14, 53), (15, 54), (16, 55), (18, 3), (19, 4)] (JS (headVal b5 o5 c1 b8 o8 c2 k f d ep op p2) W1 W2 [2, 5, 8, 11, 14] 15 17) (by kernel_rfl) (by kernel_rfl) (by kernel_rfl) (by kernel_rfl) (by kernel_rfl) ?_ ?_ ?_
  · intro vs
    rw [hW1]
    exact JS.start vs
  refine RelyJ.stepsZ_cons (by
    as_aux_lemma =>
    intro S vs w' hS hA hJ
    rw [if_pos (show Region.wanted _ _ = true from rfl)]
    have hj := hJ.plain 0 (by decide)
    refine RelyJ.gives_mono (R' := fun v w'' => v = .slice (some ⟨b5, o5, none⟩) 1 c1 ∧ w'' = w') ?_ (by rintro v w2 ⟨rfl, rfl⟩; exact hj)
    clear hJ hA hS hj
    unfold Rely.gives
    simp only [Rely.sel, List.foldl_cons, List.foldl_nil]
    go_simp
    simp [Rely.GivesR]) ?_
  refine RelyJ.stepsZ_cons (by
    as_aux_lemma =>
    intro S vs w' hS hA hJ
    rw [if_pos (show Region.wanted _ _ = true from rfl)]
    have x0 : vs 0 = .slice (some ⟨b5, o5, none⟩) 1 c1 := hJ.sp 0 (hA ⟨0, Ground.data⟩ (by simp) rfl) (by decide)
    have hj := hJ.plain 1 (by decide)
    refine RelyJ.gives_mono (R' := fun v w'' => v = .pointer (some ⟨b5, o5, none⟩) ∧ w'' = w') ?_ (by rintro v w2 ⟨rfl, rfl⟩; exact hj)
    clear hJ hA hS hj
    unfold Rely.gives
    simp only [Rely.sel, List.foldl_cons, List.foldl_nil, x0]
    go_simp
    simp [Rely.GivesR]) ?_
  refine RelyJ.stepsZ_cons (by
    as_aux_lemma =>
    intro S vs w' hS hA hJ
    rw [if_pos (show Region.wanted _ _ = true from rfl)]
    have x1 : vs 1 = .pointer (some ⟨b5, o5, none⟩) := hJ.sp 1 (hA ⟨1, Ground.data⟩ (by simp) rfl) (by decide)
    have hj := hJ.plain 2 (by decide)
    have hw := hJ.w1 (i := 2) (by simp) hS
    subst hw
    refine RelyJ.gives_mono (R' := fun v w'' => v = .int .i64 k ∧ w'' = w') ?_ (by rintro v w2 ⟨rfl, rfl⟩; exact hj)
    clear hJ hA hS hj
    unfold Rely.gives
    simp only [Rely.sel, List.foldl_cons, List.foldl_nil, x1]
    go_simp
    simp [Rely.GivesR]) ?_
  refine RelyJ.stepsZ_cons (by
    as_aux_lemma =>
    intro S vs w' hS hA hJ
    rw [if_pos (show Region.wanted _ _ = true from rfl)]
    have hj := hJ.plain 3 (by decide)
    refine RelyJ.gives_mono (R' := fun v w'' => v = .slice (some ⟨b8, o8, none⟩) 4 c2 ∧ w'' = w') ?_ (by rintro v w2 ⟨rfl, rfl⟩; exact hj)
    clear hJ hA hS hj
    unfold Rely.gives
    simp only [Rely.sel, List.foldl_cons, List.foldl_nil]
    go_simp
    simp [Rely.GivesR]) ?_
  refine RelyJ.stepsZ_cons (by
    as_aux_lemma =>
    intro S vs w' hS hA hJ
    rw [if_pos (show Region.wanted _ _ = true from rfl)]
    have x3 : vs 3 = .slice (some ⟨b8, o8, none⟩) 4 c2 := hJ.sp 3 (hA ⟨3, Ground.data⟩ (by simp) rfl) (by decide)
    have hj := hJ.plain 4 (by decide)
    refine RelyJ.gives_mono (R' := fun v w'' => v = .pointer (some ⟨b8, o8, none⟩) ∧ w'' = w') ?_ (by rintro v w2 ⟨rfl, rfl⟩; exact hj)
    clear hJ hA hS hj
    unfold Rely.gives
    simp only [Rely.sel, List.foldl_cons, List.foldl_nil, x3]
    go_simp
    simp [Rely.GivesR]) ?_
  refine RelyJ.stepsZ_cons (by
    as_aux_lemma =>
    intro S vs w' hS hA hJ
    rw [if_pos (show Region.wanted _ _ = true from rfl)]
    have x4 : vs 4 = .pointer (some ⟨b8, o8, none⟩) := hJ.sp 4 (hA ⟨4, Ground.data⟩ (by simp) rfl) (by decide)
    have hj := hJ.plain 5 (by decide)
    have hw := hJ.w1 (i := 5) (by simp) hS
    subst hw
    refine RelyJ.gives_mono (R' := fun v w'' => v = .int .i64 f ∧ w'' = w') ?_ (by rintro v w2 ⟨rfl, rfl⟩; exact hj)
    clear hJ hA hS hj
    unfold Rely.gives
    simp only [Rely.sel, List.foldl_cons, List.foldl_nil, x4]
    go_simp
    simp [Rely.GivesR]) ?_
  refine RelyJ.stepsZ_cons (by
    as_aux_lemma =>
    intro S vs w' hS hA hJ
    rw [if_pos (show Region.wanted _ _ = true from rfl)]
    have hj := hJ.plain 6 (by decide)
    refine RelyJ.gives_mono (R' := fun v w'' => v = .slice (some ⟨b8, o8, none⟩) 4 c2 ∧ w'' = w') ?_ (by rintro v w2 ⟨rfl, rfl⟩; exact hj)
    clear hJ hA hS hj
    unfold Rely.gives
    simp only [Rely.sel, List.foldl_cons, List.foldl_nil]
    go_simp
    simp [Rely.GivesR]) ?_
  refine RelyJ.stepsZ_cons (by
    as_aux_lemma =>
    intro S vs w' hS hA hJ
    rw [if_pos (show Region.wanted _ _ = true from rfl)]
    have x6 : vs 6 = .slice (some ⟨b8, o8, none⟩) 4 c2 := hJ.sp 6 (hA ⟨6, Ground.data⟩ (by simp) rfl) (by decide)
    have hj := hJ.plain 7 (by decide)
    refine RelyJ.gives_mono (R' := fun v w'' => v = .pointer (some ⟨b8, o8 + 1, none⟩) ∧ w'' = w') ?_ (by rintro v w2 ⟨rfl, rfl⟩; exact hj)
    clear hJ hA hS hj
    unfold Rely.gives
    simp only [Rely.sel, List.foldl_cons, List.foldl_nil, x6]
    go_simp
    simp [Rely.GivesR]) ?_
  refine RelyJ.stepsZ_cons (by
    as_aux_lemma =>
    intro S vs w' hS hA hJ
    rw [if_pos (show Region.wanted _ _ = true from rfl)]
    have x7 : vs 7 = .pointer (some ⟨b8, o8 + 1, none⟩) := hJ.sp 7 (hA ⟨7, Ground.data⟩ (by simp) rfl) (by decide)
    have hj := hJ.plain 8 (by decide)
    have hw := hJ.w1 (i := 8) (by simp) hS
    subst hw
    refine RelyJ.gives_mono (R' := fun v w'' => v = .int .i64 d ∧ w'' = w') ?_ (by rintro v w2 ⟨rfl, rfl⟩; exact hj)
    clear hJ hA hS hj
    unfold Rely.gives
    simp only [Rely.sel, List.foldl_cons, List.foldl_nil, x7]
    go_simp
    simp [Rely.GivesR]) ?_
  refine RelyJ.stepsZ_cons (by
    as_aux_lemma =>
    intro S vs w' hS hA hJ
    rw [if_pos (show Region.wanted _ _ = true from rfl)]
    have hj := hJ.plain 9 (by decide)
    refine RelyJ.gives_mono (R' := fun v w'' => v = .slice (some ⟨b8, o8, none⟩) 4 c2 ∧ w'' = w') ?_ (by rintro v w2 ⟨rfl, rfl⟩; exact hj)
    clear hJ hA hS hj
    unfold Rely.gives
    simp only [Rely.sel, List.foldl_cons, List.foldl_nil]
    go_simp
    simp [Rely.GivesR]) ?_
  refine RelyJ.stepsZ_cons (by
    as_aux_lemma =>
    intro S vs w' hS hA hJ
    rw [if_pos (show Region.wanted _ _ = true from rfl)]
    have x9 : vs 9 = .slice (some ⟨b8, o8, none⟩) 4 c2 := hJ.sp 9 (hA ⟨9, Ground.data⟩ (by simp) rfl) (by decide)
    have hj := hJ.plain 10 (by decide)
    refine RelyJ.gives_mono (R' := fun v w'' => v = .pointer (some ⟨b8, o8 + 2, none⟩) ∧ w'' = w') ?_ (by rintro v w2 ⟨rfl, rfl⟩; exact hj)
    clear hJ hA hS hj
    unfold Rely.gives
    simp only [Rely.sel, List.foldl_cons, List.foldl_nil, x9]
    go_simp
    simp [Rely.GivesR]) ?_
  refine RelyJ.stepsZ_cons (by
    as_aux_lemma =>
    intro S vs w' hS hA hJ
    rw [if_pos (show Region.wanted _ _ = true from rfl)]
    have x10 : vs 10 = .pointer (some ⟨b8, o8 + 2, none⟩) := hJ.sp 10 (hA ⟨10, Ground.data⟩ (by simp) rfl) (by decide)
    have hj := hJ.plain 11 (by decide)
    have hw := hJ.w1 (i := 11) (by simp) hS
    subst hw
    refine RelyJ.gives_mono (R' := fun v w'' => v = .int .i64 ep ∧ w'' = w') ?_ (by rintro v w2 ⟨rfl, rfl⟩; exact hj)
    clear hJ hA hS hj
    unfold Rely.gives
    simp only [Rely.sel, List.foldl_cons, List.foldl_nil, x10]
    go_simp
    simp [Rely.GivesR]) ?_
  refine RelyJ.stepsZ_cons (by
    as_aux_lemma =>
    intro S vs w' hS hA hJ
    rw [if_pos (show Region.wanted _ _ = true from rfl)]
    have hj := hJ.plain 12 (by decide)
    refine RelyJ.gives_mono (R' := fun v w'' => v = .slice (some ⟨b8, o8, none⟩) 4 c2 ∧ w'' = w') ?_ (by rintro v w2 ⟨rfl, rfl⟩; exact hj)
    clear hJ hA hS hj
    unfold Rely.gives
    simp only [Rely.sel, List.foldl_cons, List.foldl_nil]
    go_simp
    simp [Rely.GivesR]) ?_
  refine RelyJ.stepsZ_cons (by
    as_aux_lemma =>
    intro S vs w' hS hA hJ
    rw [if_pos (show Region.wanted _ _ = true from rfl)]
    have x12 : vs 12 = .slice (some ⟨b8, o8, none⟩) 4 c2 := hJ.sp 12 (hA ⟨12, Ground.data⟩ (by simp) rfl) (by decide)
    have hj := hJ.plain 13 (by decide)
    refine RelyJ.gives_mono (R' := fun v w'' => v = .pointer (some ⟨b8, o8 + 3, none⟩) ∧ w'' = w') ?_ (by rintro v w2 ⟨rfl, rfl⟩; exact hj)
    clear hJ hA hS hj
    unfold Rely.gives
    simp only [Rely.sel, List.foldl_cons, List.foldl_nil, x12]
    go_simp
    simp [Rely.GivesR]) ?_
  refine RelyJ.stepsZ_cons (by
    as_aux_lemma =>
    intro S vs w' hS hA hJ
    rw [if_pos (show Region.wanted _ _ = true from rfl)]
    have x13 : vs 13 = .pointer (some ⟨b8, o8 + 3, none⟩) := hJ.sp 13 (hA ⟨13, Ground.data⟩ (by simp) rfl) (by decide)
    have hj := hJ.plain 14 (by decide)
    have hw := hJ.w1 (i := 14) (by simp) hS
    subst hw
    refine RelyJ.gives_mono (R' := fun v w'' => v = .int .i64 op ∧ w'' = w') ?_ (by rintro v w2 ⟨rfl, rfl⟩; exact hj)
    clear hJ hA hS hj
    unfold Rely.gives
    simp only [Rely.sel, List.foldl_cons, List.foldl_nil, x13]
    go_simp
    simp [Rely.GivesR]) ?_
  refine RelyJ.stepsZ_cons (by
    as_aux_lemma =>
    intro S vs w' hS hA hJ
    rw [if_pos (show Region.wanted _ _ = true from rfl)]
    have x2 : vs 2 = .int .i64 k := hJ.sp 2 (hA ⟨2, Ground.data⟩ (by simp) rfl) (by decide)
    have x5 : vs 5 = .int .i64 f := hJ.sp 5 (hA ⟨5, Ground.data⟩ (by simp) rfl) (by decide)
    have x8 : vs 8 = .int .i64 d := hJ.sp 8 (hA ⟨8, Ground.data⟩ (by simp) rfl) (by decide)
    have x11 : vs 11 = .int .i64 ep := hJ.sp 11 (hA ⟨11, Ground.data⟩ (by simp) rfl) (by decide)
    have x14 : vs 14 = .int .i64 op := hJ.sp 14 (hA ⟨14, Ground.data⟩ (by simp) rfl) (by decide)
    have hj := hJ.build (by decide) (by
      intro i hi
      simp only [List.mem_cons, List.not_mem_nil, or_false] at hi
      rcases hi with rfl | rfl | rfl | rfl | rfl
      · exact hA ⟨2, Ground.data⟩ (by simp) rfl
      · exact hA ⟨5, Ground.data⟩ (by simp) rfl
      · exact hA ⟨8, Ground.data⟩ (by simp) rfl
      · exact hA ⟨11, Ground.data⟩ (by simp) rfl
      · exact hA ⟨14, Ground.data⟩ (by simp) rfl)
    clear hJ hA hS
    simp only [Rely.sel, List.foldl_cons, List.foldl_nil, x2, x5, x8, x11, x14]
    exact gives_build12 34 _ rfl #[.int .i64 k, .int .i64 f, .int .i64 d, .int .i64 ep, .int .i64 op, .int .i64 0, .bool false, .string ⟨#[]⟩, .int .i64 0, .int .i64 0, .int .i64 0, .bool false, .slice none 0 0, .slice none 0 0, .slice none 0 0, .int .i64 0, .int .i64 0] [(0, .int .i64 k), (1, .int .i64 f), (2, .int .i64 d), (3, .int .i64 ep), (4, .int .i64 op)] (by go_simp) (by kernel_rfl) hj) ?_
  refine RelyJ.stepsZ_cons (by
    as_aux_lemma =>
    intro S vs w' hS hA hJ
    rw [if_pos (show Region.wanted _ _ = true from rfl)]
    have hj := hJ.plain 16 (by decide)
    refine RelyJ.gives_mono (R' := fun v w'' => v = .int .i64 (p2 : Int) ∧ w'' = w') ?_ (by rintro v w2 ⟨rfl, rfl⟩; exact hj)
    clear hJ hA hS hj
    unfold Rely.gives
    simp only [Rely.sel, List.foldl_cons, List.foldl_nil]
    go_simp
    simp [Rely.GivesR]) ?_
  refine RelyJ.stepsZ_cons (by
    as_aux_lemma =>
    intro S vs w' hS hA hJ
    rw [if_pos (show Region.wanted _ _ = true from rfl)]
    have x15 : vs 15 = .agg #[.int .i64 k, .int .i64 f, .int .i64 d, .int .i64 ep, .int .i64 op, .int .i64 0, .bool false, .string ⟨#[]⟩, .int .i64 0, .int .i64 0, .int .i64 0, .bool false, .slice none 0 0, .slice none 0 0, .slice none 0 0, .int .i64 0, .int .i64 0] := hJ.sp 15 (hA ⟨15, Ground.data⟩ (by simp) rfl) (by decide)
    have hb15 := hA ⟨15, Ground.data⟩ (by simp) rfl
    have hw := hJ.w1s hS
    have hj := fun u => hJ.store (by decide) hb15 u
    subst hw
    clear hJ hA hS hb15
    simp only [Rely.sel, List.foldl_cons, List.foldl_nil, x15]
    refine gives_store12 34 _ _ rfl w.heap.size 0 #[.int .i64 k, .int .i64 f, .int .i64 d, .int .i64 ep, .int .i64 op, .int .i64 0, .bool false, .string ⟨#[]⟩, .int .i64 0, .int .i64 0, .int .i64 0, .bool false, .slice none 0 0, .slice none 0 0, .slice none 0 0, .int .i64 0, .int .i64 0] rfl rfl HTH.out (by kernel_rfl) (by kernel_rfl) ?_
    rw [HW2.out]
    exact hj _) ?_
  refine RelyJ.stepsZ_cons (by
    as_aux_lemma =>
    intro S vs w' hS hA hJ
    rw [if_pos (show Region.wanted _ _ = true from rfl)]
    have x16 : vs 16 = .int .i64 (p2 : Int) := hJ.sp 16 (hA ⟨16, Ground.data⟩ (by simp) rfl) (by decide)
    have hj := hJ.plain 18 (by decide)
    refine RelyJ.gives_mono (R' := fun v w'' => v = .int .i64 (p2 : Int) ∧ w'' = w') ?_ (by rintro v w2 ⟨rfl, rfl⟩; exact hj)
    clear hJ hA hS hj
    unfold Rely.gives
    simp only [Rely.sel, List.foldl_cons, List.foldl_nil, x16]
    go_simp
    simp [Rely.GivesR]) ?_
  refine RelyJ.stepsZ_cons (by
    as_aux_lemma =>
    intro S vs w' hS hA hJ
    rw [if_pos (show Region.wanted _ _ = true from rfl)]
    have hj := hJ.plain 19 (by decide)
    refine RelyJ.gives_mono (R' := fun v w'' => v = .int .i64 0 ∧ w'' = w') ?_ (by rintro v w2 ⟨rfl, rfl⟩; exact hj)
    clear hJ hA hS hj
    unfold Rely.gives
    simp only [Rely.sel, List.foldl_cons, List.foldl_nil]
    go_simp
    simp [Rely.GivesR]) ?_
  exact RelyJ.stepsZ_nil
  intro S vs w' hS hJ
  have x0 : vs 0 = .slice (some ⟨b5, o5, none⟩) 1 c1 := hJ.sp 0 (hS 0 (by decide)) (by decide)
  have x1 : vs 1 = .pointer (some ⟨b5, o5, none⟩) := hJ.sp 1 (hS 1 (by decide)) (by decide)
  have x2 : vs 2 = .int .i64 k := hJ.sp 2 (hS 2 (by decide)) (by decide)
  have x3 : vs 3 = .slice (some ⟨b8, o8, none⟩) 4 c2 := hJ.sp 3 (hS 3 (by decide)) (by decide)
  have x4 : vs 4 = .pointer (some ⟨b8, o8, none⟩) := hJ.sp 4 (hS 4 (by decide)) (by decide)
  have x5 : vs 5 = .int .i64 f := hJ.sp 5 (hS 5 (by decide)) (by decide)
  have x6 : vs 6 = .slice (some ⟨b8, o8, none⟩) 4 c2 := hJ.sp 6 (hS 6 (by decide)) (by decide)
  have x7 : vs 7 = .pointer (some ⟨b8, o8 + 1, none⟩) := hJ.sp 7 (hS 7 (by decide)) (by decide)
  have x8 : vs 8 = .int .i64 d := hJ.sp 8 (hS 8 (by decide)) (by decide)
  have x9 : vs 9 = .slice (some ⟨b8, o8, none⟩) 4 c2 := hJ.sp 9 (hS 9 (by decide)) (by decide)
  have x10 : vs 10 = .pointer (some ⟨b8, o8 + 2, none⟩) := hJ.sp 10 (hS 10 (by decide)) (by decide)
  have x11 : vs 11 = .int .i64 ep := hJ.sp 11 (hS 11 (by decide)) (by decide)
  have x12 : vs 12 = .slice (some ⟨b8, o8, none⟩) 4 c2 := hJ.sp 12 (hS 12 (by decide)) (by decide)
  have x13 : vs 13 = .pointer (some ⟨b8, o8 + 3, none⟩) := hJ.sp 13 (hS 13 (by decide)) (by decide)
  have x14 : vs 14 = .int .i64 op := hJ.sp 14 (hS 14 (by decide)) (by decide)
  have x15 : vs 15 = .agg #[.int .i64 k, .int .i64 f, .int .i64 d, .int .i64 ep, .int .i64 op, .int .i64 0, .bool false, .string ⟨#[]⟩, .int .i64 0, .int .i64 0, .int .i64 0, .bool false, .slice none 0 0, .slice none 0 0, .slice none 0 0, .int .i64 0, .int .i64 0] := hJ.sp 15 (hS 15 (by decide)) (by decide)
  have x16 : vs 16 = .int .i64 (p2 : Int) := hJ.sp 16 (hS 16 (by decide)) (by decide)
  have x18 : vs 18 = .int .i64 (p2 : Int) := hJ.sp 18 (hS 18 (by decide)) (by decide)
  have x19 : vs 19 = .int .i64 0 := hJ.sp 19 (hS 19 (by decide)) (by decide)
  have hw := hJ.w2 (hS 17 (by decide))
  subst hw
  simp only [Rely.sel, List.foldl_cons, List.foldl_nil, x0, x1, x2, x3, x4, x5, x6, x7, x8, x9, x10, x11, x12, x13, x14, x15, x16, x18, x19]
  simp only [Act.put, List.setIfInBounds_toArray, List.set_cons_succ, List.set_cons_zero]
  clear hS hJ x0 x1 x2 x3 x4 x5 x6 x7 x8 x9 x10 x11 x12 x13 x14 x15 x16 x18 x19
  go_wp2
  exact bodyPost_ret (v := .tuple #[.agg #[.int .i64 k, .int .i64 f, .int .i64 d, .int .i64 ep, .int .i64 op, .int .i64 0, .bool false, .string ⟨#[]⟩, .int .i64 0, .int .i64 0, .int .i64 0, .bool false, .slice none 0 0, .slice none 0 0, .slice none 0 0, .int .i64 0, .int .i64 0], .int .i64 (p2 : Int), .int .i64 0]) (results_cell_row3 (p := 2) (q := 3) (r := 4) (ty := 34) Tryd.results66 _ _ w.heap.size 34 #[.int .i64 k, .int .i64 f, .int .i64 d, .int .i64 ep, .int .i64 op, .int .i64 0, .bool false, .string ⟨#[]⟩, .int .i64 0, .int .i64 0, .int .i64 0, .bool false, .slice none 0 0, .slice none 0 0, .slice none 0 0, .int .i64 0, .int .i64 0] (0, 0) _ rfl HK6.out Tryd.underlying34 rfl (by kernel_rfl)) rfl ⟨rfl, HB6.out⟩
end Go.Proofs.YtgmennblbeefhaaDoor
namespace Go.Proofs.YtgmennblbeefhaaDoor
open Go.RowKit Mem Be Rg
set_option maxRecDepth 100000
set_option maxHeartbeats 8000000
set_option linter.unusedVariables false
/-- So many entries, behind those that there are: they and the place behind; or none, and the place that it began at. -/
def entsA (z : Nat) : Nat → List EntP → Nat → List UInt8 → List EntP × Nat × Int
  | 0, acc, p, _ => (acc, p, 0)
  | n + 1, acc, p, bs => if (refE bs).2.2 ≠ 0 then ([], z, (refE bs).2.2) else entsA z n (acc ++ [(refE bs).1]) (p + (refE bs).2.1) (bs.drop (refE bs).2.1)
theorem entsA_times (z : Nat) : ∀ (n : Nat) (acc : List EntP) (p : Nat) (bs : List UInt8), entsA z n acc p bs = if (timesP refE n bs).2.2 ≠ 0 then ([], z, (timesP refE n bs).2.2) else (acc ++ (timesP refE n bs).1, p + (timesP refE n bs).2.1, 0)
  | 0, acc, p, bs => by simp [entsA, timesP]
  | n + 1, acc, p, bs => by
    obtain ⟨⟨x, q, e⟩, h0⟩ : ∃ y, refE bs = y := ⟨_, rfl⟩
    obtain ⟨⟨l, k, f⟩, h1⟩ : ∃ y, timesP refE n (bs.drop q) = y := ⟨_, rfl⟩
    have ht : timesP refE (n + 1) bs = if e ≠ 0 then ([], 0, e) else if f ≠ 0 then ([], 0, f) else (x :: l, q + k, 0) := by simp only [timesP, h0, h1]
    have hE : entsA z (n + 1) acc p bs = if e ≠ 0 then ([], z, e) else entsA z n (acc ++ [x]) (p + q) (bs.drop q) := by simp only [entsA, h0]
    by_cases he : e = 0
    · subst he
      rw [if_neg (by simp)] at hE ht
      by_cases hf : f = 0
      · subst hf
        rw [if_neg (by simp)] at ht
        rw [ht, hE, entsA_times z n, h1]
        simp [Nat.add_assoc]
      · rw [if_pos hf] at ht
        rw [ht, hE, entsA_times z n, h1]
        simp [hf]
    · rw [if_pos he] at hE ht
      rw [ht, hE]
      simp [he]
def listA (p0 : Nat) (bs : List UInt8) : List EntP × Nat × Int := if (getL12 bs).2.2 = 0 then ((getL12 bs).1.2, p0 + (getL12 bs).2.1, 0) else ([], p0, (getL12 bs).2.2)
theorem list_no {bs : List UInt8} {n0 : Int} {q : Nat} {e : Int} (p0 : Nat) (h : getB 1001 bs = (n0, q, e)) (he : e ≠ 0) : listA p0 bs = ([], p0, e) := by
  have := bind_no12 (g2 := fun n => timesP refE n.toNat) h he
  unfold listA
  rw [show (getL12 bs).2.2 = e from this, if_neg he]
theorem list_yes {bs : List UInt8} {n0 : Int} {q : Nat} (p0 : Nat) (h : getB 1001 bs = (n0, q, 0)) : listA p0 bs = entsA p0 n0.toNat [] (p0 + q) (bs.drop q) := by
  have hb := bind_yes (g2 := fun n : Int => timesP refE n.toNat) h
  have hb' : getL12 bs = bindP (getB 1001) (fun n : Int => timesP refE n.toNat) bs := rfl
  rw [hb] at hb'
  unfold listA
  rw [hb', entsA_times]
  simp only
  by_cases h2 : (timesP refE n0.toNat (bs.drop q)).2.2 = 0
  · simp [h2, Nat.add_assoc]
  · simp [h2]
theorem refE_ok {bs : List UInt8} {x : EntP} {q : Nat} (h : refE bs = (x, q, 0)) : x.v.length ≤ 65536 ∧ x.k.length ≤ 65536 := by
  have h1 := rightE_yes (goodE.back bs x q h).1
  omega
def ListR (r : List EntP × Nat × Int) (w : World) (E : Ending) (w' : World) : Prop :=
  ∃ A c, ∃ us : List EV, E = .returned (.tuple #[.slice A us.length c, .int .i64 (r.2.1 : Int), .int .i64 r.2.2]) ∧ us.map Prod.fst = r.1 ∧ us.length ≤ 1000 ∧ (∀ x ∈ us, x.1.v.length ≤ 65536 ∧ x.1.k.length ≤ 65536) ∧
    w'.ownsRow w.heap.size 28 6 (.slice A us.length c) us.length (entsC us) ∧ EntsO w' w.heap.size us ∧ Below w.heap.size w w'
theorem listr_err {p0 : Nat} {e : Int} {w w' : World} {R : List EntP × Nat × Int} (h : R = ([], p0, e)) (hb : Below w.heap.size w w') : ListR R w (.returned (.tuple #[.slice none 0 0, .int .i64 (p0 : Int), .int .i64 e])) w' := by
  subst h
  exact ⟨none, 0, [], rfl, rfl, by simp, (fun x h => by cases h), World.ownsRow_nil _ _ _ _, entsO_nil _ _, hb⟩
theorem reflist_any (n c p0 : Nat) (A : Option Addr) (bs : List UInt8) (hn : n = bs.length) (hl : n ≤ 1000000) (hc : n ≤ c) (hp0 : p0 ≤ n) (w : World) (h : Row w w.heap.size A (bs.map byteV)) :
    Calls Tryd.prog 70 #[.slice A n c, .int .i64 (p0 : Int)] w (ListR (listA p0 (bs.drop p0)) w) := by
  obtain ⟨i0, hi0, hz0, hz1, hz2⟩ := info_parts info_ent
  obtain ⟨⟨n0, q, e⟩, hg⟩ : ∃ y, getB 1001 (bs.drop p0) = y := ⟨_, rfl⟩
  have hgi := getB_in 1001 (bs.drop p0)
  have hge := getB_err 1001 (bs.drop p0)
  have HC := Lib.hid (refgetnum_any w.heap.size c n p0 1000 A bs w h hn (by omega))
  rw [show getB (1000 + 1) (bs.drop p0) = (n0, q, e) from hg] at HC
  rw [hg] at hgi hge
  unfold At3 three at HC
  simp only [List.length_drop] at HC hgi hge
  have HRB := Lib.hid h
  have HN := Lib.hid hn
  clear h
  by_cases he : e = 0
  · subst he
    have hn0 := (hge.resolve_right (fun h => by rcases h.2.2 with h | h <;> cases h)).2.2.2
    have hR := list_yes p0 hg
    obtain ⟨N, rfl⟩ : ∃ N : Nat, n0 = (N : Int) := ⟨n0.toNat, by omega⟩
    have hNN : N ≤ 1000 := by omega
    have hNi : (N : Int) ≤ 1000 := by omega
    rw [Int.toNat_natCast, List.drop_drop] at hR
    obtain ⟨R, hRR⟩ : ∃ r, listA p0 (bs.drop p0) = r := ⟨_, rfl⟩
    rw [hRR] at hR ⊢
    obtain ⟨pq, hpq⟩ : ∃ y, p0 + q = y := ⟨_, rfl⟩
    rw [hpq] at hR HC
    have hpn : pq ≤ n := by omega
    have HT := Lib.hid hR
    clear hge hgi hn0 hR hRR hg hn
    go_enter Tryd.func70, Tryd.ntmps70
    go_wp2_with fail
    refine HC.out.mono ?_
    rintro e w1 ⟨rfl, rfl⟩
    clear HC hpq
    go_wp2_with fail
    go_loopg [8, 10, 11] N (fun gk tv v i wr => ∃ (k p : Nat) (us : List EV) (A2 : Option Addr) (c2 : Nat), k + gk = N ∧ tv = .int .i64 p ∧ v = .slice A2 k c2 ∧ i = .int .i64 k ∧ p ≤ n ∧ Hid (us.length = k) ∧ Hid (R = entsA p0 gk (us.map Prod.fst) p (bs.drop p)) ∧
      Hid (wr.ownsRow w.heap.size 28 6 (.slice A2 k c2) k (entsC us)) ∧ Hid (EntsO wr w.heap.size us) ∧ Hid (∀ x ∈ us, x.1.v.length ≤ 65536 ∧ x.1.k.length ≤ 65536) ∧ Hid (Below w.heap.size w wr))
    case atStart => exact ⟨0, pq, [], none, 0, by omega, rfl, rfl, rfl, hpn, Lib.hid rfl, HT, Lib.hid (World.ownsRow_nil _ _ _ _), Lib.hid (entsO_nil _ _), Lib.hid (fun x h => by cases h), Lib.hid (Below.refl _ _)⟩
    case round =>
      obtain ⟨k, p, us, A2, c2, hkg, rfl, rfl, rfl, hpn2, HUL, HTS, HO, HE, HLN, HB⟩ := hrel
      clear HT
      by_cases hk : k < N
      · obtain ⟨g, rfl⟩ : ∃ g, gk = g + 1 := ⟨gk - 1, by omega⟩
        have HCG := Lib.hid (refgetat_any n c p A bs HN.out hl hc hpn2 wr ((HRB.out.below HB.out).more HB.out.size))
        have hts := HTS.out
        unfold entsA at hts
        obtain ⟨⟨⟨xk, xs, xu, xo, xh, xv⟩, q3, e3⟩, hse⟩ : ∃ y, refE (bs.drop p) = y := ⟨_, rfl⟩
        rw [hse] at hts HCG
        simp only at hts
        have hki : (k : Int) < (N : Int) := by omega
        have hki0 : (0 : Int) ≤ (k : Int) := by omega
        by_cases he : e3 = 0
        · subst he
          have hbk := (goodE.back _ _ _ hse).2.1
          rw [List.length_drop] at hbk
          have HLE := Lib.hid (refE_ok hse)
          rw [if_neg (by simp), List.drop_drop] at hts
          unfold RefGotAt at HCG
          simp only at HCG
          obtain ⟨pq3, hpq3⟩ : ∃ y, p + q3 = y := ⟨_, rfl⟩
          rw [hpq3] at HCG hts
          have hpn3 : pq3 ≤ n := by have := HN.out; omega
          have HTS2 := Lib.hid hts
          clear hts hse HTS hbk hpq3
          go_wp2_with fail
          refine HCG.out.mono ?_
          rintro e w4 ⟨A4, c4, rfl, ho4, hb4⟩
          obtain ⟨y, hy⟩ : ∃ y : EV, y = (⟨xk, xs, xu, xo, xh, xv⟩, A4, c4) := ⟨_, rfl⟩
          have hO4 : OwnE w4 wr.heap.size y := by rw [hy]; exact ho4
          have HB4 : Hid (Below w.heap.size w w4) := Lib.hid (HB.out.trans (hb4.mono HB.out.size))
          have HOX : Hid (w4.ownsRow w.heap.size 28 6 (.slice A2 k c2) k (entsC us)) := Lib.hid (ownLater HO.out hb4)
          have HEX : Hid (EntsO w4 w.heap.size (us ++ [y])) := Lib.hid (entsO_app (entsO_below HE.out hb4) (entsO_one (ownBase hO4 HB.out.size)))
          have HLX : Hid (∀ x ∈ us ++ [y], x.1.v.length ≤ 65536 ∧ x.1.k.length ≤ 65536) := Lib.hid fun x hx => by
            rcases List.mem_append.1 hx with h | h
            · exact HLN.out x h
            · obtain rfl : x = y := by simpa using h
              rw [hy]; exact HLE.out
          subst hy
          clear ho4 hb4 hO4 HCG HO HE HLN HB HLE
          have HB2 : Hid (∀ o1 o2, Below w4.heap.size w4 ((w4.alloc o1).alloc o2)) := Lib.hid fun o1 o2 => ((Below.refl _ _).alloc (Nat.le_refl _) _).alloc (by simp) _
          have HO2 : Hid (∀ o1 o2, ((w4.alloc o1).alloc o2).ownsRow w.heap.size 28 6 (.slice A2 k c2) k (entsC us)) := Lib.hid fun o1 o2 => ownLater HOX.out (HB2.out o1 o2)
          have HE2 : Hid (∀ o1 o2, EntsO ((w4.alloc o1).alloc o2) w.heap.size (us ++ [(⟨xk, xs, xu, xo, xh, xv⟩, A4, c4)])) := Lib.hid fun o1 o2 => entsO_below HEX.out (HB2.out o1 o2)
          have HBL : Hid (∀ o1, Blk ((w4.alloc o1).alloc (.cells ⟨entC (⟨xk, xs, xu, xo, xh, xv⟩, A4, c4)⟩ 28)) (w4.heap.size + 1) 28 ⟨entC (⟨xk, xs, xu, xo, xh, xv⟩, A4, c4)⟩) := Lib.hid fun o1 => blk_at (by simp) (Blk.new _ _ _)
          have hsz4 := HB4.out.size
          clear HOX HEX
          go_wp2_with (at_builtin; refine wpList_appS (P := Tryd.prog) (by rfl) _ _ _ (by rfl) w.heap.size 28 i0 (evV (evN [])) 6 72 Tryd.underlying29 hi0 hz0 hz1 hz2 rfl (by decide) _ k (entsC us) (by rfl) (by exact HO2.out _ _) (w4.heap.size + 2) (some ⟨w4.heap.size + 1, 0, none⟩) 1 1 (entsC [(⟨xk, xs, xu, xo, xh, xv⟩, A4, c4)]) (by rfl) (by rfl) (by exact ent_lit (HBL.out _) (by omega)) (entsC_one _) (by unfold maxLen; omega) (by omega) (by simp; omega) ?_)
          intro v' w6 hown hgr hat
          obtain ⟨A6, c6, rfl, _, _⟩ := ownShape hown
          have HO6 := Lib.hid hown
          have HE6 : Hid (EntsO w6 w.heap.size (us ++ [(⟨xk, xs, xu, xo, xh, xv⟩, A4, c4)])) := Lib.hid (entsO_grown (HE2.out _ _) (HO2.out _ _) (by decide) hgr)
          have HB6 : Hid (Below w.heap.size w w6) := Lib.hid ((HB4.out.trans ((HB2.out _ _).mono hsz4)).grown hgr (by simp; omega) fun g hg => ((HO2.out (.cells #[] 0) (.cells #[] 0)).lt g hg).1)
          have HTS6 : Hid (R = entsA p0 g ((us ++ [((⟨xk, xs, xu, xo, xh, xv⟩ : EntP), A4, c4)]).map Prod.fst) pq3 (bs.drop pq3)) := Lib.hid (by have := HTS2.out; simpa using this)
          clear hown hgr hat HTS2 HO2 HE2 HBL HB2 HB4
          go_wp2
          go_roundg g
          case rel => exact ⟨k + 1, pq3, us ++ [(⟨xk, xs, xu, xo, xh, xv⟩, A4, c4)], A6, c6, by omega, rfl, rfl, by go_num, hpn3, Lib.hid (by rw [List.length_append, HUL.out]; rfl), HTS6, Lib.hid (by rw [entsC_app]; exact HO6.out), HE6, HLX, HB6⟩
          case measure => omega
        · have HTS6 : Hid (R = ([], p0, e3)) := Lib.hid (by rw [if_pos he] at hts; exact hts)
          have hne : (e3 != 0) = true := by simpa using he
          clear hts hse HTS HO HE HLN he
          go_wp2_with fail
          refine HCG.out.mono ?_
          rintro e w4 ⟨A4, c4, rfl, ho4, hb4⟩
          have HB4 : Hid (Below w.heap.size w w4) := Lib.hid (HB.out.trans (hb4.mono HB.out.size))
          clear ho4 hb4 HCG HB
          go_wp2
          exact bodyPost_ret (v := .tuple #[.slice none 0 0, .int .i64 (p0 : Int), .int .i64 e3]) (by simp [results, Tryd.results70, go_sem]) rfl (listr_err HTS6.out (HB4.out.trans (((Below.refl _ _).alloc (Nat.le_refl _) _).mono HB4.out.size)))
      · obtain rfl : k = N := by omega
        obtain rfl : gk = 0 := by omega
        go_wp2
        exact bodyPost_ret (v := .tuple #[.slice A2 k c2, .int .i64 (p : Int), .int .i64 0]) (by simp [results, Tryd.results70, go_sem]) rfl (by
          obtain rfl := HUL.out
          have hT := HTS.out
          unfold entsA at hT
          subst hT
          exact ⟨A2, c2, us, rfl, rfl, hNN, HLN.out, HO.out, HE.out, HB.out⟩)
  · have hR := list_no p0 hg he
    rw [hR]
    have hne : (e != 0) = true := by simpa using he
    have HE := Lib.hid he
    clear hge hgi hg hn he hR
    go_enter Tryd.func70, Tryd.ntmps70
    go_wp2_with fail
    refine HC.out.mono ?_
    rintro e w1 ⟨rfl, rfl⟩
    go_wp2
    exact bodyPost_ret (v := .tuple #[.slice none 0 0, .int .i64 (p0 : Int), .int .i64 e]) (by simp [results, Tryd.results70, go_sem]) rfl (listr_err rfl (Below.refl _ _))
end Go.Proofs.YtgmennblbeefhaaDoor
namespace Go.Proofs.YtgmennblbeefhaaDoor
open Go.RowKit Mem Be Rg
set_option maxRecDepth 100000
set_option maxHeartbeats 16000000
set_option linter.unusedVariables false
set_option linter.unusedSimpArgs false
theorem numsA_times (m : Int) : ∀ (N : Nat) (acc : List Int) (p : Nat) (bs : List UInt8),
    ((timesP (getB (m + 1)) N bs).2.2 ≠ 0 → ∃ p', numsA (List.replicate N m) acc p bs = ([], p', (timesP (getB (m + 1)) N bs).2.2)) ∧
    ((timesP (getB (m + 1)) N bs).2.2 = 0 → numsA (List.replicate N m) acc p bs = (acc ++ (timesP (getB (m + 1)) N bs).1, p + (timesP (getB (m + 1)) N bs).2.1, 0))
  | 0, acc, p, bs => ⟨fun h => absurd rfl h, fun _ => by simp [numsA, timesP]⟩
  | N + 1, acc, p, bs => by
    obtain ⟨⟨x, q, e⟩, h0⟩ : ∃ y, getB (m + 1) bs = y := ⟨_, rfl⟩
    obtain ⟨⟨l, k, f⟩, h1⟩ : ∃ y, timesP (getB (m + 1)) N (bs.drop q) = y := ⟨_, rfl⟩
    have ht : timesP (getB (m + 1)) (N + 1) bs = if e ≠ 0 then ([], 0, e) else if f ≠ 0 then ([], 0, f) else (x :: l, q + k, 0) := by simp only [timesP, h0, h1]
    have hE : numsA (List.replicate (N + 1) m) acc p bs = if e ≠ 0 then ([], p, e) else numsA (List.replicate N m) (acc ++ [x]) (p + q) (bs.drop q) := by
      rw [List.replicate_succ]
      exact nums_step h0
    have ih := numsA_times m N (acc ++ [x]) (p + q) (bs.drop q)
    rw [h1] at ih
    simp only at ih
    by_cases he : e = 0
    · subst he
      rw [if_neg (by simp)] at hE ht
      by_cases hf : f = 0
      · subst hf
        rw [if_neg (by simp)] at ht
        rw [ht, hE]
        refine ⟨fun h => absurd rfl h, fun _ => ?_⟩
        rw [ih.2 rfl]; simp [Nat.add_assoc]
      · rw [if_pos hf] at ht
        rw [ht, hE]
        exact ⟨fun _ => ih.1 hf, fun h => absurd h hf⟩
    · rw [if_pos he] at hE ht
      rw [ht, hE]
      exact ⟨fun _ => ⟨p, rfl⟩, fun h => absurd h he⟩
abbrev ids3 : List Int := [64, 64, 64]
def rP2 : Pr (Int × List Int) := bindP (getB 65) (fun n => timesP (getB 1048576) n.toNat)
def rP1 : Pr (Int × Int × List Int) := bindP (getB 65) (fun _ => rP2)
theorem getR_parts : getR12 = bindP (getB 65) (fun _ => rP1) := rfl
theorem getB_pos65 {bs : List UInt8} {x : Int} {q : Nat} (h : getB 65 bs = (x, q, 0)) : 0 ≤ x ∧ x < 65 := by
  have hr := getB_err 65 bs
  rw [h] at hr
  have := hr.resolve_right (fun h => by rcases h.2.2 with h | h <;> cases h)
  exact ⟨this.2.2.2.1, this.2.2.2.2.1⟩
theorem ring_pure (p0 : Nat) (bs : List UInt8) :
    (∃ e p, e ≠ 0 ∧ numsA ids3 [] p0 bs = ([], p, e) ∧ (getR12 bs).2.2 = e) ∨
    (∃ (a b : Int) (N q : Nat), N ≤ 64 ∧ q ≤ bs.length ∧ numsA ids3 [] p0 bs = ([a, b, (N : Int)], p0 + q, 0) ∧
      getR12 bs = ((a, b, (N : Int), (timesP (getB 1048576) N (bs.drop q)).1), q + (timesP (getB 1048576) N (bs.drop q)).2.1, (timesP (getB 1048576) N (bs.drop q)).2.2)) := by
  rw [getR_parts]
  obtain ⟨⟨a, q1, e1⟩, h1⟩ : ∃ y, getB 65 bs = y := ⟨_, rfl⟩
  have hl1 := getB_lenle h1
  have n1 := nums_step (m := 64) (r := [64, 64]) (acc := []) (p := p0) (show getB (64 + 1) bs = _ from h1)
  by_cases he1 : e1 = 0
  · subst he1
    rw [if_neg (by simp)] at n1
    have b1 : bindP (getB 65) (fun _ => rP1) bs = _ := bind_yes (g2 := fun _ => rP1) h1
    obtain ⟨⟨b, q2, e2⟩, h2⟩ : ∃ y, getB 65 (bs.drop q1) = y := ⟨_, rfl⟩
    have hl2 := getB_lenle h2
    rw [List.length_drop] at hl2
    have n2 := nums_step (m := 64) (r := [64]) (acc := [] ++ [a]) (p := p0 + q1) (show getB (64 + 1) (bs.drop q1) = _ from h2)
    by_cases he2 : e2 = 0
    · subst he2
      rw [if_neg (by simp), List.drop_drop] at n2
      have b2 : rP1 (bs.drop q1) = _ := bind_yes (g2 := fun _ => rP2) h2
      rw [List.drop_drop] at b2
      obtain ⟨⟨n0, q3, e3⟩, h3⟩ : ∃ y, getB 65 (bs.drop (q1 + q2)) = y := ⟨_, rfl⟩
      have hl3 := getB_lenle h3
      rw [List.length_drop] at hl3
      have n3 := nums_step (m := 64) (r := []) (acc := [] ++ [a] ++ [b]) (p := p0 + q1 + q2) (show getB (64 + 1) (bs.drop (q1 + q2)) = _ from h3)
      by_cases he3 : e3 = 0
      · subst he3
        rw [if_neg (by simp), List.drop_drop] at n3
        have h03 := getB_pos65 h3
        obtain ⟨N, rfl⟩ : ∃ N : Nat, n0 = (N : Int) := ⟨n0.toNat, by omega⟩
        have b3 : rP2 (bs.drop (q1 + q2)) = _ := bind_yes (g2 := fun n : Int => timesP (getB 1048576) n.toNat) h3
        rw [List.drop_drop, Int.toNat_natCast] at b3
        refine Or.inr ⟨a, b, N, q1 + q2 + q3, by omega, by omega, ?_, ?_⟩
        · rw [n1, n2, n3]; simp [numsA, Nat.add_assoc]
        · rw [b1, b2, b3]; simp only [Nat.add_assoc]
      · refine Or.inl ⟨e3, p0 + q1 + q2, he3, by rw [n1, n2, n3, if_pos he3], ?_⟩
        rw [b1, b2]
        exact bind_no12 (g2 := fun n : Int => timesP (getB 1048576) n.toNat) h3 he3
    · refine Or.inl ⟨e2, p0 + q1, he2, by rw [n1, n2, if_pos he2], ?_⟩
      rw [b1]
      exact bind_no12 (g2 := fun _ => rP2) h2 he2
  · exact Or.inl ⟨e1, p0, he1, by rw [n1, if_pos he1], bind_no12 (g2 := fun _ => rP1) h1 he1⟩
/-- What ring yields. -/
def RingR (p0 : Nat) (bs : List UInt8) (w : World) (E : Ending) (w' : World) : Prop :=
  ∃ (A : Option Addr) (c p : Nat) (ns : List Int) (each keep : Int), E = .returned (.tuple #[.agg #[.slice A ns.length c, .int .i64 each, .int .i64 keep], .int .i64 (p : Int), .int .i64 (getR12 bs).2.2]) ∧ ns.length ≤ 64 ∧ w'.ownsRow w.heap.size 3 1 (.slice A ns.length c) ns.length (ns.map iV) ∧ Below w.heap.size w w' ∧
    ((getR12 bs).2.2 = 0 → (getR12 bs).1.1 = each ∧ (getR12 bs).1.2.1 = keep ∧ (getR12 bs).1.2.2.2 = ns ∧ p = p0 + (getR12 bs).2.1)
def ringVal (A3 : Option Addr) (N3 c3 b5 o5 c5 : Nat) (each keep e : Int) (p3 : Nat) : Nat → Value
  | 0 => .slice A3 N3 c3
  | 1 => .slice (some ⟨b5, o5, none⟩) 3 c5
  | 2 => .pointer (some ⟨b5, o5, none⟩)
  | 3 => .int .i64 each
  | 4 => .slice (some ⟨b5, o5, none⟩) 3 c5
  | 5 => .pointer (some ⟨b5, o5 + 1, none⟩)
  | 6 => .int .i64 keep
  | 7 => .agg #[.slice A3 N3 c3, .int .i64 each, .int .i64 keep]
  | 8 => .int .i64 (p3 : Int)
  | 9 => .int .i64 e
  | 11 => .int .i64 (p3 : Int)
  | 12 => .int .i64 e
  | _ => undef
theorem refring_no (n c p0 : Nat) (A : Option Addr) (bs : List UInt8) (hn : n = bs.length) (hl : n ≤ 1000000) (hp0 : p0 ≤ n) (w : World) (h : Row w w.heap.size A (bs.map byteV)) {e : Int} {p : Nat} (he : e ≠ 0) (hN : numsA ids3 [] p0 (bs.drop p0) = ([], p, e)) (hm : (getR12 (bs.drop p0)).2.2 = e) : Calls Tryd.prog 71 #[.slice A n c, .int .i64 (p0 : Int)] w (RingR p0 (bs.drop p0) w) := by
  subst hn
  have hb0 : Below w.heap.size w (w.alloc (.cells #[.slice none 0 0, .int .i64 0, .int .i64 0] 32)) := (Below.refl _ _).alloc (Nat.le_refl _) _
  have HK := Lib.hid (Blk.new w 32 #[.slice none 0 0, .int .i64 0, .int .i64 0])
  have hr0 := h.alloc (Nat.le_refl _) (.cells #[.slice none 0 0, .int .i64 0, .int .i64 0] 32)
  have hs0 : (w.alloc (.cells #[.slice none 0 0, .int .i64 0, .int .i64 0] 32)).heap.size = w.heap.size + 1 := World.size_alloc _ _
  obtain ⟨W, hW⟩ : ∃ W, w.alloc (.cells #[.slice none 0 0, .int .i64 0, .int .i64 0] 32) = W := ⟨_, rfl⟩
  rw [hW] at HK hb0 hr0 hs0
  have hr1 := hr0.alloc (by omega) (.cells #[.int .i64 64, .int .i64 64, .int .i64 64] 3)
  have hal : Below W.heap.size W (W.alloc (.cells #[.int .i64 64, .int .i64 64, .int .i64 64] 3)) := (Below.refl _ _).alloc (Nat.le_refl _) _
  have hi1 : Row (W.alloc (.cells #[.int .i64 64, .int .i64 64, .int .i64 64] 3)) (W.heap.size + 1) (some ⟨W.heap.size, 0, none⟩) (ids3.map iV) := row_cells (xs := ids3.map iV) rfl
  have hs1 : (W.alloc (.cells #[.int .i64 64, .int .i64 64, .int .i64 64] 3)).heap.size = W.heap.size + 1 := World.size_alloc _ _
  obtain ⟨V1, hV1⟩ : ∃ V, W.alloc (.cells #[.int .i64 64, .int .i64 64, .int .i64 64] 3) = V := ⟨_, rfl⟩
  obtain ⟨P1, hP1⟩ : ∃ p, W.heap.size = p := ⟨_, rfl⟩
  rw [hV1] at hr1 hal hi1 hs1
  rw [hP1] at hal hi1 hs1 hs0
  have HB1 : Hid (Below w.heap.size w V1) := Lib.hid (hb0.trans (hal.mono (by omega)))
  have HK1 : Hid (Blk V1 w.heap.size 32 #[.slice none 0 0, .int .i64 0, .int .i64 0]) := Lib.hid (HK.out.below hal (by omega))
  have HR1 := Lib.hid hr1
  have HN1 : Hid (Calls Tryd.prog 96 #[.slice A bs.length c, .int .i64 (p0 : Int), .slice (some ⟨P1, 0, none⟩) 3 3] V1 (NumsR (numsA ids3 [] p0 (bs.drop p0)) V1)) := Lib.hid (refnums_any w.heap.size (P1 + 1) c 3 bs.length 3 p0 A (some ⟨P1, 0, none⟩) bs ids3 rfl hl hp0 rfl (by omega) V1 hr1 hi1 (by omega) (by omega))
  rw [hN] at HN1
  have HC1 := Lib.hid (nums_err12 HN1.out)
  clear h hb0 hr0 hr1 hal hi1 hs0 hs1 HN1 HK hN
  go_enter Tryd.func71, Tryd.ntmps71
  go_wp2_with fail
  refine HC1.out.mono ?_
  rintro e1 w1 ⟨A1, c1, rfl, hb1⟩
  have HB2 := Lib.hid (HB1.out.trans (hb1.mono HB1.out.size))
  have HK2 := Lib.hid (HK1.out.below hb1 HK1.out.lt)
  have hne : (e != 0) = true := by simpa using he
  have HM := Lib.hid hm
  have HE := Lib.hid he
  clear hb1 HB1 HK1 HC1 HR1 hW hV1 hP1 hm he
  go_wp2_with (refine wpList_store_box rfl 32 _ _ rfl w.heap.size 32 #[.slice none 0 0, .int .i64 0, .int .i64 0] #[.slice none 0 0, .int .i64 0, .int .i64 0] HK2.out rfl rfl rfl (by kernel_rfl) (by kernel_rfl) ?_)
  intro w3 hk3 hg3
  have HK3 := Lib.hid hk3
  have HB3 := Lib.hid (HB2.out.grown hg3 HB2.out.size fun g hg => by cases hg; exact Nat.le_refl _)
  clear hk3 hg3
  go_wp2
  exact bodyPost_ret (v := .tuple #[.agg #[.slice none 0 0, .int .i64 0, .int .i64 0], .int .i64 (p0 : Int), .int .i64 e]) (results_cell_row3 (p := 4) (q := 5) (r := 6) (ty := 32) Tryd.results71 _ _ w.heap.size 32 #[.slice none 0 0, .int .i64 0, .int .i64 0] (0, 0) _ rfl HK3.out Tryd.underlying32 rfl (by kernel_rfl)) rfl ⟨none, 0, p0, [], 0, 0, by rw [HM.out]; rfl, by simp, World.ownsRow_nil _ _ _ _, HB3.out, fun h => absurd (HM.out.symm.trans h) HE.out⟩
theorem ring_end (p0 q N : Nat) (hN : N ≤ 64) (bs : List UInt8) (a b : Int) (hg : getR12 bs = ((a, b, (N : Int), (timesP (getB 1048576) N (bs.drop q)).1), q + (timesP (getB 1048576) N (bs.drop q)).2.1, (timesP (getB 1048576) N (bs.drop q)).2.2)) {ns : List Int} {p3 : Nat} {e3 : Int}
    (hr : numsA (List.replicate N 1048575) [] (p0 + q) (bs.drop q) = (ns, p3, e3)) : ns.length ≤ 64 ∧ (getR12 bs).2.2 = e3 ∧ (e3 = 0 → (getR12 bs).1.1 = a ∧ (getR12 bs).1.2.1 = b ∧ (getR12 bs).1.2.2.2 = ns ∧ p3 = p0 + (getR12 bs).2.1) := by
  have ht := numsA_times 1048575 N [] (p0 + q) (bs.drop q)
  rw [show ((1048575 : Int) + 1) = 1048576 from rfl, hr] at ht
  have hl := numsA_len (List.replicate N 1048575) [] (p0 + q) (bs.drop q)
  rw [hr] at hl
  simp only [List.length_replicate, List.length_nil] at hl
  rw [hg]
  by_cases h : (timesP (getB 1048576) N (bs.drop q)).2.2 = 0
  · have h1 := ht.2 h
    simp only [Prod.mk.injEq] at h1
    obtain ⟨h1, h2, h3⟩ := h1
    refine ⟨by have := hl h3; omega, by rw [h, h3], fun _ => ⟨rfl, rfl, by rw [h1]; rfl, by rw [h2]; simp only; omega⟩⟩
  · obtain ⟨p', h1⟩ := ht.1 h
    simp only [Prod.mk.injEq] at h1
    obtain ⟨h1, h2, h3⟩ := h1
    refine ⟨by rw [h1]; simp, h3.symm, fun he => absurd (h3.symm.trans he) h⟩
theorem made_ints (w : World) (N : Nat) : ∃ cs, Blk (w.alloc (.cells (madeCells #[.int .i64 0] N) 3)) w.heap.size 3 cs ∧ cs.size = N ∧ ∀ j, j < 0 → cs[j]? = some (.int .i64 1048575) := by
  refine ⟨_, Blk.new w _ _, ?_, fun j h => absurd h (Nat.not_lt_zero _)⟩
  have := congrArg List.length (toList_madeCells_one (.int .i64 0) N)
  simpa using this
theorem fill_step {w : World} {g k N : Nat} (h : ∃ cs, Blk w g 3 cs ∧ cs.size = N ∧ ∀ j, j < k → cs[j]? = some (.int .i64 1048575)) (hk : k < N) :
    ∃ cs, Blk (w.setCell ⟨g, k, none⟩ (.int .i64 1048575)) g 3 cs ∧ cs.size = N ∧ ∀ j, j < k + 1 → cs[j]? = some (.int .i64 1048575) := by
  obtain ⟨cs, h1, h2, h3⟩ := h
  refine ⟨_, h1.set_ k _, by simpa using h2, fun j hj => ?_⟩
  rw [Array.getElem?_setIfInBounds]
  by_cases e : k = j
  · rw [if_pos e, if_pos (by omega)]
  · rw [if_neg e]; exact h3 j (by omega)
theorem fill_row {w : World} {g N : Nat} (h : ∃ cs, Blk w g 3 cs ∧ cs.size = N ∧ ∀ j, j < N → cs[j]? = some (.int .i64 1048575)) : Row w (g + 1) (some ⟨g, 0, none⟩) ((List.replicate N (1048575 : Int)).map iV) ∧ g < w.heap.size := by
  obtain ⟨cs, h1, h2, h3⟩ := h
  refine ⟨Or.inr ⟨g, 0, rfl, by omega, fun j hj => ?_⟩, h1.lt⟩
  rw [Nat.zero_add, h1.cell j, h3 j (by simpa using hj)]
  simp [iV]
theorem refring_yes (n c p0 : Nat) (A : Option Addr) (bs : List UInt8) (hn : n = bs.length) (hl : n ≤ 1000000) (hp0 : p0 ≤ n) (w : World) (h : Row w w.heap.size A (bs.map byteV)) {each keep : Int} {N q : Nat} (hNN : N ≤ 64) (hq : p0 + q ≤ n) (hN : numsA ids3 [] p0 (bs.drop p0) = ([each, keep, (N : Int)], p0 + q, 0)) (hg : getR12 (bs.drop p0) = ((each, keep, (N : Int), (timesP (getB 1048576) N ((bs.drop p0).drop q)).1), q + (timesP (getB 1048576) N ((bs.drop p0).drop q)).2.1, (timesP (getB 1048576) N ((bs.drop p0).drop q)).2.2)) : Calls Tryd.prog 71 #[.slice A n c, .int .i64 (p0 : Int)] w (RingR p0 (bs.drop p0) w) := by
  obtain ⟨⟨ns, p3, e3⟩, hr⟩ : ∃ y, numsA (List.replicate N 1048575) [] (p0 + q) ((bs.drop p0).drop q) = y := ⟨_, rfl⟩
  have HEND := Lib.hid (ring_end p0 q N hNN (bs.drop p0) each keep hg hr)
  rw [List.drop_drop] at hr
  obtain ⟨pz, hpz⟩ : ∃ y, p0 + q = y := ⟨_, rfl⟩
  rw [hpz] at hr hN hq
  have HNR := Lib.hid hr
  clear hg hr hpz
  subst hn
  have hb0 : Below w.heap.size w (w.alloc (.cells #[.slice none 0 0, .int .i64 0, .int .i64 0] 32)) := (Below.refl _ _).alloc (Nat.le_refl _) _
  have HK := Lib.hid (Blk.new w 32 #[.slice none 0 0, .int .i64 0, .int .i64 0])
  have hr0 := h.alloc (Nat.le_refl _) (.cells #[.slice none 0 0, .int .i64 0, .int .i64 0] 32)
  have hs0 : (w.alloc (.cells #[.slice none 0 0, .int .i64 0, .int .i64 0] 32)).heap.size = w.heap.size + 1 := World.size_alloc _ _
  obtain ⟨W, hW⟩ : ∃ W, w.alloc (.cells #[.slice none 0 0, .int .i64 0, .int .i64 0] 32) = W := ⟨_, rfl⟩
  rw [hW] at HK hb0 hr0 hs0
  have hr1 := hr0.alloc (by omega) (.cells #[.int .i64 64, .int .i64 64, .int .i64 64] 3)
  have hal : Below W.heap.size W (W.alloc (.cells #[.int .i64 64, .int .i64 64, .int .i64 64] 3)) := (Below.refl _ _).alloc (Nat.le_refl _) _
  have hi1 : Row (W.alloc (.cells #[.int .i64 64, .int .i64 64, .int .i64 64] 3)) (W.heap.size + 1) (some ⟨W.heap.size, 0, none⟩) (ids3.map iV) := row_cells (xs := ids3.map iV) rfl
  have hs1 : (W.alloc (.cells #[.int .i64 64, .int .i64 64, .int .i64 64] 3)).heap.size = W.heap.size + 1 := World.size_alloc _ _
  obtain ⟨V1, hV1⟩ : ∃ V, W.alloc (.cells #[.int .i64 64, .int .i64 64, .int .i64 64] 3) = V := ⟨_, rfl⟩
  obtain ⟨P1, hP1⟩ : ∃ p, W.heap.size = p := ⟨_, rfl⟩
  rw [hV1] at hr1 hal hi1 hs1
  rw [hP1] at hal hi1 hs1 hs0
  have HB1 : Hid (Below w.heap.size w V1) := Lib.hid (hb0.trans (hal.mono (by omega)))
  have HK1 : Hid (Blk V1 w.heap.size 32 #[.slice none 0 0, .int .i64 0, .int .i64 0]) := Lib.hid (HK.out.below hal (by omega))
  have HR1 := Lib.hid hr1
  have HN1 : Hid (Calls Tryd.prog 96 #[.slice A bs.length c, .int .i64 (p0 : Int), .slice (some ⟨P1, 0, none⟩) 3 3] V1 (NumsR (numsA ids3 [] p0 (bs.drop p0)) V1)) := Lib.hid (refnums_any w.heap.size (P1 + 1) c 3 bs.length 3 p0 A (some ⟨P1, 0, none⟩) bs ids3 rfl hl hp0 rfl (by omega) V1 hr1 hi1 (by omega) (by omega))
  rw [hN] at HN1
  have HC1 := Lib.hid (nums_got12 (m := 3) rfl HN1.out)
  clear h hb0 hr0 hr1 hal hi1 hs0 hs1 HN1 HK hN
  go_enter Tryd.func71, Tryd.ntmps71
  go_wp2_with fail
  refine HC1.out.mono ?_
  rintro e1 w1 ⟨A1, c1, rfl, ho1, hb1⟩
  have HB2 := Lib.hid (HB1.out.trans (hb1.mono HB1.out.size))
  have HK2 := Lib.hid (HK1.out.below hb1 HK1.out.lt)
  have HR2 := Lib.hid (HR1.out.below (hb1.mono HB1.out.size))
  obtain ⟨b5, o5, rfl, hb5, hc5⟩ := int_cell (Row.of_own ho1) (by simp)
  have q0 : w1.cell? ⟨b5, o5, none⟩ = some (.int .i64 each) := hc5 0 (by simp)
  have q1 : w1.cell? ⟨b5, o5 + 1, none⟩ = some (.int .i64 keep) := hc5 1 (by simp)
  have q2 : w1.cell? ⟨b5, o5 + 2, none⟩ = some (.int .i64 (N : Int)) := hc5 2 (by simp)
  have Q0 := Lib.hid q0
  have Q1 := Lib.hid q1
  have hmk := fun W => run_make_row' (P := Tryd.prog) 30 3 (.int .i64 0) 8 Tryd.underlying30 info_i rfl .i64 .i64 N (by omega) (by omega) W
  have HKM := Lib.hid (made_ints w1 N)
  have HBL : Hid (Below w1.heap.size w1 (w1.alloc (.cells (madeCells #[.int .i64 0] N) 3))) := Lib.hid ((Below.refl _ _).alloc (Nat.le_refl _) _)
  clear hb1 HB1 HK1 HC1 HR1 hW hV1 hP1 ho1 hc5 q0 q1
  go_wp2
  go_loopw [11] (fun i wr => ∃ k : Nat, k ≤ N ∧ i = .int .i64 k ∧ Hid (∃ cs, Blk wr w1.heap.size 3 cs ∧ cs.size = N ∧ ∀ j, j < k → cs[j]? = some (.int .i64 1048575)) ∧ Hid (Below w1.heap.size w1 wr)) (fun i _ => N - (intOf i).toNat)
  case atStart => exact ⟨0, by omega, rfl, HKM, HBL⟩
  case round =>
    obtain ⟨k, hk, rfl, HKR, HBR⟩ := hrel
    clear HKM HBL hmk q2
    by_cases hlt : k < N
    · obtain ⟨cs, hkb, hcs, hall⟩ := HKR.out
      have hki : (k : Int) < (N : Int) := by omega
      have hki0 : (0 : Int) ≤ (k : Int) := by omega
      have hc : wr.cell? ⟨w1.heap.size, k, none⟩ = some (cs[k]'(by omega)) := (hkb.cell k).trans (Array.getElem?_eq_getElem (by omega))
      have hf := hkb.frozen k
      have HS := Lib.hid (fill_step HKR.out hlt)
      clear hkb hall
      go_wp2
      go_roundw
      case rel => exact ⟨k + 1, by omega, by go_num, HS, Lib.hid (HBR.out.setCell (Nat.le_refl _) _)⟩
      case measure => simp [intOf]; omega
    · obtain rfl : N = k := by omega
      have hfr := fill_row HKR.out
      have hg1 : w.heap.size ≤ w1.heap.size := HB2.out.size
      have HBW : Hid (Below w.heap.size w wr) := Lib.hid (HB2.out.trans (HBR.out.mono HB2.out.size))
      have HKW : Hid (Blk wr w.heap.size 32 #[.slice none 0 0, .int .i64 0, .int .i64 0]) := Lib.hid (HK2.out.below HBR.out HK2.out.lt)
      have hn2 := refnums_any w.heap.size (w1.heap.size + 1) c N bs.length N pz A (some ⟨w1.heap.size, 0, none⟩) bs (List.replicate N 1048575) rfl hl hq (by simp) (by omega) wr (HR2.out.below (HBR.out.mono HB2.out.size)) hfr.1 HBW.out.size hfr.2
      rw [HNR.out] at hn2
      have q0 : wr.cell? ⟨b5, o5, none⟩ = some (.int .i64 each) := (HBR.out.cell (p := ⟨b5, o5, none⟩) hb5).trans Q0.out
      have q1 : wr.cell? ⟨b5, o5 + 1, none⟩ = some (.int .i64 keep) := (HBR.out.cell (p := ⟨b5, o5 + 1, none⟩) hb5).trans Q1.out
      have hb5w : b5 < wr.heap.size := Nat.lt_of_lt_of_le hb5 HBR.out.size
      obtain ⟨N3, hN3⟩ : ∃ y, ns.length = y := ⟨_, rfl⟩
      have HC2 : Hid (Calls Tryd.prog 96 #[.slice A bs.length c, .int .i64 (pz : Int), .slice (some ⟨w1.heap.size, 0, none⟩) N N] wr (fun E w' => ∃ A c, E = .returned (.tuple #[.slice A N3 c, .int .i64 (p3 : Int), .int .i64 e3]) ∧ w'.ownsRow wr.heap.size 3 1 (.slice A N3 c) N3 (ns.map iV) ∧ Below wr.heap.size wr w')) := Lib.hid (by subst hN3; exact hn2)
      have HN3 := Lib.hid hN3
      have Q0 := Lib.hid q0
      have Q1 := Lib.hid q1
      clear hn2 hfr HKR HBR HB2 HK2 HR2 HNR hN3 q0 q1 hlt hk
      go_wp2_with fail
      refine HC2.out.mono ?_
      rintro e2 w2 ⟨A3, c3, rfl, ho2, hb2⟩
      obtain ⟨W1, hW1⟩ : ∃ W, w2.drew = W := ⟨_, rfl⟩
      have hbd : Below wr.heap.size wr W1 := by rw [← hW1]; exact hb2.drew
      have HB5 : Hid (Below w.heap.size w W1) := Lib.hid (HBW.out.trans (hbd.mono HBW.out.size))
      have HK5 : Hid (Blk W1 w.heap.size 32 #[.slice none 0 0, .int .i64 0, .int .i64 0]) := Lib.hid (HKW.out.below hbd HKW.out.lt)
      have HO5 : Hid (W1.ownsRow wr.heap.size 3 1 (.slice A3 N3 c3) N3 (ns.map iV)) := Lib.hid (by rw [← hW1]; exact own_later ho2 (Below.refl _ _).drew)
      have c3' : W1.cell? ⟨b5, o5, none⟩ = some (.int .i64 each) := (hbd.cell (p := ⟨b5, o5, none⟩) hb5w).trans Q0.out
      have c6' : W1.cell? ⟨b5, o5 + 1, none⟩ = some (.int .i64 keep) := (hbd.cell (p := ⟨b5, o5 + 1, none⟩) hb5w).trans Q1.out
      have hbox := setCells_box HK5.out #[.slice A3 N3 c3, .int .i64 each, .int .i64 keep] rfl
      have HTH := Lib.hid (there_box HK5.out)
      obtain ⟨W2, hW2⟩ : ∃ W, W1.setCells w.heap.size 0 (#[.slice A3 N3 c3, .int .i64 each, .int .i64 keep] : Array Value).toList = W := ⟨_, rfl⟩
      rw [hW2] at hbox
      have HW2 := Lib.hid hW2
      have HK6 := Lib.hid hbox.1
      have HB6 := Lib.hid (HB5.out.grown hbox.2 HB5.out.size fun g hg => by cases hg; exact Nat.le_refl _)
      have HO6 := Lib.hid (own_base (own_up12 HO5.out hbox.2 HKW.out.lt) (Nat.le_of_lt HKW.out.lt))
      clear hb2 HC2 ho2 hbox hW2 HB5 HK5 HO5 hbd Q0 Q1
      go_wp2
      refine RelyJ.wp_region_byJ [[], [], [(1, 50)], [(2, 51)], [], [(4, 53)], [(5, 54)], [(0, 49), (3, 52), (6, 55)], [], [], [(7, 56)], [(8, 57)], [(9, 58)]] [(0, 49), (1, 50), (2, 51), (3, 52), (4, 53), (5, 54), (6, 55), (7, 56), (8, 57), (9, 58), (11, 5), (12, 6)] (JS (ringVal A3 N3 c3 b5 o5 c1 each keep e3 p3) W1 W2 [0, 3, 6] 7 10) (by kernel_rfl) (by kernel_rfl) (by kernel_rfl) (by kernel_rfl) (by kernel_rfl) ?_ ?_ ?_
      · intro vs
        rw [hW1]
        exact JS.start vs
      refine RelyJ.stepsZ_cons (by
        as_aux_lemma =>
        intro S vs w' hS hA hJ
        rw [if_pos (show Region.wanted _ _ = true from rfl)]
        have hj := hJ.plain 0 (by decide)
        refine RelyJ.gives_mono (R' := fun v w'' => v = .slice A3 N3 c3 ∧ w'' = w') ?_ (by rintro v w2 ⟨rfl, rfl⟩; exact hj)
        clear hJ hA hS hj
        unfold Rely.gives
        simp only [Rely.sel, List.foldl_cons, List.foldl_nil]
        go_simp
        simp [Rely.GivesR]) ?_
      refine RelyJ.stepsZ_cons (by
        as_aux_lemma =>
        intro S vs w' hS hA hJ
        rw [if_pos (show Region.wanted _ _ = true from rfl)]
        have hj := hJ.plain 1 (by decide)
        refine RelyJ.gives_mono (R' := fun v w'' => v = .slice (some ⟨b5, o5, none⟩) 3 c1 ∧ w'' = w') ?_ (by rintro v w2 ⟨rfl, rfl⟩; exact hj)
        clear hJ hA hS hj
        unfold Rely.gives
        simp only [Rely.sel, List.foldl_cons, List.foldl_nil]
        go_simp
        simp [Rely.GivesR]) ?_
      refine RelyJ.stepsZ_cons (by
        as_aux_lemma =>
        intro S vs w' hS hA hJ
        rw [if_pos (show Region.wanted _ _ = true from rfl)]
        have x1 : vs 1 = .slice (some ⟨b5, o5, none⟩) 3 c1 := hJ.sp 1 (hA ⟨1, Ground.data⟩ (by simp) rfl) (by decide)
        have hj := hJ.plain 2 (by decide)
        refine RelyJ.gives_mono (R' := fun v w'' => v = .pointer (some ⟨b5, o5, none⟩) ∧ w'' = w') ?_ (by rintro v w2 ⟨rfl, rfl⟩; exact hj)
        clear hJ hA hS hj
        unfold Rely.gives
        simp only [Rely.sel, List.foldl_cons, List.foldl_nil, x1]
        go_simp
        simp [Rely.GivesR]) ?_
      refine RelyJ.stepsZ_cons (by
        as_aux_lemma =>
        intro S vs w' hS hA hJ
        rw [if_pos (show Region.wanted _ _ = true from rfl)]
        have x2 : vs 2 = .pointer (some ⟨b5, o5, none⟩) := hJ.sp 2 (hA ⟨2, Ground.data⟩ (by simp) rfl) (by decide)
        have hj := hJ.plain 3 (by decide)
        have hw := hJ.w1 (i := 3) (by simp) hS
        subst hw
        refine RelyJ.gives_mono (R' := fun v w'' => v = .int .i64 each ∧ w'' = w') ?_ (by rintro v w2 ⟨rfl, rfl⟩; exact hj)
        clear hJ hA hS hj
        unfold Rely.gives
        simp only [Rely.sel, List.foldl_cons, List.foldl_nil, x2]
        go_simp
        simp [Rely.GivesR]) ?_
      refine RelyJ.stepsZ_cons (by
        as_aux_lemma =>
        intro S vs w' hS hA hJ
        rw [if_pos (show Region.wanted _ _ = true from rfl)]
        have hj := hJ.plain 4 (by decide)
        refine RelyJ.gives_mono (R' := fun v w'' => v = .slice (some ⟨b5, o5, none⟩) 3 c1 ∧ w'' = w') ?_ (by rintro v w2 ⟨rfl, rfl⟩; exact hj)
        clear hJ hA hS hj
        unfold Rely.gives
        simp only [Rely.sel, List.foldl_cons, List.foldl_nil]
        go_simp
        simp [Rely.GivesR]) ?_
      refine RelyJ.stepsZ_cons (by
        as_aux_lemma =>
        intro S vs w' hS hA hJ
        rw [if_pos (show Region.wanted _ _ = true from rfl)]
        have x4 : vs 4 = .slice (some ⟨b5, o5, none⟩) 3 c1 := hJ.sp 4 (hA ⟨4, Ground.data⟩ (by simp) rfl) (by decide)
        have hj := hJ.plain 5 (by decide)
        refine RelyJ.gives_mono (R' := fun v w'' => v = .pointer (some ⟨b5, o5 + 1, none⟩) ∧ w'' = w') ?_ (by rintro v w2 ⟨rfl, rfl⟩; exact hj)
        clear hJ hA hS hj
        unfold Rely.gives
        simp only [Rely.sel, List.foldl_cons, List.foldl_nil, x4]
        go_simp
        simp [Rely.GivesR]) ?_
      refine RelyJ.stepsZ_cons (by
        as_aux_lemma =>
        intro S vs w' hS hA hJ
        rw [if_pos (show Region.wanted _ _ = true from rfl)]
        have x5 : vs 5 = .pointer (some ⟨b5, o5 + 1, none⟩) := hJ.sp 5 (hA ⟨5, Ground.data⟩ (by simp) rfl) (by decide)
        have hj := hJ.plain 6 (by decide)
        have hw := hJ.w1 (i := 6) (by simp) hS
        subst hw
        refine RelyJ.gives_mono (R' := fun v w'' => v = .int .i64 keep ∧ w'' = w') ?_ (by rintro v w2 ⟨rfl, rfl⟩; exact hj)
        clear hJ hA hS hj
        unfold Rely.gives
        simp only [Rely.sel, List.foldl_cons, List.foldl_nil, x5]
        go_simp
        simp [Rely.GivesR]) ?_
      refine RelyJ.stepsZ_cons (by
        as_aux_lemma =>
        intro S vs w' hS hA hJ
        rw [if_pos (show Region.wanted _ _ = true from rfl)]
        have x0 : vs 0 = .slice A3 N3 c3 := hJ.sp 0 (hA ⟨0, Ground.data⟩ (by simp) rfl) (by decide)
        have x3 : vs 3 = .int .i64 each := hJ.sp 3 (hA ⟨3, Ground.data⟩ (by simp) rfl) (by decide)
        have x6 : vs 6 = .int .i64 keep := hJ.sp 6 (hA ⟨6, Ground.data⟩ (by simp) rfl) (by decide)
        have hj := hJ.build (by decide) (by
          intro i hi
          simp only [List.mem_cons, List.not_mem_nil, or_false] at hi
          rcases hi with rfl | rfl | rfl
          · exact hA ⟨0, Ground.data⟩ (by simp) rfl
          · exact hA ⟨3, Ground.data⟩ (by simp) rfl
          · exact hA ⟨6, Ground.data⟩ (by simp) rfl)
        clear hJ hA hS
        simp only [Rely.sel, List.foldl_cons, List.foldl_nil, x0, x3, x6]
        exact gives_build12 32 _ rfl #[.slice A3 N3 c3, .int .i64 each, .int .i64 keep] [(0, .slice A3 N3 c3), (1, .int .i64 each), (2, .int .i64 keep)] (by go_simp) (by kernel_rfl) hj) ?_
      refine RelyJ.stepsZ_cons (by
        as_aux_lemma =>
        intro S vs w' hS hA hJ
        rw [if_pos (show Region.wanted _ _ = true from rfl)]
        have hj := hJ.plain 8 (by decide)
        refine RelyJ.gives_mono (R' := fun v w'' => v = .int .i64 (p3 : Int) ∧ w'' = w') ?_ (by rintro v w2 ⟨rfl, rfl⟩; exact hj)
        clear hJ hA hS hj
        unfold Rely.gives
        simp only [Rely.sel, List.foldl_cons, List.foldl_nil]
        go_simp
        simp [Rely.GivesR]) ?_
      refine RelyJ.stepsZ_cons (by
        as_aux_lemma =>
        intro S vs w' hS hA hJ
        rw [if_pos (show Region.wanted _ _ = true from rfl)]
        have hj := hJ.plain 9 (by decide)
        refine RelyJ.gives_mono (R' := fun v w'' => v = .int .i64 e3 ∧ w'' = w') ?_ (by rintro v w2 ⟨rfl, rfl⟩; exact hj)
        clear hJ hA hS hj
        unfold Rely.gives
        simp only [Rely.sel, List.foldl_cons, List.foldl_nil]
        go_simp
        simp [Rely.GivesR]) ?_
      refine RelyJ.stepsZ_cons (by
        as_aux_lemma =>
        intro S vs w' hS hA hJ
        rw [if_pos (show Region.wanted _ _ = true from rfl)]
        have x7 : vs 7 = .agg #[.slice A3 N3 c3, .int .i64 each, .int .i64 keep] := hJ.sp 7 (hA ⟨7, Ground.data⟩ (by simp) rfl) (by decide)
        have hb7 := hA ⟨7, Ground.data⟩ (by simp) rfl
        have hw := hJ.w1s hS
        have hj := fun u => hJ.store (by decide) hb7 u
        subst hw
        clear hJ hA hS hb7
        simp only [Rely.sel, List.foldl_cons, List.foldl_nil, x7]
        refine gives_store12 32 _ _ rfl w.heap.size 0 #[.slice A3 N3 c3, .int .i64 each, .int .i64 keep] rfl rfl HTH.out (by kernel_rfl) (by kernel_rfl) ?_
        rw [HW2.out]
        exact hj _) ?_
      refine RelyJ.stepsZ_cons (by
        as_aux_lemma =>
        intro S vs w' hS hA hJ
        rw [if_pos (show Region.wanted _ _ = true from rfl)]
        have x8 : vs 8 = .int .i64 (p3 : Int) := hJ.sp 8 (hA ⟨8, Ground.data⟩ (by simp) rfl) (by decide)
        have hj := hJ.plain 11 (by decide)
        refine RelyJ.gives_mono (R' := fun v w'' => v = .int .i64 (p3 : Int) ∧ w'' = w') ?_ (by rintro v w2 ⟨rfl, rfl⟩; exact hj)
        clear hJ hA hS hj
        unfold Rely.gives
        simp only [Rely.sel, List.foldl_cons, List.foldl_nil, x8]
        go_simp
        simp [Rely.GivesR]) ?_
      refine RelyJ.stepsZ_cons (by
        as_aux_lemma =>
        intro S vs w' hS hA hJ
        rw [if_pos (show Region.wanted _ _ = true from rfl)]
        have x9 : vs 9 = .int .i64 e3 := hJ.sp 9 (hA ⟨9, Ground.data⟩ (by simp) rfl) (by decide)
        have hj := hJ.plain 12 (by decide)
        refine RelyJ.gives_mono (R' := fun v w'' => v = .int .i64 e3 ∧ w'' = w') ?_ (by rintro v w2 ⟨rfl, rfl⟩; exact hj)
        clear hJ hA hS hj
        unfold Rely.gives
        simp only [Rely.sel, List.foldl_cons, List.foldl_nil, x9]
        go_simp
        simp [Rely.GivesR]) ?_
      exact RelyJ.stepsZ_nil
      intro S vs w' hS hJ
      have x0 : vs 0 = .slice A3 N3 c3 := hJ.sp 0 (hS 0 (by decide)) (by decide)
      have x1 : vs 1 = .slice (some ⟨b5, o5, none⟩) 3 c1 := hJ.sp 1 (hS 1 (by decide)) (by decide)
      have x2 : vs 2 = .pointer (some ⟨b5, o5, none⟩) := hJ.sp 2 (hS 2 (by decide)) (by decide)
      have x3 : vs 3 = .int .i64 each := hJ.sp 3 (hS 3 (by decide)) (by decide)
      have x4 : vs 4 = .slice (some ⟨b5, o5, none⟩) 3 c1 := hJ.sp 4 (hS 4 (by decide)) (by decide)
      have x5 : vs 5 = .pointer (some ⟨b5, o5 + 1, none⟩) := hJ.sp 5 (hS 5 (by decide)) (by decide)
      have x6 : vs 6 = .int .i64 keep := hJ.sp 6 (hS 6 (by decide)) (by decide)
      have x7 : vs 7 = .agg #[.slice A3 N3 c3, .int .i64 each, .int .i64 keep] := hJ.sp 7 (hS 7 (by decide)) (by decide)
      have x8 : vs 8 = .int .i64 (p3 : Int) := hJ.sp 8 (hS 8 (by decide)) (by decide)
      have x9 : vs 9 = .int .i64 e3 := hJ.sp 9 (hS 9 (by decide)) (by decide)
      have x11 : vs 11 = .int .i64 (p3 : Int) := hJ.sp 11 (hS 11 (by decide)) (by decide)
      have x12 : vs 12 = .int .i64 e3 := hJ.sp 12 (hS 12 (by decide)) (by decide)
      have hw := hJ.w2 (hS 10 (by decide))
      subst hw
      simp only [Rely.sel, List.foldl_cons, List.foldl_nil, x0, x1, x2, x3, x4, x5, x6, x7, x8, x9, x11, x12]
      simp only [Act.put, List.setIfInBounds_toArray, List.set_cons_succ, List.set_cons_zero]
      clear hS hJ x0 x1 x2 x3 x4 x5 x6 x7 x8 x9 x11 x12
      go_wp2
      exact bodyPost_ret (v := .tuple #[.agg #[.slice A3 N3 c3, .int .i64 each, .int .i64 keep], .int .i64 (p3 : Int), .int .i64 e3]) (results_cell_row3 (p := 4) (q := 5) (r := 6) (ty := 32) Tryd.results71 _ _ w.heap.size 32 #[.slice A3 N3 c3, .int .i64 each, .int .i64 keep] (0, 0) _ rfl HK6.out Tryd.underlying32 rfl (by kernel_rfl)) rfl (by
        obtain rfl := HN3.out
        exact ⟨A3, c3, p3, ns, each, keep, by rw [HEND.out.2.1], HEND.out.1, HO6.out, HB6.out, fun h => by
          have h2 := HEND.out.2.2 (HEND.out.2.1.symm.trans h)
          exact h2⟩)
theorem refring_any (n c p0 : Nat) (A : Option Addr) (bs : List UInt8) (hn : n = bs.length) (hl : n ≤ 1000000) (hp0 : p0 ≤ n) (w : World) (h : Row w w.heap.size A (bs.map byteV)) : Calls Tryd.prog 71 #[.slice A n c, .int .i64 (p0 : Int)] w (RingR p0 (bs.drop p0) w) := by
  rcases ring_pure p0 (bs.drop p0) with ⟨e, p, he, h1, hm⟩ | ⟨a, b, N, q, hN, hq, h1, hm⟩
  · exact refring_no n c p0 A bs hn hl hp0 w h he h1 hm
  · rw [List.length_drop] at hq
    exact refring_yes n c p0 A bs hn hl hp0 w h hN (by omega) h1 hm
end Go.Proofs.YtgmennblbeefhaaDoor
