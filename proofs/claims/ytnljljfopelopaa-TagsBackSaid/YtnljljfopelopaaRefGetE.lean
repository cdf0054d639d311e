/- An entry at the begin of bytes, by the document. -/
import Derived.Test.YtnljljfopelopaaRefGetN
namespace Go.Proofs.Ytnljljfopelopaa
open Go.RowKit Mem Be
set_option maxRecDepth 100000
set_option maxHeartbeats 8000000
/-- What the document reads: the entry, the place behind, what is wrong. -/
def refE (bs : List UInt8) : EntP × Nat × Int :=
  let r := getR bs
  if r.2.2 ≠ 0 then (entP0, 0, r.2.2) else
  let a := getB 1099511627776 (bs.drop r.2.1)
  if a.2.2 ≠ 0 then (entP0, 0, a.2.2) else
  let b := getB 1048576 (bs.drop (r.2.1 + a.2.1))
  if b.2.2 ≠ 0 then (entP0, 0, b.2.2) else
  let c := getB 1048576 (bs.drop (r.2.1 + a.2.1 + b.2.1))
  if c.2.2 ≠ 0 then (entP0, 0, c.2.2) else
  let t := getT (bs.drop (r.2.1 + a.2.1 + b.2.1 + c.2.1))
  if t.2.2 ≠ 0 then (entP0, 0, t.2.2) else
  if t.1 = true then
    let v := getR (bs.drop (r.2.1 + a.2.1 + b.2.1 + c.2.1 + t.2.1))
    if v.2.2 ≠ 0 then (entP0, 0, v.2.2) else
    if rightE r.1.length v.1.length a.1 b.1 c.1 true ≠ 0 then (entP0, 0, 11) else (⟨r.1, a.1, b.1, c.1, true, v.1⟩, r.2.1 + a.2.1 + b.2.1 + c.2.1 + t.2.1 + v.2.1, 0)
  else
    if rightE r.1.length 0 a.1 b.1 c.1 false ≠ 0 then (entP0, 0, 11) else (⟨r.1, a.1, b.1, c.1, false, []⟩, r.2.1 + a.2.1 + b.2.1 + c.2.1 + t.2.1, 0)
def RefGot (r : EntP × Nat × Int) (w : World) (E : Ending) (w' : World) : Prop :=
  ∃ A c, E = .returned (.tuple #[entV ⟨r.1.k.toArray⟩ r.1.s r.1.u r.1.o r.1.has A r.1.v.length c, .int .i64 (r.2.1 : Int), .int .i64 r.2.2]) ∧ w'.ownsRow w.heap.size 5 1 (.slice A r.1.v.length c) r.1.v.length (r.1.v.map byteV) ∧ Below w.heap.size w w'
theorem refgot_err {r : EntP × Nat × Int} {e : Int} (hr : r = (entP0, 0, e)) {w w' : World} (hb : Below w.heap.size w w') : RefGot r w (.returned (.tuple #[entV ⟨#[]⟩ 0 0 0 false none 0 0, .int .i64 0, .int .i64 e])) w' := by
  subst hr; exact ⟨none, 0, rfl, World.ownsRow_nil _ _ _ _, hb⟩
theorem below_res (w : World) (o1 o2 : Obj) (v0 v1 v2 v3 v4 v5 : Value) : Below w.heap.size w ((((((((w.alloc o1).alloc o2).setCell ⟨w.heap.size, 0, none⟩ v0).setCell ⟨w.heap.size, 1, none⟩ v1).setCell ⟨w.heap.size, 2, none⟩ v2).setCell ⟨w.heap.size, 3, none⟩ v3).setCell ⟨w.heap.size, 4, none⟩ v4).setCell ⟨w.heap.size, 5, none⟩ v5) :=
  below_set (below_set (below_set (below_set (below_set (below_set (((Below.refl _ _).alloc (Nat.le_refl _) _).alloc (by simp) _) (Nat.le_refl _) _ _) (Nat.le_refl _) _ _) (Nat.le_refl _) _ _) (Nat.le_refl _) _ _) (Nat.le_refl _) _ _) (Nat.le_refl _) _ _
theorem blk_at {w : World} {g g' : Nat} {t : TypeId} {cs : Array Value} (e : g = g') (h : Blk w g t cs) : Blk w g' t cs := by subst e; exact h
theorem below_res5 {w w5 : World} {v0 v1 v2 v3 v4 v5 : Value} (hb : Below w.heap.size w w5) : Below w.heap.size w ((((((w5.setCell ⟨w.heap.size, 0, none⟩ v0).setCell ⟨w.heap.size, 1, none⟩ v1).setCell ⟨w.heap.size, 2, none⟩ v2).setCell ⟨w.heap.size, 3, none⟩ v3).setCell ⟨w.heap.size, 4, none⟩ v4).setCell ⟨w.heap.size, 5, none⟩ v5) :=
  below_set (below_set (below_set (below_set (below_set (below_set hb (Nat.le_refl _) _ _) (Nat.le_refl _) _ _) (Nat.le_refl _) _ _) (Nat.le_refl _) _ _) (Nat.le_refl _) _ _) (Nat.le_refl _) _ _
theorem refgot_ok {r : EntP × Nat × Int} {ks xs : List UInt8} {s u o : Int} {has : Bool} {q : Nat} (hr : r = (⟨ks, s, u, o, has, xs⟩, q, 0)) {w w5 : World} {A : Option Addr} {c n : Nat} {v0 v1 v2 v3 v4 v5 : Value} (hn : n = xs.length) (ho : w5.ownsRow (w.heap.size + 1) 5 1 (.slice A n c) n (xs.map byteV)) (hb : Below w.heap.size w w5) :
    RefGot r w (.returned (.tuple #[entV ⟨ks.toArray⟩ s u o has A n c, .int .i64 q, .int .i64 0])) ((((((w5.setCell ⟨w.heap.size, 0, none⟩ v0).setCell ⟨w.heap.size, 1, none⟩ v1).setCell ⟨w.heap.size, 2, none⟩ v2).setCell ⟨w.heap.size, 3, none⟩ v3).setCell ⟨w.heap.size, 4, none⟩ v4).setCell ⟨w.heap.size, 5, none⟩ v5) := by
  subst hr; subst hn
  exact ⟨A, c, rfl, own_base (own_put (own_put (own_put (own_put (own_put (own_put ho (by omega) _ _) (by omega) _ _) (by omega) _ _) (by omega) _ _) (by omega) _ _) (by omega) _ _) (by omega), below_res5 hb⟩
def RowAt (B : Nat) (x : List UInt8) (q : Nat) (e : Int) (w : World) (E : Ending) (w' : World) : Prop := ∃ A c, E = .returned (.tuple #[.slice A x.length c, .int .i64 (q : Int), .int .i64 e]) ∧ Row w B A (x.map byteV) ∧ w = w'
theorem row_at {B c n p q k : Nat} {A : Option Addr} {bs x : List UInt8} {e : Int} {w : World} (h : Row w B A (bs.map byteV)) (hn : n = bs.length) (hl : n ≤ 1000000) (hc : n ≤ c) (hp : p ≤ n) (hr : getR (bs.drop p) = (x, k, e)) (hq : p + k = q) :
    Calls Try.prog 61 #[.slice A n c, .int .i64 (p : Int)] w (RowAt B x q e w) :=
  (refgetrow_any B c n p A bs w h hn (by omega) hc hp).mono fun _ _ ⟨A1, c1, he, h1, h2⟩ => by
    rw [hr] at he h1
    exact ⟨A1, c1, by rw [he, ← hq], h1, h2⟩
theorem num_at {B c n p q k : Nat} {m : Int} {A : Option Addr} {bs : List UInt8} {x e : Int} {w : World} (h : Row w B A (bs.map byteV)) (hn : n = bs.length) (hl : n ≤ 1000000) (hr : getB (m + 1) (bs.drop p) = (x, k, e)) (hq : p + k = q) :
    Calls Try.prog 62 #[.slice A n c, .int .i64 (p : Int), .int .i64 m] w fun E w' => E = .returned (.tuple #[.int .i64 x, .int .i64 (q : Int), .int .i64 e]) ∧ w = w' :=
  (refgetnum_any B c n p m A bs w h hn (by omega)).mono fun _ _ ⟨he, h2⟩ => by
    rw [hr] at he
    exact ⟨by rw [he, ← hq]; rfl, h2⟩
theorem truth_at {B c n p q k : Nat} {A : Option Addr} {bs : List UInt8} {x : Bool} {e : Int} {w : World} (h : Row w B A (bs.map byteV)) (hn : n = bs.length) (hl : n ≤ 1000000) (hr : getT (bs.drop p) = (x, k, e)) (hq : p + k = q) :
    Calls Try.prog 63 #[.slice A n c, .int .i64 (p : Int)] w fun E w' => E = .returned (.tuple #[.bool x, .int .i64 (q : Int), .int .i64 e]) ∧ w = w' :=
  (refgettruth_any B c n p A bs w h hn (by omega)).mono fun _ _ ⟨he, h2⟩ => by
    rw [hr] at he
    exact ⟨by rw [he, ← hq], h2⟩
theorem refgete_any (n c : Nat) (A : Option Addr) (bs : List UInt8) (hn : n = bs.length) (hl : n ≤ 1000000) (hc : n ≤ c) (w : World) (h : Row w w.heap.size A (bs.map byteV)) :
    Calls Try.prog 33 #[.slice A n c, .int .i64 0] w (RefGot (refE bs) w) := by
  obtain ⟨i0, hi0, hz0, hz1, hz2⟩ := info_parts info_b
  obtain ⟨⟨ks, k1, e1⟩, h1⟩ : ∃ y, getR bs = y := ⟨_, rfl⟩
  obtain ⟨⟨s, k2, e2⟩, h2⟩ : ∃ y, getB 1099511627776 (bs.drop k1) = y := ⟨_, rfl⟩
  obtain ⟨⟨u, k3, e3⟩, h3⟩ : ∃ y, getB 1048576 (bs.drop (k1 + k2)) = y := ⟨_, rfl⟩
  obtain ⟨⟨o, k4, e4⟩, h4⟩ : ∃ y, getB 1048576 (bs.drop (k1 + k2 + k3)) = y := ⟨_, rfl⟩
  obtain ⟨⟨has, k5, e5⟩, h5⟩ : ∃ y, getT (bs.drop (k1 + k2 + k3 + k4)) = y := ⟨_, rfl⟩
  obtain ⟨⟨xs, k6, e6⟩, h6⟩ : ∃ y, getR (bs.drop (k1 + k2 + k3 + k4 + k5)) = y := ⟨_, rfl⟩
  have hE : refE bs = if e1 ≠ 0 then (entP0, 0, e1) else if e2 ≠ 0 then (entP0, 0, e2) else if e3 ≠ 0 then (entP0, 0, e3) else if e4 ≠ 0 then (entP0, 0, e4) else if e5 ≠ 0 then (entP0, 0, e5) else
      if has = true then (if e6 ≠ 0 then (entP0, 0, e6) else if rightE ks.length xs.length s u o true ≠ 0 then (entP0, 0, 11) else (⟨ks, s, u, o, true, xs⟩, k1 + k2 + k3 + k4 + k5 + k6, 0))
      else (if rightE ks.length 0 s u o false ≠ 0 then (entP0, 0, 11) else (⟨ks, s, u, o, false, []⟩, k1 + k2 + k3 + k4 + k5, 0)) := by
    unfold refE; simp only [h1, h2, h3, h4, h5, h6]
  have l1 := getR_err bs
  have l2 := getB_err 1099511627776 (bs.drop k1)
  have l3 := getB_err 1048576 (bs.drop (k1 + k2))
  have l4 := getB_err 1048576 (bs.drop (k1 + k2 + k3))
  have l5 := getT_err (bs.drop (k1 + k2 + k3 + k4))
  have l6 := getR_len bs
  have l7 := getR_len (bs.drop (k1 + k2 + k3 + k4 + k5))
  rw [h1] at l1 l6
  rw [h2] at l2
  rw [h3] at l3
  rw [h4] at l4
  rw [h5] at l5
  rw [h6] at l7
  simp only [List.length_drop] at l1 l2 l3 l4 l5 l6 l7
  have hb0 : Below w.heap.size w ((w.alloc (.cells zeroC 43)).alloc (.cells zeroC 43)) := ((Below.refl _ _).alloc (Nat.le_refl _) _).alloc (by simp) _
  have hr0 := h.below hb0
  obtain ⟨q2, hq2⟩ : ∃ q, k1 + k2 = q := ⟨_, rfl⟩
  rw [hq2] at h3 h4 h5 h6 l3 l4 l5 hE
  obtain ⟨q3, hq3⟩ : ∃ q, q2 + k3 = q := ⟨_, rfl⟩
  rw [hq3] at h4 h5 h6 l4 l5 hE
  obtain ⟨q4, hq4⟩ : ∃ q, q3 + k4 = q := ⟨_, rfl⟩
  rw [hq4] at h5 h6 l5 hE
  obtain ⟨q5, hq5⟩ : ∃ q, q4 + k5 = q := ⟨_, rfl⟩
  rw [hq5] at h6 hE
  obtain ⟨q6, hq6⟩ : ∃ q, q5 + k6 = q := ⟨_, rfl⟩
  rw [hq6] at hE
  have HC1 := Lib.hid (row_at (p := 0) hr0 hn hl hc (Nat.zero_le _) (by rw [List.drop_zero]; exact h1) (Nat.zero_add k1))
  have HC2 := Lib.hid (num_at (c := c) (m := 1099511627775) hr0 hn hl (by rw [show (1099511627775 : Int) + 1 = 1099511627776 by omega]; exact h2) hq2)
  have HC3 := Lib.hid (num_at (c := c) (m := 1048575) hr0 hn hl (by rw [show (1048575 : Int) + 1 = 1048576 by omega]; exact h3) hq3)
  have HC4 := Lib.hid (num_at (c := c) (m := 1048575) hr0 hn hl (by rw [show (1048575 : Int) + 1 = 1048576 by omega]; exact h4) hq4)
  have HC5 := Lib.hid (truth_at (c := c) hr0 hn hl h5 hq5)
  have HCW : Hid (∀ W, Row W w.heap.size A (bs.map byteV) → q5 ≤ n → Calls Try.prog 61 #[.slice A n c, .int .i64 (q5 : Int)] W (RowAt w.heap.size xs q6 e6 W)) := Lib.hid (fun W hW h5n => row_at hW hn hl hc h5n h6 hq6)
  have HROW := Lib.hid h
  have HQ : Hid (e1 = 0 → e2 = 0 → e3 = 0 → e4 = 0 → e5 = 0 → q5 ≤ n) := Lib.hid (by omega)
  have HK := Lib.hid l6
  have HX := Lib.hid l7
  have HE := Lib.hid hE
  have HB0 := Lib.hid hb0
  clear h h1 h2 h3 h4 h5 h6 l1 l2 l3 l4 l5 l6 l7 hr0 hq2 hq3 hq4 hq5 hq6 hn hl hc hE hb0
  go_enter Try.func33, Try.ntmps33
  go_wp2_with fail
  refine HC1.out.mono ?_
  rintro e w1 ⟨A1, c1, rfl, hrow1, rfl⟩
  have HRK := Lib.hid hrow1
  clear hrow1
  by_cases hx1 : e1 = 0
  case neg =>
    have HV : Hid (refE bs = (entP0, 0, e1)) := Lib.hid (HE.out.trans (if_pos hx1))
    have hne : (e1 != 0) = true := by simpa using hx1
    clear hx1
    go_wp2
    exact bodyPost_ret (v := .tuple #[entV ⟨#[]⟩ 0 0 0 false none 0 0, .int .i64 0, .int .i64 e1]) (by simp [results, Try.results33, go_sem]) rfl (refgot_err HV.out HB0.out)
  subst hx1
  go_wp2_with fail
  refine HC2.out.mono ?_
  rintro e w' ⟨rfl, rfl⟩
  by_cases hx2 : e2 = 0
  case neg =>
    have HV : Hid (refE bs = (entP0, 0, e2)) := Lib.hid (HE.out.trans ((if_neg (by simp)).trans (if_pos hx2)))
    have hne : (e2 != 0) = true := by simpa using hx2
    clear hx2
    go_wp2
    exact bodyPost_ret (v := .tuple #[entV ⟨#[]⟩ 0 0 0 false none 0 0, .int .i64 0, .int .i64 e2]) (by simp [results, Try.results33, go_sem]) rfl (refgot_err HV.out HB0.out)
  subst hx2
  go_wp2_with fail
  refine HC3.out.mono ?_
  rintro e w' ⟨rfl, rfl⟩
  by_cases hx3 : e3 = 0
  case neg =>
    have HV : Hid (refE bs = (entP0, 0, e3)) := Lib.hid (HE.out.trans ((if_neg (by simp)).trans ((if_neg (by simp)).trans (if_pos hx3))))
    have hne : (e3 != 0) = true := by simpa using hx3
    clear hx3
    go_wp2
    exact bodyPost_ret (v := .tuple #[entV ⟨#[]⟩ 0 0 0 false none 0 0, .int .i64 0, .int .i64 e3]) (by simp [results, Try.results33, go_sem]) rfl (refgot_err HV.out HB0.out)
  subst hx3
  go_wp2_with fail
  refine HC4.out.mono ?_
  rintro e w' ⟨rfl, rfl⟩
  by_cases hx4 : e4 = 0
  case neg =>
    have HV : Hid (refE bs = (entP0, 0, e4)) := Lib.hid (HE.out.trans ((if_neg (by simp)).trans ((if_neg (by simp)).trans ((if_neg (by simp)).trans (if_pos hx4)))))
    have hne : (e4 != 0) = true := by simpa using hx4
    clear hx4
    go_wp2
    exact bodyPost_ret (v := .tuple #[entV ⟨#[]⟩ 0 0 0 false none 0 0, .int .i64 0, .int .i64 e4]) (by simp [results, Try.results33, go_sem]) rfl (refgot_err HV.out HB0.out)
  subst hx4
  go_wp2_with fail
  refine HC5.out.mono ?_
  rintro e w' ⟨rfl, rfl⟩
  by_cases hx5 : e5 = 0
  case neg =>
    have HV : Hid (refE bs = (entP0, 0, e5)) := Lib.hid (HE.out.trans ((if_neg (by simp)).trans ((if_neg (by simp)).trans ((if_neg (by simp)).trans ((if_neg (by simp)).trans (if_pos hx5))))))
    have hne : (e5 != 0) = true := by simpa using hx5
    clear hx5
    go_wp2
    exact bodyPost_ret (v := .tuple #[entV ⟨#[]⟩ 0 0 0 false none 0 0, .int .i64 0, .int .i64 e5]) (by simp [results, Try.results33, go_sem]) rfl (refgot_err HV.out HB0.out)
  subst hx5
  have cv := conv_row (P := Try.prog) c1 39 9 5 Try.underlying39 Try.underlying5 Try.underlying9 HRK.out
  have HV0 : Hid (refE bs = if has = true then (if e6 ≠ 0 then (entP0, 0, e6) else if rightE ks.length xs.length s u o true ≠ 0 then (entP0, 0, 11) else (⟨ks, s, u, o, true, xs⟩, q6, 0))
      else (if rightE ks.length 0 s u o false ≠ 0 then (entP0, 0, 11) else (⟨ks, s, u, o, false, []⟩, q5, 0))) := Lib.hid (HE.out.trans ((if_neg (by simp)).trans ((if_neg (by simp)).trans ((if_neg (by simp)).trans ((if_neg (by simp)).trans (if_neg (by simp)))))))
  have hl0 := HQ.out (by simp) (by simp) (by simp) (by simp) (by simp)
  cases has
  · have HF : Hid (refE bs = if rightE ks.length 0 s u o false ≠ 0 then (entP0, 0, 11) else (⟨ks, s, u, o, false, []⟩, q5, 0)) := Lib.hid (HV0.out.trans (if_neg (by simp)))
    have HBX : Hid (Below w.heap.size w (((w.alloc (.cells zeroC 43)).alloc (.cells zeroC 43)).alloc (.cells #[.string ⟨ks.toArray⟩, .int .i64 s, .int .i64 u, .int .i64 o, .bool false, .slice none 0 0] 43))) := Lib.hid (HB0.out.alloc HB0.out.size _)
    have HRX : Hid (Blk (((w.alloc (.cells zeroC 43)).alloc (.cells zeroC 43)).alloc (.cells #[.string ⟨ks.toArray⟩, .int .i64 s, .int .i64 u, .int .i64 o, .bool false, .slice none 0 0] 43)) w.heap.size 43 zeroC) := Lib.hid (((Blk.new w _ _).alloc _).alloc _)
    have HNX : Hid (Blk (((w.alloc (.cells zeroC 43)).alloc (.cells zeroC 43)).alloc (.cells #[.string ⟨ks.toArray⟩, .int .i64 s, .int .i64 u, .int .i64 o, .bool false, .slice none 0 0] 43)) (w.heap.size + 1) 43 zeroC) := Lib.hid (blk_at (by simp) ((Blk.new (w.alloc _) _ _).alloc _))
    have HLX : Hid (Blk (((w.alloc (.cells zeroC 43)).alloc (.cells zeroC 43)).alloc (.cells #[.string ⟨ks.toArray⟩, .int .i64 s, .int .i64 u, .int .i64 o, .bool false, .slice none 0 0] 43)) (w.heap.size + 2) 43 #[.string ⟨ks.toArray⟩, .int .i64 s, .int .i64 u, .int .i64 o, .bool false, .slice none 0 0]) := Lib.hid (blk_at (by simp) (Blk.new _ _ _))
    have hcall : ∀ W, Calls Try.prog 27 #[entV ⟨ks.toArray⟩ s u o false none 0 0] W (IsI (rightE ks.length 0 s u o false) W) := fun W => refright_any ⟨ks.toArray⟩ s u o false none 0 0 (by omega) (by show (ks.length : Int) ≤ _; have := HK.out; omega) W
    clear hl0
    rcases rightE_02 ks.length 0 s u o false with hq | hq
    · have HV : Hid (refE bs = (⟨ks, s, u, o, false, []⟩, q5, 0)) := Lib.hid (HF.out.trans (if_neg (by rw [hq]; simp)))
      rw [hq] at hcall
      have HC := Lib.hid hcall
      clear hcall hq
      go_wp2_with fail
      refine (HC.out _).mono ?_
      rintro e w5 ⟨rfl, hb⟩
      have HL5 := Lib.hid (HLX.out.below hb HLX.out.lt)
      have HR5 := Lib.hid (HRX.out.below hb HRX.out.lt)
      have HB5 : Hid (Below w.heap.size w w5) := Lib.hid (HBX.out.trans (hb.mono HBX.out.size))
      clear hb
      have c0 : w5.cell? ⟨w.heap.size + 2, 0, none⟩ = some (.string ⟨ks.toArray⟩) := HL5.out.cell 0
      have c1 : w5.cell? ⟨w.heap.size + 2, 1, none⟩ = some (.int .i64 s) := HL5.out.cell 1
      have c2 : w5.cell? ⟨w.heap.size + 2, 2, none⟩ = some (.int .i64 u) := HL5.out.cell 2
      have c3 : w5.cell? ⟨w.heap.size + 2, 3, none⟩ = some (.int .i64 o) := HL5.out.cell 3
      have c4 : w5.cell? ⟨w.heap.size + 2, 4, none⟩ = some (.bool false) := HL5.out.cell 4
      have c5 : w5.cell? ⟨w.heap.size + 2, 5, none⟩ = some (.slice none 0 0) := HL5.out.cell 5
      have r0 : w5.cell? ⟨w.heap.size, 0, none⟩ = some (.string ⟨#[]⟩) := HR5.out.cell 0
      have r1 : w5.cell? ⟨w.heap.size, 1, none⟩ = some (.int .i64 0) := HR5.out.cell 1
      have r2 : w5.cell? ⟨w.heap.size, 2, none⟩ = some (.int .i64 0) := HR5.out.cell 2
      have r3 : w5.cell? ⟨w.heap.size, 3, none⟩ = some (.int .i64 0) := HR5.out.cell 3
      have r4 : w5.cell? ⟨w.heap.size, 4, none⟩ = some (.bool false) := HR5.out.cell 4
      have r5 : w5.cell? ⟨w.heap.size, 5, none⟩ = some (.slice none 0 0) := HR5.out.cell 5
      have z0 := HR5.out.frozen 0
      have z1 := HR5.out.frozen 1
      have z2 := HR5.out.frozen 2
      have z3 := HR5.out.frozen 3
      have z4 := HR5.out.frozen 4
      have z5 := HR5.out.frozen 5
      go_wp2
      exact bodyPost_ret (v := .tuple #[entV ⟨ks.toArray⟩ s u o false none 0 0, .int .i64 q5, .int .i64 0]) (by simp [results, Try.results33, go_sem, r0, r1, r2, r3, r4, r5]) rfl (refgot_ok HV.out rfl (World.ownsRow_nil _ _ _ _) HB5.out)
    · have HV : Hid (refE bs = (entP0, 0, 11)) := Lib.hid (HF.out.trans (if_pos (by rw [hq]; simp)))
      rw [hq] at hcall
      have HC := Lib.hid hcall
      clear hcall hq
      go_wp2_with fail
      refine (HC.out _).mono ?_
      rintro e w5 ⟨rfl, hb⟩
      have HN5 := Lib.hid (HNX.out.below hb HNX.out.lt)
      have HR5 := Lib.hid (HRX.out.below hb HRX.out.lt)
      have HB5 : Hid (Below w.heap.size w w5) := Lib.hid (HBX.out.trans (hb.mono HBX.out.size))
      clear hb
      have d0 : w5.cell? ⟨w.heap.size + 1, 0, none⟩ = some (.string ⟨#[]⟩) := HN5.out.cell 0
      have d1 : w5.cell? ⟨w.heap.size + 1, 1, none⟩ = some (.int .i64 0) := HN5.out.cell 1
      have d2 : w5.cell? ⟨w.heap.size + 1, 2, none⟩ = some (.int .i64 0) := HN5.out.cell 2
      have d3 : w5.cell? ⟨w.heap.size + 1, 3, none⟩ = some (.int .i64 0) := HN5.out.cell 3
      have d4 : w5.cell? ⟨w.heap.size + 1, 4, none⟩ = some (.bool false) := HN5.out.cell 4
      have d5 : w5.cell? ⟨w.heap.size + 1, 5, none⟩ = some (.slice none 0 0) := HN5.out.cell 5
      have r0 : w5.cell? ⟨w.heap.size, 0, none⟩ = some (.string ⟨#[]⟩) := HR5.out.cell 0
      have r1 : w5.cell? ⟨w.heap.size, 1, none⟩ = some (.int .i64 0) := HR5.out.cell 1
      have r2 : w5.cell? ⟨w.heap.size, 2, none⟩ = some (.int .i64 0) := HR5.out.cell 2
      have r3 : w5.cell? ⟨w.heap.size, 3, none⟩ = some (.int .i64 0) := HR5.out.cell 3
      have r4 : w5.cell? ⟨w.heap.size, 4, none⟩ = some (.bool false) := HR5.out.cell 4
      have r5 : w5.cell? ⟨w.heap.size, 5, none⟩ = some (.slice none 0 0) := HR5.out.cell 5
      have z0 := HR5.out.frozen 0
      have z1 := HR5.out.frozen 1
      have z2 := HR5.out.frozen 2
      have z3 := HR5.out.frozen 3
      have z4 := HR5.out.frozen 4
      have z5 := HR5.out.frozen 5
      go_wp2
      exact bodyPost_ret (v := .tuple #[entV ⟨#[]⟩ 0 0 0 false none 0 0, .int .i64 0, .int .i64 11]) (by simp [results, Try.results33, go_sem, r0, r1, r2, r3, r4, r5]) rfl (refgot_err HV.out (below_res5 HB5.out))
  · have HF0 : Hid (refE bs = if e6 ≠ 0 then (entP0, 0, e6) else if rightE ks.length xs.length s u o true ≠ 0 then (entP0, 0, 11) else (⟨ks, s, u, o, true, xs⟩, q6, 0)) := Lib.hid (HV0.out.trans (if_pos (by simp)))
    have HBX : Hid (Below w.heap.size w (((w.alloc (.cells zeroC 43)).alloc (.cells zeroC 43)).alloc (.cells #[.string ⟨ks.toArray⟩, .int .i64 s, .int .i64 u, .int .i64 o, .bool true, .slice none 0 0] 43))) := Lib.hid (HB0.out.alloc HB0.out.size _)
    have HRX : Hid (Blk (((w.alloc (.cells zeroC 43)).alloc (.cells zeroC 43)).alloc (.cells #[.string ⟨ks.toArray⟩, .int .i64 s, .int .i64 u, .int .i64 o, .bool true, .slice none 0 0] 43)) w.heap.size 43 zeroC) := Lib.hid (((Blk.new w _ _).alloc _).alloc _)
    have HNX : Hid (Blk (((w.alloc (.cells zeroC 43)).alloc (.cells zeroC 43)).alloc (.cells #[.string ⟨ks.toArray⟩, .int .i64 s, .int .i64 u, .int .i64 o, .bool true, .slice none 0 0] 43)) (w.heap.size + 1) 43 zeroC) := Lib.hid (blk_at (by simp) ((Blk.new (w.alloc _) _ _).alloc _))
    have HLX : Hid (Blk (((w.alloc (.cells zeroC 43)).alloc (.cells zeroC 43)).alloc (.cells #[.string ⟨ks.toArray⟩, .int .i64 s, .int .i64 u, .int .i64 o, .bool true, .slice none 0 0] 43)) (w.heap.size + 2) 43 #[.string ⟨ks.toArray⟩, .int .i64 s, .int .i64 u, .int .i64 o, .bool true, .slice none 0 0]) := Lib.hid (blk_at (by simp) (Blk.new _ _ _))
    have HC6 := Lib.hid (HCW.out (((w.alloc (.cells zeroC 43)).alloc (.cells zeroC 43)).alloc (.cells #[.string ⟨ks.toArray⟩, .int .i64 s, .int .i64 u, .int .i64 o, .bool true, .slice none 0 0] 43)) (HROW.out.below HBX.out) hl0)
    clear hl0
    go_wp2_with fail
    refine HC6.out.mono ?_
    rintro e w6 ⟨A6, c6, rfl, hrow6, rfl⟩
    have HX6 := Lib.hid hrow6
    clear hrow6
    by_cases hx6 : e6 = 0
    case neg =>
      have HV : Hid (refE bs = (entP0, 0, e6)) := Lib.hid (HF0.out.trans (if_pos hx6))
      have hne : (e6 != 0) = true := by simpa using hx6
      clear hx6
      go_wp2
      exact bodyPost_ret (v := .tuple #[entV ⟨#[]⟩ 0 0 0 false none 0 0, .int .i64 0, .int .i64 e6]) (by simp [results, Try.results33, go_sem]) rfl (refgot_err HV.out HBX.out)
    subst hx6
    have HF : Hid (refE bs = if rightE ks.length xs.length s u o true ≠ 0 then (entP0, 0, 11) else (⟨ks, s, u, o, true, xs⟩, q6, 0)) := Lib.hid (HF0.out.trans (if_neg (by simp)))
    go_wp2_with (at_builtin; refine wpList_app _ rfl _ _ 39 rfl (w.heap.size + 3) 5 i0 (.int .u8 0) 1 Try.underlying39 hi0 hz0 hz1 hz2 rfl (.slice none 0 0) 0 [] rfl (World.ownsRow_nil _ _ _ _) w.heap.size _ xs.length c6 (xs.map byteV) rfl (by simp) HX6.out (byte_one xs) (by have := HX.out; unfold maxLen; omega) (by have := HX.out; omega) (by simp) ?_)
    intro v' w3 hown hgr _
    obtain ⟨A7, c7, rfl, ho7⟩ := own_of xs hown (by simp)
    have hb3 : Below (((w.alloc (.cells zeroC 43)).alloc (.cells zeroC 43)).alloc (.cells #[.string ⟨ks.toArray⟩, .int .i64 s, .int .i64 u, .int .i64 o, .bool true, .slice none 0 0] 43)).heap.size (((w.alloc (.cells zeroC 43)).alloc (.cells zeroC 43)).alloc (.cells #[.string ⟨ks.toArray⟩, .int .i64 s, .int .i64 u, .int .i64 o, .bool true, .slice none 0 0] 43)) w3 := ⟨hgr.os, hgr.tape, hgr.output, hgr.size, fun k hk => hgr.block k hk (by simp [Value.ownBlock])⟩
    have HO3 := Lib.hid ho7
    have HL3 := Lib.hid (HLX.out.below hb3 (by simp))
    have HN3 := Lib.hid (HNX.out.below hb3 (by simp))
    have HR3 := Lib.hid (HRX.out.below hb3 (by simp; omega))
    have HB3 : Hid (Below w.heap.size w w3) := Lib.hid (HBX.out.trans (hb3.mono HBX.out.size))
    clear hown hgr ho7 hb3
    have c0 : w3.cell? ⟨w.heap.size + 2, 0, none⟩ = some (.string ⟨ks.toArray⟩) := HL3.out.cell 0
    have c1x : w3.cell? ⟨w.heap.size + 2, 1, none⟩ = some (.int .i64 s) := HL3.out.cell 1
    have c2 : w3.cell? ⟨w.heap.size + 2, 2, none⟩ = some (.int .i64 u) := HL3.out.cell 2
    have c3 : w3.cell? ⟨w.heap.size + 2, 3, none⟩ = some (.int .i64 o) := HL3.out.cell 3
    have c4 : w3.cell? ⟨w.heap.size + 2, 4, none⟩ = some (.bool true) := HL3.out.cell 4
    have c5 : w3.cell? ⟨w.heap.size + 2, 5, none⟩ = some (.slice none 0 0) := HL3.out.cell 5
    have y5 := HL3.out.frozen 5
    have hcall : ∀ W, Calls Try.prog 27 #[entV ⟨ks.toArray⟩ s u o true A7 xs.length c7] W (IsI (rightE ks.length xs.length s u o true) W) := fun W => refright_any ⟨ks.toArray⟩ s u o true A7 xs.length c7 (by have := HX.out; omega) (by show (ks.length : Int) ≤ _; have := HK.out; omega) W
    have HO4 := Lib.hid (own_put HO3.out (g := w.heap.size + 2) (by omega) 5 (.slice A7 xs.length c7))
    have HL4 := Lib.hid (HL3.out.set_ 5 (.slice A7 xs.length c7))
    have HN4 := Lib.hid (HN3.out.far (p := ⟨w.heap.size + 2, 5, none⟩) (by show w.heap.size + 1 ≠ w.heap.size + 2; omega) (.slice A7 xs.length c7))
    have HR4 := Lib.hid (HR3.out.far (p := ⟨w.heap.size + 2, 5, none⟩) (by show w.heap.size ≠ w.heap.size + 2; omega) (.slice A7 xs.length c7))
    have HB4 := Lib.hid (below_set HB3.out (g := w.heap.size + 2) (by omega) 5 (.slice A7 xs.length c7))
    rcases rightE_02 ks.length xs.length s u o true with hq | hq
    · have HV : Hid (refE bs = (⟨ks, s, u, o, true, xs⟩, q6, 0)) := Lib.hid (HF.out.trans (if_neg (by rw [hq]; simp)))
      rw [hq] at hcall
      have HC := Lib.hid hcall
      clear hcall hq
      go_wp2_with fail
      refine (HC.out _).mono ?_
      rintro e w5 ⟨rfl, hb⟩
      have HL5 : Hid (Blk w5 (w.heap.size + 2) 43 #[.string ⟨ks.toArray⟩, .int .i64 s, .int .i64 u, .int .i64 o, .bool true, .slice A7 xs.length c7]) := Lib.hid (HL4.out.below hb HL4.out.lt)
      have HR5 := Lib.hid (HR4.out.below hb HR4.out.lt)
      have HO5 := Lib.hid (own_below HO4.out hb)
      have HB5 : Hid (Below w.heap.size w w5) := Lib.hid (HB4.out.trans (hb.mono HB4.out.size))
      clear hb c0 c1x c2 c3 c4 c5 y5
      have d0 : w5.cell? ⟨w.heap.size + 2, 0, none⟩ = some (.string ⟨ks.toArray⟩) := HL5.out.cell 0
      have d1 : w5.cell? ⟨w.heap.size + 2, 1, none⟩ = some (.int .i64 s) := HL5.out.cell 1
      have d2 : w5.cell? ⟨w.heap.size + 2, 2, none⟩ = some (.int .i64 u) := HL5.out.cell 2
      have d3 : w5.cell? ⟨w.heap.size + 2, 3, none⟩ = some (.int .i64 o) := HL5.out.cell 3
      have d4 : w5.cell? ⟨w.heap.size + 2, 4, none⟩ = some (.bool true) := HL5.out.cell 4
      have d5 : w5.cell? ⟨w.heap.size + 2, 5, none⟩ = some (.slice A7 xs.length c7) := HL5.out.cell 5
      have r0 : w5.cell? ⟨w.heap.size, 0, none⟩ = some (.string ⟨#[]⟩) := HR5.out.cell 0
      have r1 : w5.cell? ⟨w.heap.size, 1, none⟩ = some (.int .i64 0) := HR5.out.cell 1
      have r2 : w5.cell? ⟨w.heap.size, 2, none⟩ = some (.int .i64 0) := HR5.out.cell 2
      have r3 : w5.cell? ⟨w.heap.size, 3, none⟩ = some (.int .i64 0) := HR5.out.cell 3
      have r4 : w5.cell? ⟨w.heap.size, 4, none⟩ = some (.bool false) := HR5.out.cell 4
      have r5 : w5.cell? ⟨w.heap.size, 5, none⟩ = some (.slice none 0 0) := HR5.out.cell 5
      have z0 := HR5.out.frozen 0
      have z1 := HR5.out.frozen 1
      have z2 := HR5.out.frozen 2
      have z3 := HR5.out.frozen 3
      have z4 := HR5.out.frozen 4
      have z5 := HR5.out.frozen 5
      go_wp2
      exact bodyPost_ret (v := .tuple #[entV ⟨ks.toArray⟩ s u o true A7 xs.length c7, .int .i64 q6, .int .i64 0]) (by simp [results, Try.results33, go_sem, r0, r1, r2, r3, r4, r5]) rfl (refgot_ok HV.out rfl (own_base HO5.out (by omega)) HB5.out)
    · have HV : Hid (refE bs = (entP0, 0, 11)) := Lib.hid (HF.out.trans (if_pos (by rw [hq]; simp)))
      rw [hq] at hcall
      have HC := Lib.hid hcall
      clear hcall hq
      go_wp2_with fail
      refine (HC.out _).mono ?_
      rintro e w5 ⟨rfl, hb⟩
      have HN5 := Lib.hid (HN4.out.below hb HN4.out.lt)
      have HR5 := Lib.hid (HR4.out.below hb HR4.out.lt)
      have HB5 : Hid (Below w.heap.size w w5) := Lib.hid (HB4.out.trans (hb.mono HB4.out.size))
      clear hb c0 c1x c2 c3 c4 c5 y5
      have d0 : w5.cell? ⟨w.heap.size + 1, 0, none⟩ = some (.string ⟨#[]⟩) := HN5.out.cell 0
      have d1 : w5.cell? ⟨w.heap.size + 1, 1, none⟩ = some (.int .i64 0) := HN5.out.cell 1
      have d2 : w5.cell? ⟨w.heap.size + 1, 2, none⟩ = some (.int .i64 0) := HN5.out.cell 2
      have d3 : w5.cell? ⟨w.heap.size + 1, 3, none⟩ = some (.int .i64 0) := HN5.out.cell 3
      have d4 : w5.cell? ⟨w.heap.size + 1, 4, none⟩ = some (.bool false) := HN5.out.cell 4
      have d5 : w5.cell? ⟨w.heap.size + 1, 5, none⟩ = some (.slice none 0 0) := HN5.out.cell 5
      have r0 : w5.cell? ⟨w.heap.size, 0, none⟩ = some (.string ⟨#[]⟩) := HR5.out.cell 0
      have r1 : w5.cell? ⟨w.heap.size, 1, none⟩ = some (.int .i64 0) := HR5.out.cell 1
      have r2 : w5.cell? ⟨w.heap.size, 2, none⟩ = some (.int .i64 0) := HR5.out.cell 2
      have r3 : w5.cell? ⟨w.heap.size, 3, none⟩ = some (.int .i64 0) := HR5.out.cell 3
      have r4 : w5.cell? ⟨w.heap.size, 4, none⟩ = some (.bool false) := HR5.out.cell 4
      have r5 : w5.cell? ⟨w.heap.size, 5, none⟩ = some (.slice none 0 0) := HR5.out.cell 5
      have z0 := HR5.out.frozen 0
      have z1 := HR5.out.frozen 1
      have z2 := HR5.out.frozen 2
      have z3 := HR5.out.frozen 3
      have z4 := HR5.out.frozen 4
      have z5 := HR5.out.frozen 5
      go_wp2
      exact bodyPost_ret (v := .tuple #[entV ⟨#[]⟩ 0 0 0 false none 0 0, .int .i64 0, .int .i64 11]) (by simp [results, Try.results33, go_sem, r0, r1, r2, r3, r4, r5]) rfl (refgot_err HV.out (below_res5 HB5.out))
end Go.Proofs.Ytnljljfopelopaa
