/- LnF: Is there a way (possible)? -/
import Derived.Test.YtlecbhnopokmnaaLnE
import Derived.Deep.QuietTactic
import Derived.Deep.DeepCutAuto
namespace Go.Proofs.Ytlecbhnopokmnaa
open Go.RowKit Mem Go.Maps
set_option maxRecDepth 100000
set_option maxHeartbeats 4000000
set_option linter.unusedVariables false
set_option linter.unusedSimpArgs false
open Ln
theorem hasG_bit (d i : Nat) (hd : d < 2097152) : (bits .and .u32 ((d : Int) / 2 ^ i) 1 == 1) = d.testBit i := by
  have e1 : (d : Int) / 2 ^ i = ((d / 2 ^ i : Nat) : Int) := by simp
  have hlt : d / 2 ^ i ≤ d := Nat.div_le_self _ _
  have e2 := u32_and_nat (d / 2 ^ i) 1 (by omega) (by omega)
  rw [e1, show (1 : Int) = ((1 : Nat) : Int) from rfl, e2, nat_mask1, Nat.testBit_eq_decide_div_mod_eq]
  rcases (show d / 2 ^ i % 2 = 0 ∨ d / 2 ^ i % 2 = 1 by omega) with h | h <;> rw [h] <;> rfl
theorem hasG_any (d i : Nat) (hd : d < 2097152) (hi : i < 21) (b : Bool) (hb : Hid (d.testBit i = b)) (w : World) : Calls Try.prog 66 #[.int .u32 (d : Int), .int .i64 (i : Int)] w fun e w' => e = .returned (.bool b) ∧ w = w' := by
  have hi2 : (i : Int) < 21 := by omega
  have hi3 : (0 : Int) ≤ (i : Int) := by omega
  have HD := Lib.hid ((hasG_bit d i hd).trans hb.out)
  clear hd
  go_enter Try.func66, Try.ntmps66
  go_wp2
  go_ret
  exact ⟨by rw [← HD.out]; rfl, rfl⟩
theorem withG_bit (d i : Nat) (hd : d < 2097152) (hi : i < 21) : bits .or .u32 (d : Int) (IntKind.u32.wrap (2 ^ i)) = ((ins d i : Nat) : Int) := by
  have h : 2 ^ i < 2097152 := Nat.pow_lt_pow_right (a := 2) (m := i) (n := 21) (by omega) hi
  have e1 : IntKind.u32.wrap ((2 : Int) ^ i) = ((2 ^ i : Nat) : Int) := by
    rw [show ((2 : Int) ^ i) = ((2 ^ i : Nat) : Int) by simp, IntKind.wrap_u32']
    obtain ⟨q, hq⟩ : ∃ q, 2 ^ i = q := ⟨_, rfl⟩
    rw [hq] at h ⊢
    omega
  rw [e1, u32_or_nat _ _ (by omega) (by omega)]
  rfl
theorem withG_any (d i : Nat) (hd : d < 2097152) (hi : i < 21) (w : World) : Calls Try.prog 62 #[.int .u32 (d : Int), .int .i64 (i : Int)] w fun e w' => e = .returned (.int .u32 ((ins d i : Nat) : Int)) ∧ w = w' := by
  have hi2 : (i : Int) < 21 := by omega
  have hi3 : (0 : Int) ≤ (i : Int) := by omega
  have HD := Lib.hid (withG_bit d i hd hi)
  clear hd
  go_enter Try.func62, Try.ntmps62
  go_wp2
  go_ret
  exact ⟨by rw [← HD.out]; rfl, rfl⟩
/-- The indexes by rising ends. -/
structure OkB (E : Env) (be : List Nat) : Prop where
  mem : ∀ i, i < E.n → ∃ k, k < E.n ∧ be[k]? = some i
  lt : ∀ (k x : Nat), be[k]? = some x → x < E.n
  dom : ∀ (k1 k2 i1 i2 : Nat), k1 < k2 → be[k1]? = some i1 → be[k2]? = some i2 → ∀ j, (E.bef j).testBit i2 = true → j ≠ i1 → (E.bef j).testBit i1 = true
/-- Of the first q that may come next: one of the same value, no later, leads nowhere. -/
def Seen (E : Env) (be : List Nat) (d : Nat) (q t : Nat) : Prop :=
  (∀ (k i : Nat), k < q → be[k]? = some i → May E d (-1) i → t.testBit (E.val i) = true ∧ ∃ k' i' : Nat, k' ≤ k ∧ be[k']? = some i' ∧ May E d (-1) i' ∧ E.val i' = E.val i ∧ ¬ Poss E (ins d i') (E.val i')) ∧
  (∀ x, t.testBit x = true → ∃ k i : Nat, k < q ∧ be[k]? = some i ∧ May E d (-1) i ∧ E.val i = x) ∧ t < 2097152
theorem seen_start (E : Env) (be : List Nat) (d : Nat) : Seen E be d 0 0 := ⟨fun k i hk => by omega, fun x hx => (by rw [Nat.zero_testBit] at hx; cases hx), by omega⟩
theorem seen_not {E : Env} {be : List Nat} {d q t i : Nat} (h : Seen E be d q t) (hi : be[q]? = some i) (hm : ¬ May E d (-1) i) : Seen E be d (q + 1) t :=
  ⟨fun k j hk hj hmj => by
    rcases Nat.lt_or_ge k q with h1 | h1
    · exact h.1 k j h1 hj hmj
    · have : k = q := by omega
      subst this
      rw [hi] at hj
      injection hj with hj
      subst hj
      exact (hm hmj).elim,
   fun x hx => by obtain ⟨k, j, h1, h2⟩ := h.2.1 x hx; exact ⟨k, j, by omega, h2⟩, h.2.2⟩
theorem seen_tried {E : Env} {be : List Nat} {d q t i : Nat} (h : Seen E be d q t) (hi : be[q]? = some i) (ht : t.testBit (E.val i) = true) : Seen E be d (q + 1) t :=
  ⟨fun k j hk hj hmj => by
    rcases Nat.lt_or_ge k q with h1 | h1
    · exact h.1 k j h1 hj hmj
    · have : k = q := by omega
      subst this
      rw [hi] at hj
      injection hj with hj
      subst hj
      obtain ⟨k, j, h2, h3, h4, h5⟩ := h.2.1 _ ht
      obtain ⟨_, k', i', e1, e2, e3, e4, e5⟩ := h.1 k j h2 h3 h4
      exact ⟨ht, k', i', by omega, e2, e3, e4.trans h5, e5⟩,
   fun x hx => by obtain ⟨k, j, h1, h2⟩ := h.2.1 x hx; exact ⟨k, j, by omega, h2⟩, h.2.2⟩
theorem seen_no {E : Env} {be : List Nat} {d q t i : Nat} (h : Seen E be d q t) (hi : be[q]? = some i) (hm : May E d (-1) i) (hv : E.val i < 21) (hp : ¬ Poss E (ins d i) (E.val i)) : Seen E be d (q + 1) (ins t (E.val i)) :=
  ⟨fun k j hk hj hmj => by
    rcases Nat.lt_or_ge k q with h1 | h1
    · obtain ⟨e1, e2⟩ := h.1 k j h1 hj hmj
      exact ⟨ins_old e1, e2⟩
    · have : k = q := by omega
      subst this
      rw [hi] at hj
      injection hj with hj
      subst hj
      exact ⟨ins_same _ _, k, i, Nat.le_refl _, hi, hm, rfl, hp⟩,
   fun x hx => by
    rw [ins_bit] at hx
    by_cases e : E.val i = x
    · exact ⟨q, i, by omega, hi, hm, e⟩
    · rw [decide_eq_false e, Bool.or_false] at hx
      obtain ⟨k, j, h1, h2⟩ := h.2.1 x hx
      exact ⟨k, j, by omega, h2⟩,
   ins_lt (n := 21) h.2.2 hv⟩
theorem seen_end {E : Env} {be : List Nat} {d t : Nat} (hB : OkB E be) (h : Seen E be d E.n t) (hm : ¬ Sub E.must d) : ¬ Poss E d (-1) := by
  intro hp
  cases hp with
  | fin hf => exact hm hf
  | step i hi hp =>
    obtain ⟨k, hk, hki⟩ := hB.mem i hi.1
    obtain ⟨_, k', i', e1, e2, e3, e4, e5⟩ := h.1 k i hk hki hi
    by_cases e : i' = i
    · subst e; exact e5 hp
    · have hkk : k' < k := by
        rcases Nat.lt_or_ge k' k with h | h
        · exact h
        · have : k' = k := by omega
          subst this
          rw [e2] at hki
          injection hki with hki
          exact (e hki).elim
      refine e5 (poss_swap e4.symm (may_over hi) hi.1 hi.2.2.1 (fun j hj hjk => hB.dom k' k i' i hkk e2 hki j hj hjk) e ?_ d rfl (fun _ h => h) hi.2.1 e3.2.1)
      rw [← e4] at hp
      exact hp
/-- Whether there is a way; the map is still one of states from which there is none. -/
def PsP (E : Env) (hb d : Nat) (v : Int) (w : World) (e : Ending) (w' : World) : Prop :=
  ∃ b : Bool, e = .returned (.bool b) ∧ (b = true ↔ Poss E d v) ∧ HopM E w' hb ∧ w.grownBy w' (some hb)
theorem possible_step {w : World} {gs hb sb c1 eb c2 : Nat} {E : Env} {gt : Nat → Nat} {be : List Nat} (S : SchAt w gs hb sb c1 eb c2 E gt be) (hE : OkE E gt) (hO : OkB E be) (hM : HopM E w hb) (d : Nat) (hd : d < 1048576) (v : Int)
    (IH : ∀ (d' : Nat) (v' : Int) (W : World), d' < 1048576 → cnt E.n d' < cnt E.n d → SchAt W gs hb sb c1 eb c2 E gt be → HopM E W hb → Calls Try.prog 45 #[.pointer (some ⟨gs, 0, none⟩), stV d' v'] W (PsP E hb d' v' W)) :
    Calls Try.prog 45 #[.pointer (some ⟨gs, 0, none⟩), stV d v] w (PsP E hb d v w) := by
  obtain ⟨w2, hw2⟩ : ∃ W, w.alloc (.cells #[.int .u32 (d : Int), .int .i64 v] 85) = W := ⟨_, rfl⟩
  have B2 : Below w.heap.size w w2 := by rw [← hw2]; exact (Below.refl _ _).alloc (Nat.le_refl _) _
  have k1 : Blk w2 w.heap.size 85 #[.int .u32 (d : Int), .int .i64 v] := by rw [← hw2]; exact Blk.new _ _ _
  have hbl := hM.lt
  have HRES : Hid (∀ (W : World) (b : Bool), (b = true ↔ Poss E d v) → HopM E W hb → w.grownBy W (some hb) → PsP E hb d v w (.returned (.bool b)) W) := Lib.hid fun W b h1 h2 h3 => ⟨b, rfl, h1, h2, h3⟩
  obtain ⟨Q, hQ⟩ : ∃ Q, PsP E hb d v w = Q := ⟨_, rfl⟩
  rw [hQ] at HRES ⊢
  have HS := Lib.hid (S.below B2)
  have HS0 := Lib.hid S
  have HM0 := Lib.hid hM
  have HE := Lib.hid hE
  have HO := Lib.hid hO
  have HD := Lib.hid hd
  have HB2 := Lib.hid B2
  have HM2 := Lib.hid (hM.below B2)
  have HIH := Lib.hid IH
  have a0 := k1.cell 0
  have a1 := k1.cell 1
  have K1 := Lib.hid k1
  have HBL := Lib.hid hbl
  have z2 : w.heap.size < w2.heap.size := k1.lt
  clear S B2 hE hO hd hQ k1 hM IH hbl
  go_enter Try.func45, Try.ntmps45
  go_wp2_with fail
  refine (settled_any HS.out HE.out d HD.out v).mono ?_
  rintro e w3 ⟨d1, rfl, h1, h2, h3, hb3⟩
  have HD1 := Lib.hid h1
  have HC := Lib.hid h2
  have HP := Lib.hid h3
  have f0 := (K1.out.below hb3 z2).frozen 0
  have f1 := (K1.out.below hb3 z2).frozen 1
  have g0 := (K1.out.below hb3 z2).cell 0
  have g1 := (K1.out.below hb3 z2).cell 1
  have k3 := K1.out.below hb3 z2
  have K3 : Hid (Blk ((w3.setCell ⟨w.heap.size, 0, none⟩ (.int .u32 (d1 : Int))).setCell ⟨w.heap.size, 1, none⟩ (.int .i64 (-1))) w.heap.size 85 #[.int .u32 (d1 : Int), .int .i64 (-1)]) := Lib.hid ((k3.set_ 0 _).set_ 1 _)
  have HB3 : Hid (Below w.heap.size w ((w3.setCell ⟨w.heap.size, 0, none⟩ (.int .u32 (d1 : Int))).setCell ⟨w.heap.size, 1, none⟩ (.int .i64 (-1)))) := Lib.hid (below_set (below_set (HB2.out.trans (hb3.mono (by omega))) (Nat.le_refl _) _ _) (Nat.le_refl _) _ _)
  clear h1 h2 h3 k3
  go_wp2_with fail
  obtain ⟨w4, hw4⟩ : ∃ W, (w3.setCell ⟨w.heap.size, 0, none⟩ (.int .u32 (d1 : Int))).setCell ⟨w.heap.size, 1, none⟩ (.int .i64 (-1)) = W := ⟨_, rfl⟩
  rw [hw4] at K3 HB3
  try rw [hw4]
  have HS4 := Lib.hid (HS0.out.below HB3.out)
  have HM4 := Lib.hid (HM0.out.below HB3.out)
  have m0 : w4.cell? ⟨gs, 2, none⟩ = some (.int .u32 (E.must : Int)) := HS4.out.blk.cell 2
  have m1 : w4.cell? ⟨gs, 3, none⟩ = some (.map (some hb)) := HS4.out.blk.cell 3
  have m2 : w4.cell? ⟨gs, 1, none⟩ = some (.slice (some ⟨eb, 0, none⟩) E.n c2) := HS4.out.blk.cell 1
  have s0 : w4.cell? ⟨w.heap.size, 0, none⟩ = some (.int .u32 (d1 : Int)) := K3.out.cell 0
  have s1 : w4.cell? ⟨w.heap.size, 1, none⟩ = some (.int .i64 (-1)) := K3.out.cell 1
  clear hw4 f0 f1 g0 g1 hb3 a0 a1
  cases hmu : decide (Sub E.must d1)
  · have HMU := Lib.hid hmu
    have HNS : Hid (¬ Sub E.must d1) := Lib.hid (of_decide_eq_false hmu)
    clear hmu
    go_quiet ((go_at_call 43; exact Calls.quiet_of_same ((within_val18 E.must d1 HE.out.must HD1.out _ HMU _).mono fun _ _ ⟨h1, h2⟩ => ⟨h1, h2.symm⟩)))
    go_upto_region 4 with fail
    obtain ⟨w5, hw5⟩ : ∃ W, w4.drewN nq = W := ⟨_, rfl⟩
    have hg5 : w.grownBy w5 (some hb) := by rw [← hw5]; exact grown_trans (grown_below HB3.out (Nat.le_refl _) _) (grown_below (below_drew' _ _ _) (Nat.le_refl _) _)
    have k5 : Blk w5 w.heap.size 85 #[.int .u32 (d1 : Int), .int .i64 (-1)] := by rw [← hw5]; exact K3.out.drewN nq
    have hm5 : HopM E w5 hb := by rw [← hw5]; exact HM4.out.below (below_drew' _ _ _)
    rw [hw5]
    clear hw5 s0 s1 m0 m1 m2 HS4 HM4 K3 HB3
    have HG5 := Lib.hid hg5
    have K5 := Lib.hid k5
    have HS5 := Lib.hid (HS0.out.grown hg5)
    have m1 : w5.cell? ⟨gs, 3, none⟩ = some (.map (some hb)) := HS5.out.blk.cell 3
    have m2 : w5.cell? ⟨gs, 1, none⟩ = some (.slice (some ⟨eb, 0, none⟩) E.n c2) := HS5.out.blk.cell 1
    have s0 : w5.cell? ⟨w.heap.size, 0, none⟩ = some (.int .u32 (d1 : Int)) := k5.cell 0
    have s1 : w5.cell? ⟨w.heap.size, 1, none⟩ = some (.int .i64 (-1)) := k5.cell 1
    obtain ⟨b, hbn, hlk⟩ := hop_look hm5 d1 HD1.out
    have hl5 := hm5.lt
    have l1 := hlk w5.drew rfl
    have l2 := hlk (w5.alloc (.cells #[] 121)).drew (Below.heap_alloc w5 (.cells #[] 121) hb hl5)
    have l2' := hlk (w5.drew.alloc (.cells #[] 121)) (Below.heap_alloc w5.drew (.cells #[] 121) hb hl5)
    have hz5 : w.heap.size < w5.heap.size := k5.lt
    have hz6 : gs < w5.heap.size := HS5.out.gsl
    have hz7 : eb < w5.heap.size := HS5.out.ebl
    have HBN := Lib.hid hbn
    have HM5 := Lib.hid hm5
    clear hlk hbn hm5 k5 hg5
    go_cut [6] (fun c wx => c = .bool b ∧ wx = (w5.alloc (.cells #[] 121)).drew)
    case first =>
      go_region
      all_goals (go_wp2_with fail; go_meet; exact ⟨rfl, rfl⟩)
    case rest =>
      obtain ⟨rfl, rfl⟩ := hcut
      have hg6 : w5.grownBy (w5.alloc (.cells #[] 121)).drew (some hb) := grown_trans (World.grownBy_alloc w5 (.cells #[] 121) _) (grown_below (below_drew' _ 1 _) (Nat.le_refl _) _)
      have hb6 : Below w5.heap.size w5 (w5.alloc (.cells #[] 121)).drew := ((Below.refl _ _).alloc (Nat.le_refl _) _).trans (below_drew' _ 1 _)
      obtain ⟨w6, hw6⟩ : ∃ W, (w5.alloc (.cells #[] 121)).drew = W := ⟨_, rfl⟩
      rw [hw6] at hg6 hb6 ⊢
      clear hw6 l1 l2 l2' hz5 hz6 hz7 m1 m2 s0 s1 hl5
      have HG6 := Lib.hid (grown_trans HG5.out hg6)
      have hsb : some w.heap.size ≠ some hb := fun e => by have := HBL.out; injection e; omega
      have HSB := Lib.hid hsb
      have HM6 : Hid (HopM E w6 hb) := Lib.hid (HM5.out.below hb6)
      have K6 := Lib.hid (K5.out.grown hg6 hsb)
      have HS6 := Lib.hid (HS0.out.grown HG6.out)
      clear hg6 hsb hb6
      cases b
      · obtain ⟨n, hn⟩ : ∃ n, E.n = n := ⟨_, rfl⟩
        have m2 : w6.cell? ⟨gs, 1, none⟩ = some (.slice (some ⟨eb, 0, none⟩) E.n c2) := HS6.out.blk.cell 1
        rw [hn] at m2
        have HN := Lib.hid hn
        have hn20 : n ≤ 20 := by rw [← hn]; exact HE.out.n1
        have hn2 : (n : Int) ≤ 20 := by omega
        clear hn
        go_wp2
        go_loopw [7, 37] (fun tv iv wr => ∃ q t : Nat, q ≤ n ∧ iv = .int .i64 (q : Int) ∧ tv = .int .u32 (t : Int) ∧ Hid (Seen E be d1 q t) ∧ Hid (HopM E wr hb) ∧ Hid (w.grownBy wr (some hb)) ∧ Hid (Blk wr w.heap.size 85 #[.int .u32 (d1 : Int), .int .i64 (-1)])) (fun _ iv _ => n - (intOf iv).toNat)
        case atStart => exact ⟨0, 0, by omega, rfl, rfl, Lib.hid (seen_start _ _ _), HM6, HG6, K6⟩
        case round =>
          obtain ⟨q, t, hq, rfl, rfl, HSE, HMr, HGr, HKr⟩ := hrel
          have hq0 : (0 : Int) ≤ (q : Int) := by omega
          by_cases hlt : q < n
          · have hlt2 : (q : Int) < (n : Int) := by omega
            have HSr := Lib.hid (HS0.out.grown HGr.out)
            obtain ⟨x, hx, e0⟩ := HSr.out.en q (by rw [HN.out]; exact hlt)
            have HX := Lib.hid hx
            have HXN := Lib.hid (HO.out.lt q x hx)
            have s0 : wr.cell? ⟨w.heap.size, 0, none⟩ = some (.int .u32 (d1 : Int)) := HKr.out.cell 0
            have s1 : wr.cell? ⟨w.heap.size, 1, none⟩ = some (.int .i64 (-1)) := HKr.out.cell 1
            clear hx
            go_wp2_with fail
            refine (next_any HSr.out HE.out d1 HD1.out (-1) x HXN.out).mono ?_
            rintro e w7 ⟨hc, hb7⟩
            have HG7 := Lib.hid (grown_trans HGr.out (grown_below hb7 (Nat.le_refl _) _))
            have HK7 := Lib.hid (HKr.out.below hb7 HKr.out.lt)
            have HM7 := Lib.hid (HMr.out.below hb7)
            have l7 : hb < w7.heap.size := HM7.out.lt
            clear hb7 s0 s1 e0
            rcases hc with ⟨hm, rfl⟩ | ⟨hm, rfl⟩
            · have HMY := Lib.hid hm
              have HV20 : Hid (E.val x < 21) := Lib.hid (by have := HE.out.val x HXN.out; omega)
              clear hm
              cases htb : t.testBit (E.val x)
              · have HTB := Lib.hid htb
                clear htb
                go_wp2_with (go_at_call 66; refine (hasG_any t (E.val x) HSE.out.2.2 HV20.out _ HTB _).mono ?_; rintro e w8 ⟨rfl, rfl⟩)
                have hkb : Blk (w7.alloc (.cells #[.int .u32 ((ins d1 x : Nat) : Int), .int .i64 (E.val x : Int)] 85)) w7.heap.size 85 #[.int .u32 ((ins d1 x : Nat) : Int), .int .i64 (E.val x : Int)] := Blk.new _ _ _
                have hga : w.grownBy (w7.alloc (.cells #[.int .u32 ((ins d1 x : Nat) : Int), .int .i64 (E.val x : Int)] 85)) (some hb) := grown_trans HG7.out (World.grownBy_alloc _ _ _)
                refine (HIH.out (ins d1 x) (E.val x : Int) _ (ins_lt (n := 20) HD1.out (by have := HMY.out.1; have := HE.out.n1; omega)) (Nat.lt_of_lt_of_le (cnt_ins HMY.out.1 HMY.out.2.1) HC.out) (HS0.out.grown hga) (HM7.out.below ((Below.refl _ _).alloc (Nat.le_refl _) _))).mono ?_
                rintro e w8 ⟨b, rfl, hbp, hm8, hg8⟩
                have HG8 := Lib.hid (grown_trans hga hg8)
                have HM8 := Lib.hid hm8
                have HK8 := Lib.hid ((HK7.out.alloc (.cells #[.int .u32 ((ins d1 x : Nat) : Int), .int .i64 (E.val x : Int)] 85)).grown hg8 HSB.out)
                have hne7 : some w7.heap.size ≠ some hb := fun e => by injection e; omega
                have v1 : w8.cell? ⟨w7.heap.size, 1, none⟩ = some (.int .i64 (E.val x : Int)) := (hkb.grown hg8 hne7).cell 1
                clear hkb hga hm8 hg8 hne7
                cases b
                · have HNO : Hid (¬ Poss E (ins d1 x) (E.val x)) := Lib.hid (fun h => by have := hbp.2 h; cases this)
                  clear hbp
                  go_wp2_with (go_at_call 62; refine (withG_any t (E.val x) HSE.out.2.2 HV20.out _).mono ?_; rintro e w9 ⟨rfl, rfl⟩)
                  go_roundw
                  case rel => exact ⟨q + 1, ins t (E.val x), by omega, by go_num, rfl, Lib.hid (seen_no HSE.out HX.out HMY.out HV20.out HNO.out), HM8, HG8, HK8⟩
                  case measure => simp [intOf]; omega
                · have HNP : Hid (∀ W, HopM E W hb → w.grownBy W (some hb) → Q (.returned (.bool true)) W) := Lib.hid fun W h1 h2 => HRES.out W true ⟨fun _ => HP.out.2 (.step x HMY.out (hbp.1 rfl)), fun _ => rfl⟩ h1 h2
                  clear hbp
                  go_wp2
                  exact HNP.out _ HM8.out HG8.out
              · have HTB := Lib.hid htb
                clear htb
                go_wp2_with (go_at_call 66; refine (hasG_any t (E.val x) HSE.out.2.2 HV20.out _ HTB _).mono ?_; rintro e w8 ⟨rfl, rfl⟩)
                go_roundw
                case rel => exact ⟨q + 1, t, by omega, by go_num, rfl, Lib.hid (seen_tried HSE.out HX.out HTB.out), Lib.hid (HM7.out.below ((Below.refl _ _).alloc (Nat.le_refl _) _)), Lib.hid (grown_trans HG7.out (World.grownBy_alloc _ _ _)), Lib.hid (HK7.out.alloc _)⟩
                case measure => simp [intOf]; omega
            · have HMN := Lib.hid hm
              clear hm
              go_wp2
              go_roundw
              case rel => exact ⟨q + 1, t, by omega, by go_num, rfl, Lib.hid (seen_not HSE.out HX.out HMN.out), Lib.hid (HM7.out.below ((Below.refl _ _).alloc (Nat.le_refl _) _)), Lib.hid (grown_trans HG7.out (World.grownBy_alloc _ _ _)), Lib.hid (HK7.out.alloc _)⟩
              case measure => simp [intOf]; omega
          · obtain rfl : q = n := by omega
            have HNO : Hid (¬ Poss E d1 (-1)) := Lib.hid (seen_end HO.out (by rw [HN.out]; exact HSE.out) HNS.out)
            have HNP : Hid (∀ W, HopM E W hb → w.grownBy W (some hb) → Q (.returned (.bool false)) W) := Lib.hid fun W h1 h2 => HRES.out W false ⟨fun h => (by cases h), fun h => (HNO.out (HP.out.1 h)).elim⟩ h1 h2
            have HSr := Lib.hid (HS0.out.grown HGr.out)
            have s0 : wr.cell? ⟨w.heap.size, 0, none⟩ = some (.int .u32 (d1 : Int)) := HKr.out.cell 0
            have s1 : wr.cell? ⟨w.heap.size, 1, none⟩ = some (.int .i64 (-1)) := HKr.out.cell 1
            have m1 : wr.cell? ⟨gs, 3, none⟩ = some (.map (some hb)) := HSr.out.blk.cell 3
            go_wp2_with fail
            obtain ⟨w9, hrun, hm9, hg9⟩ := hop_put (w := wr.drew) (HMr.out.below (below_drew' _ 1 _)) d1 HD1.out HNO.out
            have HM9 := Lib.hid hm9
            have HG9 := Lib.hid (grown_trans (grown_trans HGr.out (grown_below (below_drew' _ 1 _) (Nat.le_refl _) _)) hg9)
            clear hm9 hg9
            go_region
            all_goals
              go_wp2
              exact HNP.out _ HM9.out HG9.out
      · have HNP : Hid (∀ W, HopM E W hb → w.grownBy W (some hb) → Q (.returned (.bool false)) W) := Lib.hid fun W h1 h2 => HRES.out W false ⟨fun h => (by cases h), fun h => (HBN.out rfl (HP.out.1 h)).elim⟩ h1 h2
        go_wp2
        exact HNP.out _ HM6.out HG6.out
  · have HMU := Lib.hid hmu
    have HR : (true = true ↔ Poss E d v) := ⟨fun _ => HP.out.2 (.fin (of_decide_eq_true hmu)), fun _ => rfl⟩
    clear hmu
    have HRR : Hid (∀ W, HopM E W hb → w.grownBy W (some hb) → Q (.returned (.bool true)) W) := Lib.hid fun W h1 h2 => HRES.out W true HR h1 h2
    clear HR
    go_quiet ((go_at_call 43; exact Calls.quiet_of_same ((within_val18 E.must d1 HE.out.must HD1.out _ HMU _).mono fun _ _ ⟨h1, h2⟩ => ⟨h1, h2.symm⟩)))
    go_wp2
    exact HRR.out _ (HM4.out.below (below_drew' _ _ _)) (grown_trans (grown_below HB3.out (Nat.le_refl _) _) (grown_below (below_drew' _ _ _) (Nat.le_refl _) _))
theorem possible_any {gs hb sb c1 eb c2 : Nat} {E : Env} {gt : Nat → Nat} {be : List Nat} (hE : OkE E gt) (hO : OkB E be) : ∀ (m d : Nat) (v : Int) (w : World), cnt E.n d < m → d < 1048576 → SchAt w gs hb sb c1 eb c2 E gt be → HopM E w hb →
    Calls Try.prog 45 #[.pointer (some ⟨gs, 0, none⟩), stV d v] w (PsP E hb d v w)
  | 0, _, _, _, h, _, _, _ => by omega
  | m + 1, d, v, w, h, hd, S, hM => possible_step S hE hO hM d hd v fun d' v' W h1 h2 S' hM' => possible_any hE hO m d' v' W (by omega) h1 S' hM'
end Go.Proofs.Ytlecbhnopokmnaa
