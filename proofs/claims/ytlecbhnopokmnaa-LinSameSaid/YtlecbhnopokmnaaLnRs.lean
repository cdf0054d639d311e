/- LnRs: Whether two histories are the same, by the document. -/
import Derived.Test.YtlecbhnopokmnaaLnR
import Derived.Test.YtlecbhnopokmnaaSam8
namespace Go.Proofs.Ytlecbhnopokmnaa
open Go.RowKit Mem
set_option maxRecDepth 100000
set_option maxHeartbeats 8000000
set_option linter.unusedVariables false
set_option linter.unusedSimpArgs false
open Ln
theorem refsv18 (x y : NtL) (w : World) (hx : NtOk w w.heap.size x) (hy : NtOk w w.heap.size y) (R : Bool) (hR : decide (normV x.has x.vb = normV y.has y.vb) = R) :
    Calls Try.prog 39 #[.agg #[.bool x.has, .slice x.A2 x.vb.length x.c2], .agg #[.bool y.has, .slice y.A2 y.vb.length y.c2]] w (IsB18 R w) := by
  have := refsameval_big x.has y.has x.A2 y.A2 x.vb y.vb x.c2 y.c2 _ _ rfl rfl w ⟨hx.2.1, by have := hx.2.2.2; unfold maxLen at this; omega⟩ ⟨hy.2.1, by have := hy.2.2.2; unfold maxLen at this; omega⟩
  rw [show sameV x.has y.has x.vb y.vb = R by rw [← hR, normV_eq]; rfl] at this
  exact this
/-- Two calls and two answers, laid one behind the other. -/
theorem four_laid (w : World) (t u : TypeId) (c1 c2 c3 c4 : Array Value) : ∃ W, (((w.alloc (.cells c1 t)).alloc (.cells c2 t)).alloc (.cells c3 u)).alloc (.cells c4 u) = W ∧ Below w.heap.size w W ∧ Blk W w.heap.size t c1 ∧ Blk W (w.heap.size + 1) t c2 ∧ Blk W (w.heap.size + 2) u c3 ∧ Blk W (w.heap.size + 3) u c4 := by
  refine ⟨_, rfl, ((((Below.refl _ _).alloc (Nat.le_refl _) _).alloc (by simp) _).alloc (by simp; omega) _).alloc (by simp; omega) _, ?_, ?_, ?_, ?_⟩
  · exact (((Blk.new w t c1).alloc _).alloc _).alloc _
  · have := (((Blk.new (w.alloc (.cells c1 t)) t c2).alloc (.cells c3 u)).alloc (.cells c4 u))
    rw [World.size_alloc] at this; exact this
  · have := ((Blk.new ((w.alloc (.cells c1 t)).alloc (.cells c2 t)) u c3).alloc (.cells c4 u))
    rw [World.size_alloc, World.size_alloc] at this; exact this
  · have := (Blk.new (((w.alloc (.cells c1 t)).alloc (.cells c2 t)).alloc (.cells c3 u)) u c4)
    rw [World.size_alloc, World.size_alloc, World.size_alloc] at this; exact this
theorem refsamenotes_any (n c m c' : Nat) (A A' : Option Addr) (us vs : List NtL) (hn : n = us.length) (hm : m = vs.length) (hl : n ≤ maxLen) (hl' : m ≤ maxLen) (w : World) (h : NtsB w A us) (h' : NtsB w A' vs) :
    Calls Try.prog 25 #[.slice A n c, .slice A' m c'] w (IsB18 (allN us vs) w) := by
  obtain ⟨R, hR⟩ : ∃ R, allN us vs = R := ⟨_, rfl⟩
  rw [hR]
  have HV := Lib.hid hR
  have HN := Lib.hid hn
  have HM := Lib.hid hm
  have HU := Lib.hid h
  have HVV := Lib.hid h'
  have HNO : Hid (∀ W : World, R = false → Below w.heap.size w W → IsB18 R w (.returned (.bool false)) W) := Lib.hid fun W e hb => ⟨by rw [e], hb⟩
  have HYES : Hid (∀ W : World, R = true → Below w.heap.size w W → IsB18 R w (.returned (.bool true)) W) := Lib.hid fun W e hb => ⟨by rw [e], hb⟩
  obtain ⟨Q, hQ⟩ : ∃ Q, IsB18 R w = Q := ⟨_, rfl⟩
  rw [hQ] at HNO HYES ⊢
  have hn2 : (n : Int) ≤ 9223372036854775807 := by unfold maxLen at hl; omega
  have hm2 : (m : Int) ≤ 9223372036854775807 := by unfold maxLen at hl'; omega
  clear h h' hR hl hl' hQ
  by_cases hnm : n = m
  rotate_left
  · have HR : Hid (R = false) := Lib.hid (by rw [← HV.out]; exact allN_len (by rw [← HN.out, ← HM.out]; exact hnm))
    have hne : ((n : Int) != (m : Int)) = true := by simp; omega
    clear hn hm
    go_enter Try.func25, Try.ntmps25
    go_wp2
    exact HNO.out _ HR.out (Below.refl _ _)
  subst hnm
  clear hn hm
  go_enter Try.func25, Try.ntmps25
  go_wp2
  go_loopw [5] (fun i wr => ∃ k : Nat, k ≤ n ∧ i = .int .i64 k ∧ Hid (Below w.heap.size w wr) ∧ Hid (∀ j (h1 : j < us.length) (h2 : j < vs.length), j < k → sameN us[j] vs[j] = true)) (fun i _ => n - (intOf i).toNat)
  case atStart => exact ⟨0, by omega, rfl, Lib.hid (Below.refl _ _), Lib.hid fun j _ _ h => absurd h (Nat.not_lt_zero _)⟩
  case round =>
    obtain ⟨k, hk, rfl, HB, HS⟩ := hrel
    by_cases hlt : k < n
    rotate_left
    · obtain rfl : n = k := by omega
      have HR : Hid (R = true) := Lib.hid (by
        rw [← HV.out]
        exact allN_yes (by rw [← HN.out, ← HM.out]) fun j h1 h2 => HS.out j h1 h2 (by rw [HN.out]; exact h1))
      clear HS
      go_wp2
      exact HYES.out _ HR.out HB.out
    have hk1 : k < us.length := by rw [← HN.out]; exact hlt
    have hk2 : k < vs.length := by rw [← HM.out]; exact hlt
    obtain ⟨b, o, rfl, hb, hc⟩ := nts_open (HU.out.below HB.out).row (by omega)
    obtain ⟨b', o', rfl, hb', hc'⟩ := nts_open (HVV.out.below HB.out).row (by omega)
    obtain ⟨a0, a1, a2, a3, a4, a5, a6, a7, a8⟩ := hc k hk1
    obtain ⟨b0, b1, b2, b3, b4, b5, b6, b7, b8⟩ := hc' k hk2
    have v1 := (HU.out.below HB.out).ok us[k] (List.getElem_mem hk1)
    have v2 := (HVV.out.below HB.out).ok vs[k] (List.getElem_mem hk2)
    obtain ⟨q, hq⟩ : ∃ q, sameN (us[k]'hk1) (vs[k]'hk2) = q := ⟨_, rfl⟩
    have HQ : Hid ((q = true → ∀ j (h1 : j < us.length) (h2 : j < vs.length), j < k + 1 → sameN us[j] vs[j] = true) ∧ (q = false → R = false)) := Lib.hid ⟨fun hq' j h1 h2 hj => by
      by_cases hjk : j = k
      · subst hjk; exact hq.trans hq'
      · exact HS.out j h1 h2 (by omega), fun hq' => by rw [← HV.out]; exact allN_not k hk1 hk2 (hq.trans hq')⟩
    obtain ⟨x, hx⟩ : ∃ p, us[k]'hk1 = p := ⟨_, rfl⟩
    obtain ⟨y, hy⟩ : ∃ p, vs[k]'hk2 = p := ⟨_, rfl⟩
    rw [hx] at a0 a1 a2 a3 a4 a5 a6 a7 a8 v1 hq
    rw [hy] at b0 b1 b2 b3 b4 b5 b6 b7 b8 v2 hq
    have HV1 := Lib.hid v1
    have HV2 := Lib.hid v2
    have hki : (0 : Int) ≤ (k : Int) := by omega
    have hki2 : (k : Int) < (n : Int) := by omega
    have hbl : b < wr.heap.size := hb
    have hbl' : b' < wr.heap.size := hb'
    clear hc hc' hx hy v1 v2 HS hk1 hk2 hb hb'
    obtain ⟨W4, hW4, hb4, k1, k2, k3, k4⟩ := four_laid wr 54 56 #[.int .i64 x.id, .int .i64 x.kind, .string x.key, .slice x.A x.b.length x.c] #[.int .i64 y.id, .int .i64 y.kind, .string y.key, .slice y.A y.b.length y.c] #[.int .i64 x.aid, .int .i64 x.e, .bool x.has, .slice x.A2 x.vb.length x.c2] #[.int .i64 y.aid, .int .i64 y.e, .bool y.has, .slice y.A2 y.vb.length y.c2]
    have HB4 := Lib.hid hb4
    have HBW := Lib.hid (HB.out.trans (hb4.mono HB.out.size))
    have hb3 : Below wr.heap.size wr (((wr.alloc (.cells #[.int .i64 x.id, .int .i64 x.kind, .string x.key, .slice x.A x.b.length x.c] 54)).alloc (.cells #[.int .i64 y.id, .int .i64 y.kind, .string y.key, .slice y.A y.b.length y.c] 54)).alloc (.cells #[.int .i64 x.aid, .int .i64 x.e, .bool x.has, .slice x.A2 x.vb.length x.c2] 56)) := (((Below.refl _ _).alloc (Nat.le_refl _) _).alloc (by simp) _).alloc (by simp; omega) _
    have f5 : (((wr.alloc (.cells #[.int .i64 x.id, .int .i64 x.kind, .string x.key, .slice x.A x.b.length x.c] 54)).alloc (.cells #[.int .i64 y.id, .int .i64 y.kind, .string y.key, .slice y.A y.b.length y.c] 54)).alloc (.cells #[.int .i64 x.aid, .int .i64 x.e, .bool x.has, .slice x.A2 x.vb.length x.c2] 56)).cell? ⟨b', o' + k * 9 + 5, none⟩ = some (.int .i64 y.aid) := (hb3.cell (p := ⟨b', o' + k * 9 + 5, none⟩) hbl').trans b5
    have f6 : (((wr.alloc (.cells #[.int .i64 x.id, .int .i64 x.kind, .string x.key, .slice x.A x.b.length x.c] 54)).alloc (.cells #[.int .i64 y.id, .int .i64 y.kind, .string y.key, .slice y.A y.b.length y.c] 54)).alloc (.cells #[.int .i64 x.aid, .int .i64 x.e, .bool x.has, .slice x.A2 x.vb.length x.c2] 56)).cell? ⟨b', o' + k * 9 + 6, none⟩ = some (.int .i64 y.e) := (hb3.cell (p := ⟨b', o' + k * 9 + 6, none⟩) hbl').trans b6
    have f7 : (((wr.alloc (.cells #[.int .i64 x.id, .int .i64 x.kind, .string x.key, .slice x.A x.b.length x.c] 54)).alloc (.cells #[.int .i64 y.id, .int .i64 y.kind, .string y.key, .slice y.A y.b.length y.c] 54)).alloc (.cells #[.int .i64 x.aid, .int .i64 x.e, .bool x.has, .slice x.A2 x.vb.length x.c2] 56)).cell? ⟨b', o' + k * 9 + 7, none⟩ = some (.bool y.has) := (hb3.cell (p := ⟨b', o' + k * 9 + 7, none⟩) hbl').trans b7
    have f8 : (((wr.alloc (.cells #[.int .i64 x.id, .int .i64 x.kind, .string x.key, .slice x.A x.b.length x.c] 54)).alloc (.cells #[.int .i64 y.id, .int .i64 y.kind, .string y.key, .slice y.A y.b.length y.c] 54)).alloc (.cells #[.int .i64 x.aid, .int .i64 x.e, .bool x.has, .slice x.A2 x.vb.length x.c2] 56)).cell? ⟨b', o' + k * 9 + 8, none⟩ = some (.slice y.A2 y.vb.length y.c2) := (hb3.cell (p := ⟨b', o' + k * 9 + 8, none⟩) hbl').trans b8
    clear hb3
    have p0 : W4.cell? ⟨wr.heap.size, 0, none⟩ = some (.int .i64 x.id) := k1.cell 0
    have p1 : W4.cell? ⟨wr.heap.size, 1, none⟩ = some (.int .i64 x.kind) := k1.cell 1
    have p2 : W4.cell? ⟨wr.heap.size, 2, none⟩ = some (.string x.key) := k1.cell 2
    have p3 : W4.cell? ⟨wr.heap.size, 3, none⟩ = some (.slice x.A x.b.length x.c) := k1.cell 3
    have q0 : W4.cell? ⟨wr.heap.size + 1, 0, none⟩ = some (.int .i64 y.id) := k2.cell 0
    have q1 : W4.cell? ⟨wr.heap.size + 1, 1, none⟩ = some (.int .i64 y.kind) := k2.cell 1
    have q2 : W4.cell? ⟨wr.heap.size + 1, 2, none⟩ = some (.string y.key) := k2.cell 2
    have q3 : W4.cell? ⟨wr.heap.size + 1, 3, none⟩ = some (.slice y.A y.b.length y.c) := k2.cell 3
    have z1 : wr.heap.size < W4.heap.size := k1.lt
    have z2 : wr.heap.size + 1 < W4.heap.size := k2.lt
    have z3 : wr.heap.size + 1 + 1 < W4.heap.size := k3.lt
    have z4 : wr.heap.size + 1 + 1 + 1 < W4.heap.size := k4.lt
    have zb : b < W4.heap.size := Nat.lt_of_lt_of_le hbl hb4.size
    have zb' : b' < W4.heap.size := Nat.lt_of_lt_of_le hbl' hb4.size
    have d0 : W4.cell? ⟨b, o + k * 9, none⟩ = some (.bool x.ia) := (hb4.cell (p := ⟨b, o + k * 9, none⟩) hbl).trans a0
    have d0' : W4.cell? ⟨b', o' + k * 9, none⟩ = some (.bool y.ia) := (hb4.cell (p := ⟨b', o' + k * 9, none⟩) hbl').trans b0
    have HK3 := Lib.hid k3
    have HK4 := Lib.hid k4
    have HV1 := Lib.hid (HV1.out.to hb4)
    have HV2 := Lib.hid (HV2.out.to hb4)
    go_upto_region 10 with fail
    clear f5 f6 f7 f8 a0 a1 a2 a3 a4 a5 a6 a7 a8 b0 b1 b2 b3 b4 b5 b6 b7 b8 k1 k2 k3 k4 hb4 hW4 hbl hbl' HB
    obtain ⟨xa, xi, xk, xkey, xA, xb, xc, xai, xe, xh, xA2, xvb, xc2⟩ := x
    obtain ⟨ya, yi, yk, ykey, yA, yb, yc, yai, ye, yh, yA2, yvb, yc2⟩ := y
    simp only at p0 p1 p2 p3 q0 q1 q2 q3 d0 d0' HK3 HK4 ⊢
    have HQF : ∀ c : Prop, (c → sameN ⟨xa, xi, xk, xkey, xA, xb, xc, xai, xe, xh, xA2, xvb, xc2⟩ ⟨ya, yi, yk, ykey, yA, yb, yc, yai, ye, yh, yA2, yvb, yc2⟩ = false) → c → Hid (R = false) := fun c h hc => Lib.hid (HQ.out.2 (hq.symm.trans (h hc)))
    by_cases h0 : xa = ya
    rotate_left
    · have HR := HQF _ (fun h => by unfold sameN; simp only; rw [show (xa == ya) = false by simpa using h]; rfl) h0
      have e0 : (xa != ya) = true := by simpa using h0
      clear HQF
      cases xa <;> cases ya <;> first | (exact absurd rfl h0) | skip
      all_goals
        go_wp2
        go_quiet (fail)
        go_wp2
        exact HNO.out _ HR.out (HBW.out.trans (below_drew' _ _ _))
    subst h0
    by_cases h1 : xi = yi
    rotate_left
    · have HR := HQF _ (fun h => by unfold sameN sameC; simp only; rw [show (xi == yi) = false by simpa using h]; simp) h1
      have e1 : (xi != yi) = true := by simpa using h1
      clear HQF
      cases xa
      all_goals
        go_wp2
        go_quiet (fail)
        go_wp2
        exact HNO.out _ HR.out (HBW.out.trans (below_drew' _ _ _))
    subst h1
    by_cases h2 : xk = yk
    rotate_left
    · have HR := HQF _ (fun h => by unfold sameN sameC; simp only; rw [show (xk == yk) = false by simpa using h]; simp) h2
      have e1 : (xk != yk) = true := by simpa using h2
      clear HQF
      cases xa
      all_goals
        go_wp2
        go_quiet (fail)
        go_wp2
        exact HNO.out _ HR.out (HBW.out.trans (below_drew' _ _ _))
    subst h2
    by_cases h3 : xkey = ykey
    rotate_left
    · have HR := HQF _ (fun h => by unfold sameN sameC; simp only; rw [decide_eq_false h]; simp) h3
      have e1 : (xkey.toList == ykey.toList) = false := list_ne18 h3
      clear HQF h3
      cases xa
      all_goals
        go_wp2
        go_quiet (fail)
        go_wp2
        exact HNO.out _ HR.out (HBW.out.trans (below_drew' _ _ _))
    subst h3
    obtain ⟨sb, hsb⟩ : ∃ sb, (xb == yb) = sb := ⟨_, rfl⟩
    have HSB : Hid (∀ q : Nat, Calls Try.prog 38 #[.slice xA xb.length xc, .slice yA yb.length yc] (W4.drewN q) fun e w' => e = .returned (.bool sb) ∧ W4.drewN q = w') := Lib.hid fun q => by
      have := same_any W4.heap.size W4.heap.size xc yc xb.length yb.length xA yA xb yb (W4.drewN q) HV1.out.1 HV2.out.1 rfl rfl
      rw [hsb] at this; exact this
    cases sb
    · have HR := HQF _ (fun h => by unfold sameN sameC; simp only; rw [h]; simp) hsb
      clear HQF hsb
      cases xa
      all_goals
        go_wp2
        go_quiet ((go_at_call 38; exact Calls.quiet_of_same ((HSB.out _).mono fun _ _ ⟨h1, h2⟩ => ⟨h1, h2.symm⟩)))
        go_wp2
        exact HNO.out _ HR.out (HBW.out.trans (below_drew' _ _ _))
    have HT : Hid (sameN ⟨xa, xi, xk, xkey, xA, xb, xc, xai, xe, xh, xA2, xvb, xc2⟩ ⟨xa, xi, xk, xkey, yA, yb, yc, yai, ye, yh, yA2, yvb, yc2⟩ = sameA ⟨xa, xi, xk, xkey, xA, xb, xc, xai, xe, xh, xA2, xvb, xc2⟩ ⟨xa, xi, xk, xkey, yA, yb, yc, yai, ye, yh, yA2, yvb, yc2⟩) := Lib.hid (by unfold sameN sameC; simp only; rw [hsb]; simp)
    have t0 : W4.cell? ⟨wr.heap.size + 1 + 1, 0, none⟩ = some (.int .i64 xai) := HK3.out.cell 0
    have t1 : W4.cell? ⟨wr.heap.size + 1 + 1, 1, none⟩ = some (.int .i64 xe) := HK3.out.cell 1
    have t2 : W4.cell? ⟨wr.heap.size + 1 + 1, 2, none⟩ = some (.bool xh) := HK3.out.cell 2
    have t3 : W4.cell? ⟨wr.heap.size + 1 + 1, 3, none⟩ = some (.slice xA2 xvb.length xc2) := HK3.out.cell 3
    have u0 : W4.cell? ⟨wr.heap.size + 1 + 1 + 1, 0, none⟩ = some (.int .i64 yai) := HK4.out.cell 0
    have u1 : W4.cell? ⟨wr.heap.size + 1 + 1 + 1, 1, none⟩ = some (.int .i64 ye) := HK4.out.cell 1
    have u2 : W4.cell? ⟨wr.heap.size + 1 + 1 + 1, 2, none⟩ = some (.bool yh) := HK4.out.cell 2
    have u3 : W4.cell? ⟨wr.heap.size + 1 + 1 + 1, 3, none⟩ = some (.slice yA2 yvb.length yc2) := HK4.out.cell 3
    clear hsb
    have HQF := Lib.hid HQF
    have HE := Lib.hid hq
    clear hq
    have exx : (xa != xa) = false := by simp
    go_wp2
    go_quiet ((go_at_call 38; exact Calls.quiet_of_same ((HSB.out _).mono fun _ _ ⟨h1, h2⟩ => ⟨h1, h2.symm⟩)))
    clear p0 p1 p2 p3 q0 q1 q2 q3 d0 d0' HSB
    by_cases h5 : xai = yai
    rotate_left
    · have HR := HQF.out _ (fun h => by rw [HT.out]; unfold sameA; simp only; rw [show (xai == yai) = false by simpa using h]; simp) h5
      have e1 : (xai != yai) = true := by simpa using h5
      clear HQF
      go_wp2
      exact HNO.out _ HR.out (HBW.out.trans (below_drew' _ _ _))
    subst h5
    by_cases h6 : xe = ye
    rotate_left
    · have HR := HQF.out _ (fun h => by rw [HT.out]; unfold sameA; simp only; rw [show (xe == ye) = false by simpa using h]; simp) h6
      have e1 : (xe != ye) = true := by simpa using h6
      clear HQF
      go_wp2
      exact HNO.out _ HR.out (HBW.out.trans (below_drew' _ _ _))
    subst h6
    obtain ⟨sv, hsv⟩ : ∃ sv, decide (normV xh xvb = normV yh yvb) = sv := ⟨_, rfl⟩
    have HSV : Hid (∀ W : World, Below W4.heap.size W4 W → Calls Try.prog 39 #[.agg #[.bool xh, .slice xA2 xvb.length xc2], .agg #[.bool yh, .slice yA2 yvb.length yc2]] W (IsB18 sv W)) := Lib.hid fun W hb => refsv18 ⟨xa, xi, xk, xkey, xA, xb, xc, xai, xe, xh, xA2, xvb, xc2⟩ ⟨xa, xi, xk, xkey, yA, yb, yc, xai, xe, yh, yA2, yvb, yc2⟩ W (HV1.out.to hb) (HV2.out.to hb) sv hsv
    cases sv
    · have HR := HQF.out _ (fun h => by rw [HT.out]; unfold sameA; simp only; rw [h]; simp) hsv
      clear HQF hsv
      go_wp2_with fail
      refine (HSV.out _ (below_drew' _ _ _)).mono ?_
      rintro e w5 ⟨rfl, hb5⟩
      have HB5 := Lib.hid (HBW.out.trans (((below_drew' W4 _ W4.heap.size).trans hb5).mono HBW.out.size))
      clear hb5
      go_wp2
      exact HNO.out _ HR.out HB5.out
    · have HS := Lib.hid (HQ.out.1 (HE.out.symm.trans (by rw [HT.out]; unfold sameA; simp only; rw [hsv]; simp)))
      clear HQF hsv
      go_wp2_with fail
      refine (HSV.out _ (below_drew' _ _ _)).mono ?_
      rintro e w5 ⟨rfl, hb5⟩
      have HB5 := Lib.hid (HBW.out.trans (((below_drew' W4 _ W4.heap.size).trans hb5).mono HBW.out.size))
      clear hb5
      go_wp2
      go_roundw
      case rel => exact ⟨k + 1, by omega, by go_num, HB5, HS⟩
      case measure => simp [intOf]; omega
end Go.Proofs.Ytlecbhnopokmnaa
