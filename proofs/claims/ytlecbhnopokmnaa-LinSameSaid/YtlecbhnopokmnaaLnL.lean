/- LnL: Whether two histories are the same, by package lin. -/
import Derived.Test.YtlecbhnopokmnaaLnI
import Derived.Deep.QuietTactic
namespace Go.Proofs.Ytlecbhnopokmnaa
open Go.RowKit Mem
set_option maxRecDepth 100000
set_option maxHeartbeats 4000000
set_option linter.unusedVariables false
set_option linter.unusedSimpArgs false
open Ln
theorem NtOk.more {w : World} {B B' : Nat} {r : NtL} (h : NtOk w B r) (hb : B ≤ B') : NtOk w B' r := ⟨h.1.more hb, h.2.1.more hb, h.2.2⟩
theorem NtOk.to {w w' : World} {r : NtL} (h : NtOk w w.heap.size r) (hb : Below w.heap.size w w') : NtOk w' w'.heap.size r := (h.below hb).more hb.size
theorem sameans_any (x y : NtL) (w : World) (hx : NtOk w w.heap.size x) (hy : NtOk w w.heap.size y) : Calls Try.prog 51 #[x.ans, y.ans] w (IsB18 (sameA x y) w) := by
  have HB : Hid (Below w.heap.size w ((w.alloc (.cells #[.int .i64 x.aid, .int .i64 x.e, .bool x.has, .slice x.A2 x.vb.length x.c2] 56)).alloc (.cells #[.int .i64 y.aid, .int .i64 y.e, .bool y.has, .slice y.A2 y.vb.length y.c2] 56))) := Lib.hid (((Below.refl _ _).alloc (Nat.le_refl _) _).alloc (by simp) _)
  have HV : Hid (∀ W : World, Below w.heap.size w W → Calls Try.prog 46 #[.agg #[.bool x.has, .slice x.A2 x.vb.length x.c2], .agg #[.bool y.has, .slice y.A2 y.vb.length y.c2]] W (IsB18 (decide (normV x.has x.vb = normV y.has y.vb)) W)) := Lib.hid fun W hb => sameval18 _ _ _ _ _ _ _ _ _ _ rfl rfl W (hx.to hb).2.1 (hy.to hb).2.1
  clear hx hy
  obtain ⟨xa, xi, xk, xkey, xA, xb, xc, xai, xe, xh, xA2, xvb, xc2⟩ := x
  obtain ⟨ya, yi, yk, ykey, yA, yb, yc, yai, ye, yh, yA2, yvb, yc2⟩ := y
  unfold NtL.ans
  simp only at HB HV ⊢
  obtain ⟨R, hRR⟩ : ∃ R, sameA ⟨xa, xi, xk, xkey, xA, xb, xc, xai, xe, xh, xA2, xvb, xc2⟩ ⟨ya, yi, yk, ykey, yA, yb, yc, yai, ye, yh, yA2, yvb, yc2⟩ = R := ⟨_, rfl⟩
  rw [hRR]
  unfold sameA at hRR
  simp only at hRR
  by_cases h1 : xai = yai
  rotate_left
  · have q1 : (xai == yai) = false := by simpa using h1
    rw [q1] at hRR
    subst hRR
    clear HV
    go_enter Try.func51, Try.ntmps51
    go_wp2
    go_ret
    exact ⟨rfl, HB.out⟩
  subst h1
  by_cases h2 : xe = ye
  rotate_left
  · have q2 : (xe == ye) = false := by simpa using h2
    rw [q2] at hRR
    have hRR' : false = R := by simpa using hRR
    subst hRR'
    clear hRR HV
    go_enter Try.func51, Try.ntmps51
    go_wp2
    go_ret
    exact ⟨rfl, HB.out⟩
  · subst h2
    have hRR' : decide (normV xh xvb = normV yh yvb) = R := by rw [← hRR]; simp
    rw [hRR'] at HV
    clear hRR hRR'
    go_enter Try.func51, Try.ntmps51
    go_wp2_with (go_at_call 46; refine (HV.out _ HB.out).mono ?_; rintro e w' ⟨rfl, hb⟩)
    go_ret
    exact ⟨rfl, HB.out.trans (hb.mono HB.out.size)⟩
theorem samenote_any (x y : NtL) (w : World) (hx : NtOk w w.heap.size x) (hy : NtOk w w.heap.size y) : Calls Try.prog 49 #[x.v, y.v] w (IsB18 (sameN x y) w) := by
  have HB : Hid (Below w.heap.size w ((w.alloc (.cells #[.bool x.ia, .int .i64 x.id, .int .i64 x.kind, .string x.key, .slice x.A x.b.length x.c, .int .i64 x.aid, .int .i64 x.e, .bool x.has, .slice x.A2 x.vb.length x.c2] 58)).alloc (.cells #[.bool y.ia, .int .i64 y.id, .int .i64 y.kind, .string y.key, .slice y.A y.b.length y.c, .int .i64 y.aid, .int .i64 y.e, .bool y.has, .slice y.A2 y.vb.length y.c2] 58))) := Lib.hid (((Below.refl _ _).alloc (Nat.le_refl _) _).alloc (by simp) _)
  have HK1 := Lib.hid ((Blk.new w 58 #[.bool x.ia, .int .i64 x.id, .int .i64 x.kind, .string x.key, .slice x.A x.b.length x.c, .int .i64 x.aid, .int .i64 x.e, .bool x.has, .slice x.A2 x.vb.length x.c2]).alloc (.cells #[.bool y.ia, .int .i64 y.id, .int .i64 y.kind, .string y.key, .slice y.A y.b.length y.c, .int .i64 y.aid, .int .i64 y.e, .bool y.has, .slice y.A2 y.vb.length y.c2] 58))
  have HK2 := Lib.hid (Blk.new (w.alloc (.cells #[.bool x.ia, .int .i64 x.id, .int .i64 x.kind, .string x.key, .slice x.A x.b.length x.c, .int .i64 x.aid, .int .i64 x.e, .bool x.has, .slice x.A2 x.vb.length x.c2] 58)) 58 #[.bool y.ia, .int .i64 y.id, .int .i64 y.kind, .string y.key, .slice y.A y.b.length y.c, .int .i64 y.aid, .int .i64 y.e, .bool y.has, .slice y.A2 y.vb.length y.c2])
  have HC : Hid (∀ W : World, Below w.heap.size w W → Calls Try.prog 50 #[x.call, y.call] W (IsB18 (sameC x y) W)) := Lib.hid fun W hb => samecall_any x y W (hx.to hb) (hy.to hb)
  have HA : Hid (∀ W : World, Below w.heap.size w W → Calls Try.prog 51 #[x.ans, y.ans] W (IsB18 (sameA x y) W)) := Lib.hid fun W hb => sameans_any x y W (hx.to hb) (hy.to hb)
  clear hx hy
  obtain ⟨b1, hb1⟩ : ∃ b1, sameC x y = b1 := ⟨_, rfl⟩
  obtain ⟨b2, hb2⟩ : ∃ b2, sameA x y = b2 := ⟨_, rfl⟩
  obtain ⟨R, hRR⟩ : ∃ R, sameN x y = R := ⟨_, rfl⟩
  rw [hRR]
  unfold sameN at hRR
  rw [hb1, hb2] at hRR
  rw [hb1] at HC
  rw [hb2] at HA
  clear hb1 hb2
  obtain ⟨xa, xi, xk, xkey, xA, xb, xc, xai, xe, xh, xA2, xvb, xc2⟩ := x
  obtain ⟨ya, yi, yk, ykey, yA, yb, yc, yai, ye, yh, yA2, yvb, yc2⟩ := y
  unfold NtL.call at HC
  unfold NtL.ans at HA
  unfold NtL.v
  simp only at HB HC HA HK1 HK2 hRR ⊢
  rw [World.size_alloc] at HK2
  obtain ⟨W1, hW1⟩ : ∃ W, (w.alloc (.cells #[.bool xa, .int .i64 xi, .int .i64 xk, .string xkey, .slice xA xb.length xc, .int .i64 xai, .int .i64 xe, .bool xh, .slice xA2 xvb.length xc2] 58)).alloc (.cells #[.bool ya, .int .i64 yi, .int .i64 yk, .string ykey, .slice yA yb.length yc, .int .i64 yai, .int .i64 ye, .bool yh, .slice yA2 yvb.length yc2] 58) = W := ⟨_, rfl⟩
  rw [hW1] at HB HK1 HK2
  have lx : w.heap.size < W1.heap.size := HK1.out.lt
  have ly : w.heap.size + 1 < W1.heap.size := HK2.out.lt
  have a0 : W1.cell? ⟨w.heap.size, 0, none⟩ = some (.bool xa) := HK1.out.cell 0
  have a1 : W1.cell? ⟨w.heap.size, 1, none⟩ = some (.int .i64 xi) := HK1.out.cell 1
  have a2 : W1.cell? ⟨w.heap.size, 2, none⟩ = some (.int .i64 xk) := HK1.out.cell 2
  have a3 : W1.cell? ⟨w.heap.size, 3, none⟩ = some (.string xkey) := HK1.out.cell 3
  have a4 : W1.cell? ⟨w.heap.size, 4, none⟩ = some (.slice xA xb.length xc) := HK1.out.cell 4
  have b0 : W1.cell? ⟨w.heap.size + 1, 0, none⟩ = some (.bool ya) := HK2.out.cell 0
  have b1' : W1.cell? ⟨w.heap.size + 1, 1, none⟩ = some (.int .i64 yi) := HK2.out.cell 1
  have b2' : W1.cell? ⟨w.heap.size + 1, 2, none⟩ = some (.int .i64 yk) := HK2.out.cell 2
  have b3 : W1.cell? ⟨w.heap.size + 1, 3, none⟩ = some (.string ykey) := HK2.out.cell 3
  have b4 : W1.cell? ⟨w.heap.size + 1, 4, none⟩ = some (.slice yA yb.length yc) := HK2.out.cell 4
  have hab : (xa == ya) = true ∨ ((xa == ya) = false ∧ false = R) := by
    cases h : (xa == ya)
    · rw [h] at hRR; exact Or.inr ⟨rfl, hRR⟩
    · exact Or.inl rfl
  rcases hab with h1 | ⟨h1, h2⟩
  rotate_left
  · subst h2
    clear hRR
    cases xa <;> cases ya <;> first | (cases h1; done) | skip
    all_goals
      go_enter Try.func49, Try.ntmps49
      go_wp2
      go_ret
      exact ⟨rfl, HB.out⟩
  · have hxy : xa = ya := by simpa using h1
    subst hxy
    rw [h1] at hRR
    have d5 : ∀ W, Below W1.heap.size W1 W → Blk W w.heap.size 58 #[.bool xa, .int .i64 xi, .int .i64 xk, .string xkey, .slice xA xb.length xc, .int .i64 xai, .int .i64 xe, .bool xh, .slice xA2 xvb.length xc2] ∧ Blk W (w.heap.size + 1) 58 #[.bool xa, .int .i64 yi, .int .i64 yk, .string ykey, .slice yA yb.length yc, .int .i64 yai, .int .i64 ye, .bool yh, .slice yA2 yvb.length yc2] := fun W hb => ⟨HK1.out.below hb HK1.out.lt, HK2.out.below hb HK2.out.lt⟩
    have D5 := Lib.hid d5
    clear d5 h1
    have HC1 := Lib.hid (HC.out W1 HB.out)
    cases b1
    · have hR : false = R := by simpa using hRR
      subst hR
      clear hRR HA
      go_enter Try.func49, Try.ntmps49
      go_wp2_with (go_at_call 50; refine HC1.out.mono ?_; rintro e w2 ⟨rfl, hb2⟩; have HB2 := Lib.hid (HB.out.trans (hb2.mono HB.out.size)); clear hb2)
      go_ret
      exact ⟨rfl, HB2.out⟩
    · have hR : b2 = R := by simpa using hRR
      subst hR
      clear hRR
      go_enter Try.func49, Try.ntmps49
      go_wp2_with (first
        | (go_at_call 50; refine HC1.out.mono ?_; rintro e w2 ⟨rfl, hb2⟩; have HB2 := Lib.hid (HB.out.trans (hb2.mono HB.out.size)); obtain ⟨k1, k2⟩ := D5.out _ hb2; (have f5 : w2.cell? ⟨w.heap.size, 5, none⟩ = some (.int .i64 xai) := k1.cell 5); (have f6 : w2.cell? ⟨w.heap.size, 6, none⟩ = some (.int .i64 xe) := k1.cell 6); (have f7 : w2.cell? ⟨w.heap.size, 7, none⟩ = some (.bool xh) := k1.cell 7); (have f8 : w2.cell? ⟨w.heap.size, 8, none⟩ = some (.slice xA2 xvb.length xc2) := k1.cell 8); (have g5 : w2.cell? ⟨w.heap.size + 1, 5, none⟩ = some (.int .i64 yai) := k2.cell 5); (have g6 : w2.cell? ⟨w.heap.size + 1, 6, none⟩ = some (.int .i64 ye) := k2.cell 6); (have g7 : w2.cell? ⟨w.heap.size + 1, 7, none⟩ = some (.bool yh) := k2.cell 7); (have g8 : w2.cell? ⟨w.heap.size + 1, 8, none⟩ = some (.slice yA2 yvb.length yc2) := k2.cell 8); clear hb2 k1 k2)
        | (go_at_call 51; refine (HA.out _ HB2.out).mono ?_; rintro e w3 ⟨rfl, hb3⟩; have HB3 := Lib.hid (HB2.out.trans (hb3.mono HB2.out.size)); clear hb3))
      go_ret
      exact ⟨rfl, HB3.out⟩
end Go.Proofs.Ytlecbhnopokmnaa
