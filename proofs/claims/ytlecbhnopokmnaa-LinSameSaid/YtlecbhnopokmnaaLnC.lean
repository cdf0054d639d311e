/- LnC: The first step of some that may come next; what may come next and closes no way; a search's state, settled. -/
import Derived.Test.YtlecbhnopokmnaaLnB
namespace Go.Proofs.Ytlecbhnopokmnaa
open Go.RowKit Mem
set_option maxRecDepth 10000
set_option maxHeartbeats 2000000
set_option linter.unusedVariables false
set_option linter.unusedSimpArgs false
open Ln
abbrev spV (g : Bool) (v : Int) (b t : Nat) : Value := .agg #[.bool g, .int .i64 v, .int .u32 (b : Int), .int .u32 (t : Int)]
theorem isget_any (g : Bool) (v : Int) (b t : Nat) (w : World) : Calls Try.prog 96 #[spV g v b t] w fun e w' => e = .returned (.bool g) ∧ Below w.heap.size w w' := by
  have HB := Lib.hid ((Below.refl w.heap.size w).alloc (Nat.le_refl _) (.cells #[.bool g, .int .i64 v, .int .u32 (b : Int), .int .u32 (t : Int)] 116))
  go_enter Try.func96, Try.ntmps96
  go_wp2
  go_ret
  exact ⟨rfl, HB.out⟩
theorem unread_any (g : Bool) (v : Int) (b t d ga : Nat) (ht : t < 1048576) (hd : d < 1048576) (w : World) (h : w.cell? ⟨ga, 0, none⟩ = some (.int .u32 (d : Int))) (hl : ga < w.heap.size) :
    Calls Try.prog 97 #[spV g v b t, .pointer (some ⟨ga, 0, none⟩)] w fun e w' => e = .returned (.bool (decide (Sub t d))) ∧ Below w.heap.size w w' := by
  have HB := Lib.hid ((Below.refl w.heap.size w).alloc (Nat.le_refl _) (.cells #[.bool g, .int .i64 v, .int .u32 (b : Int), .int .u32 (t : Int)] 116))
  have HT := Lib.hid ht
  have HD := Lib.hid hd
  clear ht hd
  go_enter Try.func97, Try.ntmps97
  go_wp2_with (go_at_call 43; refine (within_any18 t d HT.out HD.out _).mono ?_; rintro e w2 ⟨rfl, rfl⟩)
  go_ret
  exact ⟨rfl, HB.out⟩
/-- The first of those that p holds of that may come next, or none. -/
def FrP (E : Env) (d : Nat) (v : Int) (p : Nat → Bool) (w : World) (e : Ending) (w' : World) : Prop :=
  ((∃ i, i < E.n ∧ p i = true ∧ May E d v i ∧ e = .returned (.tuple #[stV (ins d i) (E.val i : Int), .bool true])) ∨ (∀ i, i < E.n → p i = true → ¬ May E d v i) ∧ e = .returned (.tuple #[stV 0 0, .bool false])) ∧ Below w.heap.size w w'
theorem st_row {w : World} {gs hb sb c1 eb c2 : Nat} {E : Env} {gt : Nat → Nat} {be : List Nat} (S : SchAt w gs hb sb c1 eb c2 E gt be) (i : Nat) (hi : i < E.n) :
    w.cell? ⟨sb, i * 4, none⟩ = some (.bool (E.get i)) ∧ w.cell? ⟨sb, i * 4 + 1, none⟩ = some (.int .i64 (E.val i : Int)) ∧ w.cell? ⟨sb, i * 4 + 2, none⟩ = some (.int .u32 (E.bef i : Int)) ∧ w.cell? ⟨sb, i * 4 + 3, none⟩ = some (.int .u32 (gt i : Int)) := S.st i hi
theorem first_get {w : World} {gs hb sb c1 eb c2 : Nat} {E : Env} {gt : Nat → Nat} {be : List Nat} (S : SchAt w gs hb sb c1 eb c2 E gt be) (hE : OkE E gt) (d : Nat) (hd : d < 1048576) (v : Int) :
    Calls Try.prog 95 #[.pointer (some ⟨gs, 0, none⟩), stV d v, .func (.func 96) #[] #[]] w (FrP E d v (E.get) w) := by
  obtain ⟨w2, hw2⟩ : ∃ W, (w.alloc (.cells #[.int .u32 (d : Int), .int .i64 v] 85)).alloc (.cells #[.int .u32 0, .int .i64 0] 85) = W := ⟨_, rfl⟩
  have B2 : Below w.heap.size w w2 := by rw [← hw2]; exact ((Below.refl _ _).alloc (Nat.le_refl _) _).alloc (by simp) _
  have S2 := S.below B2
  have c0 : w2.cell? ⟨gs, 0, none⟩ = some (.slice (some ⟨sb, 0, none⟩) E.n c1) := S2.blk.cell 0
  have a0 : w2.cell? ⟨w.heap.size, 0, none⟩ = some (.int .u32 (d : Int)) := by rw [← hw2]; simp
  have a1 : w2.cell? ⟨w.heap.size, 1, none⟩ = some (.int .i64 v) := by rw [← hw2]; simp
  have r0 : w2.cell? ⟨w.heap.size + 1, 0, none⟩ = some (.int .u32 0) := by rw [← hw2]; simp
  have r1 : w2.cell? ⟨w.heap.size + 1, 1, none⟩ = some (.int .i64 0) := by rw [← hw2]; simp
  have f0 : ∀ o, w2.frozen? ⟨w.heap.size + 1, o, none⟩ = false := fun o => by rw [← hw2]; simp
  have z2 : w2.heap.size = w.heap.size + 2 := by rw [← hw2]; simp
  obtain ⟨n, hn⟩ : ∃ x, E.n = x := ⟨_, rfl⟩
  rw [hn] at c0
  have hn20 : n ≤ 20 := by rw [← hn]; exact hE.n1
  have hn2 : (n : Int) ≤ 20 := by omega
  have HNO : Hid (∀ W : World, (∀ i, i < n → (E.get) i = true → ¬ May E d v i) → Below w.heap.size w W → FrP E d v (E.get) w (.returned (.tuple #[stV 0 0, .bool false])) W) := Lib.hid fun W h hb => ⟨Or.inr ⟨by rw [hn]; exact h, rfl⟩, hb⟩
  have HYES : Hid (∀ (W : World) (i : Nat), i < n → (E.get) i = true → May E d v i → Below w.heap.size w W → FrP E d v (E.get) w (.returned (.tuple #[stV (ins d i) (E.val i : Int), .bool true])) W) := Lib.hid fun W i h1 h2 h3 hb => ⟨Or.inl ⟨i, by rw [hn]; exact h1, h2, h3, rfl⟩, hb⟩
  obtain ⟨Q, hQ⟩ : ∃ Q, FrP E d v (E.get) w = Q := ⟨_, rfl⟩
  rw [hQ] at HNO HYES ⊢
  have HS := Lib.hid S2
  have HE := Lib.hid hE
  have HD := Lib.hid hd
  have HB0 : Hid (Below w2.heap.size w2 w2) := Lib.hid (Below.refl _ _)
  have HB2 := Lib.hid B2
  have HN := Lib.hid hn
  have A0 := Lib.hid a0
  have A1 := Lib.hid a1
  have R0 := Lib.hid r0
  have R1 := Lib.hid r1
  have F0 := Lib.hid f0
  clear S S2 B2 hE hd hQ hn a0 a1 r0 r1 f0
  go_enter Try.func95, Try.ntmps95
  go_wp2
  go_loopw [17] (fun iv wr => ∃ q : Nat, q ≤ n ∧ iv = .int .i64 (q : Int) ∧ Hid (∀ i, i < q → (E.get) i = true → ¬ May E d v i) ∧ Hid (Below w2.heap.size w2 wr)) (fun iv _ => n - (intOf iv).toNat)
  case atStart => exact ⟨0, by omega, rfl, Lib.hid (fun i hi => by omega), HB0⟩
  case round =>
    obtain ⟨q, hq, rfl, HF, HB⟩ := hrel
    have hq0 : (0 : Int) ≤ (q : Int) := by omega
    have r0 : wr.cell? ⟨w.heap.size + 1, 0, none⟩ = some (.int .u32 0) := (HB.out.cell (p := ⟨w.heap.size + 1, 0, none⟩) (show w.heap.size + 1 < _ by omega)).trans R0.out
    have r1 : wr.cell? ⟨w.heap.size + 1, 1, none⟩ = some (.int .i64 0) := (HB.out.cell (p := ⟨w.heap.size + 1, 1, none⟩) (show w.heap.size + 1 < _ by omega)).trans R1.out
    have gf0 : wr.frozen? ⟨w.heap.size + 1, 0, none⟩ = false := (HB.out.frozen (p := ⟨w.heap.size + 1, 0, none⟩) (show w.heap.size + 1 < _ by omega)).trans (F0.out 0)
    have gf1 : wr.frozen? ⟨w.heap.size + 1, 1, none⟩ = false := (HB.out.frozen (p := ⟨w.heap.size + 1, 1, none⟩) (show w.heap.size + 1 < _ by omega)).trans (F0.out 1)
    have zr2 : w.heap.size + 1 < wr.heap.size := by have := HB.out.size; omega
    by_cases hlt : q < n
    · have hlt2 : (q : Int) < (n : Int) := by omega
      obtain ⟨k0, k1, k2, k3⟩ := (HS.out.below HB.out).st q (by rw [HN.out]; exact hlt)
      have zr : w.heap.size + 2 ≤ wr.heap.size := by have := HB.out.size; omega
      have sbl : sb < wr.heap.size := (HS.out.below HB.out).sbl
      have AT : ∀ W, Below w2.heap.size w2 W → W.cell? ⟨w.heap.size, 0, none⟩ = some (.int .u32 (d : Int)) ∧ W.cell? ⟨w.heap.size, 1, none⟩ = some (.int .i64 v) ∧ W.cell? ⟨w.heap.size + 1, 0, none⟩ = some (.int .u32 0) ∧ W.cell? ⟨w.heap.size + 1, 1, none⟩ = some (.int .i64 0) ∧ (∀ o, W.frozen? ⟨w.heap.size + 1, o, none⟩ = false) := fun W hb =>
        ⟨(hb.cell (p := ⟨w.heap.size, 0, none⟩) (show w.heap.size < _ by omega)).trans A0.out, (hb.cell (p := ⟨w.heap.size, 1, none⟩) (show w.heap.size < _ by omega)).trans A1.out, (hb.cell (p := ⟨w.heap.size + 1, 0, none⟩) (show w.heap.size + 1 < _ by omega)).trans R0.out, (hb.cell (p := ⟨w.heap.size + 1, 1, none⟩) (show w.heap.size + 1 < _ by omega)).trans R1.out, fun o => (hb.frozen (show w.heap.size + 1 < _ by omega)).trans (F0.out o)⟩
      have HAT := Lib.hid AT
      have hqE : q < E.n := by rw [HN.out]; exact hlt
      have HQE := Lib.hid hqE
      obtain ⟨b, hb⟩ : ∃ b, (E.get) q = b := ⟨_, rfl⟩
      have HPQ := Lib.hid hb
      clear hb hqE AT
      go_wp2_with fail
      refine (isget_any _ _ _ _ _).mono ?_
      rintro e w3 ⟨he, hb3⟩
      rw [HPQ.out] at he
      subst he
      have hbr : Below w2.heap.size w2 w3 := HB.out.trans (((Below.refl wr.heap.size wr).alloc (Nat.le_refl _) _).trans (hb3.mono (by simp)) |>.mono HB.out.size)
      have HB3 := Lib.hid hbr
      obtain ⟨e0, e1, g0, g1, _⟩ := HAT.out w3 hbr
      have l3 : w.heap.size + 2 ≤ w3.heap.size := by have := hbr.size; omega
      clear hb3 hbr k0 k1 k2 k3 r0 r1 gf0 gf1
      cases b
      · go_wp2
        go_roundw
        case rel => exact ⟨q + 1, by omega, by go_num, Lib.hid (fun i hi hp => by
          rcases Nat.lt_or_ge i q with h | h
          · exact HF.out i h hp
          · have : i = q := by omega
            subst this
            rw [HPQ.out] at hp; cases hp), HB3⟩
        case measure => simp [intOf]; omega
      · go_wp2_with fail
        refine (next_any (HS.out.below HB3.out) HE.out d HD.out v q HQE.out).mono ?_
        rintro e w4 ⟨hc, hb4⟩
        have hbr : Below w2.heap.size w2 w4 := HB3.out.trans (hb4.mono HB3.out.size)
        have HB4 := Lib.hid hbr
        obtain ⟨e0, e1, g0, g1, gf⟩ := HAT.out w4 hbr
        have l4 : w.heap.size + 2 ≤ w4.heap.size := by have := hbr.size; omega
        have gf0 := gf 0
        have gf1 := gf 1
        have l4b : w.heap.size + 1 < w4.heap.size := by omega
        clear gf
        clear hb4 hbr
        rcases hc with ⟨hm, rfl⟩ | ⟨hm, rfl⟩
        · have HM := Lib.hid hm
          clear hm
          go_wp2
          first | rw [Exit.noGoto_ret] | skip
          exact bodyPost_ret (v := .tuple #[stV (ins d q) (E.val q : Int), .bool true]) (by simp [results, Try.results95, go_sem, g0, g1, gf0, gf1, l4b]) rfl (HYES.out _ q hlt HPQ.out HM.out ((below_set (below_set (HB2.out.trans (HB4.out.mono (by omega))) (by omega) _ _) (by omega) _ _).alloc (by simp; omega) _))
        · have HM := Lib.hid hm
          clear hm
          go_wp2
          go_roundw
          case rel => exact ⟨q + 1, by omega, by go_num, Lib.hid (fun i hi hp => by
            rcases Nat.lt_or_ge i q with h | h
            · exact HF.out i h hp
            · have : i = q := by omega
              subst this
              exact HM.out), Lib.hid (HB4.out.alloc HB4.out.size _)⟩
          case measure => simp [intOf]; omega
    · obtain rfl : q = n := by omega
      go_wp2
      first | rw [Exit.noGoto_ret] | skip
      exact bodyPost_ret (v := .tuple #[stV 0 0, .bool false]) (by simp [results, Try.results95, go_sem, r0, r1, gf0, gf1]) rfl (HNO.out _ HF.out (below_set (below_set (HB2.out.trans (HB.out.mono (by omega))) (by omega) _ _) (by omega) _ _))
theorem first_unread {w : World} {gs hb sb c1 eb c2 : Nat} {E : Env} {gt : Nat → Nat} {be : List Nat} (S : SchAt w gs hb sb c1 eb c2 E gt be) (hE : OkE E gt) (d : Nat) (hd : d < 1048576) (v : Int) (ga : Nat) (hga : w.cell? ⟨ga, 0, none⟩ = some (.int .u32 (d : Int))) (hgl : ga < w.heap.size) :
    Calls Try.prog 95 #[.pointer (some ⟨gs, 0, none⟩), stV d v, .func (.func 97) #[] #[.pointer (some ⟨ga, 0, none⟩)]] w (FrP E d v (fun i => decide (Sub (gt i) d)) w) := by
  obtain ⟨w2, hw2⟩ : ∃ W, (w.alloc (.cells #[.int .u32 (d : Int), .int .i64 v] 85)).alloc (.cells #[.int .u32 0, .int .i64 0] 85) = W := ⟨_, rfl⟩
  have B2 : Below w.heap.size w w2 := by rw [← hw2]; exact ((Below.refl _ _).alloc (Nat.le_refl _) _).alloc (by simp) _
  have S2 := S.below B2
  have c0 : w2.cell? ⟨gs, 0, none⟩ = some (.slice (some ⟨sb, 0, none⟩) E.n c1) := S2.blk.cell 0
  have a0 : w2.cell? ⟨w.heap.size, 0, none⟩ = some (.int .u32 (d : Int)) := by rw [← hw2]; simp
  have a1 : w2.cell? ⟨w.heap.size, 1, none⟩ = some (.int .i64 v) := by rw [← hw2]; simp
  have r0 : w2.cell? ⟨w.heap.size + 1, 0, none⟩ = some (.int .u32 0) := by rw [← hw2]; simp
  have r1 : w2.cell? ⟨w.heap.size + 1, 1, none⟩ = some (.int .i64 0) := by rw [← hw2]; simp
  have f0 : ∀ o, w2.frozen? ⟨w.heap.size + 1, o, none⟩ = false := fun o => by rw [← hw2]; simp
  have z2 : w2.heap.size = w.heap.size + 2 := by rw [← hw2]; simp
  obtain ⟨n, hn⟩ : ∃ x, E.n = x := ⟨_, rfl⟩
  rw [hn] at c0
  have hn20 : n ≤ 20 := by rw [← hn]; exact hE.n1
  have hn2 : (n : Int) ≤ 20 := by omega
  have HNO : Hid (∀ W : World, (∀ i, i < n → (fun i => decide (Sub (gt i) d)) i = true → ¬ May E d v i) → Below w.heap.size w W → FrP E d v (fun i => decide (Sub (gt i) d)) w (.returned (.tuple #[stV 0 0, .bool false])) W) := Lib.hid fun W h hb => ⟨Or.inr ⟨by rw [hn]; exact h, rfl⟩, hb⟩
  have HYES : Hid (∀ (W : World) (i : Nat), i < n → (fun i => decide (Sub (gt i) d)) i = true → May E d v i → Below w.heap.size w W → FrP E d v (fun i => decide (Sub (gt i) d)) w (.returned (.tuple #[stV (ins d i) (E.val i : Int), .bool true])) W) := Lib.hid fun W i h1 h2 h3 hb => ⟨Or.inl ⟨i, by rw [hn]; exact h1, h2, h3, rfl⟩, hb⟩
  obtain ⟨Q, hQ⟩ : ∃ Q, FrP E d v (fun i => decide (Sub (gt i) d)) w = Q := ⟨_, rfl⟩
  rw [hQ] at HNO HYES ⊢
  have HS := Lib.hid S2
  have HE := Lib.hid hE
  have HD := Lib.hid hd
  have HB0 : Hid (Below w2.heap.size w2 w2) := Lib.hid (Below.refl _ _)
  have HB2 := Lib.hid B2
  have HN := Lib.hid hn
  have A0 := Lib.hid a0
  have A1 := Lib.hid a1
  have R0 := Lib.hid r0
  have R1 := Lib.hid r1
  have HGA := Lib.hid hga
  have HGL := Lib.hid hgl
  have F0 := Lib.hid f0
  clear S S2 B2 hE hd hQ hn a0 a1 r0 r1 f0 hga hgl
  go_enter Try.func95, Try.ntmps95
  go_wp2
  go_loopw [17] (fun iv wr => ∃ q : Nat, q ≤ n ∧ iv = .int .i64 (q : Int) ∧ Hid (∀ i, i < q → (fun i => decide (Sub (gt i) d)) i = true → ¬ May E d v i) ∧ Hid (Below w2.heap.size w2 wr)) (fun iv _ => n - (intOf iv).toNat)
  case atStart => exact ⟨0, by omega, rfl, Lib.hid (fun i hi => by omega), HB0⟩
  case round =>
    obtain ⟨q, hq, rfl, HF, HB⟩ := hrel
    have hq0 : (0 : Int) ≤ (q : Int) := by omega
    have r0 : wr.cell? ⟨w.heap.size + 1, 0, none⟩ = some (.int .u32 0) := (HB.out.cell (p := ⟨w.heap.size + 1, 0, none⟩) (show w.heap.size + 1 < _ by omega)).trans R0.out
    have r1 : wr.cell? ⟨w.heap.size + 1, 1, none⟩ = some (.int .i64 0) := (HB.out.cell (p := ⟨w.heap.size + 1, 1, none⟩) (show w.heap.size + 1 < _ by omega)).trans R1.out
    have gf0 : wr.frozen? ⟨w.heap.size + 1, 0, none⟩ = false := (HB.out.frozen (p := ⟨w.heap.size + 1, 0, none⟩) (show w.heap.size + 1 < _ by omega)).trans (F0.out 0)
    have gf1 : wr.frozen? ⟨w.heap.size + 1, 1, none⟩ = false := (HB.out.frozen (p := ⟨w.heap.size + 1, 1, none⟩) (show w.heap.size + 1 < _ by omega)).trans (F0.out 1)
    have zr2 : w.heap.size + 1 < wr.heap.size := by have := HB.out.size; omega
    by_cases hlt : q < n
    · have hlt2 : (q : Int) < (n : Int) := by omega
      obtain ⟨k0, k1, k2, k3⟩ := (HS.out.below HB.out).st q (by rw [HN.out]; exact hlt)
      have zr : w.heap.size + 2 ≤ wr.heap.size := by have := HB.out.size; omega
      have sbl : sb < wr.heap.size := (HS.out.below HB.out).sbl
      have AT : ∀ W, Below w2.heap.size w2 W → W.cell? ⟨w.heap.size, 0, none⟩ = some (.int .u32 (d : Int)) ∧ W.cell? ⟨w.heap.size, 1, none⟩ = some (.int .i64 v) ∧ W.cell? ⟨w.heap.size + 1, 0, none⟩ = some (.int .u32 0) ∧ W.cell? ⟨w.heap.size + 1, 1, none⟩ = some (.int .i64 0) ∧ (∀ o, W.frozen? ⟨w.heap.size + 1, o, none⟩ = false) := fun W hb =>
        ⟨(hb.cell (p := ⟨w.heap.size, 0, none⟩) (show w.heap.size < _ by omega)).trans A0.out, (hb.cell (p := ⟨w.heap.size, 1, none⟩) (show w.heap.size < _ by omega)).trans A1.out, (hb.cell (p := ⟨w.heap.size + 1, 0, none⟩) (show w.heap.size + 1 < _ by omega)).trans R0.out, (hb.cell (p := ⟨w.heap.size + 1, 1, none⟩) (show w.heap.size + 1 < _ by omega)).trans R1.out, fun o => (hb.frozen (show w.heap.size + 1 < _ by omega)).trans (F0.out o)⟩
      have HAT := Lib.hid AT
      have hqE : q < E.n := by rw [HN.out]; exact hlt
      have HQE := Lib.hid hqE
      obtain ⟨b, hb⟩ : ∃ b, (fun i => decide (Sub (gt i) d)) q = b := ⟨_, rfl⟩
      have HPQ := Lib.hid hb
      clear hb hqE AT
      go_wp2_with fail
      refine (unread_any _ _ _ _ d ga (HE.out.gtl q HQE.out) HD.out _ (((HB2.out.trans (HB.out.mono (by omega))).alloc (by omega) _ |>.cell (p := ⟨ga, 0, none⟩) HGL.out).trans HGA.out) (by have := HGL.out; simp; omega)).mono ?_
      rintro e w3 ⟨he, hb3⟩
      rw [HPQ.out] at he
      subst he
      have hbr : Below w2.heap.size w2 w3 := HB.out.trans (((Below.refl wr.heap.size wr).alloc (Nat.le_refl _) _).trans (hb3.mono (by simp)) |>.mono HB.out.size)
      have HB3 := Lib.hid hbr
      obtain ⟨e0, e1, g0, g1, _⟩ := HAT.out w3 hbr
      have l3 : w.heap.size + 2 ≤ w3.heap.size := by have := hbr.size; omega
      clear hb3 hbr k0 k1 k2 k3 r0 r1 gf0 gf1
      cases b
      · go_wp2
        go_roundw
        case rel => exact ⟨q + 1, by omega, by go_num, Lib.hid (fun i hi hp => by
          rcases Nat.lt_or_ge i q with h | h
          · exact HF.out i h hp
          · have : i = q := by omega
            subst this
            rw [HPQ.out] at hp; cases hp), HB3⟩
        case measure => simp [intOf]; omega
      · go_wp2_with fail
        refine (next_any (HS.out.below HB3.out) HE.out d HD.out v q HQE.out).mono ?_
        rintro e w4 ⟨hc, hb4⟩
        have hbr : Below w2.heap.size w2 w4 := HB3.out.trans (hb4.mono HB3.out.size)
        have HB4 := Lib.hid hbr
        obtain ⟨e0, e1, g0, g1, gf⟩ := HAT.out w4 hbr
        have l4 : w.heap.size + 2 ≤ w4.heap.size := by have := hbr.size; omega
        have gf0 := gf 0
        have gf1 := gf 1
        have l4b : w.heap.size + 1 < w4.heap.size := by omega
        clear gf
        clear hb4 hbr
        rcases hc with ⟨hm, rfl⟩ | ⟨hm, rfl⟩
        · have HM := Lib.hid hm
          clear hm
          go_wp2
          first | rw [Exit.noGoto_ret] | skip
          exact bodyPost_ret (v := .tuple #[stV (ins d q) (E.val q : Int), .bool true]) (by simp [results, Try.results95, go_sem, g0, g1, gf0, gf1, l4b]) rfl (HYES.out _ q hlt HPQ.out HM.out ((below_set (below_set (HB2.out.trans (HB4.out.mono (by omega))) (by omega) _ _) (by omega) _ _).alloc (by simp; omega) _))
        · have HM := Lib.hid hm
          clear hm
          go_wp2
          go_roundw
          case rel => exact ⟨q + 1, by omega, by go_num, Lib.hid (fun i hi hp => by
            rcases Nat.lt_or_ge i q with h | h
            · exact HF.out i h hp
            · have : i = q := by omega
              subst this
              exact HM.out), Lib.hid (HB4.out.alloc HB4.out.size _)⟩
          case measure => simp [intOf]; omega
    · obtain rfl : q = n := by omega
      go_wp2
      first | rw [Exit.noGoto_ret] | skip
      exact bodyPost_ret (v := .tuple #[stV 0 0, .bool false]) (by simp [results, Try.results95, go_sem, r0, r1, gf0, gf1]) rfl (HNO.out _ HF.out (below_set (below_set (HB2.out.trans (HB.out.mono (by omega))) (by omega) _ _) (by omega) _ _))
end Go.Proofs.Ytlecbhnopokmnaa
