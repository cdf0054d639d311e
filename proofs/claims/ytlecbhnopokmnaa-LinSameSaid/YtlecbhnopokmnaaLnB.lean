/- LnB: How a search lies in memory; where one of its steps leads (next). -/
import Derived.Test.YtlecbhnopokmnaaLnA
import Derived.Test.YtlecbhnopokmnaaSames
import Derived.Deep.RegionLaw
namespace Go.Proofs.Ytlecbhnopokmnaa
open Go.RowKit Mem
set_option maxRecDepth 10000
set_option maxHeartbeats 2000000
set_option linter.unusedVariables false
open Ln
/-- What a search may be. -/
structure OkE (E : Env) (gt : Nat → Nat) : Prop where
  n1 : E.n ≤ 20
  must : E.must < 1048576
  bef : ∀ i, i < E.n → E.bef i < 1048576
  gtl : ∀ i, i < E.n → gt i < 1048576
  val : ∀ i, i < E.n → E.val i ≤ 20
  gts : ∀ i, i < E.n → ∀ j, (gt i).testBit j = true ↔ j < E.n ∧ E.get j = true ∧ E.val j = E.val i
abbrev stV (d : Nat) (v : Int) : Value := .agg #[.int .u32 (d : Int), .int .i64 v]
/-- Block gs is a search: its steps at sb, their indexes at eb, its map hb. -/
structure SchAt (w : World) (gs hb sb c1 eb c2 : Nat) (E : Env) (gt : Nat → Nat) (be : List Nat) : Prop where
  blk : Blk w gs 89 #[.slice (some ⟨sb, 0, none⟩) E.n c1, .slice (some ⟨eb, 0, none⟩) E.n c2, .int .u32 (E.must : Int), .map (some hb)]
  st : ∀ i, i < E.n → w.cell? ⟨sb, i * 4, none⟩ = some (.bool (E.get i)) ∧ w.cell? ⟨sb, i * 4 + 1, none⟩ = some (.int .i64 (E.val i : Int)) ∧ w.cell? ⟨sb, i * 4 + 2, none⟩ = some (.int .u32 (E.bef i : Int)) ∧ w.cell? ⟨sb, i * 4 + 3, none⟩ = some (.int .u32 (gt i : Int))
  en : ∀ k, k < E.n → ∃ x, be[k]? = some x ∧ w.cell? ⟨eb, k, none⟩ = some (.int .i64 (x : Int))
  gsh : gs ≠ hb
  sbh : sb ≠ hb
  ebh : eb ≠ hb
  gsl : gs < w.heap.size
  sbl : sb < w.heap.size
  ebl : eb < w.heap.size
theorem SchAt.grown {w w' : World} {gs hb sb c1 eb c2 : Nat} {E : Env} {gt : Nat → Nat} {be : List Nat} (S : SchAt w gs hb sb c1 eb c2 E gt be) (h : w.grownBy w' (some hb)) : SchAt w' gs hb sb c1 eb c2 E gt be where
  blk := S.blk.grown h (fun e => S.gsh (by injection e))
  st := fun i hi => by
    have hk := h.block sb S.sbl (fun e => S.sbh (by injection e))
    have k : ∀ o, w'.cell? ⟨sb, o, none⟩ = w.cell? ⟨sb, o, none⟩ := fun o => World.cell?_of_block (a := ⟨sb, o, none⟩) hk
    rw [k, k, k, k]; exact S.st i hi
  en := fun k hk => by
    have hb := h.block eb S.ebl (fun e => S.ebh (by injection e))
    rw [World.cell?_of_block (a := ⟨eb, k, none⟩) hb]; exact S.en k hk
  gsh := S.gsh
  sbh := S.sbh
  ebh := S.ebh
  gsl := Nat.lt_of_lt_of_le S.gsl h.size
  sbl := Nat.lt_of_lt_of_le S.sbl h.size
  ebl := Nat.lt_of_lt_of_le S.ebl h.size
theorem SchAt.below {w w' : World} {gs hb sb c1 eb c2 : Nat} {E : Env} {gt : Nat → Nat} {be : List Nat} (S : SchAt w gs hb sb c1 eb c2 E gt be) (h : Below w.heap.size w w') : SchAt w' gs hb sb c1 eb c2 E gt be :=
  S.grown (grown_below h (Nat.le_refl _) _)
theorem has_val (d i : Nat) (hd : d < 1048576) (hi : i < 20) (b : Bool) (h : Hid (d.testBit i = b)) (w : World) : Calls Try.prog 66 #[.int .u32 (d : Int), .int .i64 (i : Int)] w fun e w' => e = .returned (.bool b) ∧ w = w' := by
  have := has_any d i hd hi w
  rw [h.out] at this; exact this
theorem within_val18 (a b : Nat) (ha : a < 1048576) (hb : b < 1048576) (t : Bool) (h : Hid (decide (Sub a b) = t)) (w : World) : Calls Try.prog 43 #[.int .u32 (a : Int), .int .u32 (b : Int)] w fun e w' => e = .returned (.bool t) ∧ w = w' := by
  have := within_any18 a b ha hb w
  rw [h.out] at this; exact this
/-- Where i leads: nowhere, or to the state behind it. -/
def NxP (E : Env) (d : Nat) (v : Int) (i : Nat) (w : World) (e : Ending) (w' : World) : Prop :=
  (May E d v i ∧ e = .returned (.tuple #[stV (ins d i) (E.val i : Int), .bool true]) ∨ ¬ May E d v i ∧ e = .returned (.tuple #[stV 0 0, .bool false])) ∧ Below w.heap.size w w'
theorem bel3 (w : World) (o1 o2 o3 : Obj) : Below w.heap.size w (((w.alloc o1).alloc o2).alloc o3) := (((Below.refl _ _).alloc (Nat.le_refl _) _).alloc (by simp) _).alloc (by simp; omega) _
theorem bel3s (w : World) (o1 o2 o3 : Obj) (q : Nat) : Below w.heap.size w ((((w.alloc o1).alloc o2).alloc o3).drewN q) := (bel3 w o1 o2 o3).trans (below_drew' _ q _)
theorem next_any {w : World} {gs hb sb c1 eb c2 : Nat} {E : Env} {gt : Nat → Nat} {be : List Nat} (S : SchAt w gs hb sb c1 eb c2 E gt be) (hE : OkE E gt) (d : Nat) (hd : d < 1048576) (v : Int) (i : Nat) (hi : i < E.n) :
    Calls Try.prog 44 #[.pointer (some ⟨gs, 0, none⟩), stV d v, .int .i64 (i : Int)] w (NxP E d v i w) := by
  have c0 : w.cell? ⟨gs, 0, none⟩ = some (.slice (some ⟨sb, 0, none⟩) E.n c1) := S.blk.cell 0
  obtain ⟨k0, k1, k2, k3⟩ := S.st i hi
  have hn20 := hE.n1
  have hgl := S.gsl
  have hsl := S.sbl
  have hbf := hE.bef i hi
  have hi20 : i < 20 := by omega
  have hi0 : (0 : Int) ≤ (i : Int) := by omega
  have hi1 : (i : Int) < (E.n : Int) := by omega
  have hn2 : (E.n : Int) ≤ 20 := by omega
  obtain ⟨bf, hbe⟩ : ∃ x, E.bef i = x := ⟨_, rfl⟩
  obtain ⟨g, hg⟩ : ∃ x, E.get i = x := ⟨_, rfl⟩
  obtain ⟨vi, hv⟩ : ∃ x : Int, (E.val i : Int) = x := ⟨_, rfl⟩
  obtain ⟨n, hn⟩ : ∃ x, E.n = x := ⟨_, rfl⟩
  obtain ⟨gi, hgi⟩ : ∃ x, gt i = x := ⟨_, rfl⟩
  rw [hbe] at hbf k2
  rw [hg] at k0
  rw [hv] at k1
  rw [hgi] at k3
  rw [hn] at c0 hn2 hi1
  have HNO : ∀ (W : World), ¬ May E d v i → Below w.heap.size w W → NxP E d v i w (.returned (.tuple #[stV 0 0, .bool false])) W := fun W h hb => ⟨Or.inr ⟨h, rfl⟩, hb⟩
  have HYES : ∀ (W : World), May E d v i → Below w.heap.size w W → NxP E d v i w (.returned (.tuple #[stV (ins d i) vi, .bool true])) W := fun W h hb => ⟨Or.inl ⟨h, by rw [hv]⟩, hb⟩
  have hmay : May E d v i ↔ (d.testBit i = false ∧ Sub bf d ∧ (g = true → vi = v)) := by
    unfold May
    rw [hbe, hg, hv]
    exact ⟨fun h => h.2, fun h => ⟨hi, h⟩⟩
  have HN := Lib.hid HNO
  have HY := Lib.hid HYES
  obtain ⟨Q, hQ⟩ : ∃ Q, NxP E d v i w = Q := ⟨_, rfl⟩
  rw [hQ] at HN HY ⊢
  have HM := Lib.hid hmay
  have HD := Lib.hid hd
  have HBF := Lib.hid hbf
  have HI := Lib.hid hi20
  clear S hE hi hn20 hbf hi20 hbe hg hv hn hgi HNO HYES hmay hQ hd
  cases hh : d.testBit i
  · have HH := Lib.hid hh
    cases hw : decide (Sub bf d)
    · have HW := Lib.hid hw
      have HNM : Hid (¬ May E d v i) := Lib.hid (fun h => by have := (HM.out.1 h).2.1; rw [decide_eq_false_iff_not] at hw; exact hw this)
      clear hh hw
      go_enter Try.func44, Try.ntmps44
      go_wp2_with (first | (go_at_call 66; refine (has_val d i HD.out HI.out _ HH _).mono ?_; rintro e w2 ⟨rfl, rfl⟩) | (go_at_call 43; refine (within_val18 bf d HBF.out HD.out _ HW _).mono ?_; rintro e w2 ⟨rfl, rfl⟩))
      exact bodyPost_ret (v := .tuple #[stV 0 0, .bool false]) (by simp [results, Try.results44, go_sem]) rfl (HN.out _ HNM.out (bel3 _ _ _ _))
    · have HW := Lib.hid hw
      have hsub : Sub bf d := of_decide_eq_true hw
      rcases Bool.eq_false_or_eq_true g with hg | hg
      · subst hg
        by_cases hvv : vi = v
        · subst hvv
          have hq : (vi != vi) = false := by simp
          have HMY : Hid (May E d vi i) := Lib.hid (HM.out.2 ⟨hh, hsub, fun _ => rfl⟩)
          clear hh hw hsub 
          have HWI : Hid (∀ W : World, Calls Try.prog 62 #[.int .u32 (d : Int), .int .i64 (i : Int)] W fun e w' => e = .returned (.int .u32 ((ins d i : Nat) : Int)) ∧ W = w') := Lib.hid (with_any d i HD.out HI.out)
          obtain ⟨di, hdi⟩ : ∃ x, ins d i = x := ⟨_, rfl⟩
          rw [hdi] at HWI HY
          clear hdi
          go_enter Try.func44, Try.ntmps44
          go_wp2_with (first | (go_at_call 66; refine (has_val d i HD.out HI.out _ HH _).mono ?_; rintro e w2 ⟨rfl, rfl⟩) | (go_at_call 43; refine (within_val18 bf d HBF.out HD.out _ HW _).mono ?_; rintro e w2 ⟨rfl, rfl⟩))
          go_region_law (go_simp; go_at_call 62; refine (HWI.out _).mono ?_; rintro e w2 ⟨rfl, rfl⟩)
          all_goals
            go_wp2
            exact bodyPost_ret (v := .tuple #[stV di vi, .bool true]) (by simp [results, Try.results44, go_sem]) rfl (HY.out _ HMY.out (bel3s _ _ _ _ _))
        · have hq : (vi != v) = true := by simpa using hvv
          have HNM : Hid (¬ May E d v i) := Lib.hid (fun h => by exact hvv ((HM.out.1 h).2.2 rfl))
          clear hh hw hvv hsub
          go_enter Try.func44, Try.ntmps44
          go_wp2_with (first | (go_at_call 66; refine (has_val d i HD.out HI.out _ HH _).mono ?_; rintro e w2 ⟨rfl, rfl⟩) | (go_at_call 43; refine (within_val18 bf d HBF.out HD.out _ HW _).mono ?_; rintro e w2 ⟨rfl, rfl⟩))
          exact bodyPost_ret (v := .tuple #[stV 0 0, .bool false]) (by simp [results, Try.results44, go_sem]) rfl (HN.out _ HNM.out (bel3 _ _ _ _))
      · subst hg
        have HMY : Hid (May E d v i) := Lib.hid (HM.out.2 ⟨hh, hsub, fun h => by cases h⟩)
        clear hh hw hsub 
        have HWI : Hid (∀ W : World, Calls Try.prog 62 #[.int .u32 (d : Int), .int .i64 (i : Int)] W fun e w' => e = .returned (.int .u32 ((ins d i : Nat) : Int)) ∧ W = w') := Lib.hid (with_any d i HD.out HI.out)
        obtain ⟨di, hdi⟩ : ∃ x, ins d i = x := ⟨_, rfl⟩
        rw [hdi] at HWI HY
        clear hdi
        go_enter Try.func44, Try.ntmps44
        go_wp2_with (first | (go_at_call 66; refine (has_val d i HD.out HI.out _ HH _).mono ?_; rintro e w2 ⟨rfl, rfl⟩) | (go_at_call 43; refine (within_val18 bf d HBF.out HD.out _ HW _).mono ?_; rintro e w2 ⟨rfl, rfl⟩))
        go_region_law (go_simp; go_at_call 62; refine (HWI.out _).mono ?_; rintro e w2 ⟨rfl, rfl⟩)
        all_goals
          go_wp2
          exact bodyPost_ret (v := .tuple #[stV di vi, .bool true]) (by simp [results, Try.results44, go_sem]) rfl (HY.out _ HMY.out (bel3s _ _ _ _ _))
  · have HH := Lib.hid hh
    have HW := Lib.hid (rfl : decide (Sub bf d) = decide (Sub bf d))
    have HNM : Hid (¬ May E d v i) := Lib.hid (fun h => by have := (HM.out.1 h).1; rw [hh] at this; cases this)
    clear hh
    go_enter Try.func44, Try.ntmps44
    go_wp2_with (first | (go_at_call 66; refine (has_val d i HD.out HI.out _ HH _).mono ?_; rintro e w2 ⟨rfl, rfl⟩) | (go_at_call 43; refine (within_val18 bf d HBF.out HD.out _ HW _).mono ?_; rintro e w2 ⟨rfl, rfl⟩))
    exact bodyPost_ret (v := .tuple #[stV 0 0, .bool false]) (by simp [results, Try.results44, go_sem]) rfl (HN.out _ HNM.out (bel3 _ _ _ _))
end Go.Proofs.Ytlecbhnopokmnaa
