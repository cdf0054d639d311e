/- LnN: The order of no deeds; of deeds of strange kinds; of any that are not too many. -/
import Derived.Test.YtlecbhnopokmnaaLnO
namespace Go.Proofs.Ytlecbhnopokmnaa
open Go.RowKit Mem
set_option maxRecDepth 100000
set_option maxHeartbeats 8000000
set_option linter.unusedVariables false
set_option linter.unusedSimpArgs false
open Ln
theorem searchof_nil (c : Nat) (A : Option Addr) (w : World) :
    Calls Try.prog 42 #[.slice A 0 c] w fun e w' => ∃ gs, e = .returned (.pointer (some ⟨gs, 0, none⟩)) ∧ w'.cell? ⟨gs, 2, none⟩ = some (.int .u32 0) ∧ gs < w'.heap.size ∧ Below w.heap.size w w' := by
  have m1 : ∀ W : World, (Instr.makeSlice 86 (.int .i64 0) (.int .i64 0)).run Try.prog W = .ok (.slice (some ⟨W.heap.size, 0, none⟩) 0 0) (W.alloc (.cells (spC (stC (fun _ => false) (fun _ => 0) (fun _ => 0) (fun _ => 0)) 0).toArray 116)) := by
    obtain ⟨i0, hi0, hz0, hz1, hz2⟩ := info_parts (show (Try.prog.info? 116).map (fun i => (i.zero, i.size, i.bytes)) = some (some (.agg #[.bool false, .int .i64 0, .int .u32 0, .int .u32 0]), 4, 24) by kernel_rfl)
    intro W
    have h := run_make (P := Try.prog) W 86 116 i0 _ Try.underlying86 hi0 hz0 .i64 .i64 0 0 (by omega) (by omega) (by rw [hz2]; omega) (by omega)
    rw [hz1, show Int.toNat 0 = 0 from rfl] at h
    rw [← made_steps]; exact h
  have m2 : ∀ W : World, (Instr.makeSlice 41 (.int .i64 0) (.int .i64 0)).run Try.prog W = .ok (.slice (some ⟨W.heap.size, 0, none⟩) 0 0) (W.alloc (.cells (rowN15 (endL 0 0)) 3)) := by
    obtain ⟨i0, hi0, hz0, hz1, hz2⟩ := info_parts (show (Try.prog.info? 3).map (fun i => (i.zero, i.size, i.bytes)) = some (some (.int .i64 0), 1, 8) by kernel_rfl)
    intro W
    have h := run_make (P := Try.prog) W 41 3 i0 _ Try.underlying41 hi0 hz0 .i64 .i64 0 0 (by omega) (by omega) (by rw [hz2]; omega) (by omega)
    rw [hz1, show Int.toNat 0 = 0 from rfl] at h
    rw [← made_ends]; exact h
  have m3 := @run_makeMap Try.prog
  obtain ⟨w1, hw1⟩ : ∃ W, w.alloc (.cells #[.slice A 0 c] 28) = W := ⟨_, rfl⟩
  have B1 : Below w.heap.size w w1 := by rw [← hw1]; exact (Below.refl _ _).alloc (Nat.le_refl _) _
  have k1 : Blk w1 w.heap.size 28 #[.slice A 0 c] := by rw [← hw1]; exact Blk.new _ _ _
  have c0 : w1.cell? ⟨w.heap.size, 0, none⟩ = some (.slice A 0 c) := k1.cell 0
  have z1 : w.heap.size < w1.heap.size := k1.lt
  have HB1 := Lib.hid B1
  have K1 := Lib.hid k1
  clear B1 k1
  go_enter Try.func42, Try.ntmps42
  go_upto_region 1 with fail
  go_cut [3] (fun v wx => Hid (IniP w1 w.heap.size 0 A c v wx))
  case first =>
    go_region
    all_goals
      go_wp2_with fail
      go_meet
      obtain ⟨h0, h1, h2, h3, hb4, hz⟩ := heap4 w1 _ _ _ _
      exact Lib.hid ⟨_, _, _, _, rfl, ⟨h3, (by first | exact h0 | exact h1 | exact h2), (by first | exact h0 | exact h1 | exact h2), (by first | exact h0 | exact h1 | exact h2)⟩, hb4, by omega, by omega, by omega, by omega, by omega, by omega, by omega, by omega, K1.out.below hb4 z1⟩
  case rest =>
    obtain ⟨gs, hb, sb, eb, rfl, S1, hb1, g1, g2, g3, g4, q1, q2, q3, q4, kl⟩ := hcut.out
    clear m1 m2 m3
    have d0 : wc.cell? ⟨w.heap.size, 0, none⟩ = some (.slice A 0 c) := kl.cell 0
    have zl : w.heap.size < wc.heap.size := kl.lt
    obtain ⟨w3, hw3⟩ : ∃ W, (wc.alloc (.cells #[.bool false, .slice none 0 0] 45)).alloc (.cells #[.slice (some ⟨wc.heap.size, 0, none⟩) 1 1] 111) = W := ⟨_, rfl⟩
    have hb3 : Below wc.heap.size wc w3 := by rw [← hw3]; exact ((Below.refl _ _).alloc (Nat.le_refl _) _).alloc (by simp) _
    have f0 : w3.cell? ⟨w.heap.size, 0, none⟩ = some (.slice A 0 c) := (kl.below hb3 zl).cell 0
    have S3 := S1.below hb3 q1 q2 q3 q4
    have f1 : w3.cell? ⟨gs, 1, none⟩ = some (.slice (some ⟨eb, 0, none⟩) 0 0) := S3.blk.cell 1
    have HM : Hid (w3.cell? ⟨gs, 2, none⟩ = some (.int .u32 0)) := Lib.hid (S3.blk.cell 2)
    have HLT := Lib.hid S3.blk.lt
    have HBF := Lib.hid (HB1.out.trans ((hb1.trans (hb3.mono hb1.size)).mono (by omega)))
    have HSO := Lib.hid (sort_none18 eb w.heap.size 0 w3)
    clear hb3 S1 S3 hb1 g1 g2 g3 g4 kl hcut
    go_wp2
    go_loopw [25] (fun iv wr => iv = .int .i64 0 ∧ wr = w3) (fun _ _ => 0)
    case atStart => exact ⟨rfl, rfl⟩
    case round =>
      obtain ⟨rfl, rfl⟩ := hrel
      go_wp2
      go_loopw [65] (fun iv wr2 => iv = .int .i64 0 ∧ wr2 = wr) (fun _ _ => 0)
      case atStart => exact ⟨rfl, rfl⟩
      case round =>
        obtain ⟨rfl, h⟩ := hrel
        subst h
        go_wp2_with fail
        refine HSO.out.mono ?_
        rintro e w9 ⟨rfl, rfl⟩
        go_wp2
        go_ret
        exact ⟨gs, rfl, HM.out, HLT.out, HBF.out⟩
theorem order_nil (c : Nat) (A : Option Addr) (w : World) : Calls Try.prog 22 #[.slice A 0 c] w (OrdP [] w) := by
  have HCT : Hid (Calls Try.prog 40 #[.slice A 0 c, .func (.func 41) #[] #[]] w (IsB18 false w)) := Lib.hid (contains_any [] (by simp) 0 c A w (Or.inl rfl) (Nat.zero_le _) true (Lib.hid rfl))
  have HRES : Hid (∀ W : World, Below w.heap.size w W → OrdP [] w (.returned (.tuple #[.slice none 0 0, .int .i64 0])) W) := Lib.hid fun W hb => ⟨hb, Or.inr (Or.inr ⟨by simp, [], none, 0, by rfl, (fun i hi => by cases hi), by simp, rfl, World.ownsRow_nil _ _ _ _⟩)⟩
  have HSF := Lib.hid fun W => searchof_nil c A W
  obtain ⟨Q, hQ⟩ : ∃ Q, OrdP [] w = Q := ⟨_, rfl⟩
  rw [hQ] at HRES ⊢
  clear hQ
  go_enter Try.func22, Try.ntmps22
  go_wp2
  go_step3
  go_wp2_with fail
  refine HCT.out.mono ?_
  rintro e w1 ⟨rfl, hb1⟩
  have HB1 := Lib.hid hb1
  clear hb1
  go_wp2_with fail
  refine (HSF.out w1).mono ?_
  rintro e w2 ⟨gs, rfl, hm, hl, hb2⟩
  have HB2 := Lib.hid (HB1.out.trans (hb2.mono HB1.out.size))
  have hb3 := (Below.refl w2.heap.size w2).alloc (Nat.le_refl _) (.cells #[.int .u32 0, .int .i64 0] 85)
  obtain ⟨w3, hw3⟩ : ∃ W, w2.alloc (.cells #[.int .u32 0, .int .i64 0] 85) = W := ⟨_, rfl⟩
  have k3 : Blk w3 w2.heap.size 85 #[.int .u32 0, .int .i64 0] := by rw [← hw3]; exact Blk.new _ _ _
  rw [hw3] at hb3
  have m0 : w3.cell? ⟨gs, 2, none⟩ = some (.int .u32 0) := (hb3.cell (p := ⟨gs, 2, none⟩) hl).trans hm
  have a0 : w3.cell? ⟨w2.heap.size, 0, none⟩ = some (.int .u32 0) := k3.cell 0
  have HB3 := Lib.hid (HB2.out.trans (hb3.mono HB2.out.size))
  have HWI : Hid (∀ W : World, Calls Try.prog 43 #[.int .u32 0, .int .u32 0] W fun e w' => e = .returned (.bool true) ∧ W = w') := Lib.hid fun W => within_val18 0 0 (by omega) (by omega) true (Lib.hid (by decide)) W
  clear hm hl hb2 hb3 k3 HCT HSF
  go_wp2
  go_step3
  go_wp2
  go_loopg [6] 1 (fun gk ov wr => ov = .slice none 0 0 ∧ wr = w3)
  case atStart => exact ⟨rfl, rfl⟩
  case round =>
    obtain ⟨rfl, rfl⟩ := hrel
    go_wp2_with fail
    go_quiet ((go_at_call 43; exact Calls.quiet_of_same ((HWI.out _).mono fun _ _ ⟨h1, h2⟩ => ⟨h1, h2.symm⟩)))
    go_wp2
    exact HRES.out _ (HB3.out.trans (below_drew' _ _ _))
theorem order_kinds (l : List DdL) (hl : l.length ≤ 20) (B c : Nat) (A : Option Addr) (w : World) (hr : Row w B A (ddsC l)) (hB : B ≤ w.heap.size) (hkn : l.all (fun r => knownK r.kind) = false) :
    Calls Try.prog 22 #[.slice A l.length c] w (OrdP l w) := by
  have HCT : Hid (Calls Try.prog 40 #[.slice A l.length c, .func (.func 41) #[] #[]] w (IsB18 true w)) := Lib.hid (contains_any l (by omega) B c A w hr hB false (Lib.hid hkn))
  have hl2 : (l.length : Int) ≤ 20 := by omega
  have HK := Lib.hid hkn
  have HL := Lib.hid hl
  have HRES : Hid (∀ W : World, Below w.heap.size w W → OrdP l w (.returned (.tuple #[.slice none 0 0, .int .i64 4])) W) := Lib.hid fun W hb => ⟨hb, Or.inr (Or.inl ⟨hl, nothing_ok hkn, rfl⟩)⟩
  obtain ⟨Q, hQ⟩ : ∃ Q, OrdP l w = Q := ⟨_, rfl⟩
  rw [hQ] at HRES ⊢
  clear hr hB hkn hl hQ
  go_enter Try.func22, Try.ntmps22
  go_wp2
  go_step3
  go_wp2_with fail
  refine HCT.out.mono ?_
  rintro e w1 ⟨rfl, hb1⟩
  have HB1 := Lib.hid hb1
  clear hb1
  go_wp2
  exact HRES.out _ HB1.out
theorem order_full (l : List DdL) (hl : l.length ≤ 20) (B c : Nat) (A : Option Addr) (w : World) (hr : Row w B A (ddsC l)) (hB : B ≤ w.heap.size) (hby : Dds_ w B l) (hw : ∀ r ∈ l, minI ≤ r.till) :
    Calls Try.prog 22 #[.slice A l.length c] w (OrdP l w) := by
  cases hkn : l.all (fun r => knownK r.kind) with
  | false => exact order_kinds l hl B c A w hr hB hkn
  | true =>
    rcases Nat.eq_zero_or_pos l.length with h0 | h0
    · obtain rfl := List.eq_nil_of_length_eq_zero h0
      exact order_nil c A w
    · exact order_any l h0 hl B c A w hr hB hby hw hkn
end Go.Proofs.Ytlecbhnopokmnaa
