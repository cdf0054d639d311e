/- Who keeps a key; and who keeps each point: by the program. -/
import Derived.Test.YthnfinnlnkjomaaRgG
namespace Go.Proofs.Ythnfinnlnkjomaa
open Go.RowKit Mem Rg
set_option maxRecDepth 100000
set_option maxHeartbeats 8000000
set_option linter.unusedVariables false
theorem keyN_lt (bs : List UInt8) : Word.U64 (keyN bs) := Word.stir_lt _
theorem keepers_ok (A : Option Addr) (n c : Nat) (ns : List Int) (e k : Nat) (s : ByteArray) (hs : s.size ≤ 100000) (hn : n = ns.length) (ok : OkR ns e k) (w : World) (hr : Row w w.heap.size A (ns.map iV)) :
    Calls Try.prog 13 #[.agg #[.slice A n c, .int .i64 (e : Int), .int .i64 (k : Int)], .string s] w (IntsE2 (keepP (ptsP fP ns e) (keyN (kb s)) k) w) := by
  obtain ⟨h, hh⟩ : ∃ h, keyN (kb s) = h := ⟨_, rfl⟩
  have HK := Lib.hid fun W => key_any s hs W
  rw [hh] at HK
  rw [hh]
  have HP := Lib.hid fun W (hb : Below w.heap.size w W) => at_ok A n c ns e k h hn ok W ((hr.below hb).more hb.size)
  clear hh hn ok hr
  generalize keepP (ptsP fP ns e) h k = L at HP ⊢
  have HB0 : Hid (Below w.heap.size w (w.alloc (.cells #[.slice A n c, .int .i64 (e : Int), .int .i64 (k : Int)] 24))) := Lib.hid ((Below.refl _ _).alloc (Nat.le_refl _) _)
  have HB : Hid (Blk (w.alloc (.cells #[.slice A n c, .int .i64 (e : Int), .int .i64 (k : Int)] 24)) w.heap.size 24 #[.slice A n c, .int .i64 (e : Int), .int .i64 (k : Int)]) := Lib.hid (Blk.new _ _ _)
  go_enter Try.func13, Try.ntmps13
  go_wp2
  obtain ⟨W, hW⟩ : ∃ W, w.alloc (.cells #[.slice A n c, .int .i64 (e : Int), .int .i64 (k : Int)] 24) = W := ⟨_, rfl⟩
  rw [hW] at HB0 HB ⊢
  have c0 : W.cell? ⟨w.heap.size, 0, none⟩ = some (.slice A n c) := HB.out.cell 0
  have c1 : W.cell? ⟨w.heap.size, 1, none⟩ = some (.int .i64 (e : Int)) := HB.out.cell 1
  have c2 : W.cell? ⟨w.heap.size, 2, none⟩ = some (.int .i64 (k : Int)) := HB.out.cell 2
  clear hW
  go_region_with (first
    | (go_at_call 34; refine (HK.out _).mono ?_; rintro e1 w1 ⟨rfl, hb1⟩; (have HB1 : Hid (Below W.heap.size W w1) := Lib.hid (Below.trans (by exact ⟨rfl, rfl, rfl, Nat.le_refl _, fun _ _ => rfl⟩) hb1)); (have d0 : w1.cell? ⟨w.heap.size, 0, none⟩ = some (.slice A n c) := (HB.out.below HB1.out HB.out.lt).cell 0); (have d1 : w1.cell? ⟨w.heap.size, 1, none⟩ = some (.int .i64 (e : Int)) := (HB.out.below HB1.out HB.out.lt).cell 1); (have d2 : w1.cell? ⟨w.heap.size, 2, none⟩ = some (.int .i64 (k : Int)) := (HB.out.below HB1.out HB.out.lt).cell 2); clear hb1)
    | (go_at_call 12; refine (HP.out _ (Below.trans (HB0.out.trans (HB1.out.mono HB0.out.size)) (by exact ⟨rfl, rfl, rfl, Nat.le_refl _, fun _ _ => rfl⟩))).mono ?_; rintro e2 w2 ⟨A2, c2, rfl, hr2, hb2⟩; (have HR2 : Hid (OwnI w.heap.size L (.slice A2 L.length c2) w2) := Lib.hid (ownBase hr2 (Nat.le_trans HB0.out.size HB1.out.size))); (have HB2 := Lib.hid (Below.trans (Below.trans (HB0.out.trans (HB1.out.mono HB0.out.size)) (by exact ⟨rfl, rfl, rfl, Nat.le_refl _, fun _ _ => rfl⟩)) (hb2.mono (Nat.le_trans HB0.out.size HB1.out.size)))); clear hb2 hr2))
  all_goals go_wp2
  all_goals go_ret2
  all_goals exact ⟨A2, c2, rfl, HR2.out, HB2.out⟩
theorem keepers_bad (A : Option Addr) (n c : Nat) (ns : List Int) (e k : Int) (s : ByteArray) (hs : s.size ≤ 100000) (hn : n = ns.length) (hl : n ≤ maxLen) (bad : ¬ OkR ns e k) (w : World) (hr : Row w w.heap.size A (ns.map iV)) :
    Calls Try.prog 13 #[.agg #[.slice A n c, .int .i64 e, .int .i64 k], .string s] w fun x w' => x = .returned (.tuple #[.slice none 0 0, .int .i64 2]) ∧ Below w.heap.size w w' := by
  obtain ⟨h, hh⟩ : ∃ h, keyN (kb s) = h := ⟨_, rfl⟩
  have HK := Lib.hid fun W => key_any s hs W
  rw [hh] at HK
  have HP := Lib.hid fun W (hb : Below w.heap.size w W) => at_bad A n c ns e k h hn hl bad W ((hr.below hb).more hb.size)
  clear hh hn hl bad hr
  have HB0 : Hid (Below w.heap.size w (w.alloc (.cells #[.slice A n c, .int .i64 e, .int .i64 k] 24))) := Lib.hid ((Below.refl _ _).alloc (Nat.le_refl _) _)
  have HB : Hid (Blk (w.alloc (.cells #[.slice A n c, .int .i64 e, .int .i64 k] 24)) w.heap.size 24 #[.slice A n c, .int .i64 e, .int .i64 k]) := Lib.hid (Blk.new _ _ _)
  go_enter Try.func13, Try.ntmps13
  go_wp2
  obtain ⟨W, hW⟩ : ∃ W, w.alloc (.cells #[.slice A n c, .int .i64 e, .int .i64 k] 24) = W := ⟨_, rfl⟩
  rw [hW] at HB0 HB ⊢
  have c0 : W.cell? ⟨w.heap.size, 0, none⟩ = some (.slice A n c) := HB.out.cell 0
  have c1 : W.cell? ⟨w.heap.size, 1, none⟩ = some (.int .i64 e) := HB.out.cell 1
  have c2 : W.cell? ⟨w.heap.size, 2, none⟩ = some (.int .i64 k) := HB.out.cell 2
  clear hW
  go_region_with (first
    | (go_at_call 34; refine (HK.out _).mono ?_; rintro e1 w1 ⟨rfl, hb1⟩; (have HB1 : Hid (Below W.heap.size W w1) := Lib.hid (Below.trans (by exact ⟨rfl, rfl, rfl, Nat.le_refl _, fun _ _ => rfl⟩) hb1)); (have d0 : w1.cell? ⟨w.heap.size, 0, none⟩ = some (.slice A n c) := (HB.out.below HB1.out HB.out.lt).cell 0); (have d1 : w1.cell? ⟨w.heap.size, 1, none⟩ = some (.int .i64 e) := (HB.out.below HB1.out HB.out.lt).cell 1); (have d2 : w1.cell? ⟨w.heap.size, 2, none⟩ = some (.int .i64 k) := (HB.out.below HB1.out HB.out.lt).cell 2); clear hb1)
    | (go_at_call 12; refine (HP.out _ (Below.trans (HB0.out.trans (HB1.out.mono HB0.out.size)) (by exact ⟨rfl, rfl, rfl, Nat.le_refl _, fun _ _ => rfl⟩))).mono ?_; rintro e2 w2 ⟨rfl, hb2⟩; (have HB2 := Lib.hid (Below.trans (Below.trans (HB0.out.trans (HB1.out.mono HB0.out.size)) (by exact ⟨rfl, rfl, rfl, Nat.le_refl _, fun _ _ => rfl⟩)) (hb2.mono (Nat.le_trans HB0.out.size HB1.out.size)))); clear hb2))
  all_goals go_wp2
  all_goals go_ret2
  all_goals exact ⟨rfl, HB2.out⟩
end Go.Proofs.Ythnfinnlnkjomaa
