/- LnD: What may come next and closes no way (harmless); a search's state, settled. -/
import Derived.Test.YtlecbhnopokmnaaLnC
import Derived.Deep.LoopGhost
namespace Go.Proofs.Ytlecbhnopokmnaa
open Go.RowKit Mem
set_option maxRecDepth 10000
set_option maxHeartbeats 2000000
set_option linter.unusedVariables false
set_option linter.unusedSimpArgs false
open Ln
/-- A state with less left from which there is a way just if there is one from here; or none, and no read may come next. -/
def HmP (E : Env) (d : Nat) (v : Int) (w : World) (e : Ending) (w' : World) : Prop :=
  ((∃ d' v', e = .returned (.tuple #[stV d' v', .bool true]) ∧ d' < 1048576 ∧ cnt E.n d' < cnt E.n d ∧ (Poss E d v ↔ Poss E d' v')) ∨ (e = .returned (.tuple #[stV 0 0, .bool false]) ∧ ∀ j, E.get j = true → ¬ May E d v j)) ∧ Below w.heap.size w w'
theorem hm_get {E : Env} {d : Nat} {v : Int} {i : Nat} (hd : d < 1048576) (h20 : E.n ≤ 20) (hg : E.get i = true) (hm : May E d v i) : ins d i < 1048576 ∧ cnt E.n (ins d i) < cnt E.n d ∧ (Poss E d v ↔ Poss E (ins d i) (E.val i)) :=
  ⟨ins_lt (n := 20) hd (by have := hm.1; omega), cnt_ins hm.1 hm.2.1, poss_get_iff hm hg⟩
theorem hm_write {E : Env} {gt : Nat → Nat} (hE : OkE E gt) {d : Nat} {v : Int} {i : Nat} (hd : d < 1048576) (hn : ∀ j, j < E.n → E.get j = true → ¬ May E d v j) (hu : decide (Sub (gt i) d) = true) (hm : May E d v i) : ins d i < 1048576 ∧ cnt E.n (ins d i) < cnt E.n d ∧ (Poss E d v ↔ Poss E (ins d i) (E.val i)) :=
  ⟨ins_lt (n := 20) hd (by have := hm.1; have := hE.n1; omega), cnt_ins hm.1 hm.2.1, poss_write_iff hm (fun j hg hmj => hn j hmj.1 hg hmj) (fun j hg hv hj hjn => by
    have := of_decide_eq_true hu j ((hE.gts i hm.1 j).2 ⟨hjn, hg, hv⟩)
    rw [hj] at this; cases this)⟩
theorem harmless_any {w : World} {gs hb sb c1 eb c2 : Nat} {E : Env} {gt : Nat → Nat} {be : List Nat} (S : SchAt w gs hb sb c1 eb c2 E gt be) (hE : OkE E gt) (d : Nat) (hd : d < 1048576) (v : Int) :
    Calls Try.prog 85 #[.pointer (some ⟨gs, 0, none⟩), stV d v] w (HmP E d v w) := by
  obtain ⟨w2, hw2⟩ : ∃ W, (w.alloc (.cells #[.int .u32 (d : Int), .int .i64 v] 85)).alloc (.cells #[.int .u32 0, .int .i64 0] 85) = W := ⟨_, rfl⟩
  have B2 : Below w.heap.size w w2 := by rw [← hw2]; exact ((Below.refl _ _).alloc (Nat.le_refl _) _).alloc (by simp) _
  have S2 := S.below B2
  have k1 : Blk w2 w.heap.size 85 #[.int .u32 (d : Int), .int .i64 v] := by rw [← hw2]; exact (Blk.new _ _ _).alloc _
  have k2 : Blk w2 (w.heap.size + 1) 85 #[.int .u32 0, .int .i64 0] := by
    rw [← hw2]
    have h := Blk.new (w.alloc (.cells #[.int .u32 (d : Int), .int .i64 v] 85)) 85 #[.int .u32 0, .int .i64 0]
    simpa using h
  have z2 : w2.heap.size = w.heap.size + 2 := by rw [← hw2]; simp
  have HNO : Hid (∀ W : World, (∀ j, E.get j = true → ¬ May E d v j) → Below w.heap.size w W → HmP E d v w (.returned (.tuple #[stV 0 0, .bool false])) W) := Lib.hid fun W h hb => ⟨Or.inr ⟨rfl, h⟩, hb⟩
  have HYES : Hid (∀ (W : World) (d' : Nat) (v' : Int), d' < 1048576 ∧ cnt E.n d' < cnt E.n d ∧ (Poss E d v ↔ Poss E d' v') → Below w.heap.size w W → HmP E d v w (.returned (.tuple #[stV d' v', .bool true])) W) := Lib.hid fun W d' v' h hb => ⟨Or.inl ⟨d', v', rfl, h.1, h.2.1, h.2.2⟩, hb⟩
  obtain ⟨Q, hQ⟩ : ∃ Q, HmP E d v w = Q := ⟨_, rfl⟩
  rw [hQ] at HNO HYES ⊢
  have HS := Lib.hid S2
  have HE := Lib.hid hE
  have HD := Lib.hid hd
  have HB2 := Lib.hid B2
  have K1 := Lib.hid k1
  have K2 := Lib.hid k2
  have a0 := k1.cell 0
  have a1 := k1.cell 1
  clear S S2 B2 hE hd hQ k1 k2
  go_enter Try.func85, Try.ntmps85
  go_wp2_with fail
  refine (first_get HS.out HE.out d HD.out v).mono ?_
  rintro e w3 ⟨hc, hb3⟩
  have HB3 := Lib.hid hb3
  have b0 : w3.cell? ⟨w.heap.size, 0, none⟩ = some (.int .u32 (d : Int)) := (K1.out.below hb3 (by omega)).cell 0
  have b1 : w3.cell? ⟨w.heap.size, 1, none⟩ = some (.int .i64 v) := (K1.out.below hb3 (by omega)).cell 1
  have r0 : w3.cell? ⟨w.heap.size + 1, 0, none⟩ = some (.int .u32 0) := (K2.out.below hb3 (by omega)).cell 0
  have r1 : w3.cell? ⟨w.heap.size + 1, 1, none⟩ = some (.int .i64 0) := (K2.out.below hb3 (by omega)).cell 1
  have f0 : w3.frozen? ⟨w.heap.size + 1, 0, none⟩ = false := (K2.out.below hb3 (by omega)).frozen 0
  have f1 : w3.frozen? ⟨w.heap.size + 1, 1, none⟩ = false := (K2.out.below hb3 (by omega)).frozen 1
  have l3 : w.heap.size + 1 < w3.heap.size := by have := hb3.size; omega
  have l3' : w.heap.size < w3.heap.size := by omega
  clear hb3
  rcases hc with ⟨i, hi, hg, hm, rfl⟩ | ⟨hn, rfl⟩
  · have HR := Lib.hid (hm_get HD.out HE.out.n1 hg hm)
    clear hm hg hi
    go_wp2
    exact bodyPost_ret (v := .tuple #[stV (ins d i) (E.val i : Int), .bool true]) (by simp [results, Try.results85, go_sem, r0, r1, f0, f1, l3]) rfl (HYES.out _ _ _ HR.out ((below_set (below_set (HB2.out.trans (HB3.out.mono (by omega))) (by omega) _ _) (by omega) _ _).alloc (by simp; omega) _))
  · have HNN := Lib.hid hn
    clear hn
    have hb3a : Below w2.heap.size w2 (w3.alloc (.cells #[.int .u32 0, .int .i64 0] 85)) := HB3.out.alloc HB3.out.size _
    have HB3a := Lib.hid hb3a
    clear hb3a
    go_wp2_with fail
    refine (first_unread (HS.out.below HB3a.out) HE.out d HD.out v w.heap.size ((K1.out.below HB3a.out (by omega)).cell 0) (by simp; omega)).mono ?_
    rintro e w4 ⟨hc, hb4⟩
    have hb4a : Below w2.heap.size w2 w4 := HB3a.out.trans (hb4.mono HB3a.out.size)
    have HB4 := Lib.hid hb4a
    clear b0 b1 r0 r1 f0 f1 l3 l3'
    have r0 : w4.cell? ⟨w.heap.size + 1, 0, none⟩ = some (.int .u32 0) := (K2.out.below hb4a (by omega)).cell 0
    have r1 : w4.cell? ⟨w.heap.size + 1, 1, none⟩ = some (.int .i64 0) := (K2.out.below hb4a (by omega)).cell 1
    have f0 : w4.frozen? ⟨w.heap.size + 1, 0, none⟩ = false := (K2.out.below hb4a (by omega)).frozen 0
    have f1 : w4.frozen? ⟨w.heap.size + 1, 1, none⟩ = false := (K2.out.below hb4a (by omega)).frozen 1
    have l4 : w.heap.size + 1 < w4.heap.size := by have := hb4a.size; omega
    clear hb4 hb4a
    rcases hc with ⟨i, hi, hu, hm, rfl⟩ | ⟨hn, rfl⟩
    · have HR := Lib.hid (hm_write HE.out HD.out HNN.out hu hm)
      clear hm hu hi
      go_wp2
      exact bodyPost_ret (v := .tuple #[stV (ins d i) (E.val i : Int), .bool true]) (by simp [results, Try.results85, go_sem, r0, r1, f0, f1, l4]) rfl (HYES.out _ _ _ HR.out (below_set (below_set (HB2.out.trans (HB4.out.mono (by omega))) (by omega) _ _) (by omega) _ _))
    · clear hn
      go_wp2
      exact bodyPost_ret (v := .tuple #[stV 0 0, .bool false]) (by simp [results, Try.results85, go_sem, r0, r1, f0, f1, l4]) rfl (HNO.out _ (fun j hg hm => HNN.out j hm.1 hg hm) (below_set (below_set (HB2.out.trans (HB4.out.mono (by omega))) (by omega) _ _) (by omega) _ _))
/-- The state behind all that closes no way: there is a way from it just if there is one from here. -/
def StP (E : Env) (d : Nat) (v : Int) (w : World) (e : Ending) (w' : World) : Prop :=
  ∃ d', e = .returned (stV d' (-1)) ∧ d' < 1048576 ∧ cnt E.n d' ≤ cnt E.n d ∧ (Poss E d v ↔ Poss E d' (-1)) ∧ Below w.heap.size w w'
theorem settled_any {w : World} {gs hb sb c1 eb c2 : Nat} {E : Env} {gt : Nat → Nat} {be : List Nat} (S : SchAt w gs hb sb c1 eb c2 E gt be) (hE : OkE E gt) (d : Nat) (hd : d < 1048576) (v : Int) :
    Calls Try.prog 67 #[.pointer (some ⟨gs, 0, none⟩), stV d v] w (StP E d v w) := by
  obtain ⟨w2, hw2⟩ : ∃ W, (w.alloc (.cells #[.int .u32 (d : Int), .int .i64 v] 85)).alloc (.cells #[.int .u32 0, .int .i64 0] 85) = W := ⟨_, rfl⟩
  have B2 : Below w.heap.size w w2 := by rw [← hw2]; exact ((Below.refl _ _).alloc (Nat.le_refl _) _).alloc (by simp) _
  have k1 : Blk w2 w.heap.size 85 #[.int .u32 (d : Int), .int .i64 v] := by rw [← hw2]; exact (Blk.new _ _ _).alloc _
  have k2 : Blk w2 (w.heap.size + 1) 85 #[.int .u32 0, .int .i64 0] := by
    rw [← hw2]
    have h := Blk.new (w.alloc (.cells #[.int .u32 (d : Int), .int .i64 v] 85)) 85 #[.int .u32 0, .int .i64 0]
    simpa using h
  have z2 : w2.heap.size = w.heap.size + 2 := by rw [← hw2]; simp
  have HRES : Hid (∀ (W : World) (d' : Nat), d' < 1048576 → cnt E.n d' ≤ cnt E.n d → (Poss E d v ↔ Poss E d' (-1)) → Below w.heap.size w W → StP E d v w (.returned (stV d' (-1))) W) := Lib.hid fun W d' h1 h2 h3 hb => ⟨d', rfl, h1, h2, h3, hb⟩
  obtain ⟨Q, hQ⟩ : ∃ Q, StP E d v w = Q := ⟨_, rfl⟩
  rw [hQ] at HRES ⊢
  have HS := Lib.hid S
  have HE := Lib.hid hE
  have HD := Lib.hid hd
  have HB2 := Lib.hid B2
  have K1 := Lib.hid k1
  have K2 := Lib.hid k2
  clear S B2 hE hd hQ k1 k2
  go_enter Try.func67, Try.ntmps67
  go_wp2
  go_loopg [] (cnt E.n d + 1) (fun gk wr => ∃ (d1 : Nat) (v1 : Int), Hid (d1 < 1048576 ∧ cnt E.n d1 < gk ∧ cnt E.n d1 ≤ cnt E.n d ∧ (Poss E d v ↔ Poss E d1 v1)) ∧ Hid (Blk wr w.heap.size 85 #[.int .u32 (d1 : Int), .int .i64 v1]) ∧ Hid (Blk wr (w.heap.size + 1) 85 #[.int .u32 0, .int .i64 0]) ∧ Hid (Below w.heap.size w wr))
  case atStart => exact ⟨d, v, Lib.hid ⟨HD.out, by omega, Nat.le_refl _, Iff.rfl⟩, K1, K2, HB2⟩
  case round =>
    obtain ⟨d1, v1, HI, HK1, HK2, HB⟩ := hrel
    have a0 := HK1.out.cell 0
    have a1 := HK1.out.cell 1
    have lr : w.heap.size + 1 < wr.heap.size := HK2.out.lt
    go_wp2_with fail
    refine (harmless_any (HS.out.below HB.out) HE.out d1 HI.out.1 v1).mono ?_
    rintro e w3 ⟨hc, hb3⟩
    have HB3 : Hid (Below w.heap.size w w3) := Lib.hid (HB.out.trans (hb3.mono HB.out.size))
    have HK13 := Lib.hid (HK1.out.below hb3 (by omega))
    have HK23 := Lib.hid (HK2.out.below hb3 (by omega))
    have l3 : w.heap.size + 1 < w3.heap.size := by have := hb3.size; omega
    have l3' : w.heap.size < w3.heap.size := by omega
    clear hb3 a0 a1
    have a0 := HK13.out.cell 0
    have a1 := HK13.out.cell 1
    have r0 := HK23.out.cell 0
    have r1 := HK23.out.cell 1
    have f0 := HK23.out.frozen 0
    have f1 := HK23.out.frozen 1
    have g0 := HK13.out.frozen 0
    have g1 := HK13.out.frozen 1
    rcases hc with ⟨d2, v2, rfl, h1, h2, h3⟩ | ⟨rfl, hn⟩
    · have HI2 : Hid (d2 < 1048576 ∧ cnt E.n d2 < cnt E.n d1 ∧ cnt E.n d2 ≤ cnt E.n d ∧ (Poss E d v ↔ Poss E d2 v2)) := Lib.hid ⟨h1, h2, Nat.le_trans (Nat.le_of_lt h2) HI.out.2.2.1, HI.out.2.2.2.trans h3⟩
      clear h1 h2 h3
      go_wp2
      go_roundg (gk - 1)
      case measure => have := HI.out.2.1; omega
      case rel => exact ⟨d2, v2, Lib.hid ⟨HI2.out.1, by have := HI.out.2.1; have := HI2.out.2.1; omega, HI2.out.2.2⟩, Lib.hid (((HK13.out.set_ 0 (.int .u32 (d2 : Int))).set_ 1 (.int .i64 v2)).alloc _), Lib.hid (((HK23.out.far (p := ⟨w.heap.size, 0, none⟩) (show w.heap.size + 1 ≠ w.heap.size by omega) _).far (p := ⟨w.heap.size, 1, none⟩) (show w.heap.size + 1 ≠ w.heap.size by omega) _).alloc _), Lib.hid ((below_set (below_set HB3.out (Nat.le_refl _) _ _) (Nat.le_refl _) _ _).alloc (by simp; omega) _)⟩
    · have HR := Lib.hid (HI.out.2.2.2.trans (poss_over_iff hn))
      clear hn
      go_wp2
      exact bodyPost_ret (v := stV d1 (-1)) (by simp [results, Try.results67, go_sem, r0, r1, f0, f1, l3]) rfl (HRES.out _ _ HI.out.1 HI.out.2.2.1 HR.out ((below_set (below_set HB3.out (by omega) _ _) (by omega) _ _).alloc (by simp; omega) _))
end Go.Proofs.Ytlecbhnopokmnaa
