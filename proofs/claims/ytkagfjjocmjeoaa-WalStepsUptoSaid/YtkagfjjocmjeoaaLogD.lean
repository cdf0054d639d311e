/- Package wal: Append, settle, Sync, replace, Snapshot. -/
import Derived.Test.YtkagfjjocmjeoaaLogC
import Derived.Test.YtkagfjjocmjeoaaRefScan5
namespace Go.Proofs.Ytkagfjjocmjeoaa
open Go.RowKit Mem Be Word Frm
set_option maxRecDepth 10000
set_option maxHeartbeats 2000000
set_option linter.unusedVariables false
theorem u8_zero {k : UInt8} (h : k ≠ 0) : (k.toNat : Int) ≠ 0 := fun e => h (by
  have : k.toNat = 0 := by omega
  exact UInt8.toNat_inj.1 this)
theorem append7_zero (g : Nat) (v : Value) (w : World) :
    Calls Try.prog 30 #[.pointer (some ⟨g, 0, none⟩), .int .u8 0, v] w fun e w' => e = .returned (.int .i64 2) ∧ w = w' := by
  go_enter Try.func30, Try.ntmps30
  go_wp2
  go_ret
  exact ⟨rfl, rfl⟩
theorem append7_any (F : Nat → Prop) (g m q n c : Nat) (k : UInt8) (hk : k ≠ 0) (rs : List Rc) (A0 : Option Addr) (ls : List RowV) (hn : n = ls.length) (hnl : n ≤ 5864062014805) (hxl : ∀ r ∈ ls, r.2.1.length ≤ maxLen) (w : World) (h : LgAt w F g rs m q)
    (hr : RowN F w A0 (ls.map rowV)) (hrs : ∀ r ∈ ls, RowN F w r.1 (r.2.1.map byteV)) :
    Calls Try.prog 30 #[.pointer (some ⟨g, 0, none⟩), .int .u8 (k.toNat : Int), .slice A0 n c] w (LgTo (.int .i64 (addS rs k (bytesR ls)).2) F g (addS rs k (bytesR ls)).1 m q w) := by
  have HA := Lib.hid (add_any F g m q n c k rs A0 ls hn hnl hxl w h hr hrs)
  have hk0 := u8_zero hk
  have hkb : ((k.toNat : Int) == 0) = false := by simpa using hk0
  obtain ⟨S, hS⟩ : ∃ S, addS rs k (bytesR ls) = S := ⟨_, rfl⟩
  rw [hS] at HA ⊢
  clear h hr hrs hn hnl hxl hS hk hk0
  go_enter Try.func30, Try.ntmps30
  go_wp2_with fail
  refine HA.out.mono ?_
  intro e w1 hx
  have HX := Lib.hid hx
  obtain ⟨rfl, _⟩ := hx
  go_wp2
  go_ret
  exact HX.out
theorem sync7_any (F : Nat → Prop) (g m q : Nat) (rs : List Rc) (hq : q ≤ 4611686018427387904) (w : World) (h : LgAt w F g rs m q) :
    Calls Try.prog 31 #[.pointer (some ⟨g, 0, none⟩)] w (LgTo (.int .i64 0) F g rs rs.length (upN (allB (rs.drop m)) q) w) := by
  have hset : Calls Try.prog 55 #[.pointer (some ⟨g, 0, none⟩)] w (LgTo (.int .i64 0) F g rs rs.length (upN (allB (rs.drop m)) q) w) := by
    obtain ⟨FD, FR, vs, R, c, h1, h2, h3, hlg⟩ := h
    have HS := Lib.hid (sync_any FD g q _ _ hq w hlg.dk)
    have HLG := Lib.hid hlg
    have HV := Lib.hid h1
    have HSH := Lib.hid h2
    rw [← all_drop] at HS
    obtain ⟨q', hq'⟩ : ∃ q', upN (allB (rs.drop m)) q = q' := ⟨_, rfl⟩
    rw [hq'] at HS ⊢
    clear hlg h1 h2 h3 hq hq'
    go_enter Try.func55, Try.ntmps55
    go_wp2_with fail
    refine HS.out.mono ?_
    rintro e w1 ⟨rfl, F1, hf, hd, ht⟩
    have hl := HLG.out.disk hf hd ht
    have d3 := dka_c3 hd
    have d4 := dka_c4 hd
    have z4 := dka_z hd 4
    have HX : Hid (LgTo (.int .i64 0) F g rs rs.length q' w (.returned (.int .i64 0)) (w1.setCell ⟨g, 4, none⟩ (.int .i64 (vs.length : Int)))) := Lib.hid (by
      have hl2 := hl.1.setM vs.length
      have hvl : vs.length = rs.length := by rw [← HV.out, List.length_map]
      refine ⟨rfl, (fun k => (F k ∨ w.heap.size ≤ k) ∧ k < w1.heap.size), fun k hk => hk.1, ⟨F1, FR, vs, R, c, HV.out, HSH.out, Nat.le_refl _, ?_⟩, hl.2.set_ (Or.inl (HLG.out.sub g (Or.inl (dka_fg HLG.out.dk)))) _⟩
      rw [hvl] at hl2 ⊢
      rw [List.take_of_length_le (Nat.le_refl _), List.drop_eq_nil_of_le (Nat.le_refl _)]
      exact hl2)
    clear hl hf hd ht HLG HV HSH HS
    go_wp2
    go_ret
    exact HX.out
  have HS := Lib.hid hset
  obtain ⟨q', hq'⟩ : ∃ q', upN (allB (rs.drop m)) q = q' := ⟨_, rfl⟩
  rw [hq'] at HS ⊢
  clear hset h hq hq'
  go_enter Try.func31, Try.ntmps31
  go_wp2_with fail
  refine HS.out.mono ?_
  intro e w1 hx
  have HX := Lib.hid hx
  obtain ⟨rfl, _⟩ := hx
  go_wp2
  go_ret
  exact HX.out
/-- What a snapshot leaves, and tells. -/
def snapS (rs : List Rc) (m : Nat) (b : List UInt8) : List Rc × Nat × Int := if 65536 < b.length then (rs, m, 3) else ([(0, b)], 1, 0)
theorem all_one (r : Rc) : allB [r] = frB r := by rw [all_cons]; simp [allB]
theorem snap7_any (F : Nat → Prop) (g m q n c : Nat) (rs : List Rc) (A0 : Option Addr) (b : List UInt8) (hn : n = b.length) (w : World) (h : LgAt w F g rs m q) (hr : RowN F w A0 (b.map byteV)) :
    Calls Try.prog 28 #[.pointer (some ⟨g, 0, none⟩), .slice A0 n c] w (LgTo (.int .i64 (snapS rs m b).2.2) F g (snapS rs m b).1 (snapS rs m b).2.1 q w) := by
  have hrep : Calls Try.prog 51 #[.pointer (some ⟨g, 0, none⟩), .slice A0 n c] w (LgTo (.int .i64 (snapS rs m b).2.2) F g (snapS rs m b).1 (snapS rs m b).2.1 q w) := by
    subst hn
    have hone := one_any 0 w.heap.size c b.length A0 b rfl w hr.row (Nat.le_refl _)
    have HAT := Lib.hid h
    have HR := Lib.hid hr
    by_cases hl : 65536 < b.length
    · rw [show snapS rs m b = (rs, m, 3) from if_pos hl]
      rw [show oneS (0, b) = ([], 3) from if_pos hl] at hone
      have HONE := Lib.hid hone
      simp only
      clear h hr hone hl
      go_enter Try.func51, Try.ntmps51
      go_wp2_with fail
      refine HONE.out.mono ?_
      rintro e w1 ⟨A1, c1, rfl, ho, hb⟩
      have HB := Lib.hid hb
      clear ho hb HONE
      go_wp2
      go_ret
      exact lgto_stay HAT.out HB.out
    · rw [show snapS rs m b = ([(0, b)], 1, 0) from if_neg hl]
      rw [show oneS (0, b) = (frB (0, b), 0) from if_neg hl] at hone
      have HONE := Lib.hid hone
      have HL := Lib.hid hl
      obtain ⟨X, hX⟩ : ∃ X, frB (0, b) = X := ⟨_, rfl⟩
      have hXl : X.length ≤ 65546 := by rw [← hX, fr_len]; show b.length + 10 ≤ _; omega
      rw [hX] at HONE
      have HX := Lib.hid hX
      simp only at HONE ⊢
      have hbi : (b.length : Int) ≤ 65536 := by omega
      clear h hr hone hl hX
      go_enter Try.func51, Try.ntmps51
      go_wp2_with fail
      refine HONE.out.mono ?_
      rintro e w1 ⟨A1, c1, rfl, ho, hb⟩
      simp only at ho ⊢
      obtain ⟨FD, FR, vs, R, cR, h1, h2, h3, hlg⟩ := HAT.out.below hb
      have HLG := Lib.hid hlg
      have HB := Lib.hid hb
      have HRP := Lib.hid (replace_any FD g q X.length w1.heap.size c1 _ _ X A1 rfl (by omega) w1 hlg.dk (Row.of_own ho) (Nat.le_refl _))
      clear ho hb h1 h2 h3 hlg HONE
      go_wp2_with fail
      refine HRP.out.mono ?_
      rintro e w2 ⟨rfl, F2, hf, hd, ht⟩
      have hl2 := HLG.out.disk hf hd ht
      have HL2 := Lib.hid hl2.1
      have HT2 : Hid (Touch F w w2) := Lib.hid ((Touch.ofBelow HB.out).trans hl2.2 (fun k hk => Or.inl hk))
      have HF2 : Hid (∀ k, (F k ∨ w1.heap.size ≤ k) ∧ k < w2.heap.size → F k ∨ w.heap.size ≤ k) := Lib.hid fun k hk => by
        rcases hk.1 with h | h
        · exact Or.inl h
        · exact Or.inr (Nat.le_trans HB.out.size h)
      have HCL := Lib.hid (clone_any w2.heap.size c A0 b b.length rfl w2 (HR.out.touch HT2.out).row (Nat.le_refl _) (by omega))
      have d3 := dka_c3 hd
      clear hf hd ht hl2 HRP HLG
      go_wp2_with fail
      refine HCL.out.mono ?_
      rintro e w3 ⟨A3, c3, rfl, ho, hb⟩
      have hal : Below w3.heap.size w3 (w3.alloc (.cells #[.int .u8 0, .slice A3 b.length c3] 64)) := (Below.refl _ _).alloc (Nat.le_refl _) _
      have hb4 : Below w2.heap.size w2 (w3.alloc (.cells #[.int .u8 0, .slice A3 b.length c3] 64)) := hb.trans (hal.mono hb.size)
      have hown : (w3.alloc (.cells #[.int .u8 0, .slice A3 b.length c3] 64)).ownsRow w3.heap.size 64 2 (.slice (some ⟨w3.heap.size, 0, none⟩) 1 1) 1 (recsC [((0, A3, b, c3) : RecV)]) := own_litR w3 (0, A3, b, c3) b.length rfl
      have hrec : RecsO (w3.alloc (.cells #[.int .u8 0, .slice A3 b.length c3] 64)) w2.heap.size [((0, A3, b, c3) : RecV)] := recsO_one (r := (0, A3, b, c3)) (ownLater ho hal)
      have hS := HL2.out.setR (FR' := fun k => w2.heap.size ≤ k ∧ k < (w3.alloc (.cells #[.int .u8 0, .slice A3 b.length c3] 64)).heap.size) (vs' := [((0, A3, b, c3) : RecV)]) (R' := some ⟨w3.heap.size, 0, none⟩) (c' := 1) (w := w3.alloc (.cells #[.int .u8 0, .slice A3 b.length c3] 64))
        (HL2.out.dk.below hb4) (ownBase hown (Nat.zero_le _)) (recsO_base hrec (Nat.zero_le _)) (fun a ha => by injection ha with ha; subst ha; exact ⟨hb.size, by simp⟩)
        (fun r hr a ha => ⟨(ownIn (hrec r hr) ha).1, (ownIn (hrec r hr) ha).2.1⟩) (fun k hk => Or.inr hk.1) (fun k hk => hk.2) (Touch.ofBelow hb4)
      have hM := hS.1.setM 1
      have e3 := dka_c3 (HL2.out.dk.below hb4)
      have z3 := dka_z (HL2.out.dk.below hb4) 3
      have e4 := dka_c4 (HL2.out.dk.below hb4)
      have z4 := dka_z (HL2.out.dk.below hb4) 4
      have HEND : Hid (LgTo (.int .i64 0) F g [(0, b)] 1 q w (.returned (.int .i64 0)) (((w3.alloc (.cells #[.int .u8 0, .slice A3 b.length c3] 64)).setCell ⟨g, 3, none⟩ (.slice (some ⟨w3.heap.size, 0, none⟩) 1 1)).setCell ⟨g, 4, none⟩ (.int .i64 1))) := Lib.hid (by
        have hfg := HL2.out.sub g (Or.inl (dka_fg HL2.out.dk))
        have hM2 := hM
        rw [show X = allB (([(0, b)] : List Rc).take 1) by rw [← HX.out]; exact (all_one _).symm] at hM2
        refine ⟨rfl, _, fun k hk => ?_, ⟨_, _, [((0, A3, b, c3) : RecV)], some ⟨w3.heap.size, 0, none⟩, 1, rfl, ?_, by simp, hM2⟩, (HT2.out.trans hS.2 HF2.out).set_ (p := ⟨g, 4, none⟩) (HF2.out g hfg) _⟩
        · rcases hk.1 with h | h
          · exact HF2.out k h
          · exact Or.inr (Nat.le_trans HT2.out.size h)
        · intro r hr
          have : r = (0, b) := by simpa using hr
          subst this
          have := HL.out
          show b.length ≤ 65536
          omega)
      clear ho hb hal hb4 hown hrec hS hM HL2 HT2 HF2 d3
      go_wp2
      go_ret
      exact HEND.out
  have HS := Lib.hid hrep
  obtain ⟨S, hS⟩ : ∃ S, snapS rs m b = S := ⟨_, rfl⟩
  rw [hS] at HS ⊢
  clear hrep h hr hS hn
  go_enter Try.func28, Try.ntmps28
  go_wp2_with fail
  refine HS.out.mono ?_
  intro e w1 hx
  have HX := Lib.hid hx
  obtain ⟨rfl, _⟩ := hx
  go_wp2
  go_ret
  exact HX.out
end Go.Proofs.Ytkagfjjocmjeoaa
