/- The law HashOne, walked. -/
import Derived.Test.YtmiihakfpldeiaaOneB
namespace Go.Proofs.Ytmiihakfpldeiaa
open Go.RowKit Mem Be Word
set_option maxRecDepth 100000
set_option maxHeartbeats 2000000
set_option linter.unusedSimpArgs false
set_option linter.unusedVariables false
/-- What each operation of the law's last statement leaves. -/
def oneT (A : Option Addr) (n c g c1 k S1 S2 K1 K2 : Nat) (bs bs2 : List UInt8) : Nat → Value → World → Prop
  | 0, v, _ => v = .slice A n c
  | 1, v, w => ∃ p, v = .slice (some ⟨p, 0, none⟩) 1 1 ∧ Blk w p 23 #[.slice A n c]
  | 2, v, _ => v = .int .u64 (S1 : Int)
  | 3, v, _ => v = .slice (some ⟨g, 0, none⟩) n c1
  | 4, v, w => ∃ p, v = .slice (some ⟨p, 0, none⟩) 1 1 ∧ Blk w p 23 #[.slice (some ⟨g, 0, none⟩) n c1]
  | 5, v, _ => v = .int .u64 (S2 : Int)
  | 6, v, _ => v = .bool true
  | 7, v, _ => v = .bool true
  | 8, v, _ => v = .slice A n c
  | 9, v, _ => v = .string ⟨bs.toArray⟩
  | 10, v, _ => v = .int .u64 (K1 : Int)
  | 11, v, _ => v = .slice (some ⟨g, 0, none⟩) n c1
  | 12, v, _ => v = .string ⟨bs2.toArray⟩
  | 13, v, _ => v = .int .u64 (K2 : Int)
  | 14, v, _ => v = .bool true
  | 15, v, _ => v = .bool true
  | 16, v, _ => v = .bool true
  | 17, v, _ => v = .slice A n c
  | 18, v, w => ∃ p, v = .slice (some ⟨p, 0, none⟩) 1 1 ∧ Blk w p 23 #[.slice A n c]
  | 19, v, _ => v = .int .u64 (S1 : Int)
  | 20, v, _ => v = .slice A n c
  | 21, v, _ => v = .int .i64 (k : Int)
  | 22, v, _ => v = .slice A k c
  | 23, v, _ => v = .slice A n c
  | 24, v, _ => v = .int .i64 (k : Int)
  | 25, v, _ => v = .slice (cutA A k c) (n - k) (c - k)
  | 26, v, w => ∃ p, v = .slice (some ⟨p, 0, none⟩) 2 2 ∧ Blk w p 23 #[.slice A k c, .slice (cutA A k c) (n - k) (c - k)]
  | 27, v, _ => v = .int .u64 (S1 : Int)
  | _, v, _ => v = .bool true
theorem oneT_later (A : Option Addr) (n c g c1 k S1 S2 K1 K2 : Nat) (bs bs2 : List UInt8) : ∀ i v w1 w2, oneT A n c g c1 k S1 S2 K1 K2 bs bs2 i v w1 → Below w1.heap.size w1 w2 → oneT A n c g c1 k S1 S2 K1 K2 bs bs2 i v w2 := by
  intro i v w1 w2 h hb
  unfold oneT at h ⊢
  split at h <;> first | exact h | (obtain ⟨p, e, hk⟩ := h; exact ⟨p, e, hk.below hb hk.lt⟩)
theorem one_walk (A : Option Addr) (bs : List UInt8) (n c at_ x : Nat) (hn : n = bs.length) (hnc : n ≤ c) (hat : at_ ≤ 65535) (hx : x ≤ 255) (w : World) (h : Row w w.heap.size A (bs.map byteV)) :
    Calls Try.prog 7 #[.slice A n c, .int .u16 (at_ : Int), .int .u8 (x : Int)] w fun e w' => e = .returned (.bool true) ∧ Below w.heap.size w w' := by
  by_cases h0 : n = 0
  · have hz : ((n : Int) == 0) = true := by simp [h0]
    clear h0 h hn hnc
    go_enter Try.func7, Try.ntmps7
    go_wp2_with (go_at_call 10; refine (known_any _).mono ?_; rintro e w' ⟨rfl, hb⟩; have HB := Lib.hid hb; clear hb)
    go_ret
    exact ⟨rfl, HB.out⟩
  have hz : ((n : Int) == 0) = false := by simp; omega
  by_cases h2 : 2000 < n
  · have hg : (2000 : Int) < (n : Int) := by omega
    clear h hn h2 h0 hnc
    go_enter Try.func7, Try.ntmps7
    go_wp2_with (go_at_call 10; refine (known_any _).mono ?_; rintro e w' ⟨rfl, hb⟩; have HB := Lib.hid hb; clear hb)
    go_ret
    exact ⟨rfl, HB.out⟩
  have hg : (n : Int) ≤ 2000 := by omega
  have hg' : n ≤ 2000 := by omega
  clear h2
  by_cases hx0 : x = 0
  · subst hx0
    clear h hn h0 hnc
    go_enter Try.func7, Try.ntmps7
    go_wp2_with (go_at_call 10; refine (known_any _).mono ?_; rintro e w' ⟨rfl, hb⟩; have HB := Lib.hid hb; clear hb)
    go_ret
    exact ⟨rfl, HB.out⟩
  have hxz : ((x : Int) == 0) = false := by simp; omega
  obtain ⟨k, hk⟩ : ∃ k, at_ % n = k := ⟨_, rfl⟩
  have hkn : k < n := by rw [← hk]; exact Nat.mod_lt _ (by omega)
  have hkb : k < bs.length := by omega
  have q1 : (at_ : Int).tmod (n : Int) = (k : Int) := by rw [Int.tmod_eq_emod_of_nonneg (by omega), ← hk]; exact (Int.natCast_emod _ _).symm
  have q2 : (at_ : Int) % (n : Int) = (k : Int) := by rw [← hk]; exact (Int.natCast_emod _ _).symm
  obtain ⟨v, hv⟩ : ∃ v, bs[k].toNat = v := ⟨_, rfl⟩
  have hv2 : v < 256 := by rw [← hv]; exact bs[k].toNat_lt
  obtain ⟨y, hy⟩ : ∃ y, v ^^^ x = y := ⟨_, rfl⟩
  have hy2 : y < 256 := by
    have := Nat.xor_lt_two_pow (n := 8) (x := v) (y := x) (by omega) (by omega)
    omega
  have q3 : bits .xor .u8 (v : Int) (x : Int) = (y : Int) := by rw [← hy]; exact u8_xor_nat v x hv2 (by omega)
  have hne : sumN basisN bs ≠ sumN basisN (bs.set k (UInt8.ofNat y)) := one_other basisN bs k y hkb hy2 basis_lt (by rw [hv, ← hy]; exact xor_other v x hx0)
  have hkne : keyN bs ≠ keyN (bs.set k (UInt8.ofNat y)) := fun e => hne (stir_inj _ _ (sum_lt _ basis_lt _) (sum_lt _ basis_lt _) e)
  obtain ⟨bs2, hb2⟩ : ∃ b, bs.set k (UInt8.ofNat y) = b := ⟨_, rfl⟩
  have hbl : n = bs2.length := by rw [← hb2, List.length_set]; exact hn
  have HBS := Lib.hid (set_map bs k y hy2)
  rw [hb2] at HBS hne hkne
  obtain ⟨S1, hS1⟩ : ∃ s, sumN basisN bs = s := ⟨_, rfl⟩
  obtain ⟨S2, hS2⟩ : ∃ s, sumN basisN bs2 = s := ⟨_, rfl⟩
  obtain ⟨K1, hK1⟩ : ∃ s, keyN bs = s := ⟨_, rfl⟩
  obtain ⟨K2, hK2⟩ : ∃ s, keyN bs2 = s := ⟨_, rfl⟩
  rw [hS1, hS2] at hne
  rw [hK1, hK2] at hkne
  have t1 : ((S1 : Int) != (S2 : Int)) = true := by simp; omega
  have t2 : ((K1 : Int) != (K2 : Int)) = true := by simp; omega
  have HR := Lib.hid h
  have HN := Lib.hid hn
  have HN2 := Lib.hid hbl
  have HV := Lib.hid hv
  have HS1 := Lib.hid hS1
  have HS2 := Lib.hid hS2
  have HK1 := Lib.hid hK1
  have HK2 := Lib.hid hK2
  have HC := Lib.hid hnc
  clear h hn hbl hv hy hb2 hS1 hS2 hK1 hK2 hne hkne hk h0 hx0 hnc
  go_enter Try.func7, Try.ntmps7
  go_wp2_with fail
  refine (copyb_any _ c n A bs HN.out _ HR.out (Nat.le_refl _) (by rw [← HN.out]; omega)).mono ?_
  rintro e w1 ⟨A1, c1, rfl, ho, hb⟩
  rw [← HN.out] at ho ⊢
  obtain ⟨g, rfl⟩ : ∃ g, A1 = some ⟨g, 0, none⟩ := by
    rcases ho.2 with ⟨_, hn0⟩ | ⟨g, cap, cur, hv, _⟩
    · omega
    · injection hv with hv; exact ⟨g, hv⟩
  have hc0 := ho.cellAt k (by omega)
  rw [List.getElem?_map, List.getElem?_eq_getElem hkb] at hc0
  have hck : w1.cell? ⟨g, k, none⟩ = some (.int .u8 (v : Int)) := by rw [hc0, ← HV.out]; rfl
  have hfz := ho.frozenAt k
  have hst := ho.stored k (.int .u8 (y : Int))
  rw [HBS.out] at hst
  have hge : w.heap.size ≤ g := (ho.lt g rfl).1
  have HB2 : Hid (Below w.heap.size w (w1.setCell ⟨g, k, none⟩ (.int .u8 (y : Int)))) := Lib.hid (hb.setCell (p := ⟨g, k, none⟩) hge _)
  have HC2 := Lib.hid (Row.of_own hst.1)
  have HR2 := Lib.hid ((HR.out.below HB2.out).more HB2.out.size)
  clear ho hb hc0 hst
  go_wp2_with fail
  obtain ⟨w2, hw2⟩ : ∃ w2, w1.setCell ⟨g, k, none⟩ (.int .u8 (y : Int)) = w2 := ⟨_, rfl⟩
  rw [hw2] at HB2 HC2 HR2 ⊢
  clear hw2 hck hfz
  have HB0 : Hid (Below w2.heap.size w2 w2) := Lib.hid (Below.refl _ _)
  have HB := HB0
  have HX : Hid (∀ W, Below w2.heap.size w2 W → Row W W.heap.size A (bs.map byteV)) := Lib.hid fun W hb => (HR2.out.below hb).more hb.size
  have HY : Hid (∀ W, Below w2.heap.size w2 W → Row W W.heap.size (some ⟨g, 0, none⟩) (bs2.map byteV)) := Lib.hid fun W hb => (HC2.out.below hb).more hb.size
  have HP : Hid (∀ W, Below w2.heap.size w2 W → Row W W.heap.size A ((bs.take k).map byteV)) := Lib.hid fun W hb => by rw [List.map_take]; exact take_row (HX.out W hb) k
  have HQ : Hid (∀ W, Below w2.heap.size w2 W → Row W W.heap.size (cutA A k c) ((bs.drop k).map byteV)) := Lib.hid fun W hb => by rw [List.map_drop]; exact cut_row (HX.out W hb) k c (by rw [List.length_map, ← HN.out]; exact HC.out)
  have HVB : Hid (∀ W, Below w2.heap.size w2 W → (convert 23 9 (.slice A n c)).run Try.prog W = .ok (.string ⟨bs.toArray⟩) W) := Lib.hid fun W hb => by rw [HN.out]; exact conv_row c _ _ 5 Try.underlying23 Try.underlying5 Try.underlying9 (HX.out W hb)
  have HVC : Hid (∀ W, Below w2.heap.size w2 W → (convert 23 9 (.slice (some ⟨g, 0, none⟩) n c1)).run Try.prog W = .ok (.string ⟨bs2.toArray⟩) W) := Lib.hid fun W hb => by rw [HN2.out]; exact conv_row c1 _ _ 5 Try.underlying23 Try.underlying5 Try.underlying9 (HY.out W hb)
  have u1 := fun W => run_cut_h (P := Try.prog) (w := W) 23 5 _ _ Try.underlying23 info_b A n c k (by have := HC.out; omega)
  have u2 := fun W => run_cut_l (P := Try.prog) (w := W) 23 5 _ _ Try.underlying23 info_b A n c k (by omega)
  have HKC : Hid (k = (bs.take k).length ∧ n - k = (bs.drop k).length ∧ bs.length ≤ 100000 ∧ bs2.length ≤ 100000) := Lib.hid (by rw [List.length_take, List.length_drop, ← HN.out, ← HN2.out]; omega)
  refine Rely.wp_region_by [[], [(0, 38)], [(1, 39)], [], [(3, 41)], [(4, 42)], [(2, 40), (5, 43)], [(6, 44)], [(7, 45)], [(7, 45), (8, 46)], [(7, 45), (9, 47)], [(7, 45)], [(7, 45), (11, 49)], [(7, 45), (12, 50)], [(7, 45), (10, 48), (13, 51)], [(7, 45), (14, 52)], [(15, 53)], [(16, 54)], [(16, 54), (17, 55)], [(16, 54), (18, 56)], [(16, 54)], [(16, 54)], [(16, 54), (20, 58), (21, 59)], [(16, 54)], [(16, 54)], [(16, 54), (23, 61), (24, 62)], [(16, 54), (22, 60), (25, 63)], [(16, 54), (26, 64)], [(16, 54), (19, 57), (27, 65)], [(16, 54), (28, 66)], [(29, 67)], [(30, 68)], [(30, 68), (31, 69)], [(32, 70)]] [(0, 38), (1, 39), (2, 40), (3, 41), (4, 42), (5, 43), (6, 44), (7, 45), (8, 46), (9, 47), (10, 48), (11, 49), (12, 50), (13, 51), (14, 52), (15, 53), (16, 54), (17, 55), (18, 56), (19, 57), (20, 58), (21, 59), (22, 60), (23, 61), (24, 62), (25, 63), (26, 64), (27, 65), (28, 66), (29, 67), (30, 68), (31, 69), (32, 70), (33, 6)] [] (oneT A n c g c1 k S1 S2 K1 K2 bs bs2) (by kernel_rfl) (by kernel_rfl) (by kernel_rfl) (by kernel_rfl) (by kernel_rfl) (by kernel_rfl) (oneT_later A n c g c1 k S1 S2 K1 K2 bs bs2) ?_ ?_
  · refine Rely.stepsZ_cons (by
      intro vs w' hb hp
      simp only [Rely.Pre, oneT] at hp
      unfold Rely.gives
      simp only [Rely.sel, List.foldl_cons, List.foldl_nil]
      go_simp
      exact ⟨Below.refl _ _, rfl⟩) ?_
    refine Rely.stepsZ_cons (by
      intro vs w' hb hp
      simp only [Rely.Pre, oneT] at hp
      unfold Rely.gives
      simp only [Rely.sel, List.foldl_cons, List.foldl_nil]
      go_simp
      exact ⟨(Below.refl _ _).alloc (Nat.le_refl _) _, w'.heap.size, rfl, Blk.new _ _ _⟩) ?_
    refine Rely.stepsZ_cons (by
      intro vs w' hb hp
      simp only [Rely.Pre, oneT] at hp
      obtain ⟨⟨p, e1, hk⟩, _⟩ := hp
      unfold Rely.gives
      simp only [Rely.sel, List.foldl_cons, List.foldl_nil]
      go_simp
      simp only [Rely.GivesR]
      refine (sum_blk p A bs n c HN.out S1 HS1 (by omega) w' hk (HX.out w' hb)).mono ?_
      rintro e w3 ⟨rfl, rfl⟩
      exact ⟨_, rfl, Below.refl _ _, rfl⟩) ?_
    refine Rely.stepsZ_cons (by
      intro vs w' hb hp
      simp only [Rely.Pre, oneT] at hp
      unfold Rely.gives
      simp only [Rely.sel, List.foldl_cons, List.foldl_nil]
      go_simp
      exact ⟨Below.refl _ _, rfl⟩) ?_
    refine Rely.stepsZ_cons (by
      intro vs w' hb hp
      simp only [Rely.Pre, oneT] at hp
      unfold Rely.gives
      simp only [Rely.sel, List.foldl_cons, List.foldl_nil]
      go_simp
      exact ⟨(Below.refl _ _).alloc (Nat.le_refl _) _, w'.heap.size, rfl, Blk.new _ _ _⟩) ?_
    refine Rely.stepsZ_cons (by
      intro vs w' hb hp
      simp only [Rely.Pre, oneT] at hp
      obtain ⟨⟨p, e1, hk⟩, _⟩ := hp
      unfold Rely.gives
      simp only [Rely.sel, List.foldl_cons, List.foldl_nil]
      go_simp
      simp only [Rely.GivesR]
      refine (sum_blk p (some ⟨g, 0, none⟩) bs2 n c1 HN2.out S2 HS2 (by omega) w' hk (HY.out w' hb)).mono ?_
      rintro e w3 ⟨rfl, rfl⟩
      exact ⟨_, rfl, Below.refl _ _, rfl⟩) ?_
    refine Rely.stepsZ_cons (by
      intro vs w' hb hp
      simp only [Rely.Pre, oneT] at hp
      unfold Rely.gives
      simp only [Rely.sel, List.foldl_cons, List.foldl_nil]
      go_simp
      exact ⟨Below.refl _ _, rfl⟩) ?_
    refine Rely.stepsZ_cons (by
      intro vs w' hb hp
      simp only [Rely.Pre, oneT] at hp
      unfold Rely.gives
      simp only [Rely.sel, List.foldl_cons, List.foldl_nil]
      go_simp
      exact ⟨Below.refl _ _, rfl⟩) ?_
    refine Rely.stepsZ_cons (by
      intro vs w' hb hp
      simp only [Rely.Pre, oneT] at hp
      unfold Rely.gives
      simp only [Rely.sel, List.foldl_cons, List.foldl_nil]
      go_simp
      exact ⟨Below.refl _ _, rfl⟩) ?_
    refine Rely.stepsZ_cons (by
      intro vs w' hb hp
      simp only [Rely.Pre, oneT] at hp
      have hcv := HVB.out w' hb
      unfold Rely.gives
      simp only [Rely.sel, List.foldl_cons, List.foldl_nil]
      go_simp
      exact ⟨Below.refl _ _, rfl⟩) ?_
    refine Rely.stepsZ_cons (by
      intro vs w' hb hp
      simp only [Rely.Pre, oneT] at hp
      unfold Rely.gives
      simp only [Rely.sel, List.foldl_cons, List.foldl_nil]
      go_simp
      simp only [Rely.GivesR]
      refine (keyb_any bs K1 HK1 HKC.out.2.2.1 w').mono ?_
      rintro e w3 ⟨rfl, hb3⟩
      exact ⟨_, rfl, hb3, rfl⟩) ?_
    refine Rely.stepsZ_cons (by
      intro vs w' hb hp
      simp only [Rely.Pre, oneT] at hp
      unfold Rely.gives
      simp only [Rely.sel, List.foldl_cons, List.foldl_nil]
      go_simp
      exact ⟨Below.refl _ _, rfl⟩) ?_
    refine Rely.stepsZ_cons (by
      intro vs w' hb hp
      simp only [Rely.Pre, oneT] at hp
      have hcv := HVC.out w' hb
      unfold Rely.gives
      simp only [Rely.sel, List.foldl_cons, List.foldl_nil]
      go_simp
      exact ⟨Below.refl _ _, rfl⟩) ?_
    refine Rely.stepsZ_cons (by
      intro vs w' hb hp
      simp only [Rely.Pre, oneT] at hp
      unfold Rely.gives
      simp only [Rely.sel, List.foldl_cons, List.foldl_nil]
      go_simp
      simp only [Rely.GivesR]
      refine (keyb_any bs2 K2 HK2 HKC.out.2.2.2 w').mono ?_
      rintro e w3 ⟨rfl, hb3⟩
      exact ⟨_, rfl, hb3, rfl⟩) ?_
    refine Rely.stepsZ_cons (by
      intro vs w' hb hp
      simp only [Rely.Pre, oneT] at hp
      unfold Rely.gives
      simp only [Rely.sel, List.foldl_cons, List.foldl_nil]
      go_simp
      exact ⟨Below.refl _ _, rfl⟩) ?_
    refine Rely.stepsZ_cons (by
      intro vs w' hb hp
      simp only [Rely.Pre, oneT] at hp
      unfold Rely.gives
      simp only [Rely.sel, List.foldl_cons, List.foldl_nil]
      go_simp
      exact ⟨Below.refl _ _, rfl⟩) ?_
    refine Rely.stepsZ_cons (by
      intro vs w' hb hp
      simp only [Rely.Pre, oneT] at hp
      unfold Rely.gives
      simp only [Rely.sel, List.foldl_cons, List.foldl_nil]
      go_simp
      exact ⟨Below.refl _ _, rfl⟩) ?_
    refine Rely.stepsZ_cons (by
      intro vs w' hb hp
      simp only [Rely.Pre, oneT] at hp
      unfold Rely.gives
      simp only [Rely.sel, List.foldl_cons, List.foldl_nil]
      go_simp
      exact ⟨Below.refl _ _, rfl⟩) ?_
    refine Rely.stepsZ_cons (by
      intro vs w' hb hp
      simp only [Rely.Pre, oneT] at hp
      unfold Rely.gives
      simp only [Rely.sel, List.foldl_cons, List.foldl_nil]
      go_simp
      exact ⟨(Below.refl _ _).alloc (Nat.le_refl _) _, w'.heap.size, rfl, Blk.new _ _ _⟩) ?_
    refine Rely.stepsZ_cons (by
      intro vs w' hb hp
      simp only [Rely.Pre, oneT] at hp
      obtain ⟨hg1, ⟨p, e1, hk⟩, _⟩ := hp
      unfold Rely.gives
      simp only [Rely.sel, List.foldl_cons, List.foldl_nil]
      go_simp
      simp only [Rely.GivesR]
      refine (sum_blk p A bs n c HN.out S1 HS1 (by omega) w' hk (HX.out w' hb)).mono ?_
      rintro e w3 ⟨rfl, rfl⟩
      exact ⟨_, rfl, Below.refl _ _, rfl⟩) ?_
    refine Rely.stepsZ_cons (by
      intro vs w' hb hp
      simp only [Rely.Pre, oneT] at hp
      unfold Rely.gives
      simp only [Rely.sel, List.foldl_cons, List.foldl_nil]
      go_simp
      exact ⟨Below.refl _ _, rfl⟩) ?_
    refine Rely.stepsZ_cons (by
      intro vs w' hb hp
      simp only [Rely.Pre, oneT] at hp
      unfold Rely.gives
      simp only [Rely.sel, List.foldl_cons, List.foldl_nil]
      go_simp
      exact ⟨Below.refl _ _, rfl⟩) ?_
    refine Rely.stepsZ_cons (by
      intro vs w' hb hp
      simp only [Rely.Pre, oneT] at hp
      unfold Rely.gives
      simp only [Rely.sel, List.foldl_cons, List.foldl_nil]
      go_simp
      exact ⟨Below.refl _ _, rfl⟩) ?_
    refine Rely.stepsZ_cons (by
      intro vs w' hb hp
      simp only [Rely.Pre, oneT] at hp
      unfold Rely.gives
      simp only [Rely.sel, List.foldl_cons, List.foldl_nil]
      go_simp
      exact ⟨Below.refl _ _, rfl⟩) ?_
    refine Rely.stepsZ_cons (by
      intro vs w' hb hp
      simp only [Rely.Pre, oneT] at hp
      unfold Rely.gives
      simp only [Rely.sel, List.foldl_cons, List.foldl_nil]
      go_simp
      exact ⟨Below.refl _ _, rfl⟩) ?_
    refine Rely.stepsZ_cons (by
      intro vs w' hb hp
      simp only [Rely.Pre, oneT] at hp
      unfold Rely.gives
      simp only [Rely.sel, List.foldl_cons, List.foldl_nil]
      go_simp
      exact ⟨Below.refl _ _, rfl⟩) ?_
    refine Rely.stepsZ_cons (by
      intro vs w' hb hp
      simp only [Rely.Pre, oneT] at hp
      unfold Rely.gives
      simp only [Rely.sel, List.foldl_cons, List.foldl_nil]
      go_simp
      exact ⟨(Below.refl _ _).alloc (Nat.le_refl _) _, w'.heap.size, rfl, Blk.new _ _ _⟩) ?_
    refine Rely.stepsZ_cons (by
      intro vs w' hb hp
      simp only [Rely.Pre, oneT] at hp
      obtain ⟨hg1, ⟨p, e1, hk⟩, _⟩ := hp
      unfold Rely.gives
      simp only [Rely.sel, List.foldl_cons, List.foldl_nil]
      go_simp
      simp only [Rely.GivesR]
      refine (sum_blk2 p A (cutA A k c) (bs.take k) (bs.drop k) bs k c (n - k) (c - k) HKC.out.1 HKC.out.2.1 (List.take_append_drop k bs) S1 HS1 HKC.out.2.2.1 w' hk (HP.out w' hb) (HQ.out w' hb)).mono ?_
      rintro e w3 ⟨rfl, rfl⟩
      exact ⟨_, rfl, Below.refl _ _, rfl⟩) ?_
    refine Rely.stepsZ_cons (by
      intro vs w' hb hp
      simp only [Rely.Pre, oneT] at hp
      unfold Rely.gives
      simp only [Rely.sel, List.foldl_cons, List.foldl_nil]
      go_simp
      exact ⟨Below.refl _ _, rfl⟩) ?_
    refine Rely.stepsZ_cons (by
      intro vs w' hb hp
      simp only [Rely.Pre, oneT] at hp
      unfold Rely.gives
      simp only [Rely.sel, List.foldl_cons, List.foldl_nil]
      go_simp
      exact ⟨Below.refl _ _, rfl⟩) ?_
    refine Rely.stepsZ_cons (by
      intro vs w' hb hp
      simp only [Rely.Pre, oneT] at hp
      unfold Rely.gives
      simp only [Rely.sel, List.foldl_cons, List.foldl_nil]
      go_simp
      exact ⟨Below.refl _ _, rfl⟩) ?_
    refine Rely.stepsZ_cons (by
      intro vs w' hb hp
      simp only [Rely.Pre, oneT] at hp
      unfold Rely.gives
      simp only [Rely.sel, List.foldl_cons, List.foldl_nil]
      go_simp
      simp only [Rely.GivesR]
      refine (known_any w').mono ?_
      rintro e w3 ⟨rfl, hb3⟩
      exact ⟨_, rfl, hb3, rfl⟩) ?_
    refine Rely.stepsZ_cons (by
      intro vs w' hb hp
      simp only [Rely.Pre, oneT] at hp
      unfold Rely.gives
      simp only [Rely.sel, List.foldl_cons, List.foldl_nil]
      go_simp
      exact ⟨Below.refl _ _, rfl⟩) ?_
    refine Rely.stepsZ_cons (by
      intro vs w' hb hp
      simp only [Rely.Pre, oneT] at hp
      unfold Rely.gives
      simp only [Rely.sel, List.foldl_cons, List.foldl_nil]
      go_simp
      exact ⟨Below.refl _ _, rfl⟩) ?_
    exact Rely.stepsZ_nil
  · intro vs w' hb hp _
    simp only [Rely.Pre, oneT] at hp
    obtain ⟨h0, h1, h2, h3, h4, h5, h6, h7, h8, h9, h10, h11, h12, h13, h14, h15, h16, h17, h18, h19, h20, h21, h22, h23, h24, h25, h26, h27, h28, h29, h30, h31, h32, h33, _⟩ := hp
    clear h0 h1 h2 h3 h4 h5 h6 h7 h8 h9 h10 h11 h12 h13 h14 h15 h16 h17 h18 h19 h20 h21 h22 h23 h24 h25 h26 h27 h28 h29 h30 h31 h32
    go_wp2
    go_ret
    refine ⟨?_, HB2.out.trans (hb.mono HB2.out.size)⟩
    rw [Array.getD_eq_getD_getElem?, Rely.sel_at _ vs _ 33 6 (by decide) (by decide +kernel) (of_decide_eq_true (by kernel_rfl)), h33]
    rfl
end Go.Proofs.Ytmiihakfpldeiaa
