/- Whether a disk is as it is to be, by the statements' own call. -/
import Derived.Test.YtmmhiolmeijemaaStep6
import Derived.Test.YtmmhiolmeijemaaRely
namespace Go.Proofs.Ytmmhiolmeijemaa
open Go.RowKit Mem
set_option maxRecDepth 100000
set_option maxHeartbeats 4000000
set_option linter.unusedVariables false
set_option linter.unusedSimpArgs false
def sameT (g b n m q cL cT : Nat) (L T Y : List UInt8) (AL AT : Option Addr) : Nat → Value → World → Prop
  | 0, v, _ => v = .pointer (some ⟨g, 0, none⟩)
  | 1, v, w => ∃ A' c', v = .slice A' L.length c' ∧ w.ownsRow 0 5 1 (.slice A' L.length c') L.length (L.map byteV)
  | 2, v, _ => v = .pointer (some ⟨b, 0, none⟩)
  | 3, v, _ => v = .slice AL n cL
  | 4, v, _ => v = .bool true
  | 5, v, _ => v = .bool true
  | 6, v, _ => v = .pointer (some ⟨g, 0, none⟩)
  | 7, v, w => ∃ A' c', v = .slice A' T.length c' ∧ w.ownsRow 0 5 1 (.slice A' T.length c') T.length (T.map byteV)
  | 8, v, _ => v = .pointer (some ⟨b, 1, none⟩)
  | 9, v, _ => v = .slice AT m cT
  | 10, v, _ => v = .bool true
  | 11, v, _ => v = .bool true
  | 12, v, _ => v = .bool true
  | 13, v, _ => v = .pointer (some ⟨g, 0, none⟩)
  | 14, v, w => ∃ A' c', v = .slice A' Y.length c' ∧ w.ownsRow 0 5 1 (.slice A' Y.length c') Y.length (Y.map byteV)
  | 15, v, _ => v = .pointer (some ⟨b, 0, none⟩)
  | 16, v, _ => v = .slice AL n cL
  | 17, v, _ => v = .pointer (some ⟨b, 1, none⟩)
  | 18, v, _ => v = .slice AT m cT
  | 19, v, w => ∃ A' c', v = .slice A' Y.length c' ∧ w.ownsRow 0 5 1 (.slice A' Y.length c') Y.length (Y.map byteV)
  | 20, v, _ => v = .bool true
  | 21, v, _ => v = .bool true
  | 22, v, _ => v = .bool true
  | 23, v, _ => v = .pointer (some ⟨g, 0, none⟩)
  | 24, v, _ => v = .int .i64 (q : Int)
  | 25, v, _ => v = .pointer (some ⟨b, 2, none⟩)
  | 26, v, _ => v = .int .i64 (q : Int)
  | 27, v, _ => v = .bool true
  | 28, v, _ => v = .bool true
  | _, v, _ => v = .bool true
theorem sameT_later (g b n m q cL cT : Nat) (L T Y : List UInt8) (AL AT : Option Addr) : ∀ i v w1 w2, sameT g b n m q cL cT L T Y AL AT i v w1 → Below w1.heap.size w1 w2 → sameT g b n m q cL cT L T Y AL AT i v w2 := by
  intro i v w1 w2 h hb
  unfold sameT at h ⊢
  split at h <;> first | exact h | (obtain ⟨a, b, e, hk⟩ := h; exact ⟨a, b, e, own_later hk hb⟩)
theorem samed_any (F : Nat → Prop) (g q n m cL cT : Nat) (L T : List UInt8) (AL AT : Option Addr) (hn : n = L.length) (hm : m = T.length) (w : World) (h : DkAt w F g L T q) (hl : Row w w.heap.size AL (L.map byteV)) (ht : Row w w.heap.size AT (T.map byteV)) :
    Calls Try.prog 14 #[.pointer (some ⟨g, 0, none⟩), .agg #[.slice AL n cL, .slice AT m cT, .int .i64 (q : Int)]] w (IsT6 true w) := by
  obtain ⟨w0, hw0⟩ : ∃ w0, w.alloc (.cells #[.slice AL n cL, .slice AT m cT, .int .i64 (q : Int)] 31) = w0 := ⟨_, rfl⟩
  have hb0 : Below w.heap.size w w0 := by rw [← hw0]; exact (Below.refl _ _).alloc (Nat.le_refl _) _
  have hblk : Blk w0 w.heap.size 31 #[.slice AL n cL, .slice AT m cT, .int .i64 (q : Int)] := by rw [← hw0]; exact Blk.new _ _ _
  obtain ⟨b, hbb⟩ : ∃ b, w.heap.size = b := ⟨_, rfl⟩
  have hD := h.below hb0
  have hmx := h.mx
  obtain ⟨Y, hY⟩ : ∃ Y, L ++ T = Y := ⟨_, rfl⟩
  have HL : Hid (∀ W, Below w0.heap.size w0 W → Calls Try.prog 16 #[.pointer (some ⟨g, 0, none⟩)] W (Made W.heap.size L W)) := Lib.hid fun W hb => lasting_any F g q L T W (hD.below hb)
  have HT : Hid (∀ W, Below w0.heap.size w0 W → Calls Try.prog 19 #[.pointer (some ⟨g, 0, none⟩)] W (Made W.heap.size T W)) := Lib.hid fun W hb => tail_any F g q L T W (hD.below hb)
  have HY : Hid (∀ W, Below w0.heap.size w0 W → Calls Try.prog 17 #[.pointer (some ⟨g, 0, none⟩)] W (Made W.heap.size Y W)) := Lib.hid fun W hb => by rw [← hY]; exact bytes_any F g q L T W (hD.below hb)
  have HN : Hid (∀ W, Below w0.heap.size w0 W → Calls Try.prog 22 #[.pointer (some ⟨g, 0, none⟩)] W fun e w' => e = .returned (.int .i64 (q : Int)) ∧ W = w') := Lib.hid fun W hb => syncs_any F g q L T W (hD.below hb)
  have HRL : Hid (∀ W, Below w0.heap.size w0 W → n = L.length ∧ Row W W.heap.size AL (L.map byteV)) := Lib.hid fun W hb => ⟨hn, (hl.below (hb0.trans (hb.mono hb0.size))).more (Nat.le_trans hb0.size hb.size)⟩
  have HRT : Hid (∀ W, Below w0.heap.size w0 W → m = T.length ∧ Row W W.heap.size AT (T.map byteV)) := Lib.hid fun W hb => ⟨hm, (ht.below (hb0.trans (hb.mono hb0.size))).more (Nat.le_trans hb0.size hb.size)⟩
  have HJ : Hid (∀ W, Below w0.heap.size w0 W → Calls Try.prog 27 #[.slice AL n cL, .slice AT m cT] W (Made W.heap.size Y W)) := Lib.hid fun W hb => by rw [← hY]; exact join_any n m cL cT AL AT L T hn hm W (HRL.out W hb).2 (HRT.out W hb).2 (by omega)
  have HS : Hid (∀ W, Below w0.heap.size w0 W → ∀ (X : List UInt8) (a : Option Addr) (c : Nat), W.ownsRow 0 5 1 (.slice a X.length c) X.length (X.map byteV) → ∀ (k d : Nat) (A : Option Addr), (k = X.length ∧ Row W W.heap.size A (X.map byteV)) →
      Calls Try.prog 18 #[.slice a X.length c, .slice A k d] W fun e w' => e = .returned (.bool true) ∧ W = w') := Lib.hid fun W hb X a c ho k d A hr => same6_true W.heap.size W.heap.size c d X.length k a A X W (Row.of_own ho) hr.2 rfl hr.1
  have HSS : Hid (∀ W (a : Option Addr) (c : Nat), W.ownsRow 0 5 1 (.slice a Y.length c) Y.length (Y.map byteV) → ∀ (a' : Option Addr) (c' : Nat), W.ownsRow 0 5 1 (.slice a' Y.length c') Y.length (Y.map byteV) →
      Calls Try.prog 18 #[.slice a Y.length c, .slice a' Y.length c'] W fun e w' => e = .returned (.bool true) ∧ W = w') := Lib.hid fun W a c ho a' c' ho' => same6_true W.heap.size W.heap.size c c' Y.length Y.length a a' Y W (Row.of_own ho) (Row.of_own ho') rfl rfl
  rw [hbb] at hblk
  have HB : Hid (∀ W, Below w0.heap.size w0 W → W.cell? ⟨b, 0, none⟩ = some (.slice AL n cL) ∧ W.cell? ⟨b, 1, none⟩ = some (.slice AT m cT) ∧ W.cell? ⟨b, 2, none⟩ = some (.int .i64 (q : Int))) := Lib.hid fun W hb =>
    ⟨(hblk.below hb hblk.lt).cell 0, (hblk.below hb hblk.lt).cell 1, (hblk.below hb hblk.lt).cell 2⟩
  have HB0 := Lib.hid hb0
  have HW0 := Lib.hid hw0
  have HBB := Lib.hid hbb
  clear h hl ht hn hm hb0 hD hmx hY hblk hw0 hbb
  go_enter Try.func14, Try.ntmps14
  go_wp2_with fail
  rw [HW0.out]
  rw [HBB.out]
  refine Rely.wp_region_by [[], [(0, 5)], [], [(2, 7)], [(1, 6), (3, 8)], [(4, 9)], [(5, 10)], [(5, 10), (6, 11)], [(5, 10)], [(5, 10), (8, 13)], [(5, 10), (7, 12), (9, 14)], [(5, 10), (10, 15)], [(11, 16)], [(12, 17)], [(12, 17), (13, 18)], [(12, 17)], [(12, 17), (15, 20)], [(12, 17)], [(12, 17), (17, 22)], [(12, 17), (16, 21), (18, 23)], [(12, 17), (14, 19), (19, 24)], [(12, 17), (20, 25)], [(21, 26)], [(22, 27)], [(22, 27), (23, 28)], [(22, 27)], [(22, 27), (25, 30)], [(22, 27), (24, 29), (26, 31)], [(22, 27), (27, 32)], [(28, 33)]] [(0, 5), (1, 6), (2, 7), (3, 8), (4, 9), (5, 10), (6, 11), (7, 12), (8, 13), (9, 14), (10, 15), (11, 16), (12, 17), (13, 18), (14, 19), (15, 20), (16, 21), (17, 22), (18, 23), (19, 24), (20, 25), (21, 26), (22, 27), (23, 28), (24, 29), (25, 30), (26, 31), (27, 32), (28, 33), (29, 4)] [] (sameT g b n m q cL cT L T Y AL AT) (by kernel_rfl) (by kernel_rfl) (by kernel_rfl) (by kernel_rfl) (by kernel_rfl) (by kernel_rfl) (sameT_later g b n m q cL cT L T Y AL AT) ?_ ?_
  · skip
    refine Rely.stepsZ_cons (by
      intro vs w' hb hp
      simp only [Rely.Pre, sameT] at hp
      unfold Rely.gives
      simp only [Rely.sel, List.foldl_cons, List.foldl_nil]
      go_simp
      exact ⟨Below.refl _ _, rfl⟩) ?_
    refine Rely.stepsZ_cons (by
      intro vs w' hb hp
      simp only [Rely.Pre, sameT] at hp
      obtain ⟨h0, _⟩ := hp
      unfold Rely.gives
      simp only [Rely.sel, List.foldl_cons, List.foldl_nil]
      go_simp
      simp only [Rely.GivesR]
      refine (HL.out w' hb).mono ?_
      rintro e w3 ⟨A3, c3, rfl, ho3, hb3⟩
      exact ⟨_, rfl, hb3, A3, c3, rfl, ownBase ho3 (Nat.zero_le _)⟩) ?_
    refine Rely.stepsZ_cons (by
      intro vs w' hb hp
      simp only [Rely.Pre, sameT] at hp
      unfold Rely.gives
      simp only [Rely.sel, List.foldl_cons, List.foldl_nil]
      go_simp
      exact ⟨Below.refl _ _, rfl⟩) ?_
    refine Rely.stepsZ_cons (by
      intro vs w' hb hp
      simp only [Rely.Pre, sameT] at hp
      obtain ⟨h2, _⟩ := hp
      obtain ⟨b0, b1, b2⟩ := HB.out w' hb
      unfold Rely.gives
      simp only [Rely.sel, List.foldl_cons, List.foldl_nil]
      go_simp
      exact ⟨Below.refl _ _, rfl⟩) ?_
    refine Rely.stepsZ_cons (by
      intro vs w' hb hp
      simp only [Rely.Pre, sameT] at hp
      obtain ⟨⟨a1, c1, e1, ho1⟩, h3, _⟩ := hp
      unfold Rely.gives
      simp only [Rely.sel, List.foldl_cons, List.foldl_nil]
      go_simp
      simp only [Rely.GivesR]
      refine (HS.out w' hb L a1 c1 ho1 n cL AL (HRL.out w' hb)).mono ?_
      rintro e w3 ⟨rfl, rfl⟩
      exact ⟨_, rfl, Below.refl _ _, rfl⟩) ?_
    refine Rely.stepsZ_cons (by
      intro vs w' hb hp
      simp only [Rely.Pre, sameT] at hp
      obtain ⟨h4, _⟩ := hp
      unfold Rely.gives
      simp only [Rely.sel, List.foldl_cons, List.foldl_nil]
      go_simp
      exact ⟨Below.refl _ _, rfl⟩) ?_
    refine Rely.stepsZ_cons (by
      intro vs w' hb hp
      simp only [Rely.Pre, sameT] at hp
      obtain ⟨h5, _⟩ := hp
      unfold Rely.gives
      simp only [Rely.sel, List.foldl_cons, List.foldl_nil]
      go_simp
      exact ⟨Below.refl _ _, rfl⟩) ?_
    refine Rely.stepsZ_cons (by
      intro vs w' hb hp
      simp only [Rely.Pre, sameT] at hp
      obtain ⟨h5, h6, _⟩ := hp
      unfold Rely.gives
      simp only [Rely.sel, List.foldl_cons, List.foldl_nil]
      go_simp
      simp only [Rely.GivesR]
      refine (HT.out w' hb).mono ?_
      rintro e w3 ⟨A3, c3, rfl, ho3, hb3⟩
      exact ⟨_, rfl, hb3, A3, c3, rfl, ownBase ho3 (Nat.zero_le _)⟩) ?_
    refine Rely.stepsZ_cons (by
      intro vs w' hb hp
      simp only [Rely.Pre, sameT] at hp
      obtain ⟨h5, _⟩ := hp
      unfold Rely.gives
      simp only [Rely.sel, List.foldl_cons, List.foldl_nil]
      go_simp
      exact ⟨Below.refl _ _, rfl⟩) ?_
    refine Rely.stepsZ_cons (by
      intro vs w' hb hp
      simp only [Rely.Pre, sameT] at hp
      obtain ⟨h5, h8, _⟩ := hp
      obtain ⟨b0, b1, b2⟩ := HB.out w' hb
      unfold Rely.gives
      simp only [Rely.sel, List.foldl_cons, List.foldl_nil]
      go_simp
      exact ⟨Below.refl _ _, rfl⟩) ?_
    refine Rely.stepsZ_cons (by
      intro vs w' hb hp
      simp only [Rely.Pre, sameT] at hp
      obtain ⟨h5, ⟨a7, c7, e7, ho7⟩, h9, _⟩ := hp
      unfold Rely.gives
      simp only [Rely.sel, List.foldl_cons, List.foldl_nil]
      go_simp
      simp only [Rely.GivesR]
      refine (HS.out w' hb T a7 c7 ho7 m cT AT (HRT.out w' hb)).mono ?_
      rintro e w3 ⟨rfl, rfl⟩
      exact ⟨_, rfl, Below.refl _ _, rfl⟩) ?_
    refine Rely.stepsZ_cons (by
      intro vs w' hb hp
      simp only [Rely.Pre, sameT] at hp
      obtain ⟨h5, h10, _⟩ := hp
      unfold Rely.gives
      simp only [Rely.sel, List.foldl_cons, List.foldl_nil]
      go_simp
      exact ⟨Below.refl _ _, rfl⟩) ?_
    refine Rely.stepsZ_cons (by
      intro vs w' hb hp
      simp only [Rely.Pre, sameT] at hp
      obtain ⟨h11, _⟩ := hp
      unfold Rely.gives
      simp only [Rely.sel, List.foldl_cons, List.foldl_nil]
      go_simp
      exact ⟨Below.refl _ _, rfl⟩) ?_
    refine Rely.stepsZ_cons (by
      intro vs w' hb hp
      simp only [Rely.Pre, sameT] at hp
      obtain ⟨h12, _⟩ := hp
      unfold Rely.gives
      simp only [Rely.sel, List.foldl_cons, List.foldl_nil]
      go_simp
      exact ⟨Below.refl _ _, rfl⟩) ?_
    refine Rely.stepsZ_cons (by
      intro vs w' hb hp
      simp only [Rely.Pre, sameT] at hp
      obtain ⟨h12, h13, _⟩ := hp
      unfold Rely.gives
      simp only [Rely.sel, List.foldl_cons, List.foldl_nil]
      go_simp
      simp only [Rely.GivesR]
      refine (HY.out w' hb).mono ?_
      rintro e w3 ⟨A3, c3, rfl, ho3, hb3⟩
      exact ⟨_, rfl, hb3, A3, c3, rfl, ownBase ho3 (Nat.zero_le _)⟩) ?_
    refine Rely.stepsZ_cons (by
      intro vs w' hb hp
      simp only [Rely.Pre, sameT] at hp
      obtain ⟨h12, _⟩ := hp
      unfold Rely.gives
      simp only [Rely.sel, List.foldl_cons, List.foldl_nil]
      go_simp
      exact ⟨Below.refl _ _, rfl⟩) ?_
    refine Rely.stepsZ_cons (by
      intro vs w' hb hp
      simp only [Rely.Pre, sameT] at hp
      obtain ⟨h12, h15, _⟩ := hp
      obtain ⟨b0, b1, b2⟩ := HB.out w' hb
      unfold Rely.gives
      simp only [Rely.sel, List.foldl_cons, List.foldl_nil]
      go_simp
      exact ⟨Below.refl _ _, rfl⟩) ?_
    refine Rely.stepsZ_cons (by
      intro vs w' hb hp
      simp only [Rely.Pre, sameT] at hp
      obtain ⟨h12, _⟩ := hp
      unfold Rely.gives
      simp only [Rely.sel, List.foldl_cons, List.foldl_nil]
      go_simp
      exact ⟨Below.refl _ _, rfl⟩) ?_
    refine Rely.stepsZ_cons (by
      intro vs w' hb hp
      simp only [Rely.Pre, sameT] at hp
      obtain ⟨h12, h17, _⟩ := hp
      obtain ⟨b0, b1, b2⟩ := HB.out w' hb
      unfold Rely.gives
      simp only [Rely.sel, List.foldl_cons, List.foldl_nil]
      go_simp
      exact ⟨Below.refl _ _, rfl⟩) ?_
    refine Rely.stepsZ_cons (by
      intro vs w' hb hp
      simp only [Rely.Pre, sameT] at hp
      obtain ⟨h12, h16, h18, _⟩ := hp
      unfold Rely.gives
      simp only [Rely.sel, List.foldl_cons, List.foldl_nil]
      go_simp
      simp only [Rely.GivesR]
      refine (HJ.out w' hb).mono ?_
      rintro e w3 ⟨A3, c3, rfl, ho3, hb3⟩
      exact ⟨_, rfl, hb3, A3, c3, rfl, ownBase ho3 (Nat.zero_le _)⟩) ?_
    refine Rely.stepsZ_cons (by
      intro vs w' hb hp
      simp only [Rely.Pre, sameT] at hp
      obtain ⟨h12, ⟨a14, c14, e14, ho14⟩, ⟨a19, c19, e19, ho19⟩, _⟩ := hp
      unfold Rely.gives
      simp only [Rely.sel, List.foldl_cons, List.foldl_nil]
      go_simp
      simp only [Rely.GivesR]
      refine (HSS.out w' a14 c14 ho14 a19 c19 ho19).mono ?_
      rintro e w3 ⟨rfl, rfl⟩
      exact ⟨_, rfl, Below.refl _ _, rfl⟩) ?_
    refine Rely.stepsZ_cons (by
      intro vs w' hb hp
      simp only [Rely.Pre, sameT] at hp
      obtain ⟨h12, h20, _⟩ := hp
      unfold Rely.gives
      simp only [Rely.sel, List.foldl_cons, List.foldl_nil]
      go_simp
      exact ⟨Below.refl _ _, rfl⟩) ?_
    refine Rely.stepsZ_cons (by
      intro vs w' hb hp
      simp only [Rely.Pre, sameT] at hp
      obtain ⟨h21, _⟩ := hp
      unfold Rely.gives
      simp only [Rely.sel, List.foldl_cons, List.foldl_nil]
      go_simp
      exact ⟨Below.refl _ _, rfl⟩) ?_
    refine Rely.stepsZ_cons (by
      intro vs w' hb hp
      simp only [Rely.Pre, sameT] at hp
      obtain ⟨h22, _⟩ := hp
      unfold Rely.gives
      simp only [Rely.sel, List.foldl_cons, List.foldl_nil]
      go_simp
      exact ⟨Below.refl _ _, rfl⟩) ?_
    refine Rely.stepsZ_cons (by
      intro vs w' hb hp
      simp only [Rely.Pre, sameT] at hp
      obtain ⟨h22, h23, _⟩ := hp
      unfold Rely.gives
      simp only [Rely.sel, List.foldl_cons, List.foldl_nil]
      go_simp
      simp only [Rely.GivesR]
      refine (HN.out w' hb).mono ?_
      rintro e w3 ⟨rfl, rfl⟩
      exact ⟨_, rfl, Below.refl _ _, rfl⟩) ?_
    refine Rely.stepsZ_cons (by
      intro vs w' hb hp
      simp only [Rely.Pre, sameT] at hp
      obtain ⟨h22, _⟩ := hp
      unfold Rely.gives
      simp only [Rely.sel, List.foldl_cons, List.foldl_nil]
      go_simp
      exact ⟨Below.refl _ _, rfl⟩) ?_
    refine Rely.stepsZ_cons (by
      intro vs w' hb hp
      simp only [Rely.Pre, sameT] at hp
      obtain ⟨h22, h25, _⟩ := hp
      obtain ⟨b0, b1, b2⟩ := HB.out w' hb
      unfold Rely.gives
      simp only [Rely.sel, List.foldl_cons, List.foldl_nil]
      go_simp
      exact ⟨Below.refl _ _, rfl⟩) ?_
    refine Rely.stepsZ_cons (by
      intro vs w' hb hp
      simp only [Rely.Pre, sameT] at hp
      obtain ⟨h22, h24, h26, _⟩ := hp
      unfold Rely.gives
      simp only [Rely.sel, List.foldl_cons, List.foldl_nil]
      go_simp
      exact ⟨Below.refl _ _, rfl⟩) ?_
    refine Rely.stepsZ_cons (by
      intro vs w' hb hp
      simp only [Rely.Pre, sameT] at hp
      obtain ⟨h22, h27, _⟩ := hp
      unfold Rely.gives
      simp only [Rely.sel, List.foldl_cons, List.foldl_nil]
      go_simp
      exact ⟨Below.refl _ _, rfl⟩) ?_
    refine Rely.stepsZ_cons (by
      intro vs w' hb hp
      simp only [Rely.Pre, sameT] at hp
      obtain ⟨h28, _⟩ := hp
      unfold Rely.gives
      simp only [Rely.sel, List.foldl_cons, List.foldl_nil]
      go_simp
      exact ⟨Below.refl _ _, rfl⟩) ?_
    exact Rely.stepsZ_nil
  intro vs w1 hb1 hp _
  simp only [Rely.Pre, sameT] at hp
  obtain ⟨h0, ⟨a1, c1, h1, ho1⟩, h2, h3, h4, h5, h6, ⟨a7, c7, h7, ho7⟩, h8, h9, h10, h11, h12, h13, ⟨a14, c14, h14, ho14⟩, h15, h16, h17, h18, ⟨a19, c19, h19, ho19⟩, h20, h21, h22, h23, h24, h25, h26, h27, h28, h29, _⟩ := hp
  have HB1 := Lib.hid hb1
  simp only [Rely.sel, List.foldl_cons, List.foldl_nil, h0, h1, h2, h3, h4, h5, h6, h7, h8, h9, h10, h11, h12, h13, h14, h15, h16, h17, h18, h19, h20, h21, h22, h23, h24, h25, h26, h27, h28, h29]
  clear h0 h1 h2 h3 h4 h5 h6 h7 h8 h9 h10 h11 h12 h13 h14 h15 h16 h17 h18 h19 h20 h21 h22 h23 h24 h25 h26 h27 h28 h29 hb1
  simp only [Act.put, List.setIfInBounds_toArray, List.set_cons_succ, List.set_cons_zero]
  go_wp2
  go_ret
  exact ⟨rfl, HB0.out.trans (HB1.out.mono HB0.out.size)⟩
end Go.Proofs.Ytmmhiolmeijemaa

