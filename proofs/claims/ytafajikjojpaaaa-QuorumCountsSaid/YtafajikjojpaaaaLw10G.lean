/- Nodes of a list that are counted, one by one: what is counted, what is left, whether there are enough. -/
import Derived.Test.YtafajikjojpaaaaLw10
import Derived.Test.YtafajikjojpaaaaLw10F
import Derived.Test.YtafajikjojpaaaaRely
namespace Go.Proofs.Ytafajikjojpaaaa
open Go.RowKit Mem Rg
set_option maxRecDepth 100000
set_option maxHeartbeats 16000000
set_option linter.unusedVariables false
set_option linter.unusedSimpArgs false
def rg10 (g bb o n1 n2 c1 c2 q z kG : Nat) (F Y : Int) (u : Bool) (X : List Int) (A1 AG : Option Addr) : Nat → Value → World → Prop
  | 0, v, _ => v = .int .i64 F
  | 1, v, _ => v = .int .i64 F
  | 2, v, _ => v = .bool false
  | 3, v, _ => v = .bool false
  | 4, v, _ => v = .pointer (some ⟨g, 0, none⟩)
  | 5, v, w => ∃ A' c', v = .slice A' X.length c' ∧ w.ownsRow 0 3 1 (.slice A' X.length c') X.length (X.map iV)
  | 6, v, _ => v = .slice AG z kG
  | 7, v, _ => v = .bool true
  | 8, v, _ => v = .bool false
  | 9, v, _ => v = .bool false
  | 10, v, _ => v = .bool false
  | 11, v, _ => v = .pointer (some ⟨g, 0, none⟩)
  | 12, v, _ => v = .int .i64 Y
  | 13, v, _ => v = .int .i64 Y
  | 14, v, _ => v = .bool false
  | 15, v, _ => v = .bool false
  | 16, v, _ => v = .bool false
  | 17, v, _ => v = .pointer (some ⟨g, 0, none⟩)
  | 18, v, _ => v = .bool u
  | 19, v, _ => v = .int .i64 Y
  | 20, v, _ => v = .bool (Y == 0)
  | 21, v, _ => v = .bool false
  | 22, v, _ => v = .bool false
  | 23, v, _ => v = .bool false
  | 24, v, _ => v = .pointer (some ⟨g, 0, none⟩)
  | 25, v, _ => v = .bool u
  | 26, v, _ => v = .slice A1 n1 c1
  | 27, v, _ => v = .slice (some ⟨bb, o, none⟩) n2 c2
  | 28, v, _ => v = .int .i64 (q : Int)
  | 29, v, _ => v = .int .i64 ((q : Int) + 1)
  | 30, v, _ => v = .slice (some ⟨bb, o, none⟩) (q + 1) c2
  | 31, v, _ => v = .bool u
  | 32, v, _ => v = .bool false
  | _, v, _ => v = .bool false
theorem rg10_later (g bb o n1 n2 c1 c2 q z kG : Nat) (F Y : Int) (u : Bool) (X : List Int) (A1 AG : Option Addr) : ∀ i v w1 w2, rg10 g bb o n1 n2 c1 c2 q z kG F Y u X A1 AG i v w1 → Below w1.heap.size w1 w2 → rg10 g bb o n1 n2 c1 c2 q z kG F Y u X A1 AG i v w2 := by
  intro i v w1 w2 h hb
  unfold rg10 at h ⊢
  split at h <;> first | exact h | (obtain ⟨p, e, hk⟩ := h; exact ⟨p, e, hk.below hb hk.lt⟩) | (obtain ⟨a, b, e, hk⟩ := h; exact ⟨a, b, e, own_later hk hb⟩)
theorem row_take {w : World} {B : Nat} {A : Option Addr} {l : List Int} (h : Row w B A (l.map iV)) (k : Nat) : Row w B A ((l.take k).map iV) := by
  rcases h with h | ⟨b, o, e, hb, hc⟩
  · have hl : l = [] := by simpa using h
    subst hl; exact Or.inl (by simp)
  · refine Or.inr ⟨b, o, e, hb, fun j hj => ?_⟩
    have hj2 : j < (l.map iV).length := by simp at hj ⊢; omega
    rw [hc j hj2]
    simp
theorem counts_walk (A1 A2 : Option Addr) (L a : List Int) (n1 n2 c1 c2 : Nat) (hn1 : n1 = L.length) (hn2 : n2 = a.length) (hnc : n2 ≤ c2) (hw : WfI L) (w : World) (h1 : Row w w.heap.size A1 (L.map iV)) (h2 : Row w w.heap.size A2 (a.map iV)) :
    Calls Try.prog 6 #[.slice A1 n1 c1, .slice A2 n2 c2] w (IsTr w) := by
  have HR1 := Lib.hid fun W (hb : Below w.heap.size w W) => (h1.below hb).more hb.size
  have HR2 := Lib.hid fun W (hb : Below w.heap.size w W) => (h2.below hb).more hb.size
  have HN1 := Lib.hid hn1
  have HN2 := Lib.hid hn2
  have HW := Lib.hid hw
  have HNC := Lib.hid hnc
  have HB0 := Lib.hid (Below.refl w.heap.size w)
  clear h1 h2 hn1 hn2 hw hnc
  by_cases b1 : (40 : Int) < (n1 : Int)
  · go_enter Try.func6, Try.ntmps6
    go_wp2_with (go_at_call 10; refine (known10_any _).mono ?_; rintro e1 w1 ⟨rfl, hb1⟩)
    go_ret
    exact ⟨rfl, HB0.out.trans (hb1.mono HB0.out.size)⟩
  by_cases b2 : (60 : Int) < (n2 : Int)
  · go_enter Try.func6, Try.ntmps6
    go_wp2_with (go_at_call 10; refine (known10_any _).mono ?_; rintro e1 w1 ⟨rfl, hb1⟩)
    go_ret
    exact ⟨rfl, HB0.out.trans (hb1.mono HB0.out.size)⟩
  have HL1 : Hid (n1 ≤ 40) := Lib.hid (by omega)
  have HL2 : Hid (n2 ≤ 60) := Lib.hid (by omega)
  have hn40 : (n1 : Int) ≤ 40 := by omega
  have hn60 : (n2 : Int) ≤ 60 := by omega
  have HCC := Lib.hid fun W (hb : Below w.heap.size w W) => refcommon_any n1 c1 n1 c1 A1 A1 L L HN1.out (by have := HL1.out; omega) HN1.out (by have := HL1.out; omega) W (HR1.out W hb) (HR1.out W hb)
  obtain ⟨z0, hz0⟩ : ∃ z, (cmn L L).length = z := ⟨_, rfl⟩
  have HZ0 := Lib.hid hz0
  have hz0l := cmn_le L L
  rw [hz0] at hz0l
  have hz40 : (z0 : Int) ≤ 40 := by have := HN1.out; have := HL1.out; omega
  clear hz0l hz0
  by_cases bad : L.length = 0 ∨ ¬ L.Nodup
  · have HNB := Lib.hid (new_bad n1 c1 A1 L HN1.out (by have := HL1.out; omega) HW.out bad w (HR1.out w HB0.out))
    by_cases hz : n1 = 0
    · have g0 : ((n1 : Int) == 0) = true := by simp; omega
      clear bad hz
      go_enter Try.func6, Try.ntmps6
      go_wp2_with fail
      refine (HNB.out).mono ?_
      rintro e1 w1 ⟨rfl, hb1⟩
      have HB1 := Lib.hid (HB0.out.trans (hb1.mono HB0.out.size))
      clear  hb1
      go_wp2_with (go_at_call 10; refine (known10_any _).mono ?_; rintro e2 w2 ⟨rfl, hb2⟩)
      go_ret
      exact ⟨rfl, HB1.out.trans (hb2.mono HB1.out.size)⟩
    · have g0 : ((n1 : Int) == 0) = false := by simp; omega
      have hlt : z0 < n1 := by
        rw [← HZ0.out, cmn_self, HN1.out]
        refine (dd_nodup_iff L).2 ?_
        rcases bad with h | h
        · exact absurd (HN1.out.trans h) hz
        · exact h
      have g1 : decide ((z0 : Int) < (n1 : Int)) = true := by simp; omega
      have g1' : decide (z0 < n1) = true := by simp; omega
      clear bad hz hlt
      go_enter Try.func6, Try.ntmps6
      go_wp2_with fail
      refine (HNB.out).mono ?_
      rintro e1 w1 ⟨rfl, hb1⟩
      have HB1 := Lib.hid (HB0.out.trans (hb1.mono HB0.out.size))
      clear  hb1
      go_wp2_with fail
      refine (HCC.out _ HB1.out).mono ?_
      rintro e2 w2 ⟨A2, k2, rfl, _, hb2⟩
      have HB2 := Lib.hid (HB1.out.trans (hb2.mono HB1.out.size))
      clear  hb2
      rw [HZ0.out]
      go_wp2_with (go_at_call 10; refine (known10_any _).mono ?_; rintro e3 w3 ⟨rfl, hb3⟩)
      go_ret
      exact ⟨rfl, HB2.out.trans (hb3.mono HB2.out.size)⟩
  · have hnd : L.Nodup := Classical.byContradiction fun h => bad (Or.inr h)
    have hp : 0 < L.length := by omega
    have HNO := Lib.hid (new_ok n1 c1 A1 L HN1.out (by have := HL1.out; omega) HW.out (by have := HN1.out; omega) hnd w (HR1.out w HB0.out))
    have HND := Lib.hid hnd
    have HP := Lib.hid hp
    have g0 : ((n1 : Int) == 0) = false := by have := HN1.out; simp; omega
    have hze : z0 = n1 := by rw [← HZ0.out, cmn_self, dd_self hnd, HN1.out]
    have g1 : decide ((z0 : Int) < (n1 : Int)) = false := by simp; omega
    have g1' : decide (z0 < n1) = false := by simp; omega
    have HLL : Hid (L.length ≤ 40) := Lib.hid (by have := HN1.out; have := HL1.out; omega)
    clear bad hnd hp hze
    go_enter Try.func6, Try.ntmps6
    go_wp2_with fail
    refine (HNO.out).mono ?_
    rintro e1 w1 ⟨g, rfl, hct, hb1⟩
    have HB1 := Lib.hid (HB0.out.trans (hb1.mono HB0.out.size))
    have HCT := Lib.hid hct
    clear  hb1 hct
    go_wp2_with fail
    refine (HCC.out _ HB1.out).mono ?_
    rintro e2 w2 ⟨A2, k2, rfl, _, hb2⟩
    have HB2 := Lib.hid (HB1.out.trans (hb2.mono HB1.out.size))
    replace HCT := Lib.hid (HCT.out.below hb2)
    clear  hb2
    rw [HZ0.out]
    have HC0 : Hid (CtB w2 w.heap.size g L (a.take 0)) := Lib.hid HCT.out
    go_wp2
    go_loopw [7] (fun i wr => ∃ q : Nat, q ≤ n2 ∧ i = .int .i64 q ∧ Hid (CtB wr w.heap.size g L (a.take q)) ∧ Hid (Below w.heap.size w wr)) (fun i _ => n2 - (intOf i).toNat)
    case atStart => exact ⟨0, by omega, rfl, HC0, HB2⟩
    case round =>
      obtain ⟨q, hq, rfl, HC, HB⟩ := hrel
      by_cases hlt : q < n2
      · have hql : q < a.length := by have := HN2.out; omega
        obtain ⟨bb, o, hA, hbw, hc⟩ := int_cell (HR2.out _ (Below.refl _ _)) (by omega)
        have hA2 := hA
        subst hA2
        have HD0 : Hid (∀ W, Below w.heap.size w W → W.cell? ⟨bb, o + q, none⟩ = some (.int .i64 a[q])) := Lib.hid fun W hb => (hb.cell (p := ⟨bb, o + q, none⟩) hbw).trans (hc q hql)
        have htk : a.take (q + 1) = a.take q ++ [a[q]] := List.take_succ_eq_append_getElem hql
        obtain ⟨x, hx⟩ : ∃ x, a[q] = x := ⟨_, rfl⟩
        rw [hx] at HD0 htk
        have hcut := fun (W : World) => run_cut_h (P := Try.prog) (w := W) 22 3 _ _ Try.underlying22 info_i (some ⟨bb, o, none⟩) n2 c2 (q + 1) (by have := HNC.out; omega)
        rw [show (((q + 1 : Nat)) : Int) = (q : Int) + 1 by omega] at hcut
        have HR3 := Lib.hid fun W (hb : Below w.heap.size w W) => row_take (HR2.out W hb) (q + 1)
        have hl3 : q + 1 = (a.take (q + 1)).length := by rw [List.length_take]; omega
        obtain ⟨S2, hS2⟩ : ∃ S, a.take (q + 1) = S := ⟨_, rfl⟩
        obtain ⟨S, hS⟩ : ∃ S, a.take q = S := ⟨_, rfl⟩
        have HS2 := Lib.hid hS2
        rw [hS2] at HR3 hl3 htk
        rw [hS] at HC htk
        have HTK := Lib.hid htk
        have HG := Lib.hid fun W (hb : Below w.heap.size w W) => refcommon_any n1 c1 (q + 1) c2 A1 (some ⟨bb, o, none⟩) L S2 HN1.out (by have := HL1.out; omega) hl3 (by have := HL2.out; omega) W (HR1.out W hb) (HR3.out W hb)
        have HEN := Lib.hid fun W (hb : Below w.heap.size w W) => enough_any n1 c1 (q + 1) c2 A1 (some ⟨bb, o, none⟩) L S2 HN1.out (by have := HL1.out; omega) hl3 (by have := HL2.out; omega) HW.out W (HR1.out W hb) (HR3.out W hb)
        have HHS := Lib.hid fun W (hb : Below w.heap.size w W) => has_any W.heap.size c1 n1 A1 L x HN1.out (by have := HL1.out; omega) W (HR1.out W hb)
        have HGT := Lib.hid fun W (h : CtB W w.heap.size g L S2) => got_any w.heap.size g L S2 (by have := HLL.out; omega) W h
        have HLF := Lib.hid fun W (h : CtB W w.heap.size g L S2) => left_any w.heap.size g L S2 (by have := HLL.out; omega) W h
        have HDN := Lib.hid fun W (h : CtB W w.heap.size g L S2) => done_any w.heap.size g L S2 (by have := HLL.out; omega) HND.out HW.out W h
        have HNR := Lib.hid fun W => refneed_any n1 (by have := HL1.out; omega) W
        have hdn : cmn L S2 = inn L S2 := by rw [cmn_eq, dd_self HND.out]
        have hel := enO_left (L := L) (S := S2) HP.out
        have hzl := inn_le L S2
        have hnl := need_le n1
        rw [hdn] at HG
        rw [dd_self HND.out] at HEN
        unfold leftN at HLF hel
        rw [← HN1.out] at HLF hel
        obtain ⟨u, hu⟩ : ∃ u, enO L S2 = u := ⟨_, rfl⟩
        rw [hu] at HEN HDN hel
        obtain ⟨X, hX⟩ : ∃ X, inn L S2 = X := ⟨_, rfl⟩
        rw [hX] at HG HGT HLF hel hzl
        obtain ⟨z, hz⟩ : ∃ z, X.length = z := ⟨_, rfl⟩
        have HZ := Lib.hid hz
        obtain ⟨m, hm⟩ : ∃ m, need n1 = m := ⟨_, rfl⟩
        rw [hz] at HLF hel hzl
        rw [hm] at HLF HNR hel hnl
        obtain ⟨Y, hY⟩ : ∃ Y : Int, ((m - z : Nat) : Int) = Y := ⟨_, rfl⟩
        rw [hY] at HLF hel
        have HG2 : Hid ((u == (Y == 0)) = true) := Lib.hid (by rw [hel]; simp)
        have HWR : Hid (IntKind.i64.wrap ((q : Int) + 1) = (q : Int) + 1) := Lib.hid (by rw [IntKind.wrap_i64]; omega)
        have hz41 : (z : Int) ≤ 40 := by have := HLL.out; omega
        have hm41 : (m : Int) ≤ 41 := by have := HL1.out; omega
        have HZL : Hid (z ≤ 40) := Lib.hid (by omega)
        obtain ⟨V, hV⟩ : ∃ V : Int, (m : Int) - (z : Int) = V := ⟨_, rfl⟩
        have hmx : max V 0 = Y := by omega
        have hmx2 : max 0 V = Y := by omega
        have hY1 : Y ≤ 41 := by omega
        have hY0 : 0 ≤ Y := by omega
        have hV1 : V ≤ 41 := by omega
        have hV0 : -40 ≤ V := by omega
        have hq0 : (0 : Int) ≤ (q : Int) := by omega
        have hq1 : (q : Int) < (n2 : Int) := by omega
        clear hc hx hS2 hS htk hl3 hdn hel hzl hnl hu hX hz hm hY g0 g1 g1'
        by_cases hx : x ∈ L
        · skip
          have d0 := HD0.out wr HB.out
          go_wp2_with fail
          refine (add_some w.heap.size g L S x hx (by have := HLL.out; omega) HND.out wr HC.out).mono ?_
          rintro e3 w3 ⟨rfl, hct3, hb3⟩
          have HB3 := Lib.hid (HB.out.trans hb3)
          replace HC : Hid (CtB w3 w.heap.size g L S2) := Lib.hid (by rw [HTK.out]; exact hct3)
          have HHX := Lib.hid (HHS.out w3 HB3.out)
          rw [isIn_true hx] at HHX
          clear hct3 hb3 d0
          have d0 := HD0.out w3 HB3.out
          go_wp2_with (go_at_call 21; refine HHX.out.mono ?_; rintro e w' ⟨rfl, rfl⟩)
          go_wp2_with fail
          refine (HG.out _ HB3.out).mono ?_
          rintro e4 w4 ⟨A4, k4, rfl, ho4, hb4⟩
          have HB4 := Lib.hid (HB3.out.trans (hb4.mono HB3.out.size))
          replace HC := Lib.hid (HC.out.below hb4)
          have HOG := Lib.hid ho4
          clear d0 hb4 ho4
          have d0 := HD0.out w4 HB4.out
          rw [HZ.out]
          go_wp2_with (go_at_call 11; refine (HNR.out _).mono ?_; rintro e w' ⟨rfl, rfl⟩)
          have HGT2 := Lib.hid fun w' (hb : Below w4.heap.size w4 w') => HGT.out w' (HC.out.below hb)
          have HLF2 := Lib.hid fun w' (hb : Below w4.heap.size w4 w') => HLF.out w' (HC.out.below hb)
          have HDN2 := Lib.hid fun w' (hb : Below w4.heap.size w4 w') => HDN.out w' (HC.out.below hb)
          have HEN2 := Lib.hid fun w' (hb : Below w4.heap.size w4 w') => HEN.out w' (HB4.out.trans (hb.mono HB4.out.size))
          have HSI2 : Hid (∀ w', Below w4.heap.size w4 w' → ∀ A' c', w'.ownsRow 0 3 1 (.slice A' X.length c') X.length (X.map iV) → Calls Try.prog 15 #[.slice A' X.length c', .slice A4 z k4] w' fun e w3 => e = .returned (.bool true) ∧ Below w'.heap.size w' w3) := Lib.hid fun w' hb A' c' ho => (sameints_true _ _ c' k4 X.length z A' A4 X w' (ownRow ho) (ownRow (ownLater HOG.out hb)) rfl HZ.out.symm (by have := HZL.out; have := HZ.out; omega)).mono fun e w3 h => ⟨h.1, by obtain ⟨q, h2⟩ := h.2; rw [h2]; exact below_drew' _ _ _⟩
          go_wp2
          clear d0
          refine Rely.wp_region_by [[], [], [(0, 79), (1, 80)], [(2, 81)], [(3, 82)], [(3, 82), (4, 83)], [(3, 82)], [(3, 82), (5, 84), (6, 85)], [(3, 82), (7, 86)], [(3, 82), (8, 87)], [(9, 88)], [(10, 89)], [(10, 89), (11, 90)], [(10, 89)], [(10, 89), (12, 91), (13, 92)], [(10, 89), (14, 93)], [(15, 94)], [(16, 95)], [(16, 95), (17, 96)], [(16, 95)], [(16, 95), (19, 98)], [(16, 95), (18, 97), (20, 99)], [(16, 95), (21, 100)], [(22, 101)], [(23, 102)], [(23, 102), (24, 103)], [(23, 102)], [(23, 102)], [(23, 102)], [(23, 102), (28, 107)], [(23, 102), (27, 106), (29, 108)], [(23, 102), (26, 105), (30, 109)], [(23, 102), (25, 104), (31, 110)], [(23, 102), (32, 111)]] [(0, 79), (1, 80), (2, 81), (3, 82), (4, 83), (5, 84), (6, 85), (7, 86), (8, 87), (9, 88), (10, 89), (11, 90), (12, 91), (13, 92), (14, 93), (15, 94), (16, 95), (17, 96), (18, 97), (19, 98), (20, 99), (21, 100), (22, 101), (23, 102), (24, 103), (25, 104), (26, 105), (27, 106), (28, 107), (29, 108), (30, 109), (31, 110), (32, 111), (33, 112)] [] (rg10 g bb o n1 n2 c1 c2 q z k4 0 Y u X A1 A4) (by kernel_rfl) (by kernel_rfl) (by kernel_rfl) (by kernel_rfl) (by kernel_rfl) (by kernel_rfl) (rg10_later g bb o n1 n2 c1 c2 q z k4 0 Y u X A1 A4) ?_ ?_
          · skip
            refine Rely.stepsZ_cons (by
              intro vs w' hb hp
              simp only [Rely.Pre, rg10] at hp
              unfold Rely.gives
              simp only [Rely.sel, List.foldl_cons, List.foldl_nil]
              go_simp
              exact ⟨Below.refl _ _, rfl⟩) ?_
            refine Rely.stepsZ_cons (by
              intro vs w' hb hp
              simp only [Rely.Pre, rg10] at hp
              unfold Rely.gives
              simp only [Rely.sel, List.foldl_cons, List.foldl_nil]
              go_simp
              exact ⟨Below.refl _ _, rfl⟩) ?_
            refine Rely.stepsZ_cons (by
              intro vs w' hb hp
              simp only [Rely.Pre, rg10] at hp
              obtain ⟨h79, h80, _⟩ := hp
              unfold Rely.gives
              simp only [Rely.sel, List.foldl_cons, List.foldl_nil]
              go_simp
              exact ⟨Below.refl _ _, rfl⟩) ?_
            refine Rely.stepsZ_cons (by
              intro vs w' hb hp
              simp only [Rely.Pre, rg10] at hp
              obtain ⟨h81, _⟩ := hp
              unfold Rely.gives
              simp only [Rely.sel, List.foldl_cons, List.foldl_nil]
              go_simp
              exact ⟨Below.refl _ _, rfl⟩) ?_
            refine Rely.stepsZ_cons (by
              intro vs w' hb hp
              simp only [Rely.Pre, rg10] at hp
              obtain ⟨h82, _⟩ := hp
              unfold Rely.gives
              simp only [Rely.sel, List.foldl_cons, List.foldl_nil]
              go_simp
              exact ⟨Below.refl _ _, rfl⟩) ?_
            refine Rely.stepsZ_cons (by
              intro vs w' hb hp
              simp only [Rely.Pre, rg10] at hp
              obtain ⟨h82, h83, _⟩ := hp
              unfold Rely.gives
              simp only [Rely.sel, List.foldl_cons, List.foldl_nil]
              go_simp
              simp only [Rely.GivesR]
              refine (HGT2.out w' hb).mono ?_
              rintro e w3 ⟨A3, c3, rfl, ho3, hb3⟩
              exact ⟨_, rfl, hb3, A3, c3, rfl, ownBase ho3 (Nat.zero_le _)⟩) ?_
            refine Rely.stepsZ_cons (by
              intro vs w' hb hp
              simp only [Rely.Pre, rg10] at hp
              obtain ⟨h82, _⟩ := hp
              unfold Rely.gives
              simp only [Rely.sel, List.foldl_cons, List.foldl_nil]
              go_simp
              exact ⟨Below.refl _ _, rfl⟩) ?_
            refine Rely.stepsZ_cons (by
              intro vs w' hb hp
              simp only [Rely.Pre, rg10] at hp
              obtain ⟨h82, ⟨a84, c84, e84, ho84⟩, h85, _⟩ := hp
              unfold Rely.gives
              simp only [Rely.sel, List.foldl_cons, List.foldl_nil]
              go_simp
              simp only [Rely.GivesR]
              refine (HSI2.out w' hb a84 c84 ho84).mono ?_
              rintro e w3 ⟨rfl, hb3⟩
              exact ⟨_, rfl, hb3, rfl⟩) ?_
            refine Rely.stepsZ_cons (by
              intro vs w' hb hp
              simp only [Rely.Pre, rg10] at hp
              obtain ⟨h82, h86, _⟩ := hp
              unfold Rely.gives
              simp only [Rely.sel, List.foldl_cons, List.foldl_nil]
              go_simp
              exact ⟨Below.refl _ _, rfl⟩) ?_
            refine Rely.stepsZ_cons (by
              intro vs w' hb hp
              simp only [Rely.Pre, rg10] at hp
              obtain ⟨h82, h87, _⟩ := hp
              unfold Rely.gives
              simp only [Rely.sel, List.foldl_cons, List.foldl_nil]
              go_simp
              exact ⟨Below.refl _ _, rfl⟩) ?_
            refine Rely.stepsZ_cons (by
              intro vs w' hb hp
              simp only [Rely.Pre, rg10] at hp
              obtain ⟨h88, _⟩ := hp
              unfold Rely.gives
              simp only [Rely.sel, List.foldl_cons, List.foldl_nil]
              go_simp
              exact ⟨Below.refl _ _, rfl⟩) ?_
            refine Rely.stepsZ_cons (by
              intro vs w' hb hp
              simp only [Rely.Pre, rg10] at hp
              obtain ⟨h89, _⟩ := hp
              unfold Rely.gives
              simp only [Rely.sel, List.foldl_cons, List.foldl_nil]
              go_simp
              exact ⟨Below.refl _ _, rfl⟩) ?_
            refine Rely.stepsZ_cons (by
              intro vs w' hb hp
              simp only [Rely.Pre, rg10] at hp
              obtain ⟨h89, h90, _⟩ := hp
              unfold Rely.gives
              simp only [Rely.sel, List.foldl_cons, List.foldl_nil]
              go_simp
              simp only [Rely.GivesR]
              refine (HLF2.out w' hb).mono ?_
              rintro e w3 ⟨rfl, hb3⟩
              exact ⟨_, rfl, hb3, rfl⟩) ?_
            refine Rely.stepsZ_cons (by
              intro vs w' hb hp
              simp only [Rely.Pre, rg10] at hp
              obtain ⟨h89, _⟩ := hp
              unfold Rely.gives
              simp only [Rely.sel, List.foldl_cons, List.foldl_nil]
              go_simp
              exact ⟨Below.refl _ _, rfl⟩) ?_
            refine Rely.stepsZ_cons (by
              intro vs w' hb hp
              simp only [Rely.Pre, rg10] at hp
              obtain ⟨h89, h91, h92, _⟩ := hp
              unfold Rely.gives
              simp only [Rely.sel, List.foldl_cons, List.foldl_nil]
              go_simp
              exact ⟨Below.refl _ _, rfl⟩) ?_
            refine Rely.stepsZ_cons (by
              intro vs w' hb hp
              simp only [Rely.Pre, rg10] at hp
              obtain ⟨h89, h93, _⟩ := hp
              unfold Rely.gives
              simp only [Rely.sel, List.foldl_cons, List.foldl_nil]
              go_simp
              exact ⟨Below.refl _ _, rfl⟩) ?_
            refine Rely.stepsZ_cons (by
              intro vs w' hb hp
              simp only [Rely.Pre, rg10] at hp
              obtain ⟨h94, _⟩ := hp
              unfold Rely.gives
              simp only [Rely.sel, List.foldl_cons, List.foldl_nil]
              go_simp
              exact ⟨Below.refl _ _, rfl⟩) ?_
            refine Rely.stepsZ_cons (by
              intro vs w' hb hp
              simp only [Rely.Pre, rg10] at hp
              obtain ⟨h95, _⟩ := hp
              unfold Rely.gives
              simp only [Rely.sel, List.foldl_cons, List.foldl_nil]
              go_simp
              exact ⟨Below.refl _ _, rfl⟩) ?_
            refine Rely.stepsZ_cons (by
              intro vs w' hb hp
              simp only [Rely.Pre, rg10] at hp
              obtain ⟨h95, h96, _⟩ := hp
              unfold Rely.gives
              simp only [Rely.sel, List.foldl_cons, List.foldl_nil]
              go_simp
              simp only [Rely.GivesR]
              refine (HDN2.out w' hb).mono ?_
              rintro e w3 ⟨rfl, hb3⟩
              exact ⟨_, rfl, hb3, rfl⟩) ?_
            refine Rely.stepsZ_cons (by
              intro vs w' hb hp
              simp only [Rely.Pre, rg10] at hp
              obtain ⟨h95, _⟩ := hp
              unfold Rely.gives
              simp only [Rely.sel, List.foldl_cons, List.foldl_nil]
              go_simp
              exact ⟨Below.refl _ _, rfl⟩) ?_
            refine Rely.stepsZ_cons (by
              intro vs w' hb hp
              simp only [Rely.Pre, rg10] at hp
              obtain ⟨h95, h98, _⟩ := hp
              unfold Rely.gives
              simp only [Rely.sel, List.foldl_cons, List.foldl_nil]
              go_simp
              exact ⟨Below.refl _ _, rfl⟩) ?_
            refine Rely.stepsZ_cons (by
              intro vs w' hb hp
              simp only [Rely.Pre, rg10] at hp
              obtain ⟨h95, h97, h99, _⟩ := hp
              have hfact := HG2.out
              unfold Rely.gives
              simp only [Rely.sel, List.foldl_cons, List.foldl_nil]
              go_simp
              exact ⟨Below.refl _ _, rfl⟩) ?_
            refine Rely.stepsZ_cons (by
              intro vs w' hb hp
              simp only [Rely.Pre, rg10] at hp
              obtain ⟨h95, h100, _⟩ := hp
              unfold Rely.gives
              simp only [Rely.sel, List.foldl_cons, List.foldl_nil]
              go_simp
              exact ⟨Below.refl _ _, rfl⟩) ?_
            refine Rely.stepsZ_cons (by
              intro vs w' hb hp
              simp only [Rely.Pre, rg10] at hp
              obtain ⟨h101, _⟩ := hp
              unfold Rely.gives
              simp only [Rely.sel, List.foldl_cons, List.foldl_nil]
              go_simp
              exact ⟨Below.refl _ _, rfl⟩) ?_
            refine Rely.stepsZ_cons (by
              intro vs w' hb hp
              simp only [Rely.Pre, rg10] at hp
              obtain ⟨h102, _⟩ := hp
              unfold Rely.gives
              simp only [Rely.sel, List.foldl_cons, List.foldl_nil]
              go_simp
              exact ⟨Below.refl _ _, rfl⟩) ?_
            refine Rely.stepsZ_cons (by
              intro vs w' hb hp
              simp only [Rely.Pre, rg10] at hp
              obtain ⟨h102, h103, _⟩ := hp
              unfold Rely.gives
              simp only [Rely.sel, List.foldl_cons, List.foldl_nil]
              go_simp
              simp only [Rely.GivesR]
              refine (HDN2.out w' hb).mono ?_
              rintro e w3 ⟨rfl, hb3⟩
              exact ⟨_, rfl, hb3, rfl⟩) ?_
            refine Rely.stepsZ_cons (by
              intro vs w' hb hp
              simp only [Rely.Pre, rg10] at hp
              obtain ⟨h102, _⟩ := hp
              unfold Rely.gives
              simp only [Rely.sel, List.foldl_cons, List.foldl_nil]
              go_simp
              exact ⟨Below.refl _ _, rfl⟩) ?_
            refine Rely.stepsZ_cons (by
              intro vs w' hb hp
              simp only [Rely.Pre, rg10] at hp
              obtain ⟨h102, _⟩ := hp
              unfold Rely.gives
              simp only [Rely.sel, List.foldl_cons, List.foldl_nil]
              go_simp
              exact ⟨Below.refl _ _, rfl⟩) ?_
            refine Rely.stepsZ_cons (by
              intro vs w' hb hp
              simp only [Rely.Pre, rg10] at hp
              obtain ⟨h102, _⟩ := hp
              unfold Rely.gives
              simp only [Rely.sel, List.foldl_cons, List.foldl_nil]
              go_simp
              exact ⟨Below.refl _ _, rfl⟩) ?_
            refine Rely.stepsZ_cons (by
              intro vs w' hb hp
              simp only [Rely.Pre, rg10] at hp
              obtain ⟨h102, h107, _⟩ := hp
              have hfact := HWR.out
              unfold Rely.gives
              simp only [Rely.sel, List.foldl_cons, List.foldl_nil]
              go_simp
              exact ⟨Below.refl _ _, rfl⟩) ?_
            refine Rely.stepsZ_cons (by
              intro vs w' hb hp
              simp only [Rely.Pre, rg10] at hp
              obtain ⟨h102, h106, h108, _⟩ := hp
              unfold Rely.gives
              simp only [Rely.sel, List.foldl_cons, List.foldl_nil]
              go_simp
              exact ⟨Below.refl _ _, rfl⟩) ?_
            refine Rely.stepsZ_cons (by
              intro vs w' hb hp
              simp only [Rely.Pre, rg10] at hp
              obtain ⟨h102, h105, h109, _⟩ := hp
              unfold Rely.gives
              simp only [Rely.sel, List.foldl_cons, List.foldl_nil]
              go_simp
              simp only [Rely.GivesR]
              refine (HEN2.out w' hb).mono ?_
              rintro e w3 ⟨rfl, hb3⟩
              exact ⟨_, rfl, hb3, rfl⟩) ?_
            refine Rely.stepsZ_cons (by
              intro vs w' hb hp
              simp only [Rely.Pre, rg10] at hp
              obtain ⟨h102, h104, h110, _⟩ := hp
              unfold Rely.gives
              simp only [Rely.sel, List.foldl_cons, List.foldl_nil]
              go_simp
              exact ⟨Below.refl _ _, rfl⟩) ?_
            refine Rely.stepsZ_cons (by
              intro vs w' hb hp
              simp only [Rely.Pre, rg10] at hp
              obtain ⟨h102, h111, _⟩ := hp
              unfold Rely.gives
              simp only [Rely.sel, List.foldl_cons, List.foldl_nil]
              go_simp
              exact ⟨Below.refl _ _, rfl⟩) ?_
            exact Rely.stepsZ_nil
          intro vs wx hbx hp _
          simp only [Rely.Pre, rg10] at hp
          obtain ⟨h0, h1, h2, h3, h4, ⟨a5, b5, h5, ho5⟩, h6, h7, h8, h9, h10, h11, h12, h13, h14, h15, h16, h17, h18, h19, h20, h21, h22, h23, h24, h25, h26, h27, h28, h29, h30, h31, h32, h33, _⟩ := hp
          simp only [Rely.sel, List.foldl_cons, List.foldl_nil, h0, h1, h2, h3, h4, h5, h6, h7, h8, h9, h10, h11, h12, h13, h14, h15, h16, h17, h18, h19, h20, h21, h22, h23, h24, h25, h26, h27, h28, h29, h30, h31, h32, h33]
          clear h0 h1 h2 h3 h4 h5 h6 h7 h8 h9 h10 h11 h12 h13 h14 h15 h16 h17 h18 h19 h20 h21 h22 h23 h24 h25 h26 h27 h28 h29 h30 h31 h32 h33
          simp only [Act.put, List.setIfInBounds_toArray, List.set_cons_succ, List.set_cons_zero]
          have HBX := Lib.hid (HB4.out.trans (hbx.mono HB4.out.size))
          have HCX : Hid (CtB wx w.heap.size g L (a.take (q + 1))) := Lib.hid (by rw [HS2.out]; exact HC.out.below hbx)
          clear hbx
          go_wp2
          go_roundw
          case rel => exact ⟨q + 1, by omega, by go_num, HCX, HBX⟩
          case measure => simp [intOf]; omega
        · skip
          have d0 := HD0.out wr HB.out
          go_wp2_with fail
          refine (add_none w.heap.size g L S x hx (by have := HLL.out; omega) wr HC.out).mono ?_
          rintro e3 w3 ⟨rfl, hw3⟩
          have HB3 : Hid (Below w.heap.size w w3) := Lib.hid (by rw [← hw3]; exact HB.out)
          replace HC : Hid (CtB w3 w.heap.size g L S2) := Lib.hid (by rw [← hw3, HTK.out]; exact HC.out.congr fun y hy => mem_app_out (fun e => hx (e ▸ hy)))
          have HHX := Lib.hid (HHS.out w3 HB3.out)
          rw [isIn_false hx] at HHX
          clear hw3 d0
          have d0 := HD0.out w3 HB3.out
          go_wp2_with (go_at_call 21; refine HHX.out.mono ?_; rintro e w' ⟨rfl, rfl⟩)
          go_wp2_with fail
          refine (HG.out _ HB3.out).mono ?_
          rintro e4 w4 ⟨A4, k4, rfl, ho4, hb4⟩
          have HB4 := Lib.hid (HB3.out.trans (hb4.mono HB3.out.size))
          replace HC := Lib.hid (HC.out.below hb4)
          have HOG := Lib.hid ho4
          clear d0 hb4 ho4
          have d0 := HD0.out w4 HB4.out
          rw [HZ.out]
          go_wp2_with (go_at_call 11; refine (HNR.out _).mono ?_; rintro e w' ⟨rfl, rfl⟩)
          have HGT2 := Lib.hid fun w' (hb : Below w4.heap.size w4 w') => HGT.out w' (HC.out.below hb)
          have HLF2 := Lib.hid fun w' (hb : Below w4.heap.size w4 w') => HLF.out w' (HC.out.below hb)
          have HDN2 := Lib.hid fun w' (hb : Below w4.heap.size w4 w') => HDN.out w' (HC.out.below hb)
          have HEN2 := Lib.hid fun w' (hb : Below w4.heap.size w4 w') => HEN.out w' (HB4.out.trans (hb.mono HB4.out.size))
          have HSI2 : Hid (∀ w', Below w4.heap.size w4 w' → ∀ A' c', w'.ownsRow 0 3 1 (.slice A' X.length c') X.length (X.map iV) → Calls Try.prog 15 #[.slice A' X.length c', .slice A4 z k4] w' fun e w3 => e = .returned (.bool true) ∧ Below w'.heap.size w' w3) := Lib.hid fun w' hb A' c' ho => (sameints_true _ _ c' k4 X.length z A' A4 X w' (ownRow ho) (ownRow (ownLater HOG.out hb)) rfl HZ.out.symm (by have := HZL.out; have := HZ.out; omega)).mono fun e w3 h => ⟨h.1, by obtain ⟨q, h2⟩ := h.2; rw [h2]; exact below_drew' _ _ _⟩
          go_wp2
          clear d0
          refine Rely.wp_region_by [[], [], [(0, 79), (1, 80)], [(2, 81)], [(3, 82)], [(3, 82), (4, 83)], [(3, 82)], [(3, 82), (5, 84), (6, 85)], [(3, 82), (7, 86)], [(3, 82), (8, 87)], [(9, 88)], [(10, 89)], [(10, 89), (11, 90)], [(10, 89)], [(10, 89), (12, 91), (13, 92)], [(10, 89), (14, 93)], [(15, 94)], [(16, 95)], [(16, 95), (17, 96)], [(16, 95)], [(16, 95), (19, 98)], [(16, 95), (18, 97), (20, 99)], [(16, 95), (21, 100)], [(22, 101)], [(23, 102)], [(23, 102), (24, 103)], [(23, 102)], [(23, 102)], [(23, 102)], [(23, 102), (28, 107)], [(23, 102), (27, 106), (29, 108)], [(23, 102), (26, 105), (30, 109)], [(23, 102), (25, 104), (31, 110)], [(23, 102), (32, 111)]] [(0, 79), (1, 80), (2, 81), (3, 82), (4, 83), (5, 84), (6, 85), (7, 86), (8, 87), (9, 88), (10, 89), (11, 90), (12, 91), (13, 92), (14, 93), (15, 94), (16, 95), (17, 96), (18, 97), (19, 98), (20, 99), (21, 100), (22, 101), (23, 102), (24, 103), (25, 104), (26, 105), (27, 106), (28, 107), (29, 108), (30, 109), (31, 110), (32, 111), (33, 112)] [] (rg10 g bb o n1 n2 c1 c2 q z k4 4 Y u X A1 A4) (by kernel_rfl) (by kernel_rfl) (by kernel_rfl) (by kernel_rfl) (by kernel_rfl) (by kernel_rfl) (rg10_later g bb o n1 n2 c1 c2 q z k4 4 Y u X A1 A4) ?_ ?_
          · skip
            refine Rely.stepsZ_cons (by
              intro vs w' hb hp
              simp only [Rely.Pre, rg10] at hp
              unfold Rely.gives
              simp only [Rely.sel, List.foldl_cons, List.foldl_nil]
              go_simp
              exact ⟨Below.refl _ _, rfl⟩) ?_
            refine Rely.stepsZ_cons (by
              intro vs w' hb hp
              simp only [Rely.Pre, rg10] at hp
              unfold Rely.gives
              simp only [Rely.sel, List.foldl_cons, List.foldl_nil]
              go_simp
              exact ⟨Below.refl _ _, rfl⟩) ?_
            refine Rely.stepsZ_cons (by
              intro vs w' hb hp
              simp only [Rely.Pre, rg10] at hp
              obtain ⟨h79, h80, _⟩ := hp
              unfold Rely.gives
              simp only [Rely.sel, List.foldl_cons, List.foldl_nil]
              go_simp
              exact ⟨Below.refl _ _, rfl⟩) ?_
            refine Rely.stepsZ_cons (by
              intro vs w' hb hp
              simp only [Rely.Pre, rg10] at hp
              obtain ⟨h81, _⟩ := hp
              unfold Rely.gives
              simp only [Rely.sel, List.foldl_cons, List.foldl_nil]
              go_simp
              exact ⟨Below.refl _ _, rfl⟩) ?_
            refine Rely.stepsZ_cons (by
              intro vs w' hb hp
              simp only [Rely.Pre, rg10] at hp
              obtain ⟨h82, _⟩ := hp
              unfold Rely.gives
              simp only [Rely.sel, List.foldl_cons, List.foldl_nil]
              go_simp
              exact ⟨Below.refl _ _, rfl⟩) ?_
            refine Rely.stepsZ_cons (by
              intro vs w' hb hp
              simp only [Rely.Pre, rg10] at hp
              obtain ⟨h82, h83, _⟩ := hp
              unfold Rely.gives
              simp only [Rely.sel, List.foldl_cons, List.foldl_nil]
              go_simp
              simp only [Rely.GivesR]
              refine (HGT2.out w' hb).mono ?_
              rintro e w3 ⟨A3, c3, rfl, ho3, hb3⟩
              exact ⟨_, rfl, hb3, A3, c3, rfl, ownBase ho3 (Nat.zero_le _)⟩) ?_
            refine Rely.stepsZ_cons (by
              intro vs w' hb hp
              simp only [Rely.Pre, rg10] at hp
              obtain ⟨h82, _⟩ := hp
              unfold Rely.gives
              simp only [Rely.sel, List.foldl_cons, List.foldl_nil]
              go_simp
              exact ⟨Below.refl _ _, rfl⟩) ?_
            refine Rely.stepsZ_cons (by
              intro vs w' hb hp
              simp only [Rely.Pre, rg10] at hp
              obtain ⟨h82, ⟨a84, c84, e84, ho84⟩, h85, _⟩ := hp
              unfold Rely.gives
              simp only [Rely.sel, List.foldl_cons, List.foldl_nil]
              go_simp
              simp only [Rely.GivesR]
              refine (HSI2.out w' hb a84 c84 ho84).mono ?_
              rintro e w3 ⟨rfl, hb3⟩
              exact ⟨_, rfl, hb3, rfl⟩) ?_
            refine Rely.stepsZ_cons (by
              intro vs w' hb hp
              simp only [Rely.Pre, rg10] at hp
              obtain ⟨h82, h86, _⟩ := hp
              unfold Rely.gives
              simp only [Rely.sel, List.foldl_cons, List.foldl_nil]
              go_simp
              exact ⟨Below.refl _ _, rfl⟩) ?_
            refine Rely.stepsZ_cons (by
              intro vs w' hb hp
              simp only [Rely.Pre, rg10] at hp
              obtain ⟨h82, h87, _⟩ := hp
              unfold Rely.gives
              simp only [Rely.sel, List.foldl_cons, List.foldl_nil]
              go_simp
              exact ⟨Below.refl _ _, rfl⟩) ?_
            refine Rely.stepsZ_cons (by
              intro vs w' hb hp
              simp only [Rely.Pre, rg10] at hp
              obtain ⟨h88, _⟩ := hp
              unfold Rely.gives
              simp only [Rely.sel, List.foldl_cons, List.foldl_nil]
              go_simp
              exact ⟨Below.refl _ _, rfl⟩) ?_
            refine Rely.stepsZ_cons (by
              intro vs w' hb hp
              simp only [Rely.Pre, rg10] at hp
              obtain ⟨h89, _⟩ := hp
              unfold Rely.gives
              simp only [Rely.sel, List.foldl_cons, List.foldl_nil]
              go_simp
              exact ⟨Below.refl _ _, rfl⟩) ?_
            refine Rely.stepsZ_cons (by
              intro vs w' hb hp
              simp only [Rely.Pre, rg10] at hp
              obtain ⟨h89, h90, _⟩ := hp
              unfold Rely.gives
              simp only [Rely.sel, List.foldl_cons, List.foldl_nil]
              go_simp
              simp only [Rely.GivesR]
              refine (HLF2.out w' hb).mono ?_
              rintro e w3 ⟨rfl, hb3⟩
              exact ⟨_, rfl, hb3, rfl⟩) ?_
            refine Rely.stepsZ_cons (by
              intro vs w' hb hp
              simp only [Rely.Pre, rg10] at hp
              obtain ⟨h89, _⟩ := hp
              unfold Rely.gives
              simp only [Rely.sel, List.foldl_cons, List.foldl_nil]
              go_simp
              exact ⟨Below.refl _ _, rfl⟩) ?_
            refine Rely.stepsZ_cons (by
              intro vs w' hb hp
              simp only [Rely.Pre, rg10] at hp
              obtain ⟨h89, h91, h92, _⟩ := hp
              unfold Rely.gives
              simp only [Rely.sel, List.foldl_cons, List.foldl_nil]
              go_simp
              exact ⟨Below.refl _ _, rfl⟩) ?_
            refine Rely.stepsZ_cons (by
              intro vs w' hb hp
              simp only [Rely.Pre, rg10] at hp
              obtain ⟨h89, h93, _⟩ := hp
              unfold Rely.gives
              simp only [Rely.sel, List.foldl_cons, List.foldl_nil]
              go_simp
              exact ⟨Below.refl _ _, rfl⟩) ?_
            refine Rely.stepsZ_cons (by
              intro vs w' hb hp
              simp only [Rely.Pre, rg10] at hp
              obtain ⟨h94, _⟩ := hp
              unfold Rely.gives
              simp only [Rely.sel, List.foldl_cons, List.foldl_nil]
              go_simp
              exact ⟨Below.refl _ _, rfl⟩) ?_
            refine Rely.stepsZ_cons (by
              intro vs w' hb hp
              simp only [Rely.Pre, rg10] at hp
              obtain ⟨h95, _⟩ := hp
              unfold Rely.gives
              simp only [Rely.sel, List.foldl_cons, List.foldl_nil]
              go_simp
              exact ⟨Below.refl _ _, rfl⟩) ?_
            refine Rely.stepsZ_cons (by
              intro vs w' hb hp
              simp only [Rely.Pre, rg10] at hp
              obtain ⟨h95, h96, _⟩ := hp
              unfold Rely.gives
              simp only [Rely.sel, List.foldl_cons, List.foldl_nil]
              go_simp
              simp only [Rely.GivesR]
              refine (HDN2.out w' hb).mono ?_
              rintro e w3 ⟨rfl, hb3⟩
              exact ⟨_, rfl, hb3, rfl⟩) ?_
            refine Rely.stepsZ_cons (by
              intro vs w' hb hp
              simp only [Rely.Pre, rg10] at hp
              obtain ⟨h95, _⟩ := hp
              unfold Rely.gives
              simp only [Rely.sel, List.foldl_cons, List.foldl_nil]
              go_simp
              exact ⟨Below.refl _ _, rfl⟩) ?_
            refine Rely.stepsZ_cons (by
              intro vs w' hb hp
              simp only [Rely.Pre, rg10] at hp
              obtain ⟨h95, h98, _⟩ := hp
              unfold Rely.gives
              simp only [Rely.sel, List.foldl_cons, List.foldl_nil]
              go_simp
              exact ⟨Below.refl _ _, rfl⟩) ?_
            refine Rely.stepsZ_cons (by
              intro vs w' hb hp
              simp only [Rely.Pre, rg10] at hp
              obtain ⟨h95, h97, h99, _⟩ := hp
              have hfact := HG2.out
              unfold Rely.gives
              simp only [Rely.sel, List.foldl_cons, List.foldl_nil]
              go_simp
              exact ⟨Below.refl _ _, rfl⟩) ?_
            refine Rely.stepsZ_cons (by
              intro vs w' hb hp
              simp only [Rely.Pre, rg10] at hp
              obtain ⟨h95, h100, _⟩ := hp
              unfold Rely.gives
              simp only [Rely.sel, List.foldl_cons, List.foldl_nil]
              go_simp
              exact ⟨Below.refl _ _, rfl⟩) ?_
            refine Rely.stepsZ_cons (by
              intro vs w' hb hp
              simp only [Rely.Pre, rg10] at hp
              obtain ⟨h101, _⟩ := hp
              unfold Rely.gives
              simp only [Rely.sel, List.foldl_cons, List.foldl_nil]
              go_simp
              exact ⟨Below.refl _ _, rfl⟩) ?_
            refine Rely.stepsZ_cons (by
              intro vs w' hb hp
              simp only [Rely.Pre, rg10] at hp
              obtain ⟨h102, _⟩ := hp
              unfold Rely.gives
              simp only [Rely.sel, List.foldl_cons, List.foldl_nil]
              go_simp
              exact ⟨Below.refl _ _, rfl⟩) ?_
            refine Rely.stepsZ_cons (by
              intro vs w' hb hp
              simp only [Rely.Pre, rg10] at hp
              obtain ⟨h102, h103, _⟩ := hp
              unfold Rely.gives
              simp only [Rely.sel, List.foldl_cons, List.foldl_nil]
              go_simp
              simp only [Rely.GivesR]
              refine (HDN2.out w' hb).mono ?_
              rintro e w3 ⟨rfl, hb3⟩
              exact ⟨_, rfl, hb3, rfl⟩) ?_
            refine Rely.stepsZ_cons (by
              intro vs w' hb hp
              simp only [Rely.Pre, rg10] at hp
              obtain ⟨h102, _⟩ := hp
              unfold Rely.gives
              simp only [Rely.sel, List.foldl_cons, List.foldl_nil]
              go_simp
              exact ⟨Below.refl _ _, rfl⟩) ?_
            refine Rely.stepsZ_cons (by
              intro vs w' hb hp
              simp only [Rely.Pre, rg10] at hp
              obtain ⟨h102, _⟩ := hp
              unfold Rely.gives
              simp only [Rely.sel, List.foldl_cons, List.foldl_nil]
              go_simp
              exact ⟨Below.refl _ _, rfl⟩) ?_
            refine Rely.stepsZ_cons (by
              intro vs w' hb hp
              simp only [Rely.Pre, rg10] at hp
              obtain ⟨h102, _⟩ := hp
              unfold Rely.gives
              simp only [Rely.sel, List.foldl_cons, List.foldl_nil]
              go_simp
              exact ⟨Below.refl _ _, rfl⟩) ?_
            refine Rely.stepsZ_cons (by
              intro vs w' hb hp
              simp only [Rely.Pre, rg10] at hp
              obtain ⟨h102, h107, _⟩ := hp
              have hfact := HWR.out
              unfold Rely.gives
              simp only [Rely.sel, List.foldl_cons, List.foldl_nil]
              go_simp
              exact ⟨Below.refl _ _, rfl⟩) ?_
            refine Rely.stepsZ_cons (by
              intro vs w' hb hp
              simp only [Rely.Pre, rg10] at hp
              obtain ⟨h102, h106, h108, _⟩ := hp
              unfold Rely.gives
              simp only [Rely.sel, List.foldl_cons, List.foldl_nil]
              go_simp
              exact ⟨Below.refl _ _, rfl⟩) ?_
            refine Rely.stepsZ_cons (by
              intro vs w' hb hp
              simp only [Rely.Pre, rg10] at hp
              obtain ⟨h102, h105, h109, _⟩ := hp
              unfold Rely.gives
              simp only [Rely.sel, List.foldl_cons, List.foldl_nil]
              go_simp
              simp only [Rely.GivesR]
              refine (HEN2.out w' hb).mono ?_
              rintro e w3 ⟨rfl, hb3⟩
              exact ⟨_, rfl, hb3, rfl⟩) ?_
            refine Rely.stepsZ_cons (by
              intro vs w' hb hp
              simp only [Rely.Pre, rg10] at hp
              obtain ⟨h102, h104, h110, _⟩ := hp
              unfold Rely.gives
              simp only [Rely.sel, List.foldl_cons, List.foldl_nil]
              go_simp
              exact ⟨Below.refl _ _, rfl⟩) ?_
            refine Rely.stepsZ_cons (by
              intro vs w' hb hp
              simp only [Rely.Pre, rg10] at hp
              obtain ⟨h102, h111, _⟩ := hp
              unfold Rely.gives
              simp only [Rely.sel, List.foldl_cons, List.foldl_nil]
              go_simp
              exact ⟨Below.refl _ _, rfl⟩) ?_
            exact Rely.stepsZ_nil
          intro vs wx hbx hp _
          simp only [Rely.Pre, rg10] at hp
          obtain ⟨h0, h1, h2, h3, h4, ⟨a5, b5, h5, ho5⟩, h6, h7, h8, h9, h10, h11, h12, h13, h14, h15, h16, h17, h18, h19, h20, h21, h22, h23, h24, h25, h26, h27, h28, h29, h30, h31, h32, h33, _⟩ := hp
          simp only [Rely.sel, List.foldl_cons, List.foldl_nil, h0, h1, h2, h3, h4, h5, h6, h7, h8, h9, h10, h11, h12, h13, h14, h15, h16, h17, h18, h19, h20, h21, h22, h23, h24, h25, h26, h27, h28, h29, h30, h31, h32, h33]
          clear h0 h1 h2 h3 h4 h5 h6 h7 h8 h9 h10 h11 h12 h13 h14 h15 h16 h17 h18 h19 h20 h21 h22 h23 h24 h25 h26 h27 h28 h29 h30 h31 h32 h33
          simp only [Act.put, List.setIfInBounds_toArray, List.set_cons_succ, List.set_cons_zero]
          have HBX := Lib.hid (HB4.out.trans (hbx.mono HB4.out.size))
          have HCX : Hid (CtB wx w.heap.size g L (a.take (q + 1))) := Lib.hid (by rw [HS2.out]; exact HC.out.below hbx)
          clear hbx
          go_wp2
          go_roundw
          case rel => exact ⟨q + 1, by omega, by go_num, HCX, HBX⟩
          case measure => simp [intOf]; omega
      · have hq1 : ¬ (q : Int) < (n2 : Int) := by omega
        go_wp2_with (go_at_call 10; refine (known10_any _).mono ?_; rintro e3 w3 ⟨rfl, hb3⟩)
        go_ret
        exact ⟨rfl, HB.out.trans (hb3.mono HB.out.size)⟩
end Go.Proofs.Ytafajikjojpaaaa
