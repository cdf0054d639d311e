/- The document's own answers for layer 10: how many are needed, what is in common, whether they are enough, rings that are covered, points that are lost, whether two sets must meet. -/
import Derived.Test.YtafajikjojpaaaaQmE
import Derived.Test.YtafajikjojpaaaaRfF
namespace Go.Proofs.Ytafajikjojpaaaa
open Go.RowKit Mem Rg
set_option maxRecDepth 100000
set_option maxHeartbeats 8000000
set_option linter.unusedVariables false
theorem refneed_any (n : Nat) (hn : n ≤ 1000000) (w : World) : Calls Try.prog 11 #[.int .i64 (n : Int)] w fun e w' => e = .returned (.int .i64 ((need n : Nat) : Int)) ∧ w = w' := by
  by_cases h0 : n = 0
  · subst h0
    go_enter Try.func11, Try.ntmps11
    go_wp2
    go_ret
    exact ⟨rfl, rfl⟩
  · have e : need n = n / 2 + 1 := if_neg h0
    have hp : ¬ (n : Int) < 1 := by omega
    have hp2 : (0 : Int) < (n : Int) := by omega
    have hnl : (n : Int) ≤ 1000000 := by omega
    rw [e]
    clear e h0
    go_enter Try.func11, Try.ntmps11
    go_wp2
    go_loop [3] (fun s => ∃ k : Nat, k ≤ n / 2 + 1 ∧ s = .int .i64 (k : Int)) (fun s => n + 2 - (intOf s).toNat)
    case atStart => exact ⟨0, by omega, rfl⟩
    case round =>
      obtain ⟨k, hk, rfl⟩ := hrel
      have hk1 : (k : Int) ≤ 1000001 := by omega
      have hk0 : (0 : Int) ≤ (k : Int) := by omega
      by_cases hlt : 2 * (k : Int) ≤ (n : Int)
      · go_wp2
        go_round
        case rel => exact ⟨k + 1, by omega, by go_num⟩
        case measure => simp [intOf]; omega
      · have HE : Hid (k = n / 2 + 1) := Lib.hid (by omega)
        go_wp2
        go_ret
        exact ⟨congrArg Ending.returned (congrArg (Value.int .i64) (by have := HE.out; omega : (k : Int) = (n : Int) / 2 + 1)), rfl⟩
theorem refcommon_any (n1 c1 n2 c2 : Nat) (A1 A2 : Option Addr) (a b : List Int) (hn1 : n1 = a.length) (hl1 : n1 ≤ 1000000) (hn2 : n2 = b.length) (hl2 : n2 ≤ 1000000) (w : World) (h1 : Row w w.heap.size A1 (a.map iV)) (h2 : Row w w.heap.size A2 (b.map iV)) :
    Calls Try.prog 17 #[.slice A1 n1 c1, .slice A2 n2 c2] w (IntsE (cmn a b) w) := by
  obtain ⟨i0, hi0, hz0, hz1, hz2⟩ := info_parts info_i
  have HR := Lib.hid h1
  have HHB := Lib.hid fun W (hb : Below w.heap.size w W) (x : Int) => has_any W.heap.size c2 n2 A2 b x hn2 hl2 W ((h2.below hb).more hb.size)
  have HN := Lib.hid hn1
  have hnl : (n1 : Int) ≤ 1000000 := by omega
  clear h1 h2 hn1 hn2 hl2
  go_enter Try.func17, Try.ntmps17
  go_wp2
  go_loopw [5, 6] (fun v i wr => ∃ q : Nat, q ≤ n1 ∧ i = .int .i64 q ∧ Hid (OwnI w.heap.size (cmn (a.take q) b) v wr) ∧ Hid (Below w.heap.size w wr)) (fun _ i _ => n1 - (intOf i).toNat)
  case atStart => exact ⟨0, by omega, rfl, Lib.hid (World.ownsRow_nil _ _ _ _), Lib.hid (Below.refl _ _)⟩
  case round =>
    obtain ⟨q, hq, rfl, HO, HB⟩ := hrel
    by_cases hlt : q < n1
    · have hql : q < a.length := by have := HN.out; omega
      obtain ⟨bb, o, rfl, hbw, hc⟩ := int_cell HR.out (by omega)
      have d0 := hc q hql
      rw [← HB.out.cell (p := ⟨bb, o + q, none⟩) hbw] at d0
      have hsn := cmn_snoc a b q hql
      have hle := cmn_le (a.take q) b
      rw [List.length_take] at hle
      obtain ⟨x, hx⟩ : ∃ x, a[q] = x := ⟨_, rfl⟩
      rw [hx] at d0 hsn
      obtain ⟨D, hD⟩ : ∃ D, cmn (a.take q) b = D := ⟨_, rfl⟩
      rw [hD] at hsn hle HO
      have HLE : Hid (D.length ≤ 1000000) := Lib.hid (by omega)
      have HSN := Lib.hid hsn
      obtain ⟨A3, c3, rfl⟩ := ownI_shape HO.out
      have HB1 := Lib.hid (HHB.out wr HB.out x)
      have HB2 := Lib.hid (has_any wr.heap.size c3 D.length A3 D x rfl (by omega) wr (ownRow HO.out))
      obtain ⟨u1, hu1⟩ : ∃ u, isIn x b = u := ⟨_, rfl⟩
      obtain ⟨u2, hu2⟩ : ∃ u, isIn x D = u := ⟨_, rfl⟩
      rw [hu1] at HB1
      rw [hu2] at HB2
      have HU1 := Lib.hid hu1
      have HU2 := Lib.hid hu2
      have hq0 : (0 : Int) ≤ (q : Int) := by omega
      have hq1 : (q : Int) < (n1 : Int) := by omega
      clear hc hx hsn hle hD hu1 hu2
      rcases u1 with _ | _
      · have HST : Hid (cmn (a.take (q + 1)) b = D) := Lib.hid (by rw [HSN.out, if_neg (fun h => by have := HU1.out; rw [isIn_true h.1] at this; cases this)])
        go_wp2_with (go_at_call 21; refine HB1.out.mono ?_; rintro e w' ⟨rfl, rfl⟩)
        go_roundw
        case rel => exact ⟨q + 1, by omega, by go_num, Lib.hid (by rw [HST.out]; exact HO.out), HB⟩
        case measure => simp [intOf]; omega
      · rcases u2 with _ | _
        · have HST : Hid (cmn (a.take (q + 1)) b = D ++ [x]) := Lib.hid (by rw [HSN.out, if_pos ⟨isIn_iff.1 HU1.out, fun h => by have := HU2.out; rw [isIn_true h] at this; cases this⟩])
          have HB4 : Hid (Below w.heap.size w (wr.alloc (.cells #[.int .i64 x] 3))) := Lib.hid (HB.out.alloc HB.out.size _)
          have HO4 := Lib.hid (own_later HO.out ((Below.refl wr.heap.size wr).alloc (Nat.le_refl _) (.cells #[.int .i64 x] 3)))
          go_wp2_with (first
            | (go_at_call 21; first | (with_reducible refine HB1.out.mono ?_; rintro e w' ⟨rfl, rfl⟩) | (with_reducible refine HB2.out.mono ?_; rintro e w' ⟨rfl, rfl⟩))
            | (at_builtin; refine wpList_app _ rfl _ _ 22 rfl w.heap.size 3 i0 _ 8 Try.underlying22 hi0 hz0 hz1 hz2 rfl _ D.length (D.map iV) rfl HO4.out (wr.heap.size + 1) (some ⟨wr.heap.size, 0, none⟩) 1 1 ([x].map iV) rfl rfl (int_row wr x) (iV_one _) (by have := HLE.out; unfold maxLen; omega) (by have := HLE.out; omega) (by have := HB.out.size; simp; omega) ?_; intro v' w5 hown hgr _; (have HO5 : Hid (OwnI w.heap.size (cmn (a.take (q + 1)) b) v' w5) := Lib.hid (by rw [HST.out]; unfold OwnI; rw [List.map_append, List.length_append]; exact hown)); (have HB5 : Hid (Below w.heap.size w w5) := Lib.hid (HB4.out.grown hgr HB4.out.size fun g hg => (HO4.out.lt g hg).1)); clear hown hgr))
          go_roundw
          case rel => exact ⟨q + 1, by omega, by go_num, HO5, HB5⟩
          case measure => simp [intOf]; omega
        · have HST : Hid (cmn (a.take (q + 1)) b = D) := Lib.hid (by rw [HSN.out, if_neg (fun h => h.2 (isIn_iff.1 HU2.out))])
          go_wp2_with (go_at_call 21; first | (with_reducible refine HB1.out.mono ?_; rintro e w' ⟨rfl, rfl⟩) | (with_reducible refine HB2.out.mono ?_; rintro e w' ⟨rfl, rfl⟩))
          go_roundw
          case rel => exact ⟨q + 1, by omega, by go_num, Lib.hid (by rw [HST.out]; exact HO.out), HB⟩
          case measure => simp [intOf]; omega
    · obtain rfl : q = n1 := by omega
      have ho := HO.out
      rw [List.take_of_length_le (by have := HN.out; omega)] at ho
      obtain ⟨A3, c3, rfl⟩ := ownI_shape ho
      have HRES : Hid (IntsE (cmn a b) w (.returned (.slice A3 (cmn a b).length c3)) wr) := Lib.hid ⟨A3, c3, rfl, ho, HB.out⟩
      clear ho
      go_wp2
      go_ret
      exact HRES.out
theorem refenough_any (n1 c1 n2 c2 : Nat) (A1 A2 : Option Addr) (l got : List Int) (hn1 : n1 = l.length) (hl1 : n1 ≤ 1000000) (hn2 : n2 = got.length) (hl2 : n2 ≤ 1000000) (w : World) (h1 : Row w w.heap.size A1 (l.map iV)) (h2 : Row w w.heap.size A2 (got.map iV)) :
    Calls Try.prog 14 #[.slice A1 n1 c1, .slice A2 n2 c2] w (IsB (enO (dd [] l) got) w) := by
  have HC1 := Lib.hid (refcommon_any n1 c1 n1 c1 A1 A1 l l hn1 hl1 hn1 hl1 w h1 h1)
  have HC2 := Lib.hid fun W (hb : Below w.heap.size w W) => refcommon_any n1 c1 n2 c2 A1 A2 l got hn1 hl1 hn2 hl2 W ((h1.below hb).more hb.size) ((h2.below hb).more hb.size)
  have hp1 := cmn_le l l
  have hp2 := cmn_le l got
  have hen : enO (dd [] l) got = decide (0 < (cmn l l).length ∧ (cmn l l).length < 2 * (cmn l got).length) := (enD_eq l got).symm
  rw [hen]
  obtain ⟨z1, hz1⟩ : ∃ z, (cmn l l).length = z := ⟨_, rfl⟩
  obtain ⟨z2, hz2⟩ : ∃ z, (cmn l got).length = z := ⟨_, rfl⟩
  have HZ1 := Lib.hid hz1
  have HZ2 := Lib.hid hz2
  rw [hz1] at hp1 ⊢
  rw [hz2] at hp2 ⊢
  have hb1 : (z1 : Int) ≤ 1000000 := by omega
  have hb2 : (z2 : Int) ≤ 1000000 := by omega
  clear h1 h2 hn1 hn2 hl1 hl2 hen hz1 hz2
  go_enter Try.func14, Try.ntmps14
  go_wp2_with fail
  refine HC1.out.mono ?_
  rintro e1 w1 ⟨A3, c3, rfl, _, hbl1⟩
  rw [HZ1.out]
  have HB1 := Lib.hid hbl1
  clear hbl1
  go_wp2_with fail
  refine (HC2.out _ HB1.out).mono ?_
  rintro e2 w2 ⟨A4, c4, rfl, _, hbl2⟩
  rw [HZ2.out]
  have HB2 := Lib.hid (HB1.out.trans (hbl2.mono HB1.out.size))
  clear hbl2
  by_cases h0 : 0 < z1
  · have g0 : decide ((0 : Int) < (z1 : Int)) = true := by simp; omega
    have g0' : decide (0 < z1) = true := by simpa using h0
    have HE : Hid (decide ((z1 : Int) < 2 * (z2 : Int)) = decide (0 < z1 ∧ z1 < 2 * z2)) := Lib.hid (by rw [decide_eq_decide]; omega)
    obtain ⟨u, hu⟩ : ∃ u, decide ((z1 : Int) < 2 * (z2 : Int)) = u := ⟨_, rfl⟩
    have HU := Lib.hid hu
    go_wp2
    go_ret
    exact ⟨by rw [← HE.out, HU.out]; rfl, HB2.out⟩
  · have g0 : decide ((0 : Int) < (z1 : Int)) = false := by simp; omega
    have g0' : decide (0 < z1) = false := by simpa using h0
    have HE : Hid (decide (0 < z1 ∧ z1 < 2 * z2) = false) := Lib.hid (by simp; omega)
    go_wp2
    go_ret
    exact ⟨by rw [HE.out]; rfl, HB2.out⟩
theorem refcovers_ok (A A2 : Option Addr) (n c n2 c2 : Nat) (ns got : List Int) (e k : Nat) (hn : n = ns.length) (ok : OkR ns e k) (hn2 : n2 = got.length) (hl2 : n2 ≤ 1000000) (w : World) (h1 : Row w w.heap.size A (ns.map iV)) (h2 : Row w w.heap.size A2 (got.map iV)) :
    Calls Try.prog 22 #[.agg #[.slice A n c, .int .i64 (e : Int), .int .i64 (k : Int)], .slice A2 n2 c2] w (IsB (covP (ringL ns e k) got) w) := by
  have HP := Lib.hid fun W (hb : Below w.heap.size w W) => reflists_ok A n c ns e k hn ok W ((h1.below hb).more hb.size)
  obtain ⟨p1, p2, p3, p4, p5, p6, p7⟩ := pts_len_ok ok
  have hLL : (ringL ns e k).length ≤ 4096 := by show (List.map _ _).length ≤ 4096; rw [List.length_map]; exact p1
  have hLx : ∀ L ∈ ringL ns e k, L.length ≤ 64 := fun L h => Nat.le_trans (listsP_le h) p5
  have hLn : ∀ L ∈ ringL ns e k, L.Nodup := fun L h => listsP_nodup h
  obtain ⟨LL, hL⟩ : ∃ LL, ringL ns e k = LL := ⟨_, rfl⟩
  have HP2 : Hid (∀ W, Below w.heap.size w W → Calls Try.prog 38 #[.agg #[.slice A n c, .int .i64 (e : Int), .int .i64 (k : Int)]] W (ListsE LL W)) := Lib.hid fun W hb => by rw [← hL]; exact HP.out W hb
  rw [hL] at hLL hLx hLn ⊢
  have HE := Lib.hid fun W (hb : Below w.heap.size w W) (r : RowIV) (hm : r.2.1 ∈ LL) (hr : Row W W.heap.size r.1 (r.2.1.map iV)) =>
    refenough_any r.2.1.length r.2.2 n2 c2 r.1 A2 r.2.1 got rfl (by have := hLx _ hm; omega) hn2 hl2 W hr ((h2.below hb).more hb.size)
  have HLN := Lib.hid hLn
  have hln : (LL.length : Int) ≤ 4096 := by omega
  clear p1 p2 p3 p4 p5 p6 p7 h1 h2 hn ok hn2 hl2 hLx hLn HP hL hLL
  go_enter Try.func22, Try.ntmps22
  go_wp2_with fail
  refine (HP2.out _ ((Below.refl _ _).alloc (Nat.le_refl _) _)).mono ?_
  rintro e1 w1 ⟨A3, c3, rs, rfl, hrs, hr1, hri, hb1⟩
  have HB1 := Lib.hid (below_after1 hb1)
  have HRS := Lib.hid hrs
  have HR1 := Lib.hid hr1
  have HRI := Lib.hid hri
  have HRL : Hid (rs.length = LL.length) := Lib.hid (by rw [← hrs, List.length_map])
  clear hrs hr1 hri hb1
  go_wp2
  go_loopw [6] (fun i wr => ∃ q : Nat, q ≤ LL.length ∧ i = .int .i64 q ∧ Hid (Below w1.heap.size w1 wr) ∧ Hid (∀ t (h : t < LL.length), t < q → enO LL[t] got = true)) (fun i _ => LL.length - (intOf i).toNat)
  case atStart => exact ⟨0, by omega, rfl, Lib.hid (Below.refl _ _), Lib.hid fun t _ h => absurd h (Nat.not_lt_zero _)⟩
  case round =>
    obtain ⟨q, hq, rfl, HB, HALL⟩ := hrel
    by_cases hlt : q < LL.length
    · have hql : q < rs.length := by rw [HRL.out]; exact hlt
      obtain ⟨b, o, rfl, hbw, hc⟩ := HR1.out.open_ (by rw [List.length_map]; omega)
      have d0 : wr.cell? ⟨b, o + q, none⟩ = some (rowIV rs[q]) := (HB.out.cell (p := ⟨b, o + q, none⟩) hbw).trans ((hc q (by simpa using hql)).trans (congrArg some (List.getElem_map (f := rowIV) (h := by simpa using hql))))
      have hgl : LL[q] = rs[q].2.1 := by
        have h2 : ∀ (M : List (List Int)) (h : q < M.length), M = LL → M[q] = LL[q] := fun M h e => by subst e; rfl
        rw [← h2 (rs.map fun r => r.2.1) (by rw [List.length_map]; exact hql) HRS.out]
        simp
      have hee := HE.out wr (HB1.out.trans (HB.out.mono HB1.out.size)) rs[q] (by rw [← hgl]; exact List.getElem_mem hlt) (rowsI_row (rowsI_below HRI.out HB.out) _ (List.getElem_mem hql))
      have hdn : dd [] LL[q] = LL[q] := dd_self (HLN.out _ (List.getElem_mem hlt))
      rw [← hgl, hdn, hgl] at hee
      have HY : Hid (enO LL[q] got = true → ∀ t (h : t < LL.length), t < q + 1 → enO LL[t] got = true) := Lib.hid fun e t ht htq => by
        rcases Nat.lt_or_ge t q with h1 | h1
        · exact HALL.out t ht h1
        · obtain rfl : t = q := by omega
          exact e
      have HZ : Hid (enO LL[q] got = false → covP LL got = false) := Lib.hid fun e => by
        unfold covP
        rw [decide_eq_false_iff_not]
        intro h
        rw [h _ (List.getElem_mem hlt)] at e
        cases e
      rw [hgl] at HY HZ
      obtain ⟨⟨A4, L, c4⟩, hx⟩ : ∃ x, rs[q] = x := ⟨_, rfl⟩
      rw [hx] at d0 hee HY HZ
      unfold rowIV at d0
      simp only at d0 hee HY HZ
      obtain ⟨u, hu⟩ : ∃ u, enO L got = u := ⟨_, rfl⟩
      rw [hu] at hee HY HZ
      have HEE := Lib.hid hee
      have hq0 : (0 : Int) ≤ (q : Int) := by omega
      have hq1 : (q : Int) < (LL.length : Int) := by omega
      clear hc hgl hdn hx hu hee
      rcases u with _ | _
      · have HZ2 := Lib.hid (HZ.out rfl)
        go_wp2_with fail
        refine HEE.out.mono ?_
        rintro e2 w2 ⟨rfl, hb2⟩
        have HB2 := Lib.hid (HB1.out.trans ((HB.out.trans (hb2.mono HB.out.size)).mono HB1.out.size))
        clear hb2 d0
        go_wp2
        go_ret
        rw [HZ2.out]
        exact ⟨rfl, HB2.out⟩
      · have HY2 := Lib.hid (HY.out rfl)
        go_wp2_with fail
        refine HEE.out.mono ?_
        rintro e2 w2 ⟨rfl, hb2⟩
        have HB2 := Lib.hid (HB.out.trans (hb2.mono HB.out.size))
        clear hb2 d0
        go_wp2
        go_roundw
        case rel => exact ⟨q + 1, by omega, by go_num, HB2, HY2⟩
        case measure => simp [intOf]; omega
    · have HT : Hid (covP LL got = true) := Lib.hid (by
        unfold covP
        rw [decide_eq_true_eq]
        intro L hL
        obtain ⟨t, ht, rfl⟩ := List.getElem_of_mem hL
        exact HALL.out t ht (by omega))
      have HB2 := Lib.hid (HB1.out.trans (HB.out.mono HB1.out.size))
      have hq1 : ¬ (q : Int) < (LL.length : Int) := by omega
      go_wp2
      go_ret
      rw [HT.out]
      exact ⟨rfl, HB2.out⟩
theorem refmeet_any (n a b : Nat) (hn : n ≤ 1000000) (ha : a ≤ n) (hb : b ≤ n) (w : World) : Calls Try.prog 25 #[.int .i64 (n : Int), .int .i64 (a : Int), .int .i64 (b : Int)] w fun e w' => e = .returned (.bool (decide (n < a + b))) ∧ w = w' := by
  have h1 : decide ((a : Int) < 0) = false := by simp
  have h2 : decide ((n : Int) < (a : Int)) = false := by simp; omega
  have h2' : decide (n < a) = false := by simp; omega
  have h3 : decide ((b : Int) < 0) = false := by simp
  have h4 : decide ((n : Int) < (b : Int)) = false := by simp; omega
  have h4' : decide (n < b) = false := by simp; omega
  obtain ⟨z, hz⟩ : ∃ z, (a : Int) + (b : Int) = z := ⟨_, rfl⟩
  have h5 : decide ((n : Int) < z) = decide (n < a + b) := by rw [decide_eq_decide]; omega
  have hz1 : z ≤ 2000000 := by omega
  have hz0 : 0 ≤ z := by omega
  rw [← h5]
  clear h5 ha hb
  go_enter Try.func25, Try.ntmps25
  go_wp2
  go_ret
  exact ⟨rfl, rfl⟩
end Go.Proofs.Ytafajikjojpaaaa
