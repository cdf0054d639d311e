/- How many are needed are more than the others, one fewer are not; all of a list are enough, none are not; one more is never too many. -/
import Derived.Test.YtafajikjojpaaaaLw10
namespace Go.Proofs.Ytafajikjojpaaaa
open Go.RowKit Mem Rg
set_option maxRecDepth 100000
set_option maxHeartbeats 16000000
set_option linter.unusedVariables false
theorem needs_walk (A1 : Option Addr) (l : List Int) (n1 c1 m : Nat) (x : Int) (hm : m ≤ 65535) (hn1 : n1 = l.length) (hw : WfI l) (w : World) (h1 : Row w w.heap.size A1 (l.map iV)) :
    Calls Try.prog 8 #[.slice A1 n1 c1, .int .u16 (m : Int), .int .i64 x] w (IsTr w) := by
  obtain ⟨i0, hi0, hz0, hz1, hz2⟩ := info_parts info_i
  have HR1 := Lib.hid fun W (hb : Below w.heap.size w W) => (h1.below hb).more hb.size
  have HN1 := Lib.hid hn1
  have HW := Lib.hid hw
  have HB0 := Lib.hid (Below.refl w.heap.size w)
  clear h1 hn1 hw
  by_cases b1 : (40 : Int) < (n1 : Int)
  · go_enter Try.func8, Try.ntmps8
    go_wp2_with (go_at_call 10; refine (known10_any _).mono ?_; rintro e1 w1 ⟨rfl, hb1⟩)
    go_ret
    exact ⟨rfl, HB0.out.trans (hb1.mono HB0.out.size)⟩
  have HL1 : Hid (n1 ≤ 40) := Lib.hid (by omega)
  have hml : (m : Int) ≤ 65535 := by omega
  have hcv : IntKind.i64.wrap (m : Int) = (m : Int) := by rw [IntKind.wrap_i64]; omega
  have HND := Lib.hid fun W => needn_any m (by omega) W
  have hk : need m = if m = 0 then 0 else m / 2 + 1 := rfl
  obtain ⟨k, hkk⟩ : ∃ k, need m = k := ⟨_, rfl⟩
  rw [hkk] at HND hk
  have hk1 : k ≤ 32768 := by rw [hk]; split <;> omega
  have hkl : (k : Int) ≤ 32768 := by omega
  obtain ⟨p, hp⟩ : ∃ p : Int, (m : Int) - (k : Int) = p := ⟨_, rfl⟩
  obtain ⟨r, hr⟩ : ∃ r : Int, (k : Int) - 1 = r := ⟨_, rfl⟩
  obtain ⟨s, hs⟩ : ∃ s : Int, (m : Int) - r = s := ⟨_, rfl⟩
  have hpb : -32768 ≤ p ∧ p ≤ 65535 := by omega
  have hrb : -1 ≤ r ∧ r ≤ 32768 := by omega
  have hsb : -32768 ≤ s ∧ s ≤ 65536 := by omega
  obtain ⟨hpb1, hpb2⟩ := hpb
  obtain ⟨hrb1, hrb2⟩ := hrb
  obtain ⟨hsb1, hsb2⟩ := hsb
  obtain ⟨u, hu⟩ : ∃ u, enO (dd [] l) l = u := ⟨_, rfl⟩
  have huu : u = decide ((0 : Int) < (n1 : Int)) := by
    rw [← hu, enO_all (fun y h => by have := (dd_mem y l []).1 h; simpa using this), decide_eq_decide]
    have := dd_nil_iff l
    have := HN1.out
    omega
  have HE1 := Lib.hid fun W (hb : Below w.heap.size w W) => enough_any n1 c1 n1 c1 A1 A1 l l HN1.out (by have := HL1.out; omega) HN1.out (by have := HL1.out; omega) HW.out W (HR1.out W hb) (HR1.out W hb)
  have HE2 := Lib.hid fun W (hb : Below w.heap.size w W) => enough_any n1 c1 0 0 A1 none l [] HN1.out (by have := HL1.out; omega) rfl (by omega) HW.out W (HR1.out W hb) (Row.nil _ _ _)
  have HE3 := Lib.hid fun W A3 c3 (hb : Below w.heap.size w W) (h3 : Row W W.heap.size A3 ((l ++ [x]).map iV)) => enough_any n1 c1 (l ++ [x]).length c3 A1 A3 l (l ++ [x]) HN1.out (by have := HL1.out; omega) rfl (by have := HL1.out; have := HN1.out; simp; omega) HW.out W (HR1.out W hb) h3
  have HC1 := Lib.hid fun W A3 c3 (hb : Below w.heap.size w W) (h3 : Row W W.heap.size A3 ((l ++ [x]).map iV)) => common_any n1 c1 (l ++ [x]).length c3 A1 A3 l (l ++ [x]) HN1.out rfl (by have := HL1.out; omega) (by have := HL1.out; have := HN1.out; simp; omega) HW.out W (HR1.out W hb) h3
  have HC2 := Lib.hid fun W (hb : Below w.heap.size w W) => refcommon_any n1 c1 n1 c1 A1 A1 l l HN1.out (by have := HL1.out; omega) HN1.out (by have := HL1.out; omega) W (HR1.out W hb) (HR1.out W hb)
  have e3 : enO (dd [] l) (l ++ [x]) = u := by
    rw [← hu]
    exact enO_congr fun y h => by
      have := (dd_mem y l []).1 h
      simp at this
      simp [this]
  have ec : cmn l (l ++ [x]) = cmn l l := by
    unfold cmn
    rw [inn_congr (a := l ++ [x]) (b := l) fun y h => by simp [h]]
  rw [hu] at HE1
  rw [enO_none] at HE2
  rw [e3] at HE3
  rw [ec] at HC1
  have HU := Lib.hid huu
  clear hu huu e3 ec hkk
  obtain ⟨L3, hL3⟩ : ∃ L3, (l ++ [x]).length = L3 := ⟨_, rfl⟩
  have HL3 := Lib.hid hL3
  have hcl := cmn_le l l
  obtain ⟨z, hz⟩ : ∃ z, (cmn l l).length = z := ⟨_, rfl⟩
  have HZ := Lib.hid hz
  have hzz : ((z : Int) == (z : Int)) = true := by simp
  have huu : (u == u) = true := by simp
  have hud : (u == decide ((0 : Int) < (n1 : Int))) = true := by rw [← HU.out]; simp
  have hud' : (u == decide (0 < n1)) = true := by
    rw [HU.out]
    simp
  clear hz hL3 hcl
  by_cases hm0 : m = 0
  · have hk0 : k = 0 := by rw [hk, if_pos hm0]
    have g0 : decide ((0 : Int) < (m : Int)) = false := by simp; omega
    have g0' : decide (0 < m) = false := by simp; omega
    have g1 : ((m : Int) == 0) = true := by simp; omega
    have g2 : ((k : Int) != 0) = false := by simp; omega
    clear hm0 hk0 hk
    go_enter Try.func8, Try.ntmps8
    go_wp2_with (go_at_call 12; refine (HND.out _).mono ?_; rintro e w' ⟨rfl, rfl⟩)
    go_wp2_with fail
    refine (HE1.out _ HB0.out).mono ?_
    rintro e1 w1 ⟨rfl, hb1⟩
    have HB1 := Lib.hid (HB0.out.trans (hb1.mono HB0.out.size))
    clear  hb1
    go_wp2_with fail
    refine (HE2.out _ HB1.out).mono ?_
    rintro e2 w2 ⟨rfl, hb2⟩
    have HB2 := Lib.hid (HB1.out.trans (hb2.mono HB1.out.size))
    clear  hb2
    go_wp2_with (at_builtin; refine wpList_app _ rfl _ _ 22 rfl w2.heap.size 3 i0 _ 8 Try.underlying22 hi0 hz0 hz1 hz2 rfl _ 0 [] rfl (World.ownsRow_nil _ _ _ _) w2.heap.size A1 n1 c1 (l.map iV) rfl (by rw [List.length_map]; exact HN1.out.symm) (HR1.out _ HB2.out) (iV_one _) (by have := HL1.out; unfold maxLen; omega) (by have := HL1.out; omega) (Nat.le_refl _) ?_)
    intro v3 w3 hown3 hgr3 _
    have hb3 : Below w2.heap.size w2 w3 := (Below.refl _ _).grown hgr3 (Nat.le_refl _) (fun g hg => by simp [Value.ownBlock] at hg)
    have ho3 : OwnI w2.heap.size l v3 w3 := by unfold OwnI; rw [← HN1.out]; simpa using hown3
    have HB3 := Lib.hid (HB2.out.trans (hb3.mono HB2.out.size))
    have HA3 : Hid (OwnI w2.heap.size l v3 (w3.alloc (.cells #[.int .i64 x] 3))) := Lib.hid (ownLater ho3 ((Below.refl _ _).alloc (Nat.le_refl _) _))
    have HS3 := Lib.hid hb3.size
    have HC3 := Lib.hid hb3
    clear hown3 hgr3 hb3 ho3
    go_wp2_with (at_builtin; refine wpList_app _ rfl _ _ 22 rfl w2.heap.size 3 i0 _ 8 Try.underlying22 hi0 hz0 hz1 hz2 rfl _ l.length (l.map iV) rfl HA3.out (w3.heap.size + 1) (some ⟨w3.heap.size, 0, none⟩) 1 1 ([x].map iV) rfl rfl (int_row w3 x) (iV_one _) (by have := HL1.out; have := HN1.out; unfold maxLen; omega) (by have := HL1.out; have := HN1.out; omega) (by have := HS3.out; simp; omega) ?_)
    intro v4 w4 hown4 hgr4 _
    have hb4 : Below w2.heap.size w3 w4 := ((Below.refl w2.heap.size w3).alloc HS3.out _).grown hgr4 (Nat.le_trans HS3.out (by simp)) (fun g hg => (HA3.out.lt g hg).1)
    have ho4 : OwnI w2.heap.size (l ++ [x]) v4 w4 := by unfold OwnI; rw [List.map_append, List.length_append]; exact hown4
    obtain ⟨A4, k4, rfl⟩ := ownI_shape ho4
    rw [HL3.out]
    have HO4 := Lib.hid ho4
    have HB4 : Hid (Below w.heap.size w w4) := Lib.hid (HB2.out.trans (Below.trans (HC3.out) hb4 |>.mono HB2.out.size))
    clear hown4 hgr4 hb4 ho4
    go_wp2_with fail
    refine ((HL3.out ▸ HE3.out w4 A4 k4 HB4.out (ownRow HO4.out) : Calls Try.prog 13 #[.slice A1 n1 c1, .slice A4 L3 k4] w4 (IsB u w4))).mono ?_
    rintro e5 w5 ⟨rfl, hb5⟩
    have HB5 := Lib.hid (HB4.out.trans (hb5.mono HB4.out.size))
    replace HO4 := Lib.hid (ownLater HO4.out hb5)
    clear  hb5
    go_wp2_with fail
    refine ((HL3.out ▸ HC1.out w5 A4 k4 HB5.out (ownRow HO4.out) : Calls Try.prog 16 #[.slice A1 n1 c1, .slice A4 L3 k4] w5 (RowE (cmn l l) w5))).mono ?_
    rintro e6 w6 ⟨A6, k6, rfl, _, hb6⟩
    have HB6 := Lib.hid (HB5.out.trans (hb6.mono HB5.out.size))
    replace HO4 := Lib.hid (ownLater HO4.out hb6)
    clear  hb6
    rw [HZ.out]
    go_wp2_with fail
    refine (HC2.out _ HB6.out).mono ?_
    rintro e7 w7 ⟨A7, k7, rfl, _, hb7⟩
    have HB7 := Lib.hid (HB6.out.trans (hb7.mono HB6.out.size))
    clear  hb7
    rw [HZ.out]
    go_wp2_with (go_at_call 10; refine (known10_any _).mono ?_; rintro e8 w8 ⟨rfl, hb8⟩)
    go_ret
    exact ⟨rfl, HB7.out.trans (hb8.mono HB7.out.size)⟩
  · have hk0 : k = m / 2 + 1 := by rw [hk, if_neg hm0]
    have g0 : decide ((0 : Int) < (m : Int)) = true := by simp; omega
    have g0' : decide (0 < m) = true := by simp; omega
    have g3 : decide ((k : Int) ≤ p) = false := by simp; omega
    have g4 : decide (s < r) = false := by simp; omega
    have g1 : ((m : Int) == 0) = false := by simp; omega
    clear hm0 hk0 hk
    go_enter Try.func8, Try.ntmps8
    go_wp2_with (go_at_call 12; refine (HND.out _).mono ?_; rintro e w' ⟨rfl, rfl⟩)
    go_wp2_with fail
    refine (HE1.out _ HB0.out).mono ?_
    rintro e1 w1 ⟨rfl, hb1⟩
    have HB1 := Lib.hid (HB0.out.trans (hb1.mono HB0.out.size))
    clear  hb1
    go_wp2_with fail
    refine (HE2.out _ HB1.out).mono ?_
    rintro e2 w2 ⟨rfl, hb2⟩
    have HB2 := Lib.hid (HB1.out.trans (hb2.mono HB1.out.size))
    clear  hb2
    go_wp2_with (at_builtin; refine wpList_app _ rfl _ _ 22 rfl w2.heap.size 3 i0 _ 8 Try.underlying22 hi0 hz0 hz1 hz2 rfl _ 0 [] rfl (World.ownsRow_nil _ _ _ _) w2.heap.size A1 n1 c1 (l.map iV) rfl (by rw [List.length_map]; exact HN1.out.symm) (HR1.out _ HB2.out) (iV_one _) (by have := HL1.out; unfold maxLen; omega) (by have := HL1.out; omega) (Nat.le_refl _) ?_)
    intro v3 w3 hown3 hgr3 _
    have hb3 : Below w2.heap.size w2 w3 := (Below.refl _ _).grown hgr3 (Nat.le_refl _) (fun g hg => by simp [Value.ownBlock] at hg)
    have ho3 : OwnI w2.heap.size l v3 w3 := by unfold OwnI; rw [← HN1.out]; simpa using hown3
    have HB3 := Lib.hid (HB2.out.trans (hb3.mono HB2.out.size))
    have HA3 : Hid (OwnI w2.heap.size l v3 (w3.alloc (.cells #[.int .i64 x] 3))) := Lib.hid (ownLater ho3 ((Below.refl _ _).alloc (Nat.le_refl _) _))
    have HS3 := Lib.hid hb3.size
    have HC3 := Lib.hid hb3
    clear hown3 hgr3 hb3 ho3
    go_wp2_with (at_builtin; refine wpList_app _ rfl _ _ 22 rfl w2.heap.size 3 i0 _ 8 Try.underlying22 hi0 hz0 hz1 hz2 rfl _ l.length (l.map iV) rfl HA3.out (w3.heap.size + 1) (some ⟨w3.heap.size, 0, none⟩) 1 1 ([x].map iV) rfl rfl (int_row w3 x) (iV_one _) (by have := HL1.out; have := HN1.out; unfold maxLen; omega) (by have := HL1.out; have := HN1.out; omega) (by have := HS3.out; simp; omega) ?_)
    intro v4 w4 hown4 hgr4 _
    have hb4 : Below w2.heap.size w3 w4 := ((Below.refl w2.heap.size w3).alloc HS3.out _).grown hgr4 (Nat.le_trans HS3.out (by simp)) (fun g hg => (HA3.out.lt g hg).1)
    have ho4 : OwnI w2.heap.size (l ++ [x]) v4 w4 := by unfold OwnI; rw [List.map_append, List.length_append]; exact hown4
    obtain ⟨A4, k4, rfl⟩ := ownI_shape ho4
    rw [HL3.out]
    have HO4 := Lib.hid ho4
    have HB4 : Hid (Below w.heap.size w w4) := Lib.hid (HB2.out.trans (Below.trans (HC3.out) hb4 |>.mono HB2.out.size))
    clear hown4 hgr4 hb4 ho4
    go_wp2_with fail
    refine ((HL3.out ▸ HE3.out w4 A4 k4 HB4.out (ownRow HO4.out) : Calls Try.prog 13 #[.slice A1 n1 c1, .slice A4 L3 k4] w4 (IsB u w4))).mono ?_
    rintro e5 w5 ⟨rfl, hb5⟩
    have HB5 := Lib.hid (HB4.out.trans (hb5.mono HB4.out.size))
    replace HO4 := Lib.hid (ownLater HO4.out hb5)
    clear  hb5
    go_wp2_with fail
    refine ((HL3.out ▸ HC1.out w5 A4 k4 HB5.out (ownRow HO4.out) : Calls Try.prog 16 #[.slice A1 n1 c1, .slice A4 L3 k4] w5 (RowE (cmn l l) w5))).mono ?_
    rintro e6 w6 ⟨A6, k6, rfl, _, hb6⟩
    have HB6 := Lib.hid (HB5.out.trans (hb6.mono HB5.out.size))
    replace HO4 := Lib.hid (ownLater HO4.out hb6)
    clear  hb6
    rw [HZ.out]
    go_wp2_with fail
    refine (HC2.out _ HB6.out).mono ?_
    rintro e7 w7 ⟨A7, k7, rfl, _, hb7⟩
    have HB7 := Lib.hid (HB6.out.trans (hb7.mono HB6.out.size))
    clear  hb7
    rw [HZ.out]
    go_wp2_with (go_at_call 10; refine (known10_any _).mono ?_; rintro e8 w8 ⟨rfl, hb8⟩)
    go_ret
    exact ⟨rfl, HB7.out.trans (hb8.mono HB7.out.size)⟩
end Go.Proofs.Ytafajikjojpaaaa
