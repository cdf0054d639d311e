/- How many are needed, whether two sets must meet, by the program and by the document; a copy of a row; those of a row, each once. -/
import Derived.Test.YtafajikjojpaaaaQrm
import Derived.Maps.OwnOps
import Derived.Maps.Views
namespace Go.Proofs.Ytafajikjojpaaaa
open Go.RowKit Mem Rg Go.Maps
set_option maxRecDepth 100000
set_option maxHeartbeats 4000000
set_option linter.unusedVariables false
def needZ (n : Int) : Int := if n < 1 then 0 else n / 2 + 1
theorem needZ_nat (n : Nat) : needZ (n : Int) = ((need n : Nat) : Int) := by
  unfold needZ need
  by_cases h : n = 0
  · rw [if_pos h, if_pos (by omega)]; rfl
  · rw [if_neg h, if_neg (by omega)]; omega
theorem need_any (n : Int) (hb : n ≤ 9223372036854775807) (w : World) : Calls Try.prog 12 #[.int .i64 n] w fun e w' => e = .returned (.int .i64 (needZ n)) ∧ w = w' := by
  by_cases h : n < 1
  · have e : needZ n = 0 := if_pos h
    rw [e]
    go_enter Try.func12, Try.ntmps12
    go_wp2
    go_ret
    exact ⟨rfl, rfl⟩
  · have e : needZ n = n / 2 + 1 := if_neg h
    have e2 : n.tdiv 2 = n / 2 := Int.tdiv_eq_ediv_of_nonneg (by omega)
    obtain ⟨m, hm⟩ : ∃ m, n / 2 = m := ⟨_, rfl⟩
    have hm1 : m ≤ 4611686018427387903 := by omega
    have hm0 : 0 ≤ m := by omega
    rw [hm] at e2
    rw [e, hm]
    clear e hm
    go_enter Try.func12, Try.ntmps12
    go_wp2
    go_ret
    exact ⟨by simp, rfl⟩
theorem needn_any (n : Nat) (hb : n ≤ 9223372036854775807) (w : World) : Calls Try.prog 12 #[.int .i64 (n : Int)] w fun e w' => e = .returned (.int .i64 ((need n : Nat) : Int)) ∧ w = w' := by
  rw [← needZ_nat]
  exact need_any n (by omega) w
theorem need_le (n : Nat) : need n ≤ n + 1 := by unfold need; split <;> omega
/-- A copy of numbers. -/
theorem clonei_any (B c n : Nat) (A : Option Addr) (xs : List Int) (hn : n = xs.length) (w : World) (h : Row w B A (xs.map iV)) (hB : B ≤ w.heap.size) (hl : n ≤ 17592186044416) :
    Calls Try.prog 37 #[.slice A n c] w (IntsE xs w) := by
  subst hn
  obtain ⟨i0, hi0, hz0, hz1, hz2⟩ := info_parts info_i
  rcases A with _ | a
  · have hb : xs = [] := by
      rcases h with h | ⟨b, o, e, _⟩
      · simpa using h
      · cases e
    subst hb
    clear h
    have he := fun W => Lib.run_eql_slice_nil (P := Try.prog) W 22 3 none 0 c 0 0 Try.underlying22
    go_enter Try.func37, Try.ntmps37
    go_wp2
    go_ret
    exact ⟨none, 0, rfl, World.ownsRow_nil _ _ _ _, Below.refl _ _⟩
  · have HR := Lib.hid (h.alloc hB (.cells #[] 3))
    have HO : Hid ((w.alloc (.cells #[] 3)).ownsRow w.heap.size 3 1 (.slice (some ⟨w.heap.size, 0, none⟩) 0 0) 0 []) := Lib.hid (World.ownsRow_made w #[] 0 (Nat.le_refl _) (by unfold maxLen; omega) rfl)
    clear h
    have he := fun W => Lib.run_eql_slice_nil (P := Try.prog) W 22 3 (some a) xs.length c 0 0 Try.underlying22
    go_enter Try.func37, Try.ntmps37
    go_wp2_with (at_builtin; refine wpList_app _ rfl _ _ 22 rfl w.heap.size 3 i0 (.int .i64 0) 8 Try.underlying22 hi0 hz0 hz1 hz2 rfl _ 0 [] rfl HO.out B _ xs.length c (xs.map iV) rfl (by simp) HR.out (iV_one xs) (by unfold maxLen; omega) (by omega) (by simp) ?_)
    intro v' w1 hown hg _
    have hown2 : OwnI w.heap.size xs v' w1 := by simpa [OwnI] using hown
    have hbl : Below w.heap.size w w1 := ((Below.refl _ _).alloc (Nat.le_refl _) _).grown hg (by simp) (fun g hg => by simp [Value.ownBlock] at hg; omega)
    obtain ⟨A1, c1, rfl⟩ := ownI_shape hown2
    have HRES : Hid (IntsE xs w (.returned (.slice A1 xs.length c1)) w1) := Lib.hid ⟨A1, c1, rfl, hown2, hbl⟩
    clear hown hg hown2 hbl
    go_wp2
    go_ret
    exact HRES.out
theorem own_ne_base {W : World} {g s n : Nat} {e : TypeId} {v : Value} {xs : List Value} (h : W.ownsRow (g + 1) e s v n xs) : v.ownBlock = none ∨ v.ownBlock ≠ some g := by
  by_cases hv : v.ownBlock = some g
  · have := (h.lt g hv).1; omega
  · exact Or.inr hv
theorem keyI : Keyed Try.prog 3 := int_keyed Try.underlying3
theorem zeroI (w : World) : (zeroValue 3).run Try.prog w = .ok (.int .i64 0) w := by kernel_rfl
/-- Block g is a map that says of each number how often it is among some. -/
def CntM (w : World) (g q : Nat) (l : List Int) : Prop := ∃ D : DataW Unit, w.ownsMap Try.prog 3 (plainElem Try.prog 3) g q D ∧ IsMap D ∧ ∀ x : Int, D.atKey (.int .i64 x) (.lit (.int .i64 0)) = .lit (.int .i64 (l.count x : Nat))
theorem cntM_made (w : World) : CntM (w.alloc (.map #[] 0)) w.heap.size 0 [] := ⟨.map [], World.ownsMap_made _ _ _ _, ⟨[], rfl⟩, fun x => rfl⟩
/-- Numbers that are of 64 bits. -/
def WfI (l : List Int) : Prop := ∀ x ∈ l, (Lit.int .i64 x).wf = true
theorem different_any (B n c : Nat) (A : Option Addr) (l : List Int) (hn : n = l.length) (hl : n ≤ 17592186044416) (hwf : WfI l) (w : World) (h : Row w B A (l.map iV)) (hB : B ≤ w.heap.size) :
    Calls Try.prog 32 #[.slice A n c] w (IntsE (dd [] l) w) := by
  obtain ⟨i0, hi0, hz0, hz1, hz2⟩ := info_parts info_i
  have hmm := @run_makeMap Try.prog
  have HR := Lib.hid (h.more hB)
  have HN := Lib.hid hn
  have HW := Lib.hid hwf
  have hnl : (n : Int) ≤ 17592186044416 := by omega
  have HP0 : Hid (CntM (w.alloc (.map #[] 0)) w.heap.size 0 (l.take 0)) := Lib.hid (cntM_made w)
  have HB0 : Hid (Below w.heap.size w (w.alloc (.map #[] 0))) := Lib.hid ((Below.refl _ _).alloc (Nat.le_refl _) _)
  clear h hn hwf
  go_enter Try.func32, Try.ntmps32
  go_wp2
  go_loopw [3, 10] (fun v i wr => ∃ q : Nat, q ≤ n ∧ i = .int .i64 q ∧ Hid (OwnI (w.heap.size + 1) (dd [] (l.take q)) v wr) ∧ Hid (CntM wr w.heap.size q (l.take q)) ∧ Hid (Below w.heap.size w wr) ∧ Hid (w.heap.size + 1 ≤ wr.heap.size)) (fun _ i _ => n - (intOf i).toNat)
  case atStart => exact ⟨0, by omega, rfl, Lib.hid (World.ownsRow_nil _ _ _ _), HP0, HB0, Lib.hid (by simp)⟩
  case round =>
    obtain ⟨q, hq, rfl, HO, HM, HB, HS⟩ := hrel
    by_cases hlt : q < n
    · have hql : q < l.length := by have := HN.out; omega
      obtain ⟨b, o, rfl, hbw, hc⟩ := int_cell HR.out (by omega)
      have d0 := hc q hql
      rw [← HB.out.cell (p := ⟨b, o + q, none⟩) hbw] at d0
      have hwx := HW.out _ (List.getElem_mem hql)
      have hsn := dd_snoc_at l q hql
      have htk : l.take (q + 1) = l.take q ++ [l[q]] := List.take_succ_eq_append_getElem hql
      obtain ⟨x, hx⟩ : ∃ x, l[q] = x := ⟨_, rfl⟩
      rw [hx] at d0 hwx hsn htk
      have hkey : keyOf Try.prog 3 (.int .i64 x) = some (.int .i64 x) := keyOf_int_mk Try.underlying3 hwx
      obtain ⟨D, hown, hmap, hD⟩ := HM.out
      have HD := Lib.hid hD
      have HMP := Lib.hid hmap
      have hcl : (l.take q).count x ≤ q := by
        have := List.count_le_length (a := x) (l := l.take q)
        rw [List.length_take] at this
        omega
      have hcz : x ∈ l.take q ↔ 0 < (l.take q).count x := List.count_pos_iff.symm
      obtain ⟨u, hu⟩ : ∃ u, (l.take q).count x = u := ⟨_, rfl⟩
      rw [hu] at hcl hcz
      have HU := Lib.hid hu
      have HTK := Lib.hid htk
      have hdl := dd_le (l.take q) []
      have HDL : Hid ((dd [] (l.take q)).length ≤ q) := Lib.hid (by rw [List.length_take] at hdl; simp at hdl; omega)
      have HSN := Lib.hid hsn
      have HCZ := Lib.hid hcz
      have hu1 : (u : Int) ≤ 17592186044416 := by omega
      have hq0 : (0 : Int) ≤ (q : Int) := by omega
      have hq1 : (q : Int) < (n : Int) := by omega
      have hwu : (Lit.int .i64 ((u : Int) + 1)).wf = true := WalkArith.wf_i64 (by omega)
      have HSTEP : Hid (∀ w1 : World, w1.ownsMap Try.prog 3 (plainElem Try.prog 3) w.heap.size (q + 1) (D.put (.int .i64 x) (.lit (.int .i64 ((u : Int) + 1)))) → CntM w1 w.heap.size (q + 1) (l.take (q + 1))) := Lib.hid fun w1 ho => ⟨_, ho, HMP.out.put _ _, fun y => by
        rw [HTK.out, List.count_append, List.count_singleton]
        by_cases e : y = x
        · subst e
          rw [atKey_put_same HMP.out (by exact trivial), HU.out]
          simp
        · rw [atKey_put_other (by simpa using e), HD.out y]
          have : (x == y) = false := by simpa using fun h => e h.symm
          rw [this]; simp⟩
      clear hc hx hsn htk hD hmap hdl hcz hu hwx
      by_cases hm : x ∈ l.take q
      · have h0 : 0 < u := HCZ.out.1 hm
        obtain ⟨d, hd⟩ : ∃ d : Int, d = (u : Int) + 1 := ⟨_, rfl⟩
        have hd1 : (d == 1) = false := by simp; omega
        have HDD := Lib.hid hd
        have HSN2 : Hid (dd [] (l.take (q + 1)) = dd [] (l.take q)) := Lib.hid (by rw [HSN.out, if_pos hm])
        clear hd hm h0
        go_wp2_with (first
          | (at_lookup; refine wpList_lookup_own_int _ rfl _ _ 64 rfl 3 3 .i64 keyI Try.underlying64 Try.underlying3 (zeroI _) w.heap.size q _ rfl hown _ _ rfl hkey ?_; intro c0 hat _; obtain rfl : c0 = (u : Int) := (by rw [HD.out x, HU.out] at hat; simpa using hat.symm); clear hat)
          | (at_mapUpdate; refine wpList_mapUpdate_own _ rfl _ _ _ 64 rfl 3 3 keyI Try.underlying64 _ w.heap.size q _ rfl hown (by unfold maxLen; omega) _ _ _ rfl rfl hkey _ [] (plainElem_int Try.underlying3 hwu) ?_; intro w1 hown1 hgr1; (have HM1 := Lib.hid (HSTEP.out _ hown1)); (have HO1 := Lib.hid (World.ownsRow.kept HO.out hgr1 (own_ne_base HO.out))); (have HB1 := Lib.hid (HB.out.grown hgr1 HB.out.size (fun j hj => by cases hj; exact Nat.le_refl _))); (have HS1 := Lib.hid (Nat.le_trans HS.out hgr1.size)); clear hgr1 hown)
          | (at_lookup; refine wpList_lookup_own_int _ rfl _ _ 64 rfl 3 3 .i64 keyI Try.underlying64 Try.underlying3 (zeroI _) w.heap.size (q + 1) _ rfl hown1 _ _ rfl hkey ?_; intro c0 hat _; obtain rfl : c0 = d := (by rw [atKey_put_same HMP.out (by exact trivial)] at hat; rw [HDD.out]; simpa using hat.symm); clear hat hown1))
        go_roundw
        case rel => exact ⟨q + 1, by omega, by go_num, Lib.hid (by rw [HSN2.out]; exact HO1.out), HM1, HB1, HS1⟩
        case measure => simp [intOf]; omega
      · have h0 : u = 0 := by
          rcases Nat.eq_zero_or_pos u with h | h
          · exact h
          · exact absurd (HCZ.out.2 h) hm
        have HSN2 : Hid (dd [] (l.take (q + 1)) = dd [] (l.take q) ++ [x]) := Lib.hid (by rw [HSN.out, if_neg hm])
        have HU0 : Hid ((u : Int) + 1 = 1) := Lib.hid (by omega)
        clear hm h0
        go_wp2_with (first
          | (at_lookup; refine wpList_lookup_own_int _ rfl _ _ 64 rfl 3 3 .i64 keyI Try.underlying64 Try.underlying3 (zeroI _) w.heap.size q _ rfl hown _ _ rfl hkey ?_; intro c0 hat _; obtain rfl : c0 = (u : Int) := (by rw [HD.out x, HU.out] at hat; simpa using hat.symm); clear hat)
          | (at_mapUpdate; refine wpList_mapUpdate_own _ rfl _ _ _ 64 rfl 3 3 keyI Try.underlying64 _ w.heap.size q _ rfl hown (by unfold maxLen; omega) _ _ _ rfl rfl hkey _ [] (plainElem_int Try.underlying3 hwu) ?_; intro w1 hown1 hgr1; (have HM1 := Lib.hid (HSTEP.out _ hown1)); (have HO1 := Lib.hid (World.ownsRow.kept HO.out hgr1 (own_ne_base HO.out))); (have HB1 := Lib.hid (HB.out.grown hgr1 HB.out.size (fun j hj => by cases hj; exact Nat.le_refl _))); (have HS1 := Lib.hid (Nat.le_trans HS.out hgr1.size)); (have HO2 := Lib.hid (own_later HO1.out ((Below.refl w1.heap.size w1).alloc (Nat.le_refl _) (.cells #[.int .i64 x] 3)))); clear hgr1 hown)
          | (at_lookup; refine wpList_lookup_own_int _ rfl _ _ 64 rfl 3 3 .i64 keyI Try.underlying64 Try.underlying3 (zeroI _) w.heap.size (q + 1) _ rfl hown1 _ _ rfl hkey ?_; intro c0 hat _; obtain rfl : c0 = 1 := (by rw [atKey_put_same HMP.out (by exact trivial), HU0.out] at hat; simpa using hat.symm); clear hat hown1)
          | (at_builtin; refine wpList_app _ rfl _ _ 22 rfl (w.heap.size + 1) 3 i0 _ 8 Try.underlying22 hi0 hz0 hz1 hz2 rfl _ _ _ rfl HO2.out (w1.heap.size + 1) (some ⟨w1.heap.size, 0, none⟩) 1 1 ([x].map iV) rfl rfl (int_row w1 x) (iV_one _) (by have := HDL.out; unfold maxLen; omega) (by have := HDL.out; omega) (by have := HS1.out; simp; omega) ?_; intro v' w5 hown5 hgr5 _; (have HO5 : Hid (OwnI (w.heap.size + 1) (dd [] (l.take (q + 1))) v' w5) := Lib.hid (by unfold OwnI; rw [HSN2.out, List.map_append, List.length_append]; exact hown5)); (have HB5 : Hid (Below w.heap.size w w5) := Lib.hid ((HB1.out.alloc HB1.out.size _).grown hgr5 (HB1.out.alloc HB1.out.size _).size fun g hg => (by have := (HO2.out.lt g hg).1; omega))); (have HM5 : Hid (CntM w5 w.heap.size (q + 1) (l.take (q + 1))) := Lib.hid (by obtain ⟨D5, m1, m2, m3⟩ := HM1.out; exact ⟨D5, (m1.alloc _).kept hgr5 (fun e => (own_ne_base HO2.out).elim (fun h => absurd (e.trans h) (by simp)) (fun h => h e.symm)), m2, m3⟩)); (have HS5 : Hid (w.heap.size + 1 ≤ w5.heap.size) := Lib.hid (Nat.le_trans HS1.out (Nat.le_trans (by simp) hgr5.size))); clear hown5 hgr5))
        go_roundw
        case rel => exact ⟨q + 1, by omega, by go_num, HO5, HM5, HB5, HS5⟩
        case measure => simp [intOf]; omega
    · obtain rfl : q = n := by omega
      have ho := HO.out
      rw [List.take_of_length_le (by have := HN.out; omega)] at ho
      obtain ⟨A1, c1, rfl⟩ := ownI_shape ho
      have HRES : Hid (IntsE (dd [] l) w (.returned (.slice A1 (dd [] l).length c1)) wr) := Lib.hid ⟨A1, c1, rfl, ownBase ho (by omega), HB.out⟩
      clear ho
      go_wp2
      go_ret
      exact HRES.out
end Go.Proofs.Ytafajikjojpaaaa
