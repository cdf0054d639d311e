/- Nodes of a list that are counted, one by one. -/
import Derived.Test.YtafajikjojpaaaaLw10
namespace Go.Proofs.Ytafajikjojpaaaa
open Go.RowKit Mem Rg
set_option maxRecDepth 100000
set_option maxHeartbeats 16000000
set_option linter.unusedVariables false
/-- One more that is counted counts for one at most. -/
theorem inn_more : ∀ (L S : List Int) (x : Int), L.Nodup → (inn L S).length ≤ (inn L (S ++ [x])).length ∧ (inn L (S ++ [x])).length ≤ (inn L S).length + 1
  | [], S, x, _ => by simp [inn]
  | y :: L, S, x, h => by
    have hc := List.nodup_cons.1 h
    unfold inn
    rw [List.filter_cons, List.filter_cons]
    by_cases e : y = x
    · subst e
      have e1 : isIn y (S ++ [y]) = true := isIn_true (by simp)
      have e2 : (L.filter fun z => isIn z (S ++ [y])) = L.filter fun z => isIn z S := List.filter_congr fun z hz => isIn_congr (by
        have : z ≠ y := fun e => hc.1 (e ▸ hz)
        simp [this])
      rw [if_pos e1, e2]
      split <;> simp
    · have e1 : isIn y (S ++ [x]) = isIn y S := isIn_congr (by simp [e])
      have ih := inn_more L S x hc.2
      unfold inn at ih
      rw [e1]
      split
      · simp only [List.length_cons]; omega
      · exact ih
theorem inn_out (L S : List Int) (x : Int) (h : x ∉ L) : inn L (S ++ [x]) = inn L S := inn_congr fun y hy => by
  have : y ≠ x := fun e => h (e ▸ hy)
  simp [this]
theorem mem_app_out {y x : Int} {S : List Int} (h : y ≠ x) : y ∈ S ↔ y ∈ S ++ [x] := by simp [h]
theorem enO_left {L S : List Int} (hp : 0 < L.length) : enO L S = (((leftN L S : Nat) : Int) == 0) := by
  unfold enO leftN
  rw [Bool.eq_iff_iff, decide_eq_true_eq, beq_iff_eq]
  omega
theorem adds_walk (A1 A2 : Option Addr) (L a : List Int) (n1 n2 c1 c2 : Nat) (hl : n1 ≤ 17592186044416) (hn1 : n1 = L.length) (hn2 : n2 = a.length) (hw : WfI L) (w : World) (h1 : Row w w.heap.size A1 (L.map iV)) (h2 : Row w w.heap.size A2 (a.map iV)) :
    Calls Try.prog 9 #[.slice A1 n1 c1, .slice A2 n2 c2] w (IsTr w) := by
  have HR2 := Lib.hid fun W (hb : Below w.heap.size w W) => (h2.below hb).more hb.size
  have HN1 := Lib.hid hn1
  have HN2 := Lib.hid hn2
  have HW := Lib.hid hw
  have HB0 := Lib.hid (Below.refl w.heap.size w)
  by_cases bad : L.length = 0 ∨ ¬ L.Nodup
  · have HNB := Lib.hid (new_bad n1 c1 A1 L hn1 hl hw bad w h1)
    clear h1 h2 hn1 hn2 hw bad
    go_enter Try.func9, Try.ntmps9
    go_wp2_with fail
    refine (HNB.out).mono ?_
    rintro e1 w1 ⟨rfl, hb1⟩
    have HB1 := Lib.hid (HB0.out.trans (hb1.mono HB0.out.size))
    clear  hb1
    by_cases b1 : (40 : Int) < (n1 : Int)
    · skip
      skip
      go_wp2_with (go_at_call 10; refine (known10_any _).mono ?_; rintro e2 w2 ⟨rfl, hb2⟩)
      go_ret
      exact ⟨rfl, HB1.out.trans (hb2.mono HB1.out.size)⟩
    · by_cases b2 : (60 : Int) < (n2 : Int)
      · skip
        skip
        go_wp2_with (go_at_call 10; refine (known10_any _).mono ?_; rintro e2 w2 ⟨rfl, hb2⟩)
        go_ret
        exact ⟨rfl, HB1.out.trans (hb2.mono HB1.out.size)⟩
      · skip
        skip
        go_wp2_with (go_at_call 10; refine (known10_any _).mono ?_; rintro e2 w2 ⟨rfl, hb2⟩)
        go_ret
        exact ⟨rfl, HB1.out.trans (hb2.mono HB1.out.size)⟩
  · have hnd : L.Nodup := Classical.byContradiction fun h => bad (Or.inr h)
    have hp : 0 < L.length := by omega
    have HNO := Lib.hid (new_ok n1 c1 A1 L hn1 hl hw (by omega) hnd w h1)
    have HND := Lib.hid hnd
    have HP := Lib.hid hp
    clear h1 h2 hn1 hn2 hw bad hnd hp
    go_enter Try.func9, Try.ntmps9
    go_wp2_with fail
    refine (HNO.out).mono ?_
    rintro e1 w1 ⟨g, rfl, hct, hb1⟩
    have HB1 := Lib.hid (HB0.out.trans (hb1.mono HB0.out.size))
    have HCT := Lib.hid hct
    clear  hb1 hct
    by_cases b1 : (40 : Int) < (n1 : Int)
    · skip
      skip
      go_wp2_with (go_at_call 10; refine (known10_any _).mono ?_; rintro e2 w2 ⟨rfl, hb2⟩)
      go_ret
      exact ⟨rfl, HB1.out.trans (hb2.mono HB1.out.size)⟩
    · by_cases b2 : (60 : Int) < (n2 : Int)
      · skip
        skip
        go_wp2_with (go_at_call 10; refine (known10_any _).mono ?_; rintro e2 w2 ⟨rfl, hb2⟩)
        go_ret
        exact ⟨rfl, HB1.out.trans (hb2.mono HB1.out.size)⟩
      · have HL1 : Hid (L.length ≤ 40) := Lib.hid (by have := HN1.out; omega)
        have HL2 : Hid (n2 ≤ 60) := Lib.hid (by omega)
        have hn60 : (n2 : Int) ≤ 60 := by omega
        have hn40 : (n1 : Int) ≤ 40 := by omega
        have HDN := Lib.hid fun W S (h : CtB W w.heap.size g L S) => done_any w.heap.size g L S (by have := HL1.out; omega) HND.out HW.out W h
        have HGT := Lib.hid fun W S (h : CtB W w.heap.size g L S) => got_any w.heap.size g L S (by have := HL1.out; omega) W h
        have HC0 : Hid (CtB w1 w.heap.size g L (a.take 0)) := Lib.hid HCT.out
        go_wp2
        go_loopw [7] (fun i wr => ∃ q : Nat, q ≤ n2 ∧ i = .int .i64 q ∧ Hid (CtB wr w.heap.size g L (a.take q)) ∧ Hid (Below w.heap.size w wr)) (fun i _ => n2 - (intOf i).toNat)
        case atStart => exact ⟨0, by omega, rfl, HC0, HB1⟩
        case round =>
          obtain ⟨q, hq, rfl, HC, HB⟩ := hrel
          by_cases hlt : q < n2
          · have hql : q < a.length := by have := HN2.out; omega
            obtain ⟨bb, o, hA, hbw, hc⟩ := int_cell (HR2.out _ (Below.refl _ _)) (by omega)
            have hA2 := hA
            subst hA2
            have HD0 : Hid (∀ W, Below w.heap.size w W → W.cell? ⟨bb, o + q, none⟩ = some (.int .i64 a[q])) := Lib.hid fun W hb => (hb.cell (p := ⟨bb, o + q, none⟩) hbw).trans (hc q hql)
            have htk : a.take (q + 1) = a.take q ++ [a[q]] := List.take_succ_eq_append_getElem hql
            obtain ⟨x, hx⟩ : ∃ x, a[q] = x := ⟨_, rfl⟩
            rw [hx] at HD0 htk
            have HTK := Lib.hid htk
            obtain ⟨S, hS⟩ : ∃ S, a.take q = S := ⟨_, rfl⟩
            have HSE := Lib.hid hS
            rw [hS] at HC htk
            have hmono : enO L S = true → enO L (S ++ [x]) = true := enO_mono fun y hy => List.mem_append_left _ hy
            have hmore := inn_more L S x HND.out
            have hout := inn_out L S x
            have hz1l := inn_le L S
            have hz2l := inn_le L (S ++ [x])
            obtain ⟨u1, hu1⟩ : ∃ u, enO L S = u := ⟨_, rfl⟩
            obtain ⟨u2, hu2⟩ : ∃ u, enO L (S ++ [x]) = u := ⟨_, rfl⟩
            have HDN1 := Lib.hid fun W h => HDN.out W S h
            have HDN2 := Lib.hid fun W h => HDN.out W (S ++ [x]) h
            rw [hu1] at HDN1 hmono
            rw [hu2] at HDN2 hmono
            obtain ⟨z1, hz1⟩ : ∃ z, (inn L S).length = z := ⟨_, rfl⟩
            obtain ⟨z2, hz2⟩ : ∃ z, (inn L (S ++ [x])).length = z := ⟨_, rfl⟩
            have HZ1 := Lib.hid hz1
            have HZ2 := Lib.hid hz2
            rw [hz1] at hmore hz1l
            rw [hz2] at hmore hz2l
            have hz40 : (z1 : Int) ≤ 40 ∧ (z2 : Int) ≤ 40 := by have := HL1.out; omega
            obtain ⟨hz41, hz42⟩ := hz40
            have g1 : ((z2 : Int) != (z2 : Int)) = false := by simp
            have g2 : decide ((z2 : Int) < (z1 : Int)) = false := by simp; omega
            have g2' : decide (z2 < z1) = false := by simp; omega
            have g3 : decide ((z1 : Int) + 1 < (z2 : Int)) = false := by simp; omega
            have hq0 : (0 : Int) ≤ (q : Int) := by omega
            have hq1 : (q : Int) < (n2 : Int) := by omega
            have HMONO := Lib.hid hmono
            have HOUT : Hid (x ∉ L → z2 = z1) := Lib.hid fun h => by rw [← hz1, ← hz2, hout h]
            clear hc hx htk hS hu1 hu2 hz1 hz2 hmore hz1l hz2l hmono hout
            by_cases hx : x ∈ L
            · rcases u1 with _ | _
              · skip
                clear HOUT
                have d0 := HD0.out wr HB.out
                go_wp2_with fail
                refine (HDN1.out wr HC.out).mono ?_
                rintro e2 w2 ⟨rfl, hb2⟩
                have HB2 := Lib.hid (HB.out.trans (hb2.mono HB.out.size))
                replace HC := Lib.hid (HC.out.below hb2)
                clear d0 hb2
                have d0 := HD0.out w2 HB2.out
                go_wp2_with fail
                refine (HGT.out w2 S HC.out).mono ?_
                rintro e3 w3 ⟨A3, k3, rfl, _, hb3⟩
                have HB3 := Lib.hid (HB2.out.trans (hb3.mono HB2.out.size))
                replace HC := Lib.hid (HC.out.below hb3)
                clear d0 hb3
                have d0 := HD0.out w3 HB3.out
                rw [HZ1.out]
                go_wp2_with fail
                refine (add_some w.heap.size g L _ x hx (by have := HL1.out; omega) HND.out w3 HC.out).mono ?_
                rintro e4 w4 ⟨rfl, hct4, hb4⟩
                have HB4 := Lib.hid (HB3.out.trans hb4)
                replace HC := Lib.hid hct4
                clear hct4 hb4 d0
                have d0 := HD0.out w4 HB4.out
                go_wp2_with fail
                refine (HGT.out w4 (S ++ [x]) HC.out).mono ?_
                rintro e5 w5 ⟨A5, k5, rfl, _, hb5⟩
                have HB5 := Lib.hid (HB4.out.trans (hb5.mono HB4.out.size))
                replace HC := Lib.hid (HC.out.below hb5)
                clear d0 hb5
                have d0 := HD0.out w5 HB5.out
                rw [HZ2.out]
                go_wp2_with fail
                refine (add_some w.heap.size g L _ x hx (by have := HL1.out; omega) HND.out w5 HC.out).mono ?_
                rintro e6 w6 ⟨rfl, hct6, hb6⟩
                have HB6 := Lib.hid (HB5.out.trans hb6)
                replace HC := Lib.hid hct6
                clear hct6 hb6 d0
                have d0 := HD0.out w6 HB6.out
                replace HC := Lib.hid (HC.out.congr (S' := S ++ [x]) fun y hy => by simp)
                go_wp2_with fail
                refine (HGT.out w6 (S ++ [x]) HC.out).mono ?_
                rintro e7 w7 ⟨A7, k7, rfl, _, hb7⟩
                have HB7 := Lib.hid (HB6.out.trans (hb7.mono HB6.out.size))
                replace HC := Lib.hid (HC.out.below hb7)
                clear d0 hb7
                have d0 := HD0.out w7 HB7.out
                rw [HZ2.out]
                have HCR : Hid (CtB w7 w.heap.size g L (a.take (q + 1))) := Lib.hid (by rw [HTK.out, HSE.out]; exact HC.out)
                clear d0
                go_wp2
                go_roundw
                case rel => exact ⟨q + 1, by omega, by go_num, HCR, HB7⟩
                case measure => simp [intOf]; omega
              · skip
                obtain rfl : u2 = true := HMONO.out rfl
                clear HOUT
                have d0 := HD0.out wr HB.out
                go_wp2_with fail
                refine (HDN1.out wr HC.out).mono ?_
                rintro e2 w2 ⟨rfl, hb2⟩
                have HB2 := Lib.hid (HB.out.trans (hb2.mono HB.out.size))
                replace HC := Lib.hid (HC.out.below hb2)
                clear d0 hb2
                have d0 := HD0.out w2 HB2.out
                go_wp2_with fail
                refine (HGT.out w2 S HC.out).mono ?_
                rintro e3 w3 ⟨A3, k3, rfl, _, hb3⟩
                have HB3 := Lib.hid (HB2.out.trans (hb3.mono HB2.out.size))
                replace HC := Lib.hid (HC.out.below hb3)
                clear d0 hb3
                have d0 := HD0.out w3 HB3.out
                rw [HZ1.out]
                go_wp2_with fail
                refine (add_some w.heap.size g L _ x hx (by have := HL1.out; omega) HND.out w3 HC.out).mono ?_
                rintro e4 w4 ⟨rfl, hct4, hb4⟩
                have HB4 := Lib.hid (HB3.out.trans hb4)
                replace HC := Lib.hid hct4
                clear hct4 hb4 d0
                have d0 := HD0.out w4 HB4.out
                go_wp2_with fail
                refine (HGT.out w4 (S ++ [x]) HC.out).mono ?_
                rintro e5 w5 ⟨A5, k5, rfl, _, hb5⟩
                have HB5 := Lib.hid (HB4.out.trans (hb5.mono HB4.out.size))
                replace HC := Lib.hid (HC.out.below hb5)
                clear d0 hb5
                have d0 := HD0.out w5 HB5.out
                rw [HZ2.out]
                go_wp2_with fail
                refine (add_some w.heap.size g L _ x hx (by have := HL1.out; omega) HND.out w5 HC.out).mono ?_
                rintro e6 w6 ⟨rfl, hct6, hb6⟩
                have HB6 := Lib.hid (HB5.out.trans hb6)
                replace HC := Lib.hid hct6
                clear hct6 hb6 d0
                have d0 := HD0.out w6 HB6.out
                replace HC := Lib.hid (HC.out.congr (S' := S ++ [x]) fun y hy => by simp)
                go_wp2_with fail
                refine (HDN2.out w6 HC.out).mono ?_
                rintro e7 w7 ⟨rfl, hb7⟩
                have HB7 := Lib.hid (HB6.out.trans (hb7.mono HB6.out.size))
                replace HC := Lib.hid (HC.out.below hb7)
                clear d0 hb7
                have d0 := HD0.out w7 HB7.out
                go_wp2_with fail
                refine (HGT.out w7 (S ++ [x]) HC.out).mono ?_
                rintro e8 w8 ⟨A8, k8, rfl, _, hb8⟩
                have HB8 := Lib.hid (HB7.out.trans (hb8.mono HB7.out.size))
                replace HC := Lib.hid (HC.out.below hb8)
                clear d0 hb8
                have d0 := HD0.out w8 HB8.out
                rw [HZ2.out]
                have HCR : Hid (CtB w8 w.heap.size g L (a.take (q + 1))) := Lib.hid (by rw [HTK.out, HSE.out]; exact HC.out)
                clear d0
                go_wp2
                go_roundw
                case rel => exact ⟨q + 1, by omega, by go_num, HCR, HB8⟩
                case measure => simp [intOf]; omega
            · rcases u1 with _ | _
              · skip
                have hzz := HOUT.out hx
                subst hzz
                have d0 := HD0.out wr HB.out
                go_wp2_with fail
                refine (HDN1.out wr HC.out).mono ?_
                rintro e2 w2 ⟨rfl, hb2⟩
                have HB2 := Lib.hid (HB.out.trans (hb2.mono HB.out.size))
                replace HC := Lib.hid (HC.out.below hb2)
                clear d0 hb2
                have d0 := HD0.out w2 HB2.out
                go_wp2_with fail
                refine (HGT.out w2 S HC.out).mono ?_
                rintro e3 w3 ⟨A3, k3, rfl, _, hb3⟩
                have HB3 := Lib.hid (HB2.out.trans (hb3.mono HB2.out.size))
                replace HC := Lib.hid (HC.out.below hb3)
                clear d0 hb3
                have d0 := HD0.out w3 HB3.out
                rw [HZ1.out]
                go_wp2_with fail
                refine (add_none w.heap.size g L _ x hx (by have := HL1.out; omega) w3 HC.out).mono ?_
                rintro e4 w4 ⟨rfl, hw4⟩
                have HB4 : Hid (Below w.heap.size w w4) := Lib.hid (by rw [← hw4]; exact HB3.out)
                replace HC : Hid (CtB w4 w.heap.size g L (S ++ [x])) := Lib.hid (by rw [← hw4]; first | exact HC.out | exact HC.out.congr fun y hy => mem_app_out (fun e => hx (e ▸ hy)))
                clear hw4 d0
                have d0 := HD0.out w4 HB4.out
                go_wp2_with fail
                refine (HGT.out w4 (S ++ [x]) HC.out).mono ?_
                rintro e5 w5 ⟨A5, k5, rfl, _, hb5⟩
                have HB5 := Lib.hid (HB4.out.trans (hb5.mono HB4.out.size))
                replace HC := Lib.hid (HC.out.below hb5)
                clear d0 hb5
                have d0 := HD0.out w5 HB5.out
                rw [HZ2.out]
                go_wp2_with fail
                refine (add_none w.heap.size g L _ x hx (by have := HL1.out; omega) w5 HC.out).mono ?_
                rintro e6 w6 ⟨rfl, hw6⟩
                have HB6 : Hid (Below w.heap.size w w6) := Lib.hid (by rw [← hw6]; exact HB5.out)
                replace HC : Hid (CtB w6 w.heap.size g L (S ++ [x])) := Lib.hid (by rw [← hw6]; first | exact HC.out | exact HC.out.congr fun y hy => mem_app_out (fun e => hx (e ▸ hy)))
                clear hw6 d0
                have d0 := HD0.out w6 HB6.out
                go_wp2_with fail
                refine (HGT.out w6 (S ++ [x]) HC.out).mono ?_
                rintro e7 w7 ⟨A7, k7, rfl, _, hb7⟩
                have HB7 := Lib.hid (HB6.out.trans (hb7.mono HB6.out.size))
                replace HC := Lib.hid (HC.out.below hb7)
                clear d0 hb7
                have d0 := HD0.out w7 HB7.out
                rw [HZ2.out]
                have HCR : Hid (CtB w7 w.heap.size g L (a.take (q + 1))) := Lib.hid (by rw [HTK.out, HSE.out]; exact HC.out)
                clear d0
                go_wp2
                go_roundw
                case rel => exact ⟨q + 1, by omega, by go_num, HCR, HB7⟩
                case measure => simp [intOf]; omega
              · skip
                obtain rfl : u2 = true := HMONO.out rfl
                have hzz := HOUT.out hx
                subst hzz
                have d0 := HD0.out wr HB.out
                go_wp2_with fail
                refine (HDN1.out wr HC.out).mono ?_
                rintro e2 w2 ⟨rfl, hb2⟩
                have HB2 := Lib.hid (HB.out.trans (hb2.mono HB.out.size))
                replace HC := Lib.hid (HC.out.below hb2)
                clear d0 hb2
                have d0 := HD0.out w2 HB2.out
                go_wp2_with fail
                refine (HGT.out w2 S HC.out).mono ?_
                rintro e3 w3 ⟨A3, k3, rfl, _, hb3⟩
                have HB3 := Lib.hid (HB2.out.trans (hb3.mono HB2.out.size))
                replace HC := Lib.hid (HC.out.below hb3)
                clear d0 hb3
                have d0 := HD0.out w3 HB3.out
                rw [HZ1.out]
                go_wp2_with fail
                refine (add_none w.heap.size g L _ x hx (by have := HL1.out; omega) w3 HC.out).mono ?_
                rintro e4 w4 ⟨rfl, hw4⟩
                have HB4 : Hid (Below w.heap.size w w4) := Lib.hid (by rw [← hw4]; exact HB3.out)
                replace HC : Hid (CtB w4 w.heap.size g L (S ++ [x])) := Lib.hid (by rw [← hw4]; first | exact HC.out | exact HC.out.congr fun y hy => mem_app_out (fun e => hx (e ▸ hy)))
                clear hw4 d0
                have d0 := HD0.out w4 HB4.out
                go_wp2_with fail
                refine (HGT.out w4 (S ++ [x]) HC.out).mono ?_
                rintro e5 w5 ⟨A5, k5, rfl, _, hb5⟩
                have HB5 := Lib.hid (HB4.out.trans (hb5.mono HB4.out.size))
                replace HC := Lib.hid (HC.out.below hb5)
                clear d0 hb5
                have d0 := HD0.out w5 HB5.out
                rw [HZ2.out]
                go_wp2_with fail
                refine (add_none w.heap.size g L _ x hx (by have := HL1.out; omega) w5 HC.out).mono ?_
                rintro e6 w6 ⟨rfl, hw6⟩
                have HB6 : Hid (Below w.heap.size w w6) := Lib.hid (by rw [← hw6]; exact HB5.out)
                replace HC : Hid (CtB w6 w.heap.size g L (S ++ [x])) := Lib.hid (by rw [← hw6]; first | exact HC.out | exact HC.out.congr fun y hy => mem_app_out (fun e => hx (e ▸ hy)))
                clear hw6 d0
                have d0 := HD0.out w6 HB6.out
                go_wp2_with fail
                refine (HDN2.out w6 HC.out).mono ?_
                rintro e7 w7 ⟨rfl, hb7⟩
                have HB7 := Lib.hid (HB6.out.trans (hb7.mono HB6.out.size))
                replace HC := Lib.hid (HC.out.below hb7)
                clear d0 hb7
                have d0 := HD0.out w7 HB7.out
                go_wp2_with fail
                refine (HGT.out w7 (S ++ [x]) HC.out).mono ?_
                rintro e8 w8 ⟨A8, k8, rfl, _, hb8⟩
                have HB8 := Lib.hid (HB7.out.trans (hb8.mono HB7.out.size))
                replace HC := Lib.hid (HC.out.below hb8)
                clear d0 hb8
                have d0 := HD0.out w8 HB8.out
                rw [HZ2.out]
                have HCR : Hid (CtB w8 w.heap.size g L (a.take (q + 1))) := Lib.hid (by rw [HTK.out, HSE.out]; exact HC.out)
                clear d0
                go_wp2
                go_roundw
                case rel => exact ⟨q + 1, by omega, by go_num, HCR, HB8⟩
                case measure => simp [intOf]; omega
          · have hq1 : ¬ (q : Int) < (n2 : Int) := by omega
            have hzl := inn_le L (a.take q)
            have HGT2 := Lib.hid (HGT.out wr (a.take q) HC.out)
            obtain ⟨z, hz⟩ : ∃ z, (inn L (a.take q)).length = z := ⟨_, rfl⟩
            have HZ := Lib.hid hz
            rw [hz] at hzl
            have hzn : (z : Int) ≤ (n1 : Int) := by have := HN1.out; omega
            have g0 : decide ((z : Int) ≤ (n1 : Int)) = true := by simp; omega
            have g0' : decide (z ≤ n1) = true := by simp; omega
            clear hz hzl
            go_wp2_with fail
            refine (HGT2.out).mono ?_
            rintro e2 w2 ⟨A2, k2, rfl, _, hb2⟩
            have HB2 := Lib.hid (HB.out.trans (hb2.mono HB.out.size))
            clear  hb2
            rw [HZ.out]
            go_wp2_with (go_at_call 10; refine (known10_any _).mono ?_; rintro e3 w3 ⟨rfl, hb3⟩)
            go_ret
            exact ⟨rfl, HB2.out.trans (hb3.mono HB2.out.size)⟩
end Go.Proofs.Ytafajikjojpaaaa
