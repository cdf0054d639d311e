/- PackBack returns true, whatever the input; nothing that was there is changed. -/
import Derived.Test.YteppidabimmdpaaAllLaw
import Derived.Test.YteppidabimmdpaaOpen
namespace Go.Proofs.Yteppidabimmdpaa
open Go.RowKit Mem Be
set_option maxRecDepth 100000
set_option maxHeartbeats 4000000
def numsB (l : List Int) : List UInt8 := l.flatMap numB
def rowsB (l : List (List UInt8)) : List UInt8 := l.flatMap rowB
theorem numsB_len (l : List Int) : (numsB l).length ≤ 9 * l.length := by
  induction l with
  | nil => simp [numsB]
  | cons x l ih =>
    have := numB_le x
    unfold numsB at ih ⊢
    rw [List.flatMap_cons, List.length_append, List.length_cons]
    omega
theorem numsB_step {l : List Int} {k : Nat} (h : k < l.length) : (numsB (l.take k)).map byteV ++ (numB l[k]).map byteV = (numsB (l.take (k + 1))).map byteV := by
  rw [List.take_succ_eq_append_getElem h]
  unfold numsB
  rw [List.flatMap_append, List.map_append]
  simp
theorem rowB_len (x : List UInt8) (h : x.length ≤ 500) : (rowB x).length ≤ 509 := by
  have := numB_le (x.length : Int)
  unfold rowB
  rw [List.length_append]; omega
theorem rowsB_len (l : List (List UInt8)) (h : ∀ x ∈ l, x.length ≤ 500) : (rowsB l).length ≤ 509 * l.length := by
  induction l with
  | nil => simp [rowsB]
  | cons x l ih =>
    have := rowB_len x (h x (by simp))
    have := ih (fun y hy => h y (by simp [hy]))
    unfold rowsB at this ⊢
    rw [List.flatMap_cons, List.length_append, List.length_cons]
    omega
theorem rowsB_step {l : List (List UInt8)} {k : Nat} (h : k < l.length) : (rowsB (l.take k)).map byteV ++ (rowB l[k]).map byteV = (rowsB (l.take (k + 1))).map byteV := by
  rw [List.take_succ_eq_append_getElem h]
  unfold rowsB
  rw [List.flatMap_append, List.map_append]
  simp
theorem nums_back (l : List Int) (h : ∀ x ∈ l, In64 x) : allA getN (numsB l) = (l, 0) :=
  all_laid good_num numB In64 (fun x more hx => getN_num x hx more) (fun x e => by have := numB_pos x; rw [e] at this; simp at this) l h
theorem rowB_pos (x : List UInt8) : rowB x ≠ [] := fun e => by
  have h1 := numB_pos (x.length : Int)
  have h2 : (rowB x).length = 0 := by rw [e]; rfl
  unfold rowB at h2
  rw [List.length_append] at h2
  omega
theorem rows_back (l : List (List UInt8)) (h : ∀ x ∈ l, x.length ≤ 500) : allA getR (rowsB l) = (l, 0) :=
  all_laid good_row rowB (fun x => x.length ≤ 500) (fun x more hx => getR_row x more (by omega)) rowB_pos l h
theorem nums_cut (l : List Int) (h : ∀ x ∈ l, In64 x) (q : Nat) (hq : q < (numsB l).length) : (allA getN ((numsB l).take q)).2 = 12 ∨ ((allA getN ((numsB l).take q)).2 = 0 ∧ (allA getN ((numsB l).take q)).1.length < l.length) :=
  all_cut good_num numB In64 (fun x more hx => getN_num x hx more) (fun x k _ h0 h1 => num_cut x k h0 h1) (fun x e => by have := numB_pos x; rw [e] at this; simp at this) l q h hq
theorem nums_forth (bs : List UInt8) (h : (allA getN bs).2 = 0) : numsB (allA getN bs).1 = bs :=
  all_back good_num numB (fun bs he => by
    have := (getN_back bs (getN bs).1 (getN bs).2.1 (by rw [← he])).2.2
    exact this) _ bs (Nat.le_refl _) h
theorem back_walk (l : List Int) (hin : ∀ x ∈ l, In64 x) (A : Option Addr) (n c : Nat) (hn : n = l.length) (rs : List RowV) (A1 : Option Addr) (n1 c1 : Nat) (hn1 : n1 = rs.length) (A2 : Option Addr) (bs : List UInt8) (n2 c2 : Nat) (hn2 : n2 = bs.length) (d : Int) (hd0 : 0 ≤ d) (hd1 : d ≤ 65535)
    (w : World) (h : Row w w.heap.size A (l.map iV)) (h1 : Row w w.heap.size A1 (rs.map rowV)) (hrs : ∀ r ∈ rs, RowOk w w.heap.size r) (h2 : Row w w.heap.size A2 (bs.map byteV)) :
    Calls Try.prog 5 #[.slice A n c, .slice A1 n1 c1, .slice A2 n2 c2, .int .u16 d] w fun e w' => e = .returned (.bool true) ∧ Below w.heap.size w w' := by
  subst hn; subst hn1; subst hn2
  by_cases hbig : 100 < l.length ∨ 20 < rs.length ∨ 500 < bs.length
  · clear h h1 hrs h2 hin
    rcases hbig with hb | hb | hb
    · have hg : (100 : Int) < (l.length : Int) := by omega
      clear hb
      go_enter Try.func5, Try.ntmps5
      go_wp2_with (go_at_call 10; refine (known_any _).mono ?_; rintro e w' ⟨rfl, hb⟩; have HB := Lib.hid hb; clear hb)
      go_ret
      exact ⟨rfl, HB.out⟩
    · have hg : (20 : Int) < (rs.length : Int) := by omega
      clear hb
      by_cases hx : 100 < l.length
      all_goals
        have hx' := hx
        go_enter Try.func5, Try.ntmps5
        go_wp2_with (go_at_call 10; refine (known_any _).mono ?_; rintro e w' ⟨rfl, hb⟩; have HB := Lib.hid hb; clear hb)
        go_ret
        exact ⟨rfl, HB.out⟩
    · have hg : (500 : Int) < (bs.length : Int) := by omega
      clear hb
      by_cases hx : 100 < l.length <;> by_cases hy : 20 < rs.length
      all_goals
        go_enter Try.func5, Try.ntmps5
        go_wp2_with (go_at_call 10; refine (known_any _).mono ?_; rintro e w' ⟨rfl, hb⟩; have HB := Lib.hid hb; clear hb)
        go_ret
        exact ⟨rfl, HB.out⟩
  · obtain ⟨i0, hi0, hz0, hz1, hz2⟩ := info_parts info_b
    have g1 : (l.length : Int) ≤ 100 := by omega
    have g2 : (rs.length : Int) ≤ 20 := by omega
    have g3 : (bs.length : Int) ≤ 500 := by omega
    have HL : Hid (l.length ≤ 100 ∧ rs.length ≤ 20 ∧ bs.length ≤ 500) := Lib.hid ⟨by omega, by omega, by omega⟩
    have HR := Lib.hid h
    have HR1 := Lib.hid h1
    have HRS := Lib.hid hrs
    have HR2 := Lib.hid h2
    have HIN := Lib.hid hin
    clear h h1 hrs h2 hin hbig
    go_enter Try.func5, Try.ntmps5
    go_wp2_with fail
    go_loopw [9, 10] (fun v i wr => ∃ k : Nat, k ≤ l.length ∧ i = .int .i64 k ∧ Hid (wr.ownsRow w.heap.size 5 1 v (numsB (l.take k)).length ((numsB (l.take k)).map byteV)) ∧ Hid (Below w.heap.size w wr)) (fun _ i _ => l.length - (intOf i).toNat)
    case atStart => exact ⟨0, by omega, rfl, Lib.hid (World.ownsRow_nil _ _ _ _), Lib.hid (Below.refl _ _)⟩
    case round =>
      obtain ⟨k, hk, rfl, HO, HB⟩ := hrel
      by_cases hlt : k < l.length
      · obtain ⟨b, o, rfl, hbB, hc⟩ := HR.out.open_ (by simp; omega)
        have hcell := (HB.out.cell (p := ⟨b, o + k, none⟩) (by show b < w.heap.size; omega)).trans ((hc k (by simpa using hlt)).trans (congrArg some (List.getElem_map (f := iV) (h := by simpa using hlt))))
        unfold iV at hcell
        have HT := Lib.hid (numsB_step hlt)
        have HLN : Hid ((numsB (l.take k)).length + (numB l[k]).length ≤ 1000) := Lib.hid (by have h1 := numsB_len (l.take k); have := numB_le l[k]; rw [List.length_take] at h1; have := HL.out; omega)
        clear hc
        go_wp2_with fail
        refine (num_any _ _).mono ?_
        rintro e w1 ⟨A3, c3, rfl, ho, hb⟩
        have HB1 : Hid (Below w.heap.size w w1) := Lib.hid (HB.out.trans (hb.mono HB.out.size))
        have HO1 := Lib.hid (own_below HO.out hb)
        have HRN := Lib.hid (Row.of_own ho)
        clear ho hb
        go_wp2_with (at_builtin; refine wpList_app _ rfl _ _ 22 rfl w.heap.size 5 i0 (.int .u8 0) 1 Try.underlying22 hi0 hz0 hz1 hz2 rfl _ _ _ rfl HO1.out w1.heap.size _ (numB l[k]).length c3 ((numB l[k]).map byteV) rfl (by simp) HRN.out (byte_one _) (by have := HLN.out; unfold maxLen; omega) (by have := HLN.out; omega) HB1.out.size ?_)
        intro v' w2 hown hgr _
        have HB2 : Hid (Below w.heap.size w w2) := Lib.hid (HB1.out.grown hgr HB1.out.size (fun g hg => (HO1.out.lt g hg).1))
        rw [HT.out] at hown
        have HO2 : Hid (w2.ownsRow w.heap.size 5 1 v' (numsB (l.take (k + 1))).length ((numsB (l.take (k + 1))).map byteV)) := Lib.hid (by
          have : (numsB (l.take k)).length + (numB l[k]).length = (numsB (l.take (k + 1))).length := by have := hown.1; simp at this; omega
          rw [← this]; exact hown)
        clear hown hgr
        go_wp2
        go_roundw
        case rel => exact ⟨k + 1, by omega, by go_num, HO2, HB2⟩
        case measure => simp [intOf]; omega
      · obtain rfl : k = l.length := by omega
        rw [List.take_length] at HO
        obtain ⟨sA, sc, rfl, ho⟩ := own_of (numsB l) HO.out rfl
        have HSO := Lib.hid (own_cap ho)
        have HSR : Hid (Row wr wr.heap.size sA ((numsB l).map byteV)) := Lib.hid (Row.of_own ho)
        have HSL : Hid ((numsB l).length ≤ 900) := Lib.hid (by have := numsB_len l; have := HL.out; omega)
        clear ho HO hlt
        go_wp2_with fail
        obtain ⟨ws, hws⟩ : ∃ ws, wr = ws := ⟨_, rfl⟩
        rw [hws] at HB HSR ⊢
        clear hws
        obtain ⟨rb, hrb⟩ : ∃ rb, rs.map (fun x => x.2.1) = rb := ⟨_, rfl⟩
        have HRB := Lib.hid hrb
        have hrl : rb.length = rs.length := by rw [← hrb]; simp
        have HRL := Lib.hid hrl
        have hgk : ∀ k (hk : k < rb.length) (hk2 : k < rs.length), rb[k] = rs[k].2.1 := fun k hk hk2 => by subst hrb; rw [List.getElem_map]
        have HGK := Lib.hid hgk
        clear hrb hrl hgk
        go_loopw [11, 12] (fun v i wr => ∃ k : Nat, k ≤ rs.length ∧ i = .int .i64 k ∧ Hid (wr.ownsRow ws.heap.size 5 1 v (rowsB (rb.take k)).length ((rowsB (rb.take k)).map byteV)) ∧ Hid (Below ws.heap.size ws wr) ∧ Hid (∀ x ∈ rb.take k, x.length ≤ 500)) (fun _ i _ => rs.length - (intOf i).toNat)
        case atStart => exact ⟨0, by omega, rfl, Lib.hid (World.ownsRow_nil _ _ _ _), Lib.hid (Below.refl _ _), Lib.hid (by simp)⟩
        case round =>
          obtain ⟨k, hk, rfl, HO, HBS, H500⟩ := hrel
          have HBW : Hid (Below w.heap.size w wr) := Lib.hid (HB.out.trans (HBS.out.mono HB.out.size))
          by_cases hlt : k < rs.length
          · obtain ⟨b, o, rfl, hbB, hc⟩ := HR1.out.open_ (by simp; omega)
            have hcell := (HBW.out.cell (p := ⟨b, o + k, none⟩) (by show b < w.heap.size; omega)).trans ((hc k (by simpa using hlt)).trans (congrArg some (List.getElem_map (f := rowV) (h := by simpa using hlt))))
            have hok := HRS.out rs[k] (List.getElem_mem hlt)
            have hkr : k < rb.length := by rw [HRL.out]; exact hlt
            have hgk := HGK.out k hkr hlt
            obtain ⟨⟨yA, y, yc⟩, hy⟩ : ∃ y, rs[k] = y := ⟨_, rfl⟩
            rw [hy] at hcell hok hgk
            unfold rowV at hcell
            simp only at hcell hgk
            have HY := Lib.hid hok
            have HGY := Lib.hid hgk
            clear hc hok hy hgk
            by_cases h500 : 500 < y.length
            · have hg5 : (500 : Int) < (y.length : Int) := by omega
              clear h500
              go_wp2_with fail
              refine (known_any _).mono ?_
              rintro e w2 ⟨rfl, hb⟩
              have HB2 : Hid (Below w.heap.size w w2) := Lib.hid (HBW.out.trans (hb.mono HBW.out.size))
              clear hb
              go_wp2
              go_ret
              exact ⟨rfl, HB2.out⟩
            · have hg5 : (y.length : Int) ≤ 500 := by omega
              have HY5 : Hid (y.length ≤ 500) := Lib.hid (by omega)
              have HT : Hid ((rowsB (rb.take k)).map byteV ++ (rowB y).map byteV = (rowsB (rb.take (k + 1))).map byteV) := Lib.hid (by have := rowsB_step hkr; rw [HGY.out] at this; exact this)
              have HLN : Hid ((rowsB (rb.take k)).length + (rowB y).length ≤ 12000) := Lib.hid (by have h1 := rowsB_len (rb.take k) H500.out; have := rowB_len y HY5.out; rw [List.length_take] at h1; have := HL.out; omega)
              have H501 : Hid (∀ x ∈ rb.take (k + 1), x.length ≤ 500) := Lib.hid (by
                intro x hx
                rw [List.take_succ_eq_append_getElem hkr, HGY.out] at hx
                rcases List.mem_append.1 hx with hx | hx
                · exact H500.out x hx
                · simp only [List.mem_singleton] at hx; rw [hx]; exact HY5.out)
              clear h500
              go_wp2_with fail
              refine (row_any w.heap.size _ _ _ y rfl _ (HY.out.1.below HBW.out) HBW.out.size (by have := HY5.out; omega)).mono ?_
              rintro e w1 ⟨A3, c3, rfl, ho, hb⟩
              have HB1 : Hid (Below ws.heap.size ws w1) := Lib.hid (HBS.out.trans (hb.mono HBS.out.size))
              have HO1 := Lib.hid (own_below HO.out hb)
              have HRN := Lib.hid (Row.of_own ho)
              clear ho hb
              go_wp2_with (at_builtin; refine wpList_app _ rfl _ _ 22 rfl ws.heap.size 5 i0 (.int .u8 0) 1 Try.underlying22 hi0 hz0 hz1 hz2 rfl _ _ _ rfl HO1.out w1.heap.size _ (rowB y).length c3 ((rowB y).map byteV) rfl (by simp) HRN.out (byte_one _) (by have := HLN.out; unfold maxLen; omega) (by have := HLN.out; omega) HB1.out.size ?_)
              intro v' w2 hown hgr _
              have HB2 : Hid (Below ws.heap.size ws w2) := Lib.hid (HB1.out.grown hgr HB1.out.size (fun g hg => (HO1.out.lt g hg).1))
              rw [HT.out] at hown
              have HO2 : Hid (w2.ownsRow ws.heap.size 5 1 v' (rowsB (rb.take (k + 1))).length ((rowsB (rb.take (k + 1))).map byteV)) := Lib.hid (by
                have : (rowsB (rb.take k)).length + (rowB y).length = (rowsB (rb.take (k + 1))).length := by have := hown.1; simp at this; omega
                rw [← this]; exact hown)
              clear hown hgr
              go_wp2
              go_roundw
              case rel => exact ⟨k + 1, by omega, by go_num, HO2, HB2, H501⟩
              case measure => simp [intOf]; omega
          · obtain rfl : k = rs.length := by omega
            rw [← HRL.out, List.take_length] at HO H500
            obtain ⟨tA, tc, rfl, ho⟩ := own_of (rowsB rb) HO.out rfl
            have HTR : Hid (Row wr wr.heap.size tA ((rowsB rb).map byteV)) := Lib.hid (Row.of_own ho)
            have HTL : Hid ((rowsB rb).length ≤ 12000) := Lib.hid (by have := rowsB_len rb H500.out; have := HL.out; have := HRL.out; omega)
            have HSR2 : Hid (Row wr ws.heap.size sA ((numsB l).map byteV)) := Lib.hid (HSR.out.below HBS.out)
            clear ho HO hlt
            have HNB : Hid (allA getN (numsB l) = (l, 0)) := Lib.hid (nums_back l HIN.out)
            have HRW : Hid (allA getR (rowsB rb) = (rb, 0)) := Lib.hid (rows_back rb H500.out)
            obtain ⟨z, hz⟩ : ∃ z, allA getN bs = z := ⟨_, rfl⟩
            have HZL : Hid (z.1.length ≤ 500) := Lib.hid (by rw [← hz]; have := all_len good_num _ bs (Nat.le_refl _); have := HL.out; omega)
            have hzl : (z.1.length : Int) ≤ 500 := by have := HZL.out; omega
            have HZF : Hid (z.2 = 0 → numsB z.1 = bs) := Lib.hid (by rw [← hz]; exact nums_forth bs)
            have HZ := Lib.hid hz
            have hs9 : ((numsB l).length : Int) ≤ 900 := by have := HSL.out; omega
            clear hz
            go_wp2_with fail
            refine (nums_any _ sc _ sA (numsB l) rfl _ HSR2.out HBS.out.size (by have := HSL.out; omega)).mono ?_
            rw [HNB.out]
            rintro e w3 ⟨A3, c3, rfl, ho, hb⟩
            have HB3 : Hid (Below ws.heap.size ws w3) := Lib.hid (HBS.out.trans (hb.mono HBS.out.size))
            have HR3 : Hid (Row w3 w3.heap.size A3 (l.map iV)) := Lib.hid (Row.of_own ho)
            have HTR3 := Lib.hid (HTR.out.below hb)
            have HS3 := Lib.hid hb.size
            clear ho hb
            go_wp2_with fail
            refine (rows_any _ tc _ tA (rowsB rb) rfl _ HTR3.out HS3.out (by have := HTL.out; omega)).mono ?_
            rw [HRW.out]
            rintro e w4 ⟨A4, c4, rs4, rfl, hm4, ho, hb, hx4⟩
            have HB4 : Hid (Below ws.heap.size ws w4) := Lib.hid (HB3.out.trans (hb.mono HB3.out.size))
            have HBW4 : Hid (Below w.heap.size w w4) := Lib.hid (HB.out.trans (HB4.out.mono HB.out.size))
            have HR3b := Lib.hid (HR3.out.below hb)
            have HR4 := Lib.hid (Row.of_own ho)
            have HM4 : Hid (rs4.map (fun x => x.2.1) = rb) := Lib.hid hm4
            have HX4 : Hid (∀ x ∈ rs4, ∃ B, Row w4 B x.1 (x.2.1.map byteV)) := Lib.hid (fun x hx => ⟨_, hx4 x hx⟩)
            clear ho hb hm4 hx4
            go_wp2_with fail
            refine (sameints_true _ _ _ _ _ _ _ _ l _ HR3b.out (HR.out.below HBW4.out) rfl rfl (by have := HL.out; omega)).mono ?_
            rintro e w5 ⟨rfl, hq⟩
            have HQ := Lib.hid hq
            have HB5 : Hid (Below ws.heap.size ws w5) := Lib.hid (HB4.out.trans (quiet_below hq))
            have HBW5 : Hid (Below w.heap.size w w5) := Lib.hid (HBW4.out.trans (quiet_below hq))
            clear hq
            go_wp2_with fail
            refine (samelists_true _ _ _ _ _ _ _ _ rs4 rs _ (quiet_row HR4.out HQ.out) (HR1.out.below HBW5.out) (by rw [HM4.out, HRB.out]) (fun x hx => by obtain ⟨B, h⟩ := HX4.out x hx; exact ⟨B, quiet_row h HQ.out⟩) (fun x hx => ⟨_, (HRS.out x hx).1.below HBW5.out⟩) rfl rfl (by have h1 := HL.out; have h2 := congrArg List.length HM4.out; have h3 := HRL.out; simp at h2; omega)).mono ?_
            rintro e w6 ⟨rfl, hq⟩
            have HB6 : Hid (Below ws.heap.size ws w6) := Lib.hid (HB5.out.trans (quiet_below hq))
            have HBW6 : Hid (Below w.heap.size w w6) := Lib.hid (HBW5.out.trans (quiet_below hq))
            clear hq
            obtain ⟨q, hq⟩ : ∃ q : Nat, q = (d % ((numsB l).length : Int)).toNat := ⟨_, rfl⟩
            obtain ⟨cq, hcq⟩ : ∃ cq, (numsB l).take q = cq := ⟨_, rfl⟩
            obtain ⟨zl, ze, hrz⟩ : ∃ zl ze, allA getN cq = (zl, ze) := ⟨_, _, rfl⟩
            have HRZ := Lib.hid hrz
            clear hrz
            rcases (show (numsB l).length = 0 ∨ 0 < (numsB l).length by omega) with hs0 | hs0
            · have hsz : ((numsB l).length : Int) ≤ 0 := by omega
              have HBT := HBW6
              clear hs0 hq hcq
              go_wp2_with fail
              refine (nums_any _ c2 _ A2 bs rfl _ (HR2.out.below HBT.out) HBT.out.size (by have := HL.out; omega)).mono ?_
              rw [HZ.out]
              rintro e w8 ⟨A8, c8, rfl, ho, hb⟩
              have HB8 : Hid (Below w.heap.size w w8) := Lib.hid (HBT.out.trans (hb.mono HBT.out.size))
              have HR8 : Hid (Row w8 w8.heap.size A8 (z.1.map iV)) := Lib.hid (Row.of_own ho)
              clear ho hb
              go_wp2_with fail
              go_loopw [23, 24] (fun v i wr => ∃ k : Nat, k ≤ z.1.length ∧ i = .int .i64 k ∧ Hid (wr.ownsRow w8.heap.size 5 1 v (numsB (z.1.take k)).length ((numsB (z.1.take k)).map byteV)) ∧ Hid (Below w8.heap.size w8 wr)) (fun _ i _ => z.1.length - (intOf i).toNat)
              case atStart => exact ⟨0, by omega, rfl, Lib.hid (World.ownsRow_nil _ _ _ _), Lib.hid (Below.refl _ _)⟩
              case round =>
                obtain ⟨k, hk, rfl, HO, HBS9⟩ := hrel
                by_cases hlt : k < z.1.length
                · obtain ⟨b, o, rfl, hbB, hc⟩ := HR8.out.open_ (by simp; omega)
                  have hcell := (HBS9.out.cell (p := ⟨b, o + k, none⟩) hbB).trans ((hc k (by simpa using hlt)).trans (congrArg some (List.getElem_map (f := iV) (h := by simpa using hlt))))
                  unfold iV at hcell
                  have HT := Lib.hid (numsB_step hlt)
                  have HLN : Hid ((numsB (z.1.take k)).length + (numB z.1[k]).length ≤ 5000) := Lib.hid (by have h1 := numsB_len (z.1.take k); have := numB_le z.1[k]; rw [List.length_take] at h1; have := HZL.out; omega)
                  clear hc
                  go_wp2_with fail
                  refine (num_any _ _).mono ?_
                  rintro e w9 ⟨A9, c9, rfl, ho, hb⟩
                  have HB9 : Hid (Below w8.heap.size w8 w9) := Lib.hid (HBS9.out.trans (hb.mono HBS9.out.size))
                  have HO9 := Lib.hid (own_below HO.out hb)
                  have HRN := Lib.hid (Row.of_own ho)
                  clear ho hb
                  go_wp2_with (at_builtin; refine wpList_app _ rfl _ _ 22 rfl w8.heap.size 5 i0 (.int .u8 0) 1 Try.underlying22 hi0 hz0 hz1 hz2 rfl _ _ _ rfl HO9.out w9.heap.size _ (numB z.1[k]).length c9 ((numB z.1[k]).map byteV) rfl (by simp) HRN.out (byte_one _) (by have := HLN.out; unfold maxLen; omega) (by have := HLN.out; omega) HB9.out.size ?_)
                  intro v' w10 hown hgr _
                  have HB10 : Hid (Below w8.heap.size w8 w10) := Lib.hid (HB9.out.grown hgr HB9.out.size (fun g hg => (HO9.out.lt g hg).1))
                  rw [HT.out] at hown
                  have HO10 : Hid (w10.ownsRow w8.heap.size 5 1 v' (numsB (z.1.take (k + 1))).length ((numsB (z.1.take (k + 1))).map byteV)) := Lib.hid (by
                    have : (numsB (z.1.take k)).length + (numB z.1[k]).length = (numsB (z.1.take (k + 1))).length := by have := hown.1; simp at this; omega
                    rw [← this]; exact hown)
                  clear hown hgr
                  go_wp2
                  go_roundw
                  case rel => exact ⟨k + 1, by omega, by go_num, HO10, HB10⟩
                  case measure => simp [intOf]; omega
                · obtain rfl : k = z.1.length := by omega
                  rw [List.take_length] at HO
                  obtain ⟨tA2, tc2, rfl, ho⟩ := own_of (numsB z.1) HO.out rfl
                  have HTR2 : Hid (Row wr wr.heap.size tA2 ((numsB z.1).map byteV)) := Lib.hid (Row.of_own ho)
                  have HB9 : Hid (Below w.heap.size w wr) := Lib.hid (HB8.out.trans (HBS9.out.mono HB8.out.size))
                  clear ho HO hlt
                  by_cases hze : z.2 = 0
                  · have HZE := Lib.hid (HZF.out hze)
                    have hze1 : (z.2 != 0) = false := by simpa using hze
                    clear hze
                    go_wp2_with fail
                    refine (same_true _ _ _ _ _ _ _ _ (numsB z.1) bs HZE.out _ HTR2.out (HR2.out.below HB9.out) rfl rfl).mono ?_
                    rintro e w' ⟨rfl, rfl⟩
                    go_wp2_with fail
                    refine (known_any _).mono ?_
                    rintro e w11 ⟨rfl, hb⟩
                    have HB11 : Hid (Below w.heap.size w w11) := Lib.hid (HB9.out.trans (hb.mono HB9.out.size))
                    clear hb
                    go_wp2
                    go_ret
                    exact ⟨rfl, HB11.out⟩
                  · have hze1 : (z.2 != 0) = true := by simpa using hze
                    clear hze
                    go_wp2_with fail
                    refine (known_any _).mono ?_
                    rintro e w11 ⟨rfl, hb⟩
                    have HB11 : Hid (Below w.heap.size w w11) := Lib.hid (HB9.out.trans (hb.mono HB9.out.size))
                    clear hb
                    go_wp2
                    go_ret
                    exact ⟨rfl, HB11.out⟩
            · have hsp : (0 : Int) < ((numsB l).length : Int) := by omega
              have hq0 : d % ((numsB l).length : Int) = (q : Int) := by have := Int.emod_nonneg d (b := ((numsB l).length : Int)) (by omega); omega
              have hql : q < (numsB l).length := by have := Int.emod_lt_of_pos d hsp; omega
              have hcc := nums_cut l HIN.out q hql
              rw [hcq, HRZ.out] at hcc
              simp only at hcc
              have hcut := fun W => run_cut_h (P := Try.prog) (w := W) 22 5 _ _ Try.underlying22 info_b sA (numsB l).length sc q (by have := HSO.out; omega)
              have hcl : cq.length = q := by rw [← hcq, List.length_take]; omega
              have HCL := Lib.hid hcl
              have HQL : Hid (q ≤ 1000000) := Lib.hid (by have := HSL.out; omega)
              have HCR : Hid (Row w6 ws.heap.size sA (cq.map byteV)) := Lib.hid (by rw [← hcq, List.map_take]; exact take_row (HSR.out.below HB6.out) q)
              clear hcq hcl hql hs0 hq
              have HCC := Lib.hid hcc
              clear hcc
              go_wp2_with fail
              refine (nums_any _ sc _ sA cq HCL.out.symm _ HCR.out HB6.out.size HQL.out).mono ?_
              rw [HRZ.out]
              rintro e w7 ⟨A7, c7, rfl, ho, hb⟩
              have HBT : Hid (Below w.heap.size w w7) := Lib.hid (HBW6.out.trans (hb.mono HBW6.out.size))
              clear ho hb
              rcases HCC.out with rfl | ⟨rfl, hlt⟩
              · go_wp2_with fail
                refine (nums_any _ c2 _ A2 bs rfl _ (HR2.out.below HBT.out) HBT.out.size (by have := HL.out; omega)).mono ?_
                rw [HZ.out]
                rintro e w8 ⟨A8, c8, rfl, ho, hb⟩
                have HB8 : Hid (Below w.heap.size w w8) := Lib.hid (HBT.out.trans (hb.mono HBT.out.size))
                have HR8 : Hid (Row w8 w8.heap.size A8 (z.1.map iV)) := Lib.hid (Row.of_own ho)
                clear ho hb
                go_wp2_with fail
                go_loopw [23, 24] (fun v i wr => ∃ k : Nat, k ≤ z.1.length ∧ i = .int .i64 k ∧ Hid (wr.ownsRow w8.heap.size 5 1 v (numsB (z.1.take k)).length ((numsB (z.1.take k)).map byteV)) ∧ Hid (Below w8.heap.size w8 wr)) (fun _ i _ => z.1.length - (intOf i).toNat)
                case atStart => exact ⟨0, by omega, rfl, Lib.hid (World.ownsRow_nil _ _ _ _), Lib.hid (Below.refl _ _)⟩
                case round =>
                  obtain ⟨k, hk, rfl, HO, HBS9⟩ := hrel
                  by_cases hlt : k < z.1.length
                  · obtain ⟨b, o, rfl, hbB, hc⟩ := HR8.out.open_ (by simp; omega)
                    have hcell := (HBS9.out.cell (p := ⟨b, o + k, none⟩) hbB).trans ((hc k (by simpa using hlt)).trans (congrArg some (List.getElem_map (f := iV) (h := by simpa using hlt))))
                    unfold iV at hcell
                    have HT := Lib.hid (numsB_step hlt)
                    have HLN : Hid ((numsB (z.1.take k)).length + (numB z.1[k]).length ≤ 5000) := Lib.hid (by have h1 := numsB_len (z.1.take k); have := numB_le z.1[k]; rw [List.length_take] at h1; have := HZL.out; omega)
                    clear hc
                    go_wp2_with fail
                    refine (num_any _ _).mono ?_
                    rintro e w9 ⟨A9, c9, rfl, ho, hb⟩
                    have HB9 : Hid (Below w8.heap.size w8 w9) := Lib.hid (HBS9.out.trans (hb.mono HBS9.out.size))
                    have HO9 := Lib.hid (own_below HO.out hb)
                    have HRN := Lib.hid (Row.of_own ho)
                    clear ho hb
                    go_wp2_with (at_builtin; refine wpList_app _ rfl _ _ 22 rfl w8.heap.size 5 i0 (.int .u8 0) 1 Try.underlying22 hi0 hz0 hz1 hz2 rfl _ _ _ rfl HO9.out w9.heap.size _ (numB z.1[k]).length c9 ((numB z.1[k]).map byteV) rfl (by simp) HRN.out (byte_one _) (by have := HLN.out; unfold maxLen; omega) (by have := HLN.out; omega) HB9.out.size ?_)
                    intro v' w10 hown hgr _
                    have HB10 : Hid (Below w8.heap.size w8 w10) := Lib.hid (HB9.out.grown hgr HB9.out.size (fun g hg => (HO9.out.lt g hg).1))
                    rw [HT.out] at hown
                    have HO10 : Hid (w10.ownsRow w8.heap.size 5 1 v' (numsB (z.1.take (k + 1))).length ((numsB (z.1.take (k + 1))).map byteV)) := Lib.hid (by
                      have : (numsB (z.1.take k)).length + (numB z.1[k]).length = (numsB (z.1.take (k + 1))).length := by have := hown.1; simp at this; omega
                      rw [← this]; exact hown)
                    clear hown hgr
                    go_wp2
                    go_roundw
                    case rel => exact ⟨k + 1, by omega, by go_num, HO10, HB10⟩
                    case measure => simp [intOf]; omega
                  · obtain rfl : k = z.1.length := by omega
                    rw [List.take_length] at HO
                    obtain ⟨tA2, tc2, rfl, ho⟩ := own_of (numsB z.1) HO.out rfl
                    have HTR2 : Hid (Row wr wr.heap.size tA2 ((numsB z.1).map byteV)) := Lib.hid (Row.of_own ho)
                    have HB9 : Hid (Below w.heap.size w wr) := Lib.hid (HB8.out.trans (HBS9.out.mono HB8.out.size))
                    clear ho HO hlt
                    by_cases hze : z.2 = 0
                    · have HZE := Lib.hid (HZF.out hze)
                      have hze1 : (z.2 != 0) = false := by simpa using hze
                      clear hze
                      go_wp2_with fail
                      refine (same_true _ _ _ _ _ _ _ _ (numsB z.1) bs HZE.out _ HTR2.out (HR2.out.below HB9.out) rfl rfl).mono ?_
                      rintro e w' ⟨rfl, rfl⟩
                      go_wp2_with fail
                      refine (known_any _).mono ?_
                      rintro e w11 ⟨rfl, hb⟩
                      have HB11 : Hid (Below w.heap.size w w11) := Lib.hid (HB9.out.trans (hb.mono HB9.out.size))
                      clear hb
                      go_wp2
                      go_ret
                      exact ⟨rfl, HB11.out⟩
                    · have hze1 : (z.2 != 0) = true := by simpa using hze
                      clear hze
                      go_wp2_with fail
                      refine (known_any _).mono ?_
                      rintro e w11 ⟨rfl, hb⟩
                      have HB11 : Hid (Below w.heap.size w w11) := Lib.hid (HB9.out.trans (hb.mono HB9.out.size))
                      clear hb
                      go_wp2
                      go_ret
                      exact ⟨rfl, HB11.out⟩
              · have hlt' : (zl.length : Int) < (l.length : Int) := by omega
                clear hlt
                go_wp2_with fail
                refine (nums_any _ c2 _ A2 bs rfl _ (HR2.out.below HBT.out) HBT.out.size (by have := HL.out; omega)).mono ?_
                rw [HZ.out]
                rintro e w8 ⟨A8, c8, rfl, ho, hb⟩
                have HB8 : Hid (Below w.heap.size w w8) := Lib.hid (HBT.out.trans (hb.mono HBT.out.size))
                have HR8 : Hid (Row w8 w8.heap.size A8 (z.1.map iV)) := Lib.hid (Row.of_own ho)
                clear ho hb
                go_wp2_with fail
                go_loopw [23, 24] (fun v i wr => ∃ k : Nat, k ≤ z.1.length ∧ i = .int .i64 k ∧ Hid (wr.ownsRow w8.heap.size 5 1 v (numsB (z.1.take k)).length ((numsB (z.1.take k)).map byteV)) ∧ Hid (Below w8.heap.size w8 wr)) (fun _ i _ => z.1.length - (intOf i).toNat)
                case atStart => exact ⟨0, by omega, rfl, Lib.hid (World.ownsRow_nil _ _ _ _), Lib.hid (Below.refl _ _)⟩
                case round =>
                  obtain ⟨k, hk, rfl, HO, HBS9⟩ := hrel
                  by_cases hlt : k < z.1.length
                  · obtain ⟨b, o, rfl, hbB, hc⟩ := HR8.out.open_ (by simp; omega)
                    have hcell := (HBS9.out.cell (p := ⟨b, o + k, none⟩) hbB).trans ((hc k (by simpa using hlt)).trans (congrArg some (List.getElem_map (f := iV) (h := by simpa using hlt))))
                    unfold iV at hcell
                    have HT := Lib.hid (numsB_step hlt)
                    have HLN : Hid ((numsB (z.1.take k)).length + (numB z.1[k]).length ≤ 5000) := Lib.hid (by have h1 := numsB_len (z.1.take k); have := numB_le z.1[k]; rw [List.length_take] at h1; have := HZL.out; omega)
                    clear hc
                    go_wp2_with fail
                    refine (num_any _ _).mono ?_
                    rintro e w9 ⟨A9, c9, rfl, ho, hb⟩
                    have HB9 : Hid (Below w8.heap.size w8 w9) := Lib.hid (HBS9.out.trans (hb.mono HBS9.out.size))
                    have HO9 := Lib.hid (own_below HO.out hb)
                    have HRN := Lib.hid (Row.of_own ho)
                    clear ho hb
                    go_wp2_with (at_builtin; refine wpList_app _ rfl _ _ 22 rfl w8.heap.size 5 i0 (.int .u8 0) 1 Try.underlying22 hi0 hz0 hz1 hz2 rfl _ _ _ rfl HO9.out w9.heap.size _ (numB z.1[k]).length c9 ((numB z.1[k]).map byteV) rfl (by simp) HRN.out (byte_one _) (by have := HLN.out; unfold maxLen; omega) (by have := HLN.out; omega) HB9.out.size ?_)
                    intro v' w10 hown hgr _
                    have HB10 : Hid (Below w8.heap.size w8 w10) := Lib.hid (HB9.out.grown hgr HB9.out.size (fun g hg => (HO9.out.lt g hg).1))
                    rw [HT.out] at hown
                    have HO10 : Hid (w10.ownsRow w8.heap.size 5 1 v' (numsB (z.1.take (k + 1))).length ((numsB (z.1.take (k + 1))).map byteV)) := Lib.hid (by
                      have : (numsB (z.1.take k)).length + (numB z.1[k]).length = (numsB (z.1.take (k + 1))).length := by have := hown.1; simp at this; omega
                      rw [← this]; exact hown)
                    clear hown hgr
                    go_wp2
                    go_roundw
                    case rel => exact ⟨k + 1, by omega, by go_num, HO10, HB10⟩
                    case measure => simp [intOf]; omega
                  · obtain rfl : k = z.1.length := by omega
                    rw [List.take_length] at HO
                    obtain ⟨tA2, tc2, rfl, ho⟩ := own_of (numsB z.1) HO.out rfl
                    have HTR2 : Hid (Row wr wr.heap.size tA2 ((numsB z.1).map byteV)) := Lib.hid (Row.of_own ho)
                    have HB9 : Hid (Below w.heap.size w wr) := Lib.hid (HB8.out.trans (HBS9.out.mono HB8.out.size))
                    clear ho HO hlt
                    by_cases hze : z.2 = 0
                    · have HZE := Lib.hid (HZF.out hze)
                      have hze1 : (z.2 != 0) = false := by simpa using hze
                      clear hze
                      go_wp2_with fail
                      refine (same_true _ _ _ _ _ _ _ _ (numsB z.1) bs HZE.out _ HTR2.out (HR2.out.below HB9.out) rfl rfl).mono ?_
                      rintro e w' ⟨rfl, rfl⟩
                      go_wp2_with fail
                      refine (known_any _).mono ?_
                      rintro e w11 ⟨rfl, hb⟩
                      have HB11 : Hid (Below w.heap.size w w11) := Lib.hid (HB9.out.trans (hb.mono HB9.out.size))
                      clear hb
                      go_wp2
                      go_ret
                      exact ⟨rfl, HB11.out⟩
                    · have hze1 : (z.2 != 0) = true := by simpa using hze
                      clear hze
                      go_wp2_with fail
                      refine (known_any _).mono ?_
                      rintro e w11 ⟨rfl, hb⟩
                      have HB11 : Hid (Below w.heap.size w w11) := Lib.hid (HB9.out.trans (hb.mono HB9.out.size))
                      clear hb
                      go_wp2
                      go_ret
                      exact ⟨rfl, HB11.out⟩
end Go.Proofs.Yteppidabimmdpaa
