/- The document's own answer: points that are lost. -/
import Derived.Test.YtafajikjojpaaaaQmR
namespace Go.Proofs.Ytafajikjojpaaaa
open Go.RowKit Mem Rg
set_option maxRecDepth 100000
set_option maxHeartbeats 8000000
set_option linter.unusedVariables false
theorem reflost_ok (A A2 : Option Addr) (n c n2 c2 : Nat) (ns dead : List Int) (e k : Nat) (hn : n = ns.length) (ok : OkR ns e k) (hn2 : n2 = dead.length) (hl2 : n2 ≤ 1000000) (w : World) (h1 : Row w w.heap.size A (ns.map iV)) (h2 : Row w w.heap.size A2 (dead.map iV)) :
    Calls Try.prog 23 #[.agg #[.slice A n c, .int .i64 (e : Int), .int .i64 (k : Int)], .slice A2 n2 c2] w (IntsE (lackP (outs ns dead) (ringL ns e k)) w) := by
  obtain ⟨i0, hi0, hz0, hz1, hz2⟩ := info_parts info_i
  have HP := Lib.hid fun W (hb : Below w.heap.size w W) => reflists_ok A n c ns e k hn ok W ((h1.below hb).more hb.size)
  obtain ⟨p1, p2, p3, p4, p5, p6, p7⟩ := pts_len_ok ok
  have hn64 : n ≤ 64 := by have := ok.2.1; omega
  have hLL : (ringL ns e k).length ≤ 4096 := by show (List.map _ _).length ≤ 4096; rw [List.length_map]; exact p1
  have hLx : ∀ L ∈ ringL ns e k, L.length ≤ 64 := fun L h => Nat.le_trans (listsP_le h) p5
  have hLn : ∀ L ∈ ringL ns e k, L.Nodup := fun L h => listsP_nodup h
  obtain ⟨LL, hL⟩ : ∃ LL, ringL ns e k = LL := ⟨_, rfl⟩
  have HP2 : Hid (∀ W, Below w.heap.size w W → Calls Try.prog 38 #[.agg #[.slice A n c, .int .i64 (e : Int), .int .i64 (k : Int)]] W (ListsE LL W)) := Lib.hid fun W hb => by rw [← hL]; exact HP.out W hb
  rw [hL] at hLL hLx hLn ⊢
  have HHD := Lib.hid fun W (hb : Below w.heap.size w W) (x : Int) => has_any W.heap.size c2 n2 A2 dead x hn2 hl2 W ((h2.below hb).more hb.size)
  have HEN := Lib.hid fun W (r : RowIV) (hm : r.2.1 ∈ LL) (hr : Row W W.heap.size r.1 (r.2.1.map iV)) (A5 : Option Addr) (c5 : Nat) (al : List Int) (ha : al.length ≤ 1000000) (h5 : Row W W.heap.size A5 (al.map iV)) =>
    refenough_any r.2.1.length r.2.2 al.length c5 r.1 A5 r.2.1 al rfl (by have := hLx _ hm; omega) rfl ha W hr h5
  have HLN := Lib.hid hLn
  have HR := Lib.hid h1
  have HN := Lib.hid hn
  have hln : (LL.length : Int) ≤ 4096 := by omega
  have hnl : (n : Int) ≤ 64 := by omega
  have HN64 := Lib.hid hn64
  have HB0 : Hid (Below w.heap.size w (w.alloc (.cells #[.slice A n c, .int .i64 (e : Int), .int .i64 (k : Int)] 30))) := Lib.hid ((Below.refl _ _).alloc (Nat.le_refl _) _)
  have HK0 : Hid (Blk (w.alloc (.cells #[.slice A n c, .int .i64 (e : Int), .int .i64 (k : Int)] 30)) w.heap.size 30 #[.slice A n c, .int .i64 (e : Int), .int .i64 (k : Int)]) := Lib.hid (Blk.new _ _ _)
  obtain ⟨W0, hW0⟩ : ∃ W0, w.alloc (.cells #[.slice A n c, .int .i64 (e : Int), .int .i64 (k : Int)] 30) = W0 := ⟨_, rfl⟩
  have HW0 := Lib.hid hW0
  rw [hW0] at HB0 HK0
  clear p1 p2 p3 p4 p5 p6 p7 h1 h2 hn ok hn2 hl2 hLx hLn HP hL hLL hW0 hn64
  have hb0s := HB0.out.size
  have HS0 := Lib.hid hb0s
  clear hb0s
  go_enter Try.func23, Try.ntmps23
  go_wp2
  rw [HW0.out]
  go_loopw [5, 6] (fun v i wr => ∃ q : Nat, q ≤ n ∧ i = .int .i64 q ∧ Hid (OwnI W0.heap.size (outs (ns.take q) dead) v wr) ∧ Hid (Below W0.heap.size W0 wr)) (fun _ i _ => n - (intOf i).toNat)
  case atStart => exact ⟨0, by omega, rfl, Lib.hid (World.ownsRow_nil _ _ _ _), Lib.hid (Below.refl _ _)⟩
  case round =>
    obtain ⟨q, hq, rfl, HO, HB⟩ := hrel
    have HBW : Hid (Below w.heap.size w wr) := Lib.hid (HB0.out.trans (HB.out.mono HB0.out.size))
    have HKW := Lib.hid (HK0.out.below HB.out HK0.out.lt)
    have c0 : wr.cell? ⟨w.heap.size, 0, none⟩ = some (.slice A n c) := HKW.out.cell 0
    have c1 : wr.cell? ⟨w.heap.size, 1, none⟩ = some (.int .i64 (e : Int)) := HKW.out.cell 1
    have c2' : wr.cell? ⟨w.heap.size, 2, none⟩ = some (.int .i64 (k : Int)) := HKW.out.cell 2
    by_cases hlt : q < n
    · have hql : q < ns.length := by have := HN.out; omega
      obtain ⟨bb, o, rfl, hbw, hc⟩ := int_cell HR.out (by omega)
      have d0 := hc q hql
      rw [← HBW.out.cell (p := ⟨bb, o + q, none⟩) hbw] at d0
      have hsn := out_snoc ns dead q hql
      have hle := out_le (ns.take q) dead
      rw [List.length_take] at hle
      obtain ⟨x, hx⟩ : ∃ x, ns[q] = x := ⟨_, rfl⟩
      rw [hx] at d0 hsn
      obtain ⟨D, hD⟩ : ∃ D, outs (ns.take q) dead = D := ⟨_, rfl⟩
      rw [hD] at hsn hle HO
      have HLE : Hid (D.length ≤ 1000000) := Lib.hid (by have := HN64.out; omega)
      have HSN := Lib.hid hsn
      have HH1 := Lib.hid (HHD.out wr HBW.out x)
      obtain ⟨u1, hu1⟩ : ∃ u, isIn x dead = u := ⟨_, rfl⟩
      rw [hu1] at HH1
      have HU1 := Lib.hid hu1
      have hq0 : (0 : Int) ≤ (q : Int) := by omega
      have hq1 : (q : Int) < (n : Int) := by omega
      clear hc hx hsn hle hD hu1
      rcases u1 with _ | _
      · have HST : Hid (outs (ns.take (q + 1)) dead = D ++ [x]) := Lib.hid (by rw [HSN.out, HU1.out]; simp)
        have HB4 : Hid (Below W0.heap.size W0 (wr.alloc (.cells #[.int .i64 x] 3))) := Lib.hid (HB.out.alloc HB.out.size _)
        have HO4 := Lib.hid (own_later HO.out ((Below.refl wr.heap.size wr).alloc (Nat.le_refl _) (.cells #[.int .i64 x] 3)))
        go_wp2_with (first
          | (go_at_call 21; refine HH1.out.mono ?_; rintro e w' ⟨rfl, rfl⟩)
          | (at_builtin; refine wpList_app _ rfl _ _ 22 rfl W0.heap.size 3 i0 _ 8 Try.underlying22 hi0 hz0 hz1 hz2 rfl _ D.length (D.map iV) rfl HO4.out (wr.heap.size + 1) (some ⟨wr.heap.size, 0, none⟩) 1 1 ([x].map iV) rfl rfl (int_row wr x) (iV_one _) (by have := HLE.out; unfold maxLen; omega) (by have := HLE.out; omega) (by have := HB.out.size; simp; omega) ?_; intro v' w5 hown hgr _; (have HO5 : Hid (OwnI W0.heap.size (outs (ns.take (q + 1)) dead) v' w5) := Lib.hid (by rw [HST.out]; unfold OwnI; rw [List.map_append, List.length_append]; exact hown)); (have HB5 : Hid (Below W0.heap.size W0 w5) := Lib.hid (HB4.out.grown hgr HB4.out.size fun g hg => (HO4.out.lt g hg).1)); clear hown hgr))
        go_roundw
        case rel => exact ⟨q + 1, by omega, by go_num, HO5, HB5⟩
        case measure => simp [intOf]; omega
      · have HST : Hid (outs (ns.take (q + 1)) dead = D) := Lib.hid (by rw [HSN.out, HU1.out]; simp)
        go_wp2_with (go_at_call 21; refine HH1.out.mono ?_; rintro e w' ⟨rfl, rfl⟩)
        go_roundw
        case rel => exact ⟨q + 1, by omega, by go_num, Lib.hid (by rw [HST.out]; exact HO.out), HB⟩
        case measure => simp [intOf]; omega
    · obtain rfl : q = n := by omega
      have ho := HO.out
      rw [List.take_of_length_le (by have := HN.out; omega)] at ho
      obtain ⟨A5, c5, rfl⟩ := ownI_shape ho
      have hol := out_le ns dead
      have HOL : Hid ((outs ns dead).length ≤ 1000000) := Lib.hid (by have := HN.out; have := HN64.out; omega)
      have HAL := Lib.hid ho
      have HPW := Lib.hid (HP2.out wr HBW.out)
      obtain ⟨al, hal⟩ : ∃ al, outs ns dead = al := ⟨_, rfl⟩
      have HALE := Lib.hid hal
      rw [hal] at HOL HAL ⊢
      clear ho hol hal
      obtain ⟨wq, rfl⟩ : ∃ v, v = wr := ⟨_, rfl⟩
      go_wp2_with fail
      refine HPW.out.mono ?_
      rintro e1 w1 ⟨A3, c3, rs, rfl, hrs, hr1, hri, hb1⟩
      have HB1 := Lib.hid (HBW.out.trans (hb1.mono HBW.out.size))
      have HA1 := Lib.hid (ownLater HAL.out hb1)
      have HRS := Lib.hid hrs
      have HR1 := Lib.hid hr1
      have HRI := Lib.hid hri
      have HRL : Hid (rs.length = LL.length) := Lib.hid (by rw [← hrs, List.length_map])
      clear hrs hr1 hri hb1 c0 c1 c2'
      go_wp2
      go_loopw [8, 9] (fun v i wr => ∃ q : Nat, q ≤ LL.length ∧ i = .int .i64 q ∧ Hid (OwnI w1.heap.size (lackP al (LL.take q)) v wr) ∧ Hid (Below w1.heap.size w1 wr)) (fun _ i _ => LL.length - (intOf i).toNat)
      case atStart => exact ⟨0, by omega, rfl, Lib.hid (World.ownsRow_nil _ _ _ _), Lib.hid (Below.refl _ _)⟩
      case round =>
        obtain ⟨t, ht, rfl, HO2, HB2⟩ := hrel
        by_cases htl : t < LL.length
        · have hql : t < rs.length := by rw [HRL.out]; exact htl
          obtain ⟨b, o, rfl, hbw, hc⟩ := HR1.out.open_ (by rw [List.length_map]; omega)
          have d0 : wr.cell? ⟨b, o + t, none⟩ = some (rowIV rs[t]) := (HB2.out.cell (p := ⟨b, o + t, none⟩) hbw).trans ((hc t (by simpa using hql)).trans (congrArg some (List.getElem_map (f := rowIV) (h := by simpa using hql))))
          have hgl : LL[t] = rs[t].2.1 := by
            have h2 : ∀ (M : List (List Int)) (h : t < M.length), M = LL → M[t] = LL[t] := fun M h e => by subst e; rfl
            rw [← h2 (rs.map fun r => r.2.1) (by rw [List.length_map]; exact hql) HRS.out]
            simp
          have hee := HEN.out wr rs[t] (by rw [← hgl]; exact List.getElem_mem htl) (rowsI_row (rowsI_below HRI.out HB2.out) _ (List.getElem_mem hql)) A5 c5 al HOL.out (ownRow (ownLater HA1.out HB2.out))
          have hdn : dd [] LL[t] = LL[t] := dd_self (HLN.out _ (List.getElem_mem htl))
          have htk := lackP_take al LL t htl
          rw [← hgl, hdn, hgl] at hee
          rw [hgl] at htk
          have hll := lackP_le al (LL.take t)
          have HLE2 : Hid ((lackP al (LL.take t)).length ≤ 4096) := Lib.hid (by rw [List.length_take] at hll; omega)
          obtain ⟨⟨A4, L, c4⟩, hx⟩ : ∃ x, rs[t] = x := ⟨_, rfl⟩
          rw [hx] at d0 hee htk
          unfold rowIV at d0
          simp only at d0 hee htk
          obtain ⟨u, hu⟩ : ∃ u, enO L al = u := ⟨_, rfl⟩
          rw [hu] at hee htk
          have HEE := Lib.hid hee
          have HTK := Lib.hid htk
          have ht0 : (0 : Int) ≤ (t : Int) := by omega
          have ht1 : (t : Int) < (LL.length : Int) := by omega
          obtain ⟨D, hD⟩ : ∃ D, lackP al (LL.take t) = D := ⟨_, rfl⟩
          rw [hD] at HO2 HLE2 HTK
          clear hc hgl hdn hx hu hee htk hll hD
          rcases u with _ | _
          · have HST : Hid (lackP al (LL.take (t + 1)) = D ++ [(t : Int)]) := Lib.hid (by rw [HTK.out]; simp)
            go_wp2_with fail
            refine HEE.out.mono ?_
            rintro e2 w2 ⟨rfl, hb2⟩
            have HB3 := Lib.hid (HB2.out.trans (hb2.mono HB2.out.size))
            have HO3 := Lib.hid (ownLater HO2.out hb2)
            have HB4 : Hid (Below w1.heap.size w1 (w2.alloc (.cells #[.int .i64 (t : Int)] 3))) := Lib.hid (HB3.out.alloc HB3.out.size _)
            have HO4 := Lib.hid (own_later HO3.out ((Below.refl w2.heap.size w2).alloc (Nat.le_refl _) (.cells #[.int .i64 (t : Int)] 3)))
            clear hb2 d0
            go_wp2_with (at_builtin; refine wpList_app _ rfl _ _ 22 rfl w1.heap.size 3 i0 _ 8 Try.underlying22 hi0 hz0 hz1 hz2 rfl _ D.length (D.map iV) rfl HO4.out (w2.heap.size + 1) (some ⟨w2.heap.size, 0, none⟩) 1 1 ([(t : Int)].map iV) rfl rfl (int_row w2 (t : Int)) (iV_one _) (by have := HLE2.out; unfold maxLen; omega) (by have := HLE2.out; omega) (by have := HB3.out.size; simp; omega) ?_)
            intro v' w5 hown hgr _
            have HO5 : Hid (OwnI w1.heap.size (lackP al (LL.take (t + 1))) v' w5) := Lib.hid (by rw [HST.out]; unfold OwnI; rw [List.map_append, List.length_append]; exact hown)
            have HB5 : Hid (Below w1.heap.size w1 w5) := Lib.hid (HB4.out.grown hgr HB4.out.size fun g hg => (HO4.out.lt g hg).1)
            clear hown hgr
            go_wp2
            go_roundw
            case rel => exact ⟨t + 1, by omega, by go_num, HO5, HB5⟩
            case measure => simp [intOf]; omega
          · have HST : Hid (lackP al (LL.take (t + 1)) = D) := Lib.hid (by rw [HTK.out]; simp)
            go_wp2_with fail
            refine HEE.out.mono ?_
            rintro e2 w2 ⟨rfl, hb2⟩
            have HB3 := Lib.hid (HB2.out.trans (hb2.mono HB2.out.size))
            have HO3 := Lib.hid (ownLater HO2.out hb2)
            clear hb2 d0
            go_wp2
            go_roundw
            case rel => exact ⟨t + 1, by omega, by go_num, Lib.hid (by rw [HST.out]; exact HO3.out), HB3⟩
            case measure => simp [intOf]; omega
        · obtain rfl : t = LL.length := by omega
          have ho := HO2.out
          rw [List.take_length] at ho
          obtain ⟨A7, c7, rfl⟩ := ownI_shape ho
          have HRES : Hid (IntsE (lackP al LL) w (.returned (.slice A7 (lackP al LL).length c7)) wr) := Lib.hid ⟨A7, c7, rfl, ownBase ho HB1.out.size, HB1.out.trans (HB2.out.mono HB1.out.size)⟩
          have ht1 : ¬ (LL.length : Int) < (LL.length : Int) := by omega
          clear ho
          go_wp2
          go_ret
          rw [HALE.out]
          exact HRES.out
end Go.Proofs.Ytafajikjojpaaaa
