/- Lists of which not enough are in another one; whether nodes are enough. -/
import Derived.Test.YtafajikjojpaaaaQmC
import Derived.Test.YtafajikjojpaaaaRgL
namespace Go.Proofs.Ytafajikjojpaaaa
open Go.RowKit Mem Rg
set_option maxRecDepth 100000
set_option maxHeartbeats 8000000
set_option linter.unusedVariables false
abbrev rowsL (rs : List RowIV) : List (List Int) := rs.map fun r => r.2.1
theorem lacking_any (n1 c1 n2 c2 : Nat) (A1 A2 : Option Addr) (got : List Int) (rs : List RowIV) (hn1 : n1 = got.length) (hl1 : n1 ≤ 1000000) (hn2 : n2 = rs.length) (hl2 : n2 ≤ 1000000) (w : World) (h1 : Row w w.heap.size A1 (got.map iV)) (h2 : Row w w.heap.size A2 (rs.map rowIV))
    (hx : ∀ r ∈ rs, Row w w.heap.size r.1 (r.2.1.map iV)) (hxl : ∀ r ∈ rs, r.2.1.length ≤ 1000000) :
    Calls Try.prog 31 #[.slice A1 n1 c1, .slice A2 n2 c2] w (IntsE (lackP got (rowsL rs)) w) := by
  obtain ⟨i0, hi0, hz0, hz1, hz2⟩ := info_parts info_i
  have HWI := Lib.hid (within_any n1 c1 w.heap.size A1 got hn1 hl1 w h1 (Nat.le_refl _))
  have HR := Lib.hid h2
  have HX := Lib.hid hx
  have HXL := Lib.hid hxl
  have HN := Lib.hid hn2
  have hnl : (n2 : Int) ≤ 1000000 := by omega
  clear h1 h2 hx hxl hn1 hn2 hl1
  go_enter Try.func31, Try.ntmps31
  go_wp2
  go_step3
  go_wp2_with fail
  refine HWI.out.mono ?_
  rintro e1 w1 ⟨g, rfl, hf1, hb1⟩
  have HF1 := Lib.hid hf1
  have HB1 := Lib.hid hb1
  have hI1 : OwnI w1.heap.size (lackP got ((rowsL rs).take 0)) (.slice none 0 0) w1 := World.ownsRow_nil _ _ _ _
  have HI1 := Lib.hid hI1
  clear hf1 hb1 hI1
  go_wp2
  go_step3
  go_wp2
  go_loopg [5, 15] n2 (fun gk v i wr => ∃ q : Nat, q + gk = n2 ∧ i = .int .i64 q ∧ Hid (OwnI w1.heap.size (lackP got ((rowsL rs).take q)) v wr) ∧ Hid (Below w1.heap.size w1 wr))
  case atStart => exact ⟨0, by omega, rfl, HI1, Lib.hid (Below.refl _ _)⟩
  case round =>
    obtain ⟨q, hq, rfl, HO, HB⟩ := hrel
    obtain ⟨wq, rfl⟩ : ∃ v, v = wr := ⟨_, rfl⟩
    by_cases hlt : q < n2
    · obtain ⟨G, rfl⟩ : ∃ G, gk = G + 1 := ⟨gk - 1, by omega⟩
      have hql : q < rs.length := by have := HN.out; omega
      have hql2 : q < (rowsL rs).length := by rw [List.length_map]; exact hql
      have HBW : Hid (Below w.heap.size w wq) := Lib.hid (HB1.out.trans (HB.out.mono HB1.out.size))
      obtain ⟨b, o, rfl, hbw, hc⟩ := HR.out.open_ (by rw [List.length_map]; omega)
      have d0 : wq.cell? ⟨b, o + q, none⟩ = some (rowIV rs[q]) := (HBW.out.cell (p := ⟨b, o + q, none⟩) hbw).trans ((hc q (by simpa using hql)).trans (congrArg some (List.getElem_map (f := rowIV) (h := by simpa using hql))))
      have hrow := HX.out rs[q] (List.getElem_mem hql)
      have hrl := HXL.out rs[q] (List.getElem_mem hql)
      have htk := lackP_take got (rowsL rs) q hql2
      have hgl : (rowsL rs)[q] = rs[q].2.1 := by simp
      rw [hgl] at htk
      obtain ⟨⟨A3, L, c3⟩, hx3⟩ : ∃ y, rs[q] = y := ⟨_, rfl⟩
      rw [hx3] at d0 hrow hrl htk
      unfold rowIV at d0
      simp only at d0 hrow hrl htk
      have HROW : Hid (Row wq w.heap.size A3 (L.map iV)) := Lib.hid (hrow.below HBW.out)
      have HTK := Lib.hid htk
      have hq0 : (0 : Int) ≤ (q : Int) := by omega
      have hq1 : (q : Int) < (n2 : Int) := by omega
      have hLl : (L.length : Int) ≤ 1000000 := by omega
      have hnd := need_le L.length
      have HND : Hid (0 < L.length → 0 < need L.length) := Lib.hid fun h => by unfold need; rw [if_neg (by omega)]; omega
      obtain ⟨m, hm⟩ : ∃ m, need L.length = m := ⟨_, rfl⟩
      have HNEED := Lib.hid fun W => needn_any L.length (by omega) W
      rw [hm] at HNEED hnd HND
      have HM := Lib.hid hm
      have hm1 : (m : Int) ≤ 1000001 := by omega
      clear hx3 hc hrow htk hgl hm hnd
      go_wp2_with (go_at_call 12; refine (HNEED.out _).mono ?_; rintro e2 w2 ⟨rfl, rfl⟩)
      clear d0
      go_loopg [8, 29] L.length (fun g2 lf j wi => ∃ (t : Nat) (z : Int), t + g2 = L.length ∧ j = .int .i64 t ∧ lf = .int .i64 z ∧ z ≤ 1000001 ∧ Hid (z = (m : Int) - ((inn (L.take t) got).length : Int)) ∧ Hid (0 < L.length → 0 < z) ∧ Hid (Below wq.heap.size wq wi))
      case atStart => exact ⟨0, m, by omega, rfl, rfl, hm1, Lib.hid (by simp [inn]), Lib.hid fun h => by have := HND.out h; omega, Lib.hid (Below.refl _ _)⟩
      case round =>
        obtain ⟨t, z, ht, rfl, rfl, hz1', HZ, HZP, HBR⟩ := hrel
        by_cases htl : t < L.length
        · obtain ⟨b2, o2, rfl, hb2, hc2⟩ := int_cell (HROW.out.below (Below.mono HBR.out HBW.out.size)) (by omega)
          have d2 := hc2 t htl
          have hsn := inn_snoc_len L got t htl
          have hle := inn_take_le L got (t + 1)
          obtain ⟨y, hy⟩ : ∃ y, L[t] = y := ⟨_, rfl⟩
          rw [hy] at d2 hsn
          have hz0' : 0 < z := HZP.out (by omega)
          have HIN := Lib.hid (in_any _ g got y wr (HF1.out.below (HB.out.trans (HBR.out.mono HB.out.size))))
          obtain ⟨u, hu⟩ : ∃ u, isIn y got = u := ⟨_, rfl⟩
          rw [hu] at HIN hsn
          have HSN := Lib.hid hsn
          have HLE := Lib.hid hle
          have ht0 : (0 : Int) ≤ (t : Int) := by omega
          have ht1 : (t : Int) < (L.length : Int) := by omega
          clear hc2 hy hu hsn hle
          rcases u with _ | _
          · have hzz : (z == 0) = false := by simp; omega
            go_wp2_with fail
            refine HIN.out.mono ?_
            rintro e3 w3 ⟨rfl, d3, hd3⟩
            have HB3 : Hid (Below wq.heap.size wq w3) := Lib.hid (HBR.out.trans ((by rw [hd3]; exact below_drew' _ _ _ : Below wr.heap.size wr w3).mono HBR.out.size))
            clear hd3 d2
            go_wp2
            go_roundg (gk - 1)
            case measure => omega
            case rel => exact ⟨t + 1, z, by omega, by go_num, rfl, hz1', Lib.hid (by rw [HSN.out, HZ.out]; simp), HZP, HB3⟩
          · by_cases hze : z = 1
            · have hzz : (z - 1 == 0) = true := by simp; omega
              have HEN : Hid (enO L got = true) := Lib.hid (by
                unfold enO
                have h1 := HSN.out
                have h2 := HLE.out
                have h3 := HZ.out
                rw [HM.out, decide_eq_true_eq]
                simp only [if_true] at h1
                omega)
              have HST : Hid (lackP got ((rowsL rs).take (q + 1)) = lackP got ((rowsL rs).take q)) := Lib.hid (by rw [HTK.out, if_pos HEN.out])
              clear hze
              go_wp2_with fail
              refine HIN.out.mono ?_
              rintro e3 w3 ⟨rfl, d3, hd3⟩
              have HB3 : Hid (Below wq.heap.size wq w3) := Lib.hid (HBR.out.trans ((by rw [hd3]; exact below_drew' _ _ _ : Below wr.heap.size wr w3).mono HBR.out.size))
              clear hd3 d2
              go_wp2
              go_roundg G
              case measure => omega
              case rel => exact ⟨q + 1, by omega, by go_num, Lib.hid (by rw [HST.out]; exact ownLater HO.out HB3.out), Lib.hid (HB.out.trans (HB3.out.mono HB.out.size))⟩
            · have hzz : (z - 1 == 0) = false := by simp; omega
              go_wp2_with fail
              refine HIN.out.mono ?_
              rintro e3 w3 ⟨rfl, d3, hd3⟩
              have HB3 : Hid (Below wq.heap.size wq w3) := Lib.hid (HBR.out.trans ((by rw [hd3]; exact below_drew' _ _ _ : Below wr.heap.size wr w3).mono HBR.out.size))
              clear hd3 d2
              go_wp2
              go_roundg (gk - 1)
              case measure => omega
              case rel => exact ⟨t + 1, z - 1, by omega, by go_num, rfl, by omega, Lib.hid (by rw [HSN.out, HZ.out]; simp; omega), Lib.hid fun h => by omega, HB3⟩
        · obtain rfl : t = L.length := by omega
          have HEN : Hid (enO L got = false) := Lib.hid (by
            unfold enO
            have h2 := HZ.out
            have h3 := HZP.out
            rw [List.take_length] at h2
            rw [HM.out, decide_eq_false_iff_not]
            omega)
          have HST : Hid (lackP got ((rowsL rs).take (q + 1)) = lackP got ((rowsL rs).take q) ++ [(q : Int)]) := Lib.hid (by rw [HTK.out, HEN.out]; simp)
          have HB4 : Hid (Below w1.heap.size w1 (wr.alloc (.cells #[.int .i64 (q : Int)] 3))) := Lib.hid ((HB.out.trans (HBR.out.mono HB.out.size)).alloc (HB.out.trans (HBR.out.mono HB.out.size)).size _)
          have HO4 := Lib.hid (own_later (ownLater HO.out HBR.out) ((Below.refl wr.heap.size wr).alloc (Nat.le_refl _) (.cells #[.int .i64 (q : Int)] 3)))
          have hll := lackP_le got ((rowsL rs).take q)
          have HLL : Hid ((lackP got ((rowsL rs).take q)).length ≤ 1000000) := Lib.hid (by rw [List.length_take] at hll; omega)
          have hsz : w1.heap.size ≤ wr.heap.size := (HB.out.trans (HBR.out.mono HB.out.size)).size
          have HSZ := Lib.hid hsz
          obtain ⟨D, hD⟩ : ∃ D, lackP got ((rowsL rs).take q) = D := ⟨_, rfl⟩
          rw [hD] at HO4 HST HLL
          clear hsz hll hD
          go_wp2_with (at_builtin; refine wpList_app _ rfl _ _ 22 rfl w1.heap.size 3 i0 _ 8 Try.underlying22 hi0 hz0 hz1 hz2 rfl _ D.length (D.map iV) rfl HO4.out (wr.heap.size + 1) (some ⟨wr.heap.size, 0, none⟩) 1 1 ([(q : Int)].map iV) rfl rfl (int_row wr (q : Int)) (iV_one _) (by have := HLL.out; unfold maxLen; omega) (by have := HLL.out; omega) (by have := HSZ.out; simp; omega) ?_)
          intro v' w5 hown hgr _
          have HO5 : Hid (OwnI w1.heap.size (lackP got ((rowsL rs).take (q + 1))) v' w5) := Lib.hid (by rw [HST.out]; unfold OwnI; rw [List.map_append, List.length_append]; exact hown)
          have HB5 : Hid (Below w1.heap.size w1 w5) := Lib.hid (HB4.out.grown hgr HB4.out.size fun g hg => (HO4.out.lt g hg).1)
          clear hown hgr
          go_wp2
          go_roundg G
          case measure => omega
          case rel => exact ⟨q + 1, by omega, by go_num, HO5, HB5⟩
    · obtain rfl : q = n2 := by omega
      have ho := HO.out
      rw [List.take_of_length_le (by have := HN.out; rw [List.length_map]; omega)] at ho
      obtain ⟨A5, c5, rfl⟩ := ownI_shape ho
      have HRES : Hid (IntsE (lackP got (rowsL rs)) w (.returned (.slice A5 (lackP got (rowsL rs)).length c5)) wq) := Lib.hid ⟨A5, c5, rfl, ownBase ho HB1.out.size, HB1.out.trans (HB.out.mono HB1.out.size)⟩
      clear ho
      go_wp2
      try rw [Exit.noGoto_ret]
      go_ret
      exact HRES.out
def IsB (b : Bool) (w : World) (e : Ending) (w' : World) : Prop := e = .returned (.bool b) ∧ Below w.heap.size w w'
theorem enough_any (n1 c1 n2 c2 : Nat) (A1 A2 : Option Addr) (l got : List Int) (hn1 : n1 = l.length) (hl1 : n1 ≤ 1000000) (hn2 : n2 = got.length) (hl2 : n2 ≤ 1000000) (hw : WfI l) (w : World) (h1 : Row w w.heap.size A1 (l.map iV)) (h2 : Row w w.heap.size A2 (got.map iV)) :
    Calls Try.prog 13 #[.slice A1 n1 c1, .slice A2 n2 c2] w (IsB (enO (dd [] l) got) w) := by
  have HD := Lib.hid (different_any w.heap.size n1 c1 A1 l hn1 (by omega) hw w h1 (Nat.le_refl _))
  have HLE : Hid ((dd [] l).length ≤ 1000000) := Lib.hid (by have := dd_le l []; simp at this; omega)
  have HL := Lib.hid fun W (hb : Below w.heap.size w W) A3 c3 (h3 : Row W W.heap.size A3 ((dd [] l).map iV)) => lacking_any n2 c2 1 1 A2 (some ⟨W.heap.size, 0, none⟩) got [(A3, dd [] l, c3)] hn2 hl2 rfl (by omega) (W.alloc (.cells #[rowIV (A3, dd [] l, c3)] 22))
    ((h2.below (hb.alloc hb.size _)).more (hb.alloc hb.size _).size) (by have := rowI_row W (A3, dd [] l, c3); simpa using this) (fun r hr => by
      have : r = (A3, dd [] l, c3) := by simpa using hr
      subst this
      exact (h3.alloc (Nat.le_refl _) _).more (by simp)) (fun r hr => by
      have : r = (A3, dd [] l, c3) := by simpa using hr
      subst this
      exact HLE.out)
  have HZ : Hid (∀ A3 c3, ((lackP got (rowsL [(A3, dd [] l, c3)])).length = 0 ↔ enO (dd [] l) got = true)) := Lib.hid fun A3 c3 => by
    rw [lackP_zero]
    simp
  have HLP : Hid (∀ A3 c3, (lackP got (rowsL [(A3, dd [] l, c3)])).length ≤ 1) := Lib.hid fun A3 c3 => by
    have := lackP_le got (rowsL [(A3, dd [] l, c3)])
    simpa using this
  clear h1 h2 hn1 hn2 hl1 hl2 hw
  go_enter Try.func13, Try.ntmps13
  go_wp2_with fail
  refine HD.out.mono ?_
  rintro e1 w1 ⟨A3, c3, rfl, ho1, hb1⟩
  have HB1 := Lib.hid hb1
  have HL1 := Lib.hid (HL.out w1 hb1 A3 c3 (ownRow ho1))
  have HBA : Hid (Below w.heap.size w (w1.alloc (.cells #[rowIV (A3, dd [] l, c3)] 22))) := Lib.hid (hb1.alloc hb1.size _)
  clear ho1 hb1
  go_wp2_with fail
  refine HL1.out.mono ?_
  rintro e2 w2 ⟨A4, c4, rfl, ho2, hb2⟩
  have HB2 := Lib.hid (HBA.out.trans (hb2.mono HBA.out.size))
  have hz := HZ.out A3 c3
  have hzl := HLP.out A3 c3
  obtain ⟨k, hk⟩ : ∃ k, (lackP got (rowsL [(A3, dd [] l, c3)])).length = k := ⟨_, rfl⟩
  rw [hk] at hz hzl ⊢
  have HEQ : Hid (((k : Int) == 0) = enO (dd [] l) got) := Lib.hid (by
    rw [Bool.eq_iff_iff, ← hz]
    simp)
  clear ho2 hb2 hz hk hzl
  go_wp2
  go_ret
  exact ⟨by first | rfl | (rw [HEQ.out]; rfl), HB2.out⟩
end Go.Proofs.Ytafajikjojpaaaa
