/- Of any ring, and any nodes, whether they cover all lists, and which points are lost without them. -/
import Derived.Test.YtafajikjojpaaaaLw10
namespace Go.Proofs.Ytafajikjojpaaaa
open Go.RowKit Mem Rg
set_option maxRecDepth 100000
set_option maxHeartbeats 16000000
set_option linter.unusedVariables false
theorem rings_walk (A A2 : Option Addr) (n c n2 c2 : Nat) (ns got : List Int) (e k : Int) (hn1 : n = ns.length) (hm : n ≤ maxLen) (hn2 : n2 = got.length) (w : World) (h1 : Row w w.heap.size A (ns.map iV)) (h2 : Row w w.heap.size A2 (got.map iV)) :
    Calls Try.prog 4 #[.agg #[.slice A n c, .int .i64 e, .int .i64 k], .slice A2 n2 c2] w (IsTr w) := by
  obtain ⟨i0, hi0, hz0, hz1, hz2⟩ := info_parts info_i
  have hbw : Below w.heap.size w (w.alloc (.cells #[.slice A n c, .int .i64 e, .int .i64 k] 30)) := (Below.refl _ _).alloc (Nat.le_refl _) _
  have hkk : Blk (w.alloc (.cells #[.slice A n c, .int .i64 e, .int .i64 k] 30)) w.heap.size 30 #[.slice A n c, .int .i64 e, .int .i64 k] := Blk.new _ _ _
  obtain ⟨W0, hW0⟩ : ∃ W0, w.alloc (.cells #[.slice A n c, .int .i64 e, .int .i64 k] 30) = W0 := ⟨_, rfl⟩
  rw [hW0] at hbw hkk
  have HB0 := Lib.hid hbw
  have HKK := Lib.hid hkk
  have HR1 := Lib.hid fun W (hb : Below w.heap.size w W) => (h1.below hb).more hb.size
  have HR2 := Lib.hid fun W (hb : Below w.heap.size w W) => (h2.below hb).more hb.size
  have HN1 := Lib.hid hn1
  have HN2 := Lib.hid hn2
  have HM := Lib.hid hm
  clear h1 h2 hn1 hn2 hbw hkk hm
  by_cases b1 : (30 : Int) < (n2 : Int)
  · skip
    have c0 : W0.cell? ⟨w.heap.size, 0, none⟩ = some (.slice A n c) := HKK.out.cell 0
    have c1 : W0.cell? ⟨w.heap.size, 1, none⟩ = some (.int .i64 e) := HKK.out.cell 1
    have c2' : W0.cell? ⟨w.heap.size, 2, none⟩ = some (.int .i64 k) := HKK.out.cell 2
    go_enter Try.func4, Try.ntmps4
    go_wp2_with (go_at_call 10; refine (known10_any _).mono ?_; rintro e1 w1 ⟨rfl, hb1⟩)
    go_ret
    exact ⟨rfl, HB0.out.trans (hb1.mono HB0.out.size)⟩
  by_cases b2 : (8 : Int) < (n : Int)
  · skip
    have c0 : W0.cell? ⟨w.heap.size, 0, none⟩ = some (.slice A n c) := HKK.out.cell 0
    have c1 : W0.cell? ⟨w.heap.size, 1, none⟩ = some (.int .i64 e) := HKK.out.cell 1
    have c2' : W0.cell? ⟨w.heap.size, 2, none⟩ = some (.int .i64 k) := HKK.out.cell 2
    go_enter Try.func4, Try.ntmps4
    go_wp2_with (go_at_call 10; refine (known10_any _).mono ?_; rintro e1 w1 ⟨rfl, hb1⟩)
    go_ret
    exact ⟨rfl, HB0.out.trans (hb1.mono HB0.out.size)⟩
  by_cases b3 : (4 : Int) < e
  · skip
    have c0 : W0.cell? ⟨w.heap.size, 0, none⟩ = some (.slice A n c) := HKK.out.cell 0
    have c1 : W0.cell? ⟨w.heap.size, 1, none⟩ = some (.int .i64 e) := HKK.out.cell 1
    have c2' : W0.cell? ⟨w.heap.size, 2, none⟩ = some (.int .i64 k) := HKK.out.cell 2
    go_enter Try.func4, Try.ntmps4
    go_wp2_with (go_at_call 10; refine (known10_any _).mono ?_; rintro e1 w1 ⟨rfl, hb1⟩)
    go_ret
    exact ⟨rfl, HB0.out.trans (hb1.mono HB0.out.size)⟩
  have HL1 : Hid (n ≤ 8) := Lib.hid (by omega)
  have HL2 : Hid (n2 ≤ 30) := Lib.hid (by omega)
  by_cases ok : OkR ns e k
  · skip
    obtain ⟨en, rfl⟩ : ∃ en : Nat, e = (en : Int) := ⟨e.toNat, by have := ok.2.2.1; omega⟩
    obtain ⟨kn, rfl⟩ : ∃ kn : Nat, k = (kn : Int) := ⟨k.toNat, by have := ok.2.2.2.2.1; omega⟩
    have HOK := Lib.hid ok
    have HPL := Lib.hid (pts_len_ok ok)
    clear ok
    have HLL : Hid ((ringL ns en kn).length ≤ 4096) := Lib.hid (by show (List.map _ _).length ≤ 4096; rw [List.length_map]; exact HPL.out.1)
    have HCV := Lib.hid fun W (hb : Below w.heap.size w W) => covers_ok A A2 n c n2 c2 ns got en kn HN1.out HOK.out HN2.out (by have := HL2.out; omega) W (HR1.out W hb) (HR2.out W hb)
    have HLO := Lib.hid fun W (hb : Below w.heap.size w W) => lost_ok A A2 n c n2 c2 ns got en kn HN1.out HOK.out HN2.out (by have := HL2.out; omega) W (HR1.out W hb) (HR2.out W hb)
    have HRC := Lib.hid fun W (hb : Below w.heap.size w W) => refcovers_ok A A2 n c n2 c2 ns got en kn HN1.out HOK.out HN2.out (by have := HL2.out; omega) W (HR1.out W hb) (HR2.out W hb)
    have HRL := Lib.hid fun W (hb : Below w.heap.size w W) => reflost_ok A A2 n c n2 c2 ns got en kn HN1.out HOK.out HN2.out (by have := HL2.out; omega) W (HR1.out W hb) (HR2.out W hb)
    have HHD := Lib.hid fun W (hb : Below w.heap.size w W) (x : Int) => has_any W.heap.size c2 n2 A2 got x HN2.out (by have := HL2.out; omega) W (HR2.out W hb)
    have HAL : Hid ((outs ns got).length ≤ 8) := Lib.hid (by have := out_le ns got; have := HL1.out; have := HN1.out; omega)
    have HCA := Lib.hid fun W A5 c5 (hb : Below w.heap.size w W) (h5 : Row W W.heap.size A5 ((outs ns got).map iV)) => covers_ok A A5 n c (outs ns got).length c5 ns (outs ns got) en kn HN1.out HOK.out rfl (by have := HAL.out; omega) W (HR1.out W hb) h5
    have hcl := covP_lack (ringL ns en kn) (outs ns got)
    have hle := lackP_le (outs ns got) (ringL ns en kn)
    obtain ⟨u, hu⟩ : ∃ u, covP (ringL ns en kn) got = u := ⟨_, rfl⟩
    rw [hu] at HCV HRC
    obtain ⟨d, hd⟩ : ∃ d, covP (ringL ns en kn) (outs ns got) = d := ⟨_, rfl⟩
    rw [hd] at HCA hcl
    obtain ⟨X, hX⟩ : ∃ X, lackP (outs ns got) (ringL ns en kn) = X := ⟨_, rfl⟩
    rw [hX] at HLO HRL hcl hle
    obtain ⟨z, hz⟩ : ∃ z, X.length = z := ⟨_, rfl⟩
    have HZ := Lib.hid hz
    rw [hz] at hcl hle
    have HZL : Hid (z ≤ 4096) := Lib.hid (by have := HLL.out; omega)
    have huu : (u == u) = true := by simp
    have hdz : (d == ((z : Int) == 0)) = true := by rw [hcl]; simp
    have hz4 : (z : Int) ≤ 4096 := by have := HZL.out; omega
    have hn8 : (n : Int) ≤ 8 := by have := HL1.out; omega
    clear hu hd hX hz hcl hle
    have c0 : W0.cell? ⟨w.heap.size, 0, none⟩ = some (.slice A n c) := HKK.out.cell 0
    have c1 : W0.cell? ⟨w.heap.size, 1, none⟩ = some (.int .i64 (en : Int)) := HKK.out.cell 1
    have c2' : W0.cell? ⟨w.heap.size, 2, none⟩ = some (.int .i64 (kn : Int)) := HKK.out.cell 2
    go_enter Try.func4, Try.ntmps4
    go_wp2_with fail
    refine (HCV.out _ HB0.out).mono ?_
    rintro e1 w1 ⟨rfl, hb1⟩
    have HB1 := Lib.hid (HB0.out.trans (hb1.mono HB0.out.size))
    replace HKK := Lib.hid (HKK.out.below hb1 HKK.out.lt)
    clear c0 c1 c2' hb1 hW0
    have c0 : w1.cell? ⟨w.heap.size, 0, none⟩ = some (.slice A n c) := HKK.out.cell 0
    have c1 : w1.cell? ⟨w.heap.size, 1, none⟩ = some (.int .i64 (en : Int)) := HKK.out.cell 1
    have c2' : w1.cell? ⟨w.heap.size, 2, none⟩ = some (.int .i64 (kn : Int)) := HKK.out.cell 2
    go_wp2_with fail
    refine (HLO.out _ HB1.out).mono ?_
    rintro e2 w2 ⟨A2, k2, rfl, ho2, hb2⟩
    have HB2 := Lib.hid (HB1.out.trans (hb2.mono HB1.out.size))
    replace HKK := Lib.hid (HKK.out.below hb2 HKK.out.lt)
    have HOL := Lib.hid ho2
    clear c0 c1 c2' hb2 ho2
    have c0 : w2.cell? ⟨w.heap.size, 0, none⟩ = some (.slice A n c) := HKK.out.cell 0
    have c1 : w2.cell? ⟨w.heap.size, 1, none⟩ = some (.int .i64 (en : Int)) := HKK.out.cell 1
    have c2' : w2.cell? ⟨w.heap.size, 2, none⟩ = some (.int .i64 (kn : Int)) := HKK.out.cell 2
    rw [HZ.out]
    go_wp2_with fail
    refine (refcheck_any A n c ns en kn HN1.out HM.out w2 (HR1.out _ HB2.out)).mono ?_
    rintro e3 w3 ⟨⟨q, rfl, hq, _⟩, hb3⟩
    have HB3 := Lib.hid (HB2.out.trans (hb3.mono HB2.out.size))
    replace HKK := Lib.hid (HKK.out.below hb3 HKK.out.lt)
    replace HOL := Lib.hid (ownLater HOL.out hb3)
    clear c0 c1 c2' hb3
    have c0 : w3.cell? ⟨w.heap.size, 0, none⟩ = some (.slice A n c) := HKK.out.cell 0
    have c1 : w3.cell? ⟨w.heap.size, 1, none⟩ = some (.int .i64 (en : Int)) := HKK.out.cell 1
    have c2' : w3.cell? ⟨w.heap.size, 2, none⟩ = some (.int .i64 (kn : Int)) := HKK.out.cell 2
    obtain rfl : q = 0 := hq HOK.out
    clear hq
    go_wp2
    go_loopw [10, 11] (fun v i wr => ∃ q : Nat, q ≤ n ∧ i = .int .i64 q ∧ Hid (OwnI w3.heap.size (outs (ns.take q) got) v wr) ∧ Hid (Below w3.heap.size w3 wr)) (fun _ i _ => n - (intOf i).toNat)
    case atStart => exact ⟨0, by omega, rfl, Lib.hid (World.ownsRow_nil _ _ _ _), Lib.hid (Below.refl _ _)⟩
    case round =>
      obtain ⟨q, hq, rfl, HO, HB⟩ := hrel
      have HBW : Hid (Below w.heap.size w wr) := Lib.hid (HB3.out.trans (HB.out.mono HB3.out.size))
      have HKW := Lib.hid (HKK.out.below HB.out HKK.out.lt)
      clear c0 c1 c2'
      have c0 : wr.cell? ⟨w.heap.size, 0, none⟩ = some (.slice A n c) := HKW.out.cell 0
      have c1 : wr.cell? ⟨w.heap.size, 1, none⟩ = some (.int .i64 (en : Int)) := HKW.out.cell 1
      have c2' : wr.cell? ⟨w.heap.size, 2, none⟩ = some (.int .i64 (kn : Int)) := HKW.out.cell 2
      by_cases hlt : q < n
      · have hql : q < ns.length := by have := HN1.out; omega
        obtain ⟨bb, o, rfl, hbw, hc⟩ := int_cell (HR1.out _ HBW.out) (by omega)
        have d0 := hc q hql
        have hsn := out_snoc ns got q hql
        have hle := out_le (ns.take q) got
        rw [List.length_take] at hle
        obtain ⟨x, hx⟩ : ∃ x, ns[q] = x := ⟨_, rfl⟩
        rw [hx] at d0 hsn
        obtain ⟨D, hD⟩ : ∃ D, outs (ns.take q) got = D := ⟨_, rfl⟩
        rw [hD] at hsn hle HO
        have HLE : Hid (D.length ≤ 1000000) := Lib.hid (by have := HL1.out; omega)
        have HSN := Lib.hid hsn
        have HH1 := Lib.hid (HHD.out wr HBW.out x)
        obtain ⟨u1, hu1⟩ : ∃ u, isIn x got = u := ⟨_, rfl⟩
        rw [hu1] at HH1
        have HU1 := Lib.hid hu1
        have hq0 : (0 : Int) ≤ (q : Int) := by omega
        have hq1 : (q : Int) < (n : Int) := by omega
        clear hc hx hsn hle hD hu1
        rcases u1 with _ | _
        · have HST : Hid (outs (ns.take (q + 1)) got = D ++ [x]) := Lib.hid (by rw [HSN.out, HU1.out]; simp)
          have HB4 : Hid (Below w3.heap.size w3 (wr.alloc (.cells #[.int .i64 x] 3))) := Lib.hid (HB.out.alloc HB.out.size _)
          have HO4 := Lib.hid (own_later HO.out ((Below.refl wr.heap.size wr).alloc (Nat.le_refl _) (.cells #[.int .i64 x] 3)))
          go_wp2_with (first
            | (go_at_call 21; refine HH1.out.mono ?_; rintro e w' ⟨rfl, rfl⟩)
            | (at_builtin; refine wpList_app _ rfl _ _ 22 rfl w3.heap.size 3 i0 _ 8 Try.underlying22 hi0 hz0 hz1 hz2 rfl _ D.length (D.map iV) rfl HO4.out (wr.heap.size + 1) (some ⟨wr.heap.size, 0, none⟩) 1 1 ([x].map iV) rfl rfl (int_row wr x) (iV_one _) (by have := HLE.out; unfold maxLen; omega) (by have := HLE.out; omega) (by have := HB.out.size; simp; omega) ?_; intro v' w5 hown hgr _; (have HO5 : Hid (OwnI w3.heap.size (outs (ns.take (q + 1)) got) v' w5) := Lib.hid (by rw [HST.out]; unfold OwnI; rw [List.map_append, List.length_append]; exact hown)); (have HB5 : Hid (Below w3.heap.size w3 w5) := Lib.hid (HB4.out.grown hgr HB4.out.size fun g hg => (HO4.out.lt g hg).1)); clear hown hgr))
          go_roundw
          case rel => exact ⟨q + 1, by omega, by go_num, HO5, HB5⟩
          case measure => simp [intOf]; omega
        · have HST : Hid (outs (ns.take (q + 1)) got = D) := Lib.hid (by rw [HSN.out, HU1.out]; simp)
          go_wp2_with (go_at_call 21; refine HH1.out.mono ?_; rintro e w' ⟨rfl, rfl⟩)
          go_roundw
          case rel => exact ⟨q + 1, by omega, by go_num, Lib.hid (by rw [HST.out]; exact HO.out), HB⟩
          case measure => simp [intOf]; omega
      · obtain rfl : q = n := by omega
        have ho := HO.out
        rw [List.take_of_length_le (by have := HN1.out; omega)] at ho
        obtain ⟨A5, c5, rfl⟩ := ownI_shape ho
        have HAO := Lib.hid ho
        replace HOL := Lib.hid (ownLater HOL.out HB.out)
        replace HKK := HKW
        obtain ⟨al, hal⟩ : ∃ al, outs ns got = al := ⟨_, rfl⟩
        rw [hal] at HCA HAO ⊢
        clear ho hal
        go_wp2_with fail
        refine (HCA.out _ A5 c5 HBW.out (ownRow HAO.out)).mono ?_
        rintro e4 w4 ⟨rfl, hb4⟩
        have HB4 := Lib.hid (HBW.out.trans (hb4.mono HBW.out.size))
        replace HKK := Lib.hid (HKK.out.below hb4 HKK.out.lt)
        replace HOL := Lib.hid (ownLater HOL.out hb4)
        clear c0 c1 c2' hb4
        have c0 : w4.cell? ⟨w.heap.size, 0, none⟩ = some (.slice A q c) := HKK.out.cell 0
        have c1 : w4.cell? ⟨w.heap.size, 1, none⟩ = some (.int .i64 (en : Int)) := HKK.out.cell 1
        have c2' : w4.cell? ⟨w.heap.size, 2, none⟩ = some (.int .i64 (kn : Int)) := HKK.out.cell 2
        go_wp2_with fail
        refine (HRC.out _ HB4.out).mono ?_
        rintro e5 w5 ⟨rfl, hb5⟩
        have HB5 := Lib.hid (HB4.out.trans (hb5.mono HB4.out.size))
        replace HKK := Lib.hid (HKK.out.below hb5 HKK.out.lt)
        replace HOL := Lib.hid (ownLater HOL.out hb5)
        clear c0 c1 c2' hb5
        have c0 : w5.cell? ⟨w.heap.size, 0, none⟩ = some (.slice A q c) := HKK.out.cell 0
        have c1 : w5.cell? ⟨w.heap.size, 1, none⟩ = some (.int .i64 (en : Int)) := HKK.out.cell 1
        have c2' : w5.cell? ⟨w.heap.size, 2, none⟩ = some (.int .i64 (kn : Int)) := HKK.out.cell 2
        go_wp2_with fail
        refine (HRL.out _ HB5.out).mono ?_
        rintro e6 w6 ⟨A6, k6, rfl, ho6, hb6⟩
        have HB6 := Lib.hid (HB5.out.trans (hb6.mono HB5.out.size))
        replace HKK := Lib.hid (HKK.out.below hb6 HKK.out.lt)
        replace HOL := Lib.hid (ownLater HOL.out hb6)
        have HOM := Lib.hid ho6
        clear c0 c1 c2' hb6 ho6
        have c0 : w6.cell? ⟨w.heap.size, 0, none⟩ = some (.slice A q c) := HKK.out.cell 0
        have c1 : w6.cell? ⟨w.heap.size, 1, none⟩ = some (.int .i64 (en : Int)) := HKK.out.cell 1
        have c2' : w6.cell? ⟨w.heap.size, 2, none⟩ = some (.int .i64 (kn : Int)) := HKK.out.cell 2
        rw [HZ.out]
        go_wp2_with fail
        refine (sameints_true _ _ k2 k6 z z A2 A6 X w6 (ownRow HOL.out) (ownRow HOM.out) HZ.out.symm HZ.out.symm (by have := HZL.out; have := HZ.out; omega)).mono ?_
        rintro e7 w7 ⟨rfl, q7, hq7⟩
        have hb7 : Below w6.heap.size w6 w7 := by rw [hq7]; exact below_drew' _ _ _
        clear hq7
        have HB7 := Lib.hid (HB6.out.trans (hb7.mono HB6.out.size))
        replace HKK := Lib.hid (HKK.out.below hb7 HKK.out.lt)
        replace HOL := Lib.hid (ownLater HOL.out hb7)
        replace HOM := Lib.hid (ownLater HOM.out hb7)
        clear c0 c1 c2' hb7
        have c0 : w7.cell? ⟨w.heap.size, 0, none⟩ = some (.slice A q c) := HKK.out.cell 0
        have c1 : w7.cell? ⟨w.heap.size, 1, none⟩ = some (.int .i64 (en : Int)) := HKK.out.cell 1
        have c2' : w7.cell? ⟨w.heap.size, 2, none⟩ = some (.int .i64 (kn : Int)) := HKK.out.cell 2
        go_wp2_with (go_at_call 10; refine (known10_any _).mono ?_; rintro e8 w8 ⟨rfl, hb8⟩)
        go_ret
        exact ⟨rfl, HB7.out.trans (hb8.mono HB7.out.size)⟩
  · skip
    have HOK := Lib.hid ok
    clear ok
    have c0 : W0.cell? ⟨w.heap.size, 0, none⟩ = some (.slice A n c) := HKK.out.cell 0
    have c1 : W0.cell? ⟨w.heap.size, 1, none⟩ = some (.int .i64 e) := HKK.out.cell 1
    have c2' : W0.cell? ⟨w.heap.size, 2, none⟩ = some (.int .i64 k) := HKK.out.cell 2
    go_enter Try.func4, Try.ntmps4
    go_wp2_with fail
    refine (covers_bad A A2 n c n2 c2 ns e k HN1.out HM.out HOK.out W0 (HR1.out _ HB0.out)).mono ?_
    rintro e1 w1 ⟨rfl, hb1⟩
    have HB1 := Lib.hid (HB0.out.trans (hb1.mono HB0.out.size))
    replace HKK := Lib.hid (HKK.out.below hb1 HKK.out.lt)
    clear c0 c1 c2' hb1 hW0
    have c0 : w1.cell? ⟨w.heap.size, 0, none⟩ = some (.slice A n c) := HKK.out.cell 0
    have c1 : w1.cell? ⟨w.heap.size, 1, none⟩ = some (.int .i64 e) := HKK.out.cell 1
    have c2' : w1.cell? ⟨w.heap.size, 2, none⟩ = some (.int .i64 k) := HKK.out.cell 2
    go_wp2_with fail
    refine (lost_bad A A2 n c n2 c2 ns e k HN1.out HM.out HOK.out w1 (HR1.out _ HB1.out)).mono ?_
    rintro e2 w2 ⟨rfl, hb2⟩
    have HB2 := Lib.hid (HB1.out.trans (hb2.mono HB1.out.size))
    replace HKK := Lib.hid (HKK.out.below hb2 HKK.out.lt)
    clear c0 c1 c2' hb2
    have c0 : w2.cell? ⟨w.heap.size, 0, none⟩ = some (.slice A n c) := HKK.out.cell 0
    have c1 : w2.cell? ⟨w.heap.size, 1, none⟩ = some (.int .i64 e) := HKK.out.cell 1
    have c2' : w2.cell? ⟨w.heap.size, 2, none⟩ = some (.int .i64 k) := HKK.out.cell 2
    go_wp2_with fail
    refine (refcheck_any A n c ns e k HN1.out HM.out w2 (HR1.out _ HB2.out)).mono ?_
    rintro e3 w3 ⟨⟨q, rfl, _, hq⟩, hb3⟩
    have HB3 := Lib.hid (HB2.out.trans (hb3.mono HB2.out.size))
    replace HKK := Lib.hid (HKK.out.below hb3 HKK.out.lt)
    clear c0 c1 c2' hb3
    have c0 : w3.cell? ⟨w.heap.size, 0, none⟩ = some (.slice A n c) := HKK.out.cell 0
    have c1 : w3.cell? ⟨w.heap.size, 1, none⟩ = some (.int .i64 e) := HKK.out.cell 1
    have c2' : w3.cell? ⟨w.heap.size, 2, none⟩ = some (.int .i64 k) := HKK.out.cell 2
    obtain rfl : q = 2 := hq HOK.out
    clear hq
    go_wp2_with (go_at_call 10; refine (known10_any _).mono ?_; rintro e4 w4 ⟨rfl, hb4⟩)
    go_ret
    exact ⟨rfl, HB3.out.trans (hb4.mono HB3.out.size)⟩
end Go.Proofs.Ytafajikjojpaaaa
