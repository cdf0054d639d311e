/- Of a ring one more node that answers covers no less, one more that is dead loses no less; all nodes cover it, none does not. -/
import Derived.Test.YtafajikjojpaaaaLw10
namespace Go.Proofs.Ytafajikjojpaaaa
open Go.RowKit Mem Rg
set_option maxRecDepth 100000
set_option maxHeartbeats 16000000
set_option linter.unusedVariables false
theorem ring_all (ns : List Int) (e k : Nat) (hn : ns.Nodup) (he : 0 < e) (hk0 : 1 ≤ k) (hk : k ≤ ns.length) : covP (ringL ns e k) ns = true := by
  unfold covP
  rw [decide_eq_true_eq]
  intro L hL
  obtain ⟨p, _, rfl⟩ := List.mem_map.1 hL
  have h : ∀ x ∈ keepP (ptsP fP ns e) p.1 k, x ∈ ns := fun x hx => (metP_node fP ns e he p.1 x).1 (List.mem_of_mem_take hx)
  rw [enO_all h]
  have := keepP_len fP ns hn e he p.1 k hk
  rw [this]
  exact decide_eq_true (by omega)
theorem ring_none (ns : List Int) (e k : Nat) (hp : 0 < (ptsP fP ns e).length) : covP (ringL ns e k) [] = false := by
  unfold covP
  rw [decide_eq_false_iff_not]
  intro h
  have := h (keepP (ptsP fP ns e) ((ptsP fP ns e)[0]).1 k) (List.mem_map.2 ⟨_, List.getElem_mem hp, rfl⟩)
  rw [enO_none] at this
  cases this
theorem one_walk (A A2 : Option Addr) (n c n2 c2 : Nat) (ns got : List Int) (e k x : Int) (hn1 : n = ns.length) (hm : n ≤ maxLen) (hn2 : n2 = got.length) (w : World) (h1 : Row w w.heap.size A (ns.map iV)) (h2 : Row w w.heap.size A2 (got.map iV)) :
    Calls Try.prog 7 #[.agg #[.slice A n c, .int .i64 e, .int .i64 k], .slice A2 n2 c2, .int .i64 x] w (IsTr w) := by
  obtain ⟨i0, hi0, hz0, hz1, hz2⟩ := info_parts info_i
  have hbw : Below w.heap.size w (w.alloc (.cells #[.slice A n c, .int .i64 e, .int .i64 k] 30)) := (Below.refl _ _).alloc (Nat.le_refl _) _
  have hkk : Blk (w.alloc (.cells #[.slice A n c, .int .i64 e, .int .i64 k] 30)) w.heap.size 30 #[.slice A n c, .int .i64 e, .int .i64 k] := Blk.new _ _ _
  obtain ⟨W0, hW0⟩ : ∃ W0, w.alloc (.cells #[.slice A n c, .int .i64 e, .int .i64 k] 30) = W0 := ⟨_, rfl⟩
  rw [hW0] at hbw hkk
  have HB0 := Lib.hid hbw
  have HKK := Lib.hid hkk
  have HR1 := Lib.hid fun W (hb : Below w.heap.size w W) => (h1.below hb).more hb.size
  have HR2 := Lib.hid fun W (hb : Below w.heap.size w W) => (h2.below hb).more hb.size
  have HN1 := Lib.hid hn1
  have HN2 := Lib.hid hn2
  have HM := Lib.hid hm
  clear h1 h2 hn1 hn2 hbw hkk hm
  by_cases b1 : (30 : Int) < (n2 : Int)
  · skip
    have c0 : W0.cell? ⟨w.heap.size, 0, none⟩ = some (.slice A n c) := HKK.out.cell 0
    have c1 : W0.cell? ⟨w.heap.size, 1, none⟩ = some (.int .i64 e) := HKK.out.cell 1
    have c2' : W0.cell? ⟨w.heap.size, 2, none⟩ = some (.int .i64 k) := HKK.out.cell 2
    go_enter Try.func7, Try.ntmps7
    go_wp2_with (go_at_call 10; refine (known10_any _).mono ?_; rintro e1 w1 ⟨rfl, hb1⟩)
    go_ret
    exact ⟨rfl, HB0.out.trans (hb1.mono HB0.out.size)⟩
  by_cases b2 : (8 : Int) < (n : Int)
  · skip
    have c0 : W0.cell? ⟨w.heap.size, 0, none⟩ = some (.slice A n c) := HKK.out.cell 0
    have c1 : W0.cell? ⟨w.heap.size, 1, none⟩ = some (.int .i64 e) := HKK.out.cell 1
    have c2' : W0.cell? ⟨w.heap.size, 2, none⟩ = some (.int .i64 k) := HKK.out.cell 2
    go_enter Try.func7, Try.ntmps7
    go_wp2_with (go_at_call 10; refine (known10_any _).mono ?_; rintro e1 w1 ⟨rfl, hb1⟩)
    go_ret
    exact ⟨rfl, HB0.out.trans (hb1.mono HB0.out.size)⟩
  by_cases b3 : (4 : Int) < e
  · skip
    have c0 : W0.cell? ⟨w.heap.size, 0, none⟩ = some (.slice A n c) := HKK.out.cell 0
    have c1 : W0.cell? ⟨w.heap.size, 1, none⟩ = some (.int .i64 e) := HKK.out.cell 1
    have c2' : W0.cell? ⟨w.heap.size, 2, none⟩ = some (.int .i64 k) := HKK.out.cell 2
    go_enter Try.func7, Try.ntmps7
    go_wp2_with (go_at_call 10; refine (known10_any _).mono ?_; rintro e1 w1 ⟨rfl, hb1⟩)
    go_ret
    exact ⟨rfl, HB0.out.trans (hb1.mono HB0.out.size)⟩
  have HL1 : Hid (n ≤ 8) := Lib.hid (by omega)
  have HL2 : Hid (n2 ≤ 30) := Lib.hid (by omega)
  by_cases ok : OkR ns e k
  · skip
    obtain ⟨en, rfl⟩ : ∃ en : Nat, e = (en : Int) := ⟨e.toNat, by have := ok.2.2.1; omega⟩
    obtain ⟨kn, rfl⟩ : ∃ kn : Nat, k = (kn : Int) := ⟨k.toNat, by have := ok.2.2.2.2.1; omega⟩
    have HOK := Lib.hid ok
    have HPL := Lib.hid (pts_len_ok ok)
    clear ok
    have HLL : Hid ((ringL ns en kn).length ≤ 4096) := Lib.hid (by show (List.map _ _).length ≤ 4096; rw [List.length_map]; exact HPL.out.1)
    have hgl : (got ++ [x]).length = n2 + 1 := by rw [List.length_append, ← HN2.out]; rfl
    have HGL := Lib.hid hgl
    have HCV := Lib.hid fun W (hb : Below w.heap.size w W) => covers_ok A A2 n c n2 c2 ns got en kn HN1.out HOK.out HN2.out (by have := HL2.out; omega) W (HR1.out W hb) (HR2.out W hb)
    have HCM := Lib.hid fun W A5 c5 (hb : Below w.heap.size w W) (h5 : Row W W.heap.size A5 ((got ++ [x]).map iV)) => covers_ok A A5 n c (n2 + 1) c5 ns (got ++ [x]) en kn HN1.out HOK.out HGL.out.symm (by have := HL2.out; omega) W (HR1.out W hb) h5
    have HLO := Lib.hid fun W (hb : Below w.heap.size w W) => lost_ok A A2 n c n2 c2 ns got en kn HN1.out HOK.out HN2.out (by have := HL2.out; omega) W (HR1.out W hb) (HR2.out W hb)
    have HLM := Lib.hid fun W A5 c5 (hb : Below w.heap.size w W) (h5 : Row W W.heap.size A5 ((got ++ [x]).map iV)) => lost_ok A A5 n c (n2 + 1) c5 ns (got ++ [x]) en kn HN1.out HOK.out HGL.out.symm (by have := HL2.out; omega) W (HR1.out W hb) h5
    have HCA := Lib.hid fun W (hb : Below w.heap.size w W) => covers_ok A A n c n c ns ns en kn HN1.out HOK.out HN1.out (by have := HL1.out; omega) W (HR1.out W hb) (HR1.out W hb)
    have HCN := Lib.hid fun W (hb : Below w.heap.size w W) => covers_ok A none n c 0 0 ns [] en kn HN1.out HOK.out rfl (by omega) W (HR1.out W hb) (Row.nil _ _ _)
    have ha := ring_all ns en kn HPL.out.2.2.1 HPL.out.2.2.2.2.2.2 HPL.out.2.2.2.1 HPL.out.2.2.2.2.2.1
    have hnn := ring_none ns en kn HPL.out.2.1
    rw [ha] at HCA
    rw [hnn] at HCN
    have hmono : covP (ringL ns en kn) got = true → covP (ringL ns en kn) (got ++ [x]) = true := fun h => by
      unfold covP at *
      rw [decide_eq_true_eq] at *
      exact fun L hL => enO_mono (fun y hy => List.mem_append_left _ hy) (h L hL)
    have hlm : ∀ y, y ∈ lackP (outs ns got) (ringL ns en kn) → y ∈ lackP (outs ns (got ++ [x])) (ringL ns en kn) := fun y hy => lackP_mono (fun z hz => by
      rw [out_mem] at *
      exact ⟨hz.1, fun h => hz.2 (List.mem_append_left _ h)⟩) hy
    have hle1 := lackP_le (outs ns got) (ringL ns en kn)
    have hle2 := lackP_le (outs ns (got ++ [x])) (ringL ns en kn)
    obtain ⟨u1, hu1⟩ : ∃ u, covP (ringL ns en kn) got = u := ⟨_, rfl⟩
    obtain ⟨u2, hu2⟩ : ∃ u, covP (ringL ns en kn) (got ++ [x]) = u := ⟨_, rfl⟩
    rw [hu1] at HCV hmono
    rw [hu2] at HCM hmono
    obtain ⟨X1, hX1⟩ : ∃ X, lackP (outs ns got) (ringL ns en kn) = X := ⟨_, rfl⟩
    obtain ⟨X2, hX2⟩ : ∃ X, lackP (outs ns (got ++ [x])) (ringL ns en kn) = X := ⟨_, rfl⟩
    rw [hX1] at HLO hle1 hlm
    rw [hX2] at HLM hle2 hlm
    have HLMO := Lib.hid hlm
    obtain ⟨z, hz⟩ : ∃ z, X1.length = z := ⟨_, rfl⟩
    have HZ := Lib.hid hz
    rw [hz] at hle1
    have HX2L : Hid (X2.length ≤ 4096) := Lib.hid (by have := HLL.out; omega)
    have hz4 : (z : Int) ≤ 4096 := by have := HLL.out; omega
    have hn8 : (n : Int) ≤ 8 := by have := HL1.out; omega
    have hn30 : (n2 : Int) ≤ 30 := by have := HL2.out; omega
    have HMONO := Lib.hid hmono
    clear ha hnn hu1 hu2 hX1 hX2 hz hle1 hle2 hlm hgl hmono
    have c0 : W0.cell? ⟨w.heap.size, 0, none⟩ = some (.slice A n c) := HKK.out.cell 0
    have c1 : W0.cell? ⟨w.heap.size, 1, none⟩ = some (.int .i64 (en : Int)) := HKK.out.cell 1
    have c2' : W0.cell? ⟨w.heap.size, 2, none⟩ = some (.int .i64 (kn : Int)) := HKK.out.cell 2
    go_enter Try.func7, Try.ntmps7
    go_wp2_with fail
    refine (refcheck_any A n c ns en kn HN1.out HM.out W0 (HR1.out _ HB0.out)).mono ?_
    rintro e1 w1 ⟨⟨q, rfl, hq, _⟩, hb1⟩
    have HB1 := Lib.hid (HB0.out.trans (hb1.mono HB0.out.size))
    replace HKK := Lib.hid (HKK.out.below hb1 HKK.out.lt)
    clear c0 c1 c2' hb1 hW0
    have c0 : w1.cell? ⟨w.heap.size, 0, none⟩ = some (.slice A n c) := HKK.out.cell 0
    have c1 : w1.cell? ⟨w.heap.size, 1, none⟩ = some (.int .i64 (en : Int)) := HKK.out.cell 1
    have c2' : w1.cell? ⟨w.heap.size, 2, none⟩ = some (.int .i64 (kn : Int)) := HKK.out.cell 2
    obtain rfl : q = 0 := hq HOK.out
    clear hq
    go_wp2_with (at_builtin; refine wpList_app _ rfl _ _ 22 rfl w1.heap.size 3 i0 _ 8 Try.underlying22 hi0 hz0 hz1 hz2 rfl _ 0 [] rfl (World.ownsRow_nil _ _ _ _) w1.heap.size A2 n2 c2 (got.map iV) rfl (by rw [List.length_map]; exact HN2.out.symm) (HR2.out _ HB1.out) (iV_one _) (by have := HL2.out; unfold maxLen; omega) (by have := HL2.out; omega) (Nat.le_refl _) ?_)
    intro v2 w2 hown2 hgr2 _
    have hb2 : Below w1.heap.size w1 w2 := (Below.refl _ _).grown hgr2 (Nat.le_refl _) (fun g hg => by simp [Value.ownBlock] at hg)
    have ho2 : OwnI w1.heap.size got v2 w2 := by unfold OwnI; rw [← HN2.out]; simpa using hown2
    have HB2 := Lib.hid (HB1.out.trans (hb2.mono HB1.out.size))
    have HKO := HKK
    replace HKK := Lib.hid (HKK.out.below hb2 HKK.out.lt)
    have HLT0 : Hid (w.heap.size < w1.heap.size) := Lib.hid (HKO.out.lt)
    have HA2 : Hid (OwnI w1.heap.size got v2 (w2.alloc (.cells #[.int .i64 x] 3))) := Lib.hid (ownLater ho2 ((Below.refl _ _).alloc (Nat.le_refl _) _))
    have HS2 := Lib.hid hb2.size
    have HC2 := Lib.hid hb2
    clear hown2 hgr2 hb2 ho2 c0 c1 c2'
    go_wp2_with (at_builtin; refine wpList_app _ rfl _ _ 22 rfl w1.heap.size 3 i0 _ 8 Try.underlying22 hi0 hz0 hz1 hz2 rfl _ got.length (got.map iV) rfl HA2.out (w2.heap.size + 1) (some ⟨w2.heap.size, 0, none⟩) 1 1 ([x].map iV) rfl rfl (int_row w2 x) (iV_one _) (by have := HL2.out; have := HN2.out; unfold maxLen; omega) (by have := HL2.out; have := HN2.out; omega) (by have := HS2.out; simp; omega) ?_)
    intro v3 w3 hown3 hgr3 _
    have hb3 : Below w1.heap.size w2 w3 := ((Below.refl w1.heap.size w2).alloc HS2.out _).grown hgr3 (Nat.le_trans HS2.out (by simp)) (fun g hg => (HA2.out.lt g hg).1)
    have ho3 : OwnI w1.heap.size (got ++ [x]) v3 w3 := by unfold OwnI; rw [List.map_append, List.length_append]; exact hown3
    obtain ⟨A3, k3, rfl⟩ := ownI_shape ho3
    rw [HGL.out]
    have HO3 := Lib.hid ho3
    have HB3 : Hid (Below w.heap.size w w3) := Lib.hid (HB1.out.trans ((HC2.out.trans hb3).mono HB1.out.size))
    replace HKK := Lib.hid ((HKK.out.alloc (.cells #[.int .i64 x] 3)).grown hgr3 (fun e => by have := (HA2.out.lt w.heap.size e.symm).1; have := HLT0.out; omega))
    clear hown3 hgr3 hb3 ho3
    have c0 : w3.cell? ⟨w.heap.size, 0, none⟩ = some (.slice A n c) := HKK.out.cell 0
    have c1 : w3.cell? ⟨w.heap.size, 1, none⟩ = some (.int .i64 (en : Int)) := HKK.out.cell 1
    have c2' : w3.cell? ⟨w.heap.size, 2, none⟩ = some (.int .i64 (kn : Int)) := HKK.out.cell 2
    go_wp2_with fail
    refine (HCV.out _ HB3.out).mono ?_
    rintro e4 w4 ⟨rfl, hb4⟩
    have HB4 := Lib.hid (HB3.out.trans (hb4.mono HB3.out.size))
    replace HKK := Lib.hid (HKK.out.below hb4 HKK.out.lt)
    replace HO3 := Lib.hid (ownLater HO3.out hb4)
    clear c0 c1 c2' hb4
    have c0 : w4.cell? ⟨w.heap.size, 0, none⟩ = some (.slice A n c) := HKK.out.cell 0
    have c1 : w4.cell? ⟨w.heap.size, 1, none⟩ = some (.int .i64 (en : Int)) := HKK.out.cell 1
    have c2' : w4.cell? ⟨w.heap.size, 2, none⟩ = some (.int .i64 (kn : Int)) := HKK.out.cell 2
    go_wp2_with fail
    refine (HCM.out w4 A3 k3 HB4.out (ownRow HO3.out)).mono ?_
    rintro e5 w5 ⟨rfl, hb5⟩
    have HB5 := Lib.hid (HB4.out.trans (hb5.mono HB4.out.size))
    replace HKK := Lib.hid (HKK.out.below hb5 HKK.out.lt)
    replace HO3 := Lib.hid (ownLater HO3.out hb5)
    clear c0 c1 c2' hb5
    have c0 : w5.cell? ⟨w.heap.size, 0, none⟩ = some (.slice A n c) := HKK.out.cell 0
    have c1 : w5.cell? ⟨w.heap.size, 1, none⟩ = some (.int .i64 (en : Int)) := HKK.out.cell 1
    have c2' : w5.cell? ⟨w.heap.size, 2, none⟩ = some (.int .i64 (kn : Int)) := HKK.out.cell 2
    go_wp2_with fail
    refine (HLO.out _ HB5.out).mono ?_
    rintro e6 w6 ⟨A6, k6, rfl, ho6, hb6⟩
    have HB6 := Lib.hid (HB5.out.trans (hb6.mono HB5.out.size))
    replace HKK := Lib.hid (HKK.out.below hb6 HKK.out.lt)
    replace HO3 := Lib.hid (ownLater HO3.out hb6)
    have HOL := Lib.hid ho6
    clear c0 c1 c2' hb6 ho6
    have c0 : w6.cell? ⟨w.heap.size, 0, none⟩ = some (.slice A n c) := HKK.out.cell 0
    have c1 : w6.cell? ⟨w.heap.size, 1, none⟩ = some (.int .i64 (en : Int)) := HKK.out.cell 1
    have c2' : w6.cell? ⟨w.heap.size, 2, none⟩ = some (.int .i64 (kn : Int)) := HKK.out.cell 2
    rw [HZ.out]
    go_wp2_with fail
    refine (HLM.out w6 A3 k3 HB6.out (ownRow HO3.out)).mono ?_
    rintro e7 w7 ⟨A7, k7, rfl, ho7, hb7⟩
    have HB7 := Lib.hid (HB6.out.trans (hb7.mono HB6.out.size))
    replace HKK := Lib.hid (HKK.out.below hb7 HKK.out.lt)
    replace HO3 := Lib.hid (ownLater HO3.out hb7)
    replace HOL := Lib.hid (ownLater HOL.out hb7)
    have HOM := Lib.hid ho7
    clear c0 c1 c2' hb7 ho7
    have c0 : w7.cell? ⟨w.heap.size, 0, none⟩ = some (.slice A n c) := HKK.out.cell 0
    have c1 : w7.cell? ⟨w.heap.size, 1, none⟩ = some (.int .i64 (en : Int)) := HKK.out.cell 1
    have c2' : w7.cell? ⟨w.heap.size, 2, none⟩ = some (.int .i64 (kn : Int)) := HKK.out.cell 2
    go_wp2
    go_loopw [16] (fun i wr => ∃ t : Nat, t ≤ z ∧ i = .int .i64 t ∧ Hid (wr = w7)) (fun i _ => z - (intOf i).toNat)
    case atStart => exact ⟨0, by omega, rfl, Lib.hid rfl⟩
    case round =>
      obtain ⟨t, ht, rfl, HWE⟩ := hrel
      obtain rfl := HWE.out
      by_cases hlt : t < z
      · obtain ⟨bb, o, hA, hbw, hc⟩ := int_cell (ownRow HOL.out) (by rw [HZ.out]; omega)
        have hA2 := hA
        subst hA2
        have d0 := hc t (by rw [HZ.out]; exact hlt)
        have hmem := HLMO.out (X1[t]'(by rw [HZ.out]; exact hlt)) (List.getElem_mem _)
        obtain ⟨y, hy⟩ : ∃ y, X1[t]'(by rw [HZ.out]; exact hlt) = y := ⟨_, rfl⟩
        rw [hy] at d0 hmem
        have HH := Lib.hid (has_any wr.heap.size k7 X2.length A7 X2 y rfl (by have := HX2L.out; omega) wr (ownRow HOM.out))
        rw [isIn_true hmem] at HH
        have ht0 : (0 : Int) ≤ (t : Int) := by omega
        have ht1 : (t : Int) < (z : Int) := by omega
        clear hc hy hmem
        go_wp2_with (go_at_call 21; refine HH.out.mono ?_; rintro e w' ⟨rfl, rfl⟩)
        go_roundw
        case rel => exact ⟨t + 1, by omega, by go_num, Lib.hid (by simp)⟩
        case measure => simp [intOf]; omega
      · have ht1 : ¬ (t : Int) < (z : Int) := by omega
        rcases u1 with _ | _
        · skip
          skip
          go_wp2_with fail
          refine (HCA.out _ HB7.out).mono ?_
          rintro e8 w8 ⟨rfl, hb8⟩
          have HB8 := Lib.hid (HB7.out.trans (hb8.mono HB7.out.size))
          replace HKK := Lib.hid (HKK.out.below hb8 HKK.out.lt)
          replace HOL := Lib.hid (ownLater HOL.out hb8)
          replace HOM := Lib.hid (ownLater HOM.out hb8)
          clear c0 c1 c2' hb8
          have c0 : w8.cell? ⟨w.heap.size, 0, none⟩ = some (.slice A n c) := HKK.out.cell 0
          have c1 : w8.cell? ⟨w.heap.size, 1, none⟩ = some (.int .i64 (en : Int)) := HKK.out.cell 1
          have c2' : w8.cell? ⟨w.heap.size, 2, none⟩ = some (.int .i64 (kn : Int)) := HKK.out.cell 2
          go_wp2_with fail
          refine (HCN.out _ HB8.out).mono ?_
          rintro e9 w9 ⟨rfl, hb9⟩
          have HB9 := Lib.hid (HB8.out.trans (hb9.mono HB8.out.size))
          replace HKK := Lib.hid (HKK.out.below hb9 HKK.out.lt)
          replace HOL := Lib.hid (ownLater HOL.out hb9)
          replace HOM := Lib.hid (ownLater HOM.out hb9)
          clear c0 c1 c2' hb9
          have c0 : w9.cell? ⟨w.heap.size, 0, none⟩ = some (.slice A n c) := HKK.out.cell 0
          have c1 : w9.cell? ⟨w.heap.size, 1, none⟩ = some (.int .i64 (en : Int)) := HKK.out.cell 1
          have c2' : w9.cell? ⟨w.heap.size, 2, none⟩ = some (.int .i64 (kn : Int)) := HKK.out.cell 2
          go_wp2_with (go_at_call 10; refine (known10_any _).mono ?_; rintro e10 w10 ⟨rfl, hb10⟩)
          go_ret
          exact ⟨rfl, HB9.out.trans (hb10.mono HB9.out.size)⟩
        · obtain rfl : u2 = true := HMONO.out rfl
          skip
          go_wp2_with fail
          refine (HCA.out _ HB7.out).mono ?_
          rintro e8 w8 ⟨rfl, hb8⟩
          have HB8 := Lib.hid (HB7.out.trans (hb8.mono HB7.out.size))
          replace HKK := Lib.hid (HKK.out.below hb8 HKK.out.lt)
          replace HOL := Lib.hid (ownLater HOL.out hb8)
          replace HOM := Lib.hid (ownLater HOM.out hb8)
          clear c0 c1 c2' hb8
          have c0 : w8.cell? ⟨w.heap.size, 0, none⟩ = some (.slice A n c) := HKK.out.cell 0
          have c1 : w8.cell? ⟨w.heap.size, 1, none⟩ = some (.int .i64 (en : Int)) := HKK.out.cell 1
          have c2' : w8.cell? ⟨w.heap.size, 2, none⟩ = some (.int .i64 (kn : Int)) := HKK.out.cell 2
          go_wp2_with fail
          refine (HCN.out _ HB8.out).mono ?_
          rintro e9 w9 ⟨rfl, hb9⟩
          have HB9 := Lib.hid (HB8.out.trans (hb9.mono HB8.out.size))
          replace HKK := Lib.hid (HKK.out.below hb9 HKK.out.lt)
          replace HOL := Lib.hid (ownLater HOL.out hb9)
          replace HOM := Lib.hid (ownLater HOM.out hb9)
          clear c0 c1 c2' hb9
          have c0 : w9.cell? ⟨w.heap.size, 0, none⟩ = some (.slice A n c) := HKK.out.cell 0
          have c1 : w9.cell? ⟨w.heap.size, 1, none⟩ = some (.int .i64 (en : Int)) := HKK.out.cell 1
          have c2' : w9.cell? ⟨w.heap.size, 2, none⟩ = some (.int .i64 (kn : Int)) := HKK.out.cell 2
          go_wp2_with (go_at_call 10; refine (known10_any _).mono ?_; rintro e10 w10 ⟨rfl, hb10⟩)
          go_ret
          exact ⟨rfl, HB9.out.trans (hb10.mono HB9.out.size)⟩
  · skip
    have HOK := Lib.hid ok
    clear ok
    have c0 : W0.cell? ⟨w.heap.size, 0, none⟩ = some (.slice A n c) := HKK.out.cell 0
    have c1 : W0.cell? ⟨w.heap.size, 1, none⟩ = some (.int .i64 e) := HKK.out.cell 1
    have c2' : W0.cell? ⟨w.heap.size, 2, none⟩ = some (.int .i64 k) := HKK.out.cell 2
    go_enter Try.func7, Try.ntmps7
    go_wp2_with fail
    refine (refcheck_any A n c ns e k HN1.out HM.out W0 (HR1.out _ HB0.out)).mono ?_
    rintro e1 w1 ⟨⟨q, rfl, _, hq⟩, hb1⟩
    have HB1 := Lib.hid (HB0.out.trans (hb1.mono HB0.out.size))
    replace HKK := Lib.hid (HKK.out.below hb1 HKK.out.lt)
    clear c0 c1 c2' hb1 hW0
    have c0 : w1.cell? ⟨w.heap.size, 0, none⟩ = some (.slice A n c) := HKK.out.cell 0
    have c1 : w1.cell? ⟨w.heap.size, 1, none⟩ = some (.int .i64 e) := HKK.out.cell 1
    have c2' : w1.cell? ⟨w.heap.size, 2, none⟩ = some (.int .i64 k) := HKK.out.cell 2
    obtain rfl : q = 2 := hq HOK.out
    clear hq
    go_wp2_with (go_at_call 10; refine (known10_any _).mono ?_; rintro e2 w2 ⟨rfl, hb2⟩)
    go_ret
    exact ⟨rfl, HB1.out.trans (hb2.mono HB1.out.size)⟩
end Go.Proofs.Ytafajikjojpaaaa
