/- MsSh: Package msgs: head, and slices.EqualFunc of entries by tags.Same, for Same. -/
import Derived.Test.YtgmennblbeefhaaDoorMsC
import Derived.Test.YtgmennblbeefhaaDoorMsRq
import Derived.Test.YtgmennblbeefhaaDoorMsSm
import Derived.BigFrame
namespace Go.Proofs.YtgmennblbeefhaaDoor
open Go.RowKit Mem Be Rg
set_option maxRecDepth 100000
set_option maxHeartbeats 800000
set_option linter.unusedVariables false
set_option linter.unusedSimpArgs false
theorem msghead_any (x : MV) (w : World) : Calls Tryd.prog 30 #[.agg #[.int .i64 x.kind, .int .i64 x.fr, .int .i64 x.dst, .int .i64 x.ep, .int .i64 x.op, .int .i64 x.n, .bool x.flag, .string ⟨x.e.1.k.toArray⟩, .int .i64 x.e.1.s, .int .i64 x.e.1.u, .int .i64 x.e.1.o, .bool x.e.1.has, .slice x.e.2.1 x.e.1.v.length x.e.2.2, .slice x.lA x.l.length x.lc, .slice x.rA x.ns.length x.rc, .int .i64 x.each, .int .i64 x.keep]] w
    (fun e w' => e = .returned (.agg #[.int .i64 x.kind, .int .i64 x.fr, .int .i64 x.dst, .int .i64 x.ep, .int .i64 x.op]) ∧ Below w.heap.size w w') := by
  have hk0 := (Blk.new w 34 #[.int .i64 x.kind, .int .i64 x.fr, .int .i64 x.dst, .int .i64 x.ep, .int .i64 x.op, .int .i64 x.n, .bool x.flag, .string ⟨x.e.1.k.toArray⟩, .int .i64 x.e.1.s, .int .i64 x.e.1.u, .int .i64 x.e.1.o, .bool x.e.1.has, .slice x.e.2.1 x.e.1.v.length x.e.2.2, .slice x.lA x.l.length x.lc, .slice x.rA x.ns.length x.rc, .int .i64 x.each, .int .i64 x.keep]).alloc (.cells #[.int .i64 0, .int .i64 0, .int .i64 0, .int .i64 0, .int .i64 0] 65)
  have hk1 := Blk.new (w.alloc (.cells #[.int .i64 x.kind, .int .i64 x.fr, .int .i64 x.dst, .int .i64 x.ep, .int .i64 x.op, .int .i64 x.n, .bool x.flag, .string ⟨x.e.1.k.toArray⟩, .int .i64 x.e.1.s, .int .i64 x.e.1.u, .int .i64 x.e.1.o, .bool x.e.1.has, .slice x.e.2.1 x.e.1.v.length x.e.2.2, .slice x.lA x.l.length x.lc, .slice x.rA x.ns.length x.rc, .int .i64 x.each, .int .i64 x.keep] 34)) 65 #[.int .i64 0, .int .i64 0, .int .i64 0, .int .i64 0, .int .i64 0]
  have hb1 : Below w.heap.size w ((w.alloc (.cells #[.int .i64 x.kind, .int .i64 x.fr, .int .i64 x.dst, .int .i64 x.ep, .int .i64 x.op, .int .i64 x.n, .bool x.flag, .string ⟨x.e.1.k.toArray⟩, .int .i64 x.e.1.s, .int .i64 x.e.1.u, .int .i64 x.e.1.o, .bool x.e.1.has, .slice x.e.2.1 x.e.1.v.length x.e.2.2, .slice x.lA x.l.length x.lc, .slice x.rA x.ns.length x.rc, .int .i64 x.each, .int .i64 x.keep] 34)).alloc (.cells #[.int .i64 0, .int .i64 0, .int .i64 0, .int .i64 0, .int .i64 0] 65)) := ((Below.refl _ _).alloc (Nat.le_refl _) _).alloc (by simp) _
  rw [World.size_alloc] at hk1
  obtain ⟨W1, hW1⟩ : ∃ W, (w.alloc (.cells #[.int .i64 x.kind, .int .i64 x.fr, .int .i64 x.dst, .int .i64 x.ep, .int .i64 x.op, .int .i64 x.n, .bool x.flag, .string ⟨x.e.1.k.toArray⟩, .int .i64 x.e.1.s, .int .i64 x.e.1.u, .int .i64 x.e.1.o, .bool x.e.1.has, .slice x.e.2.1 x.e.1.v.length x.e.2.2, .slice x.lA x.l.length x.lc, .slice x.rA x.ns.length x.rc, .int .i64 x.each, .int .i64 x.keep] 34)).alloc (.cells #[.int .i64 0, .int .i64 0, .int .i64 0, .int .i64 0, .int .i64 0] 65) = W := ⟨_, rfl⟩
  rw [hW1] at hk0 hk1 hb1
  have d0 : W1.cell? ⟨w.heap.size, 0, none⟩ = some (.int .i64 x.kind) := hk0.cell 0
  have d1 : W1.cell? ⟨w.heap.size, 1, none⟩ = some (.int .i64 x.fr) := hk0.cell 1
  have d2 : W1.cell? ⟨w.heap.size, 2, none⟩ = some (.int .i64 x.dst) := hk0.cell 2
  have d3 : W1.cell? ⟨w.heap.size, 3, none⟩ = some (.int .i64 x.ep) := hk0.cell 3
  have d4 : W1.cell? ⟨w.heap.size, 4, none⟩ = some (.int .i64 x.op) := hk0.cell 4
  have HK1 := Lib.hid hk1
  have HB1 := Lib.hid hb1
  clear hk0 hk1 hb1
  go_enter Tryd.func30, Tryd.ntmps30
  go_wp2_with (refine wpList_store_box rfl 65 _ _ rfl (w.heap.size + 1) 65 #[.int .i64 0, .int .i64 0, .int .i64 0, .int .i64 0, .int .i64 0] #[.int .i64 x.kind, .int .i64 x.fr, .int .i64 x.dst, .int .i64 x.ep, .int .i64 x.op] HK1.out rfl rfl rfl (by kernel_rfl) (by kernel_rfl) ?_)
  intro wz hkz hgz
  have HKz := Lib.hid hkz
  have HBz := Lib.hid (HB1.out.grown hgz HB1.out.size fun g hg => by cases hg; omega)
  clear hkz hgz hW1 d0 d1 d2 d3 d4
  go_wp2
  exact bodyPost_ret (v := .agg #[.int .i64 x.kind, .int .i64 x.fr, .int .i64 x.dst, .int .i64 x.ep, .int .i64 x.op]) (results_cell_row (p := 2) (ty := 65) Tryd.results30 _ _ (w.heap.size + 1) 65 #[.int .i64 x.kind, .int .i64 x.fr, .int .i64 x.dst, .int .i64 x.ep, .int .i64 x.op] (0, 0) _ rfl HKz.out Tryd.underlying65 rfl (by kernel_rfl)) rfl ⟨rfl, HBz.out⟩
set_option maxHeartbeats 4000000
theorem equalents_any (n c m c' : Nat) (A A' : Option Addr) (us vs : List EV) (hn : n = us.length) (hm : m = vs.length) (hl : n ≤ 1000000) (hl' : m ≤ 1000000) (hu : ∀ x ∈ us, x.1.v.length ≤ 1000000) (hv : ∀ x ∈ vs, x.1.v.length ≤ 1000000) (w : World) (h : EntsB w A us) (h' : EntsB w A' vs) :
    Calls Tryd.prog 77 #[.slice A n c, .slice A' m c', .func (.func 76) #[] #[]] w (IsB (sAllB (us.map Prod.fst) (vs.map Prod.fst)) w) := by
  obtain ⟨R, hR⟩ : ∃ R, sAllB (us.map Prod.fst) (vs.map Prod.fst) = R := ⟨_, rfl⟩
  rw [hR]
  have HV := Lib.hid hR
  have HN := Lib.hid hn
  have HM := Lib.hid hm
  have HU := Lib.hid h
  have HVV := Lib.hid h'
  have HLU := Lib.hid hu
  have HLV := Lib.hid hv
  clear h h' hR hu hv
  by_cases hnm : n = m
  · subst hnm
    clear hn hm
    go_enter Tryd.func77, Tryd.ntmps77
    go_wp2
    go_loopw [17] (fun i wr => ∃ k : Nat, k ≤ n ∧ i = .int .i64 k ∧ Hid (Below w.heap.size w wr) ∧ Hid (∀ j (h1 : j < us.length) (h2 : j < vs.length), j < k → sEB us[j].1 vs[j].1 = true)) (fun i _ => n - (intOf i).toNat)
    case atStart => exact ⟨0, by omega, rfl, Lib.hid (Below.refl _ _), Lib.hid fun j _ _ h => absurd h (Nat.not_lt_zero _)⟩
    case round =>
      obtain ⟨k, hk, rfl, HB, HS⟩ := hrel
      by_cases hlt : k < n
      · have hk1 : k < us.length := by rw [← HN.out]; exact hlt
        have hk2 : k < vs.length := by rw [← HM.out]; exact hlt
        obtain ⟨b, o, rfl, hb, hc⟩ := ents_open (HU.out.below HB.out).row (by omega)
        obtain ⟨b', o', rfl, hb', hc'⟩ := ents_open (HVV.out.below HB.out).row (by omega)
        obtain ⟨a0, a1, a2, a3, a4, a5⟩ := hc k hk1
        obtain ⟨b0, b1, b2, b3, b4, b5⟩ := hc' k hk2
        have v1 := (HU.out.below HB.out).val us[k] (List.getElem_mem hk1)
        have v2 := (HVV.out.below HB.out).val vs[k] (List.getElem_mem hk2)
        have s1 := HLU.out us[k] (List.getElem_mem hk1)
        have s2 := HLV.out vs[k] (List.getElem_mem hk2)
        obtain ⟨q, hq⟩ : ∃ q, sEB (us[k]'hk1).1 (vs[k]'hk2).1 = q := ⟨_, rfl⟩
        have HQ : Hid ((q = true → ∀ j (h1 : j < us.length) (h2 : j < vs.length), j < k + 1 → sEB us[j].1 vs[j].1 = true) ∧ (q = false → R = false)) := Lib.hid ⟨fun hq' j h1 h2 hj => by
          by_cases hjk : j = k
          · subst hjk; exact hq.trans hq'
          · exact HS.out j h1 h2 (by omega), fun hq' => by
          rw [← HV.out]
          cases hs : sAllB (us.map Prod.fst) (vs.map Prod.fst)
          · rfl
          · have := sAllB_at k (by simpa using hk1) (by simpa using hk2) hs
            simp only [List.getElem_map] at this
            rw [hq, hq'] at this; cases this⟩
        obtain ⟨⟨x, A1, c1⟩, hx⟩ : ∃ p, us[k]'hk1 = p := ⟨_, rfl⟩
        obtain ⟨⟨y, A2, c2⟩, hy⟩ : ∃ p, vs[k]'hk2 = p := ⟨_, rfl⟩
        rw [hx] at a0 a1 a2 a3 a4 a5 v1 hq s1
        rw [hy] at b0 b1 b2 b3 b4 b5 v2 hq s2
        simp only at a0 a1 a2 a3 a4 a5 b0 b1 b2 b3 b4 b5 v1 v2 hq s1 s2
        have C := fun W (hW : Below wr.heap.size wr W) => same_ent ⟨x.k.toArray⟩ ⟨y.k.toArray⟩ x.s x.u x.o y.s y.u y.o x.has y.has A1 A2 x.v y.v c1 c2 x.v.length y.v.length rfl rfl W ((v1.below hW).ok (Nat.le_trans s1 (by decide))) ((v2.below hW).ok (Nat.le_trans s2 (by decide)))
        unfold sEB at hq
        rw [hq] at C
        have HC := Lib.hid C
        have hki : (0 : Int) ≤ (k : Int) := by omega
        have hki2 : (k : Int) < (n : Int) := by omega
        have hbs : b < wr.heap.size := hb
        have hbs' : b' < wr.heap.size := hb'
        clear hc hc' hx hy v1 v2 hq HS C
        cases q
        · have HR : Hid (R = false) := Lib.hid (HQ.out.2 rfl)
          clear HQ
          go_wp2_with fail
          refine (HC.out _ (((Below.refl _ _).alloc (Nat.le_refl _) _).alloc (by simp) _)).mono ?_
          rintro e w2 ⟨rfl, hb2⟩
          have HB2 : Hid (Below w.heap.size w w2) := Lib.hid (HB.out.trans ((below_after2 hb2).mono HB.out.size))
          clear hb2
          go_wp2
          go_ret
          exact isB_of HR.out.symm HB2.out
        · have HS := Lib.hid (HQ.out.1 rfl)
          clear HQ
          go_wp2_with fail
          refine (HC.out _ (((Below.refl _ _).alloc (Nat.le_refl _) _).alloc (by simp) _)).mono ?_
          rintro e w2 ⟨rfl, hb2⟩
          have HB2 : Hid (Below w.heap.size w w2) := Lib.hid (HB.out.trans ((below_after2 hb2).mono HB.out.size))
          clear hb2
          go_wp2
          go_roundw
          case rel => exact ⟨k + 1, by omega, by go_num, HB2, HS⟩
          case measure => simp [intOf]; omega
      · obtain rfl : n = k := by omega
        have HR : Hid (R = true) := Lib.hid (by
          rw [← HV.out]
          refine sAllB_of (by rw [List.length_map, List.length_map, ← HN.out, ← HM.out]) fun j h1 h2 => ?_
          simp only [List.length_map] at h1 h2
          simp only [List.getElem_map]
          exact HS.out j h1 h2 (by rw [HN.out]; exact h1))
        clear HS
        go_wp2
        go_ret
        exact isB_of HR.out.symm HB.out
  · have HR : Hid (R = false) := Lib.hid (by
      rw [← HV.out]
      cases hs : sAllB (us.map Prod.fst) (vs.map Prod.fst)
      · rfl
      · have := sAllB_len hs
        simp only [List.length_map] at this
        exact absurd (by rw [HN.out, HM.out]; exact this) hnm)
    have hln : ((n : Int) != (m : Int)) = true := by simp; omega
    clear hn hm hnm
    go_enter Tryd.func77, Tryd.ntmps77
    go_wp2
    go_ret
    exact isB_of HR.out.symm (Below.refl _ _)
end Go.Proofs.YtgmennblbeefhaaDoor
