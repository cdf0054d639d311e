/- As many keep each word as should, each once, and each of them is a node. -/
import Derived.Test.YthnfinnlnkjomaaLw9
import Derived.Test.YthnfinnlnkjomaaLw9M
namespace Go.Proofs.Ythnfinnlnkjomaa
open Go.RowKit Mem Rg
set_option maxRecDepth 100000
set_option maxHeartbeats 16000000
set_option linter.unusedVariables false
theorem all_walk (A : Option Addr) (n c : Nat) (ns : List Int) (e k : Int) (h0 : Nat) (hn : n = ns.length) (hl : n ≤ maxLen) (hnc : n ≤ c) (w : World) (h : Row w w.heap.size A (ns.map iV)) :
    Calls Try.prog 7 #[.agg #[.slice A n c, .int .i64 e, .int .i64 k], .int .u64 (h0 : Int)] w (IsTr w) := by
  have hbw : Below w.heap.size w (w.alloc (.cells #[.slice A n c, .int .i64 e, .int .i64 k] 24)) := (Below.refl _ _).alloc (Nat.le_refl _) _
  have hkk : Blk (w.alloc (.cells #[.slice A n c, .int .i64 e, .int .i64 k] 24)) w.heap.size 24 #[.slice A n c, .int .i64 e, .int .i64 k] := Blk.new _ _ _
  obtain ⟨W0, hW0⟩ : ∃ W0, w.alloc (.cells #[.slice A n c, .int .i64 e, .int .i64 k] 24) = W0 := ⟨_, rfl⟩
  have HW0 := Lib.hid hW0
  rw [hW0] at hbw hkk
  have HBW := Lib.hid hbw
  have HKK := Lib.hid hkk
  have hrow : ∀ W, Below W0.heap.size W0 W → Row W W.heap.size A (ns.map iV) := fun W hb => (h.below (hbw.trans (hb.mono hbw.size))).more (Nat.le_trans hbw.size hb.size)
  have HROW := Lib.hid hrow
  have HN := Lib.hid hn
  clear h hn hW0 hbw hkk hrow
  have HB0 := Lib.hid (Below.refl W0.heap.size W0)
  have HKC := HKK.out.below HB0.out HKK.out.lt
  have c0 : W0.cell? ⟨w.heap.size, 0, none⟩ = some (.slice A n c) := HKC.cell 0
  have c1 : W0.cell? ⟨w.heap.size, 1, none⟩ = some (.int .i64 e) := HKC.cell 1
  have c2 : W0.cell? ⟨w.heap.size, 2, none⟩ = some (.int .i64 k) := HKC.cell 2
  clear HKC
  go_enter Try.func7, Try.ntmps7
  go_wp2_with fail
  rw [HW0.out]
  refine (long_any A n c e k W0).mono ?_
  rintro e1 w1 ⟨b, rfl, hb12, hb1⟩
  have HB12 := Lib.hid hb12
  clear hb12
  have HB1 := Lib.hid (HB0.out.trans (hb1.mono HB0.out.size))
  clear c0 c1 c2 hb1
  have HKC := HKK.out.below HB1.out HKK.out.lt
  have c0 : w1.cell? ⟨w.heap.size, 0, none⟩ = some (.slice A n c) := HKC.cell 0
  have c1 : w1.cell? ⟨w.heap.size, 1, none⟩ = some (.int .i64 e) := HKC.cell 1
  have c2 : w1.cell? ⟨w.heap.size, 2, none⟩ = some (.int .i64 k) := HKC.cell 2
  clear HKC
  rcases b with _ | _
  rotate_left
  · skip
    go_wp2_with (go_at_call 11; refine (known_any _).mono ?_; rintro e2 w2 ⟨rfl, hb2⟩)
    go_ret
    exact ⟨rfl, HBW.out.trans ((HB1.out.trans (hb2.mono HB1.out.size)).mono HBW.out.size)⟩
  have HN12 := Lib.hid (HB12.out rfl)
  go_wp2_with fail
  refine (refcheck_any A n c ns e k HN.out hl w1 (HROW.out _ HB1.out)).mono ?_
  rintro e2 w2 ⟨⟨q, rfl, hqa, hqb⟩, hb2⟩
  have HB2 := Lib.hid (HB1.out.trans (hb2.mono HB1.out.size))
  clear c0 c1 c2 hb2
  have HKC := HKK.out.below HB2.out HKK.out.lt
  have c0 : w2.cell? ⟨w.heap.size, 0, none⟩ = some (.slice A n c) := HKC.cell 0
  have c1 : w2.cell? ⟨w.heap.size, 1, none⟩ = some (.int .i64 e) := HKC.cell 1
  have c2 : w2.cell? ⟨w.heap.size, 2, none⟩ = some (.int .i64 k) := HKC.cell 2
  clear HKC
  by_cases ok : OkR ns e k
  rotate_left
  · skip
    obtain rfl : q = 2 := hqb ok
    clear hqa hqb ok
    go_wp2_with (go_at_call 11; refine (known_any _).mono ?_; rintro e3 w3 ⟨rfl, hb3⟩)
    go_ret
    exact ⟨rfl, HBW.out.trans ((HB2.out.trans (hb3.mono HB2.out.size)).mono HBW.out.size)⟩
  obtain rfl : q = 0 := hqa ok
  obtain ⟨en, rfl⟩ : ∃ en : Nat, e = (en : Int) := ⟨e.toNat, by have := ok.2.2.1; omega⟩
  obtain ⟨kn, rfl⟩ : ∃ kn : Nat, k = (kn : Int) := ⟨k.toNat, by have := ok.2.2.2.2.1; omega⟩
  have HOK := Lib.hid ok
  have HPL := Lib.hid (pts_len_ok ok)
  clear hqa hqb ok
  have HOKN : Hid (OkR ns en (n : Int)) := Lib.hid (by
    obtain ⟨o1, o2, o3, o4, o5, o6, o7, o8⟩ := HOK.out
    have := HN.out
    exact ⟨o1, o2, o3, o4, by omega, by omega, o7, o8⟩)
  obtain ⟨La, hLa⟩ : ∃ La, keepP (ptsP fP ns en) h0 kn = La := ⟨_, rfl⟩
  obtain ⟨Lb, hLb⟩ : ∃ Lb, keepP (ptsP fP ns en) h0 n = Lb := ⟨_, rfl⟩
  have HLA : Hid (La.length = kn) := Lib.hid (by rw [← hLa]; exact keepP_len fP ns HPL.out.2.2.1 en HPL.out.2.2.2.2.2.2 h0 kn HPL.out.2.2.2.2.2.1)
  have HLB : Hid (Lb.length = n) := Lib.hid (by rw [← hLb]; exact keepP_len fP ns HPL.out.2.2.1 en HPL.out.2.2.2.2.2.2 h0 n (by have := HN.out; omega))
  have HPRE : Hid (Lb.take La.length = La) := Lib.hid (by
    rw [HLA.out, ← hLa, ← hLb]
    unfold keepP
    rw [List.take_take, Nat.min_eq_left (by have := HPL.out; have := HN.out; omega)])
  have HIN : Hid (∀ x ∈ ns, x ∈ Lb) := Lib.hid fun x hx => by
    have hm := (metP_node fP ns en HPL.out.2.2.2.2.2.2 h0 x).2 hx
    rw [← hLb]
    unfold keepP
    rw [List.take_of_length_le (by rw [metP_len fP ns HPL.out.2.2.1 en HPL.out.2.2.2.2.2.2]; have := HN.out; omega)]
    exact hm
  have HA1 := Lib.hid fun W (h : Row W W.heap.size A (ns.map iV)) => at_ok A n c ns en kn h0 HN.out HOK.out W h
  have HA2 := Lib.hid fun W (h : Row W W.heap.size A (ns.map iV)) => at_ok A n c ns en n h0 HN.out HOKN.out W h
  rw [hLa] at HA1
  rw [hLb] at HA2
  clear hLa hLb
  go_wp2_with fail
  refine (HA1.out w2 (HROW.out _ HB2.out)).mono ?_
  rintro e3 w3 ⟨A2, k2, rfl, hoa, hb3⟩
  have HOA := Lib.hid hoa
  have HB3 := Lib.hid (HB2.out.trans (hb3.mono HB2.out.size))
  clear c0 c1 c2 hb3 hoa
  have HKC := HKK.out.below HB3.out HKK.out.lt
  have c0 : w3.cell? ⟨w.heap.size, 0, none⟩ = some (.slice A n c) := HKC.cell 0
  have c1 : w3.cell? ⟨w.heap.size, 1, none⟩ = some (.int .i64 (en : Int)) := HKC.cell 1
  have c2 : w3.cell? ⟨w.heap.size, 2, none⟩ = some (.int .i64 (kn : Int)) := HKC.cell 2
  clear HKC
  have hs3 : w.heap.size < w3.heap.size := (HKK.out.below HB3.out HKK.out.lt).lt
  obtain ⟨w4, hv4⟩ : ∃ V, w3.alloc (.cells #[.slice A n c, .int .i64 (en : Int), .int .i64 (n : Int)] 24) = V := ⟨_, rfl⟩
  have hb4 : Below w3.heap.size w3 w4 := by rw [← hv4]; exact (Below.refl _ _).alloc (Nat.le_refl _) _
  have BA : Hid (Blk w4 w3.heap.size 24 #[.slice A n c, .int .i64 (en : Int), .int .i64 (n : Int)]) := Lib.hid (by rw [← hv4]; exact Blk.new _ _ _)
  have HB4 := Lib.hid (HB3.out.trans (hb4.mono HB3.out.size))
  replace HOA := Lib.hid (own_later HOA.out hb4)
  clear hb4
  have o0 := c0
  have o1 := c1
  have o2 := c2
  clear c0 c1 c2
  have HKC := HKK.out.below HB4.out HKK.out.lt
  have c0 : w4.cell? ⟨w.heap.size, 0, none⟩ = some (.slice A n c) := HKC.cell 0
  have c1 : w4.cell? ⟨w.heap.size, 1, none⟩ = some (.int .i64 (en : Int)) := HKC.cell 1
  have c2 : w4.cell? ⟨w.heap.size, 2, none⟩ = some (.int .i64 (kn : Int)) := HKC.cell 2
  clear HKC
  have BA0 : w4.cell? ⟨w3.heap.size, 0, none⟩ = some (.slice A n c) := BA.out.cell 0
  have BA1 : w4.cell? ⟨w3.heap.size, 1, none⟩ = some (.int .i64 (en : Int)) := BA.out.cell 1
  have BA2 : w4.cell? ⟨w3.heap.size, 2, none⟩ = some (.int .i64 (n : Int)) := BA.out.cell 2
  go_wp2_with fail
  refine (HA2.out w4 (HROW.out _ HB4.out)).mono ?_
  rintro e5 w5 ⟨A3, k3, rfl, hob, hb5⟩
  have HOB := Lib.hid hob
  have HB5 := Lib.hid (HB4.out.trans (hb5.mono HB4.out.size))
  replace HOA := Lib.hid (own_later HOA.out hb5)
  replace BA := Lib.hid (BA.out.below hb5 BA.out.lt)
  clear c0 c1 c2 BA0 BA1 BA2 hb5 hob
  have HKC := HKK.out.below HB5.out HKK.out.lt
  have c0 : w5.cell? ⟨w.heap.size, 0, none⟩ = some (.slice A n c) := HKC.cell 0
  have c1 : w5.cell? ⟨w.heap.size, 1, none⟩ = some (.int .i64 (en : Int)) := HKC.cell 1
  have c2 : w5.cell? ⟨w.heap.size, 2, none⟩ = some (.int .i64 (kn : Int)) := HKC.cell 2
  clear HKC
  have BA0 : w5.cell? ⟨w3.heap.size, 0, none⟩ = some (.slice A n c) := BA.out.cell 0
  have BA1 : w5.cell? ⟨w3.heap.size, 1, none⟩ = some (.int .i64 (en : Int)) := BA.out.cell 1
  have BA2 : w5.cell? ⟨w3.heap.size, 2, none⟩ = some (.int .i64 (n : Int)) := BA.out.cell 2
  clear o0 o1 o2 hs3 hv4
  have hk3 : La.length ≤ k3 ∧ Lb.length ≤ 64 := by
    obtain ⟨_, _, hv, hc, _⟩ := ownShape HOB.out
    injection hv with _ _ hc2
    have := HLA.out; have := HLB.out; have := HPL.out; have := HN.out; have := HOK.out.2.1
    exact ⟨by rw [hc2]; omega, by omega⟩
  have cut1 := fun W => run_cut_h (P := Try.prog) (w := W) 22 3 _ _ Try.underlying22 info_i A3 Lb.length k3 La.length hk3.1
  have hla : ((La.length : Int) != (kn : Int)) = false := by rw [HLA.out]; simp
  have hlb : ((Lb.length : Int) != (n : Int)) = false := by rw [HLB.out]; simp
  have HS := Lib.hid (sameints_true _ _ k2 k3 La.length La.length A2 A3 La w5 (ownRow HOA.out) (by have := take_row (ownRow HOB.out) La.length; rw [← List.map_take, HPRE.out] at this; exact this) rfl rfl (by have := HLA.out; have := HPL.out; omega))
  have hk5 : (La.length : Int) ≤ (k3 : Int) := by have := hk3.1; omega
  have hk4 := hk3.2
  have HK4 := Lib.hid hk3.2
  clear hk3 hk4
  go_wp2_with fail
  refine HS.out.mono ?_
  rintro e6 w6 ⟨rfl, q6, hq6⟩
  have hb6 : Below w5.heap.size w5 w6 := by rw [hq6]; exact below_drew' _ _ _
  clear hq6
  have HB6 := Lib.hid (HB5.out.trans (hb6.mono HB5.out.size))
  replace HOA := Lib.hid (own_later HOA.out hb6)
  replace HOB := Lib.hid (own_later HOB.out hb6)
  replace BA := Lib.hid (BA.out.below hb6 BA.out.lt)
  clear c0 c1 c2 BA0 BA1 BA2 hb6
  have HKC := HKK.out.below HB6.out HKK.out.lt
  have c0 : w6.cell? ⟨w.heap.size, 0, none⟩ = some (.slice A n c) := HKC.cell 0
  have c1 : w6.cell? ⟨w.heap.size, 1, none⟩ = some (.int .i64 (en : Int)) := HKC.cell 1
  have c2 : w6.cell? ⟨w.heap.size, 2, none⟩ = some (.int .i64 (kn : Int)) := HKC.cell 2
  clear HKC
  have BA0 : w6.cell? ⟨w3.heap.size, 0, none⟩ = some (.slice A n c) := BA.out.cell 0
  have BA1 : w6.cell? ⟨w3.heap.size, 1, none⟩ = some (.int .i64 (en : Int)) := BA.out.cell 1
  have BA2 : w6.cell? ⟨w3.heap.size, 2, none⟩ = some (.int .i64 (n : Int)) := BA.out.cell 2
  clear cut1 hla hlb hk5
  have hn1 : (n : Int) ≤ 12 := by have := HN12.out; omega
  have HR := Lib.hid (HROW.out _ HB6.out)
  have HHAS := Lib.hid fun x => has_any _ k3 Lb.length A3 Lb x rfl (by have := HK4.out; omega) w6 (ownRow HOB.out)
  go_wp2
  go_loop [10] (fun i => ∃ t : Nat, t ≤ n ∧ i = .int .i64 t) (fun i => n - (intOf i).toNat)
  case atStart => exact ⟨0, by omega, rfl⟩
  case round =>
    obtain ⟨t, ht, rfl⟩ := hrel
    by_cases htn : t < n
    · have htl : t < ns.length := by have := HN.out; omega
      obtain ⟨b4, o4, rfl, _, hc4⟩ := int_cell HR.out (by omega)
      have d0 := hc4 t htl
      have hin := HIN.out _ (List.getElem_mem htl)
      obtain ⟨y, hy⟩ : ∃ y, ns[t] = y := ⟨_, rfl⟩
      rw [hy] at d0 hin
      have HH := Lib.hid (HHAS.out y)
      rw [isIn_true hin] at HH
      have ht0 : (0 : Int) ≤ (t : Int) := by omega
      have ht1 : (t : Int) < (n : Int) := by omega
      clear hc4 hy hin
      go_wp2_with fail
      refine HH.out.mono ?_
      rintro e9 w9 ⟨rfl, rfl⟩
      go_wp2
      go_round
      case rel => exact ⟨t + 1, by omega, by go_num⟩
      case measure => simp [intOf]; omega
    · have ht1 : ¬ (t : Int) < (n : Int) := by omega
      go_wp2_with (go_at_call 11; refine (known_any _).mono ?_; rintro e7 w7 ⟨rfl, hb7⟩)
      go_ret
      exact ⟨rfl, HBW.out.trans ((HB6.out.trans (hb7.mono HB6.out.size)).mono HBW.out.size)⟩
end Go.Proofs.Ythnfinnlnkjomaa
