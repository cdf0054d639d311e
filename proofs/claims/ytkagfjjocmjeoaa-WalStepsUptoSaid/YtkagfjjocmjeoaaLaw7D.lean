/- The law WalParts, walked. -/
import Derived.Test.YtkagfjjocmjeoaaLaw7C
namespace Go.Proofs.Ytkagfjjocmjeoaa
open Go.RowKit Mem Be Word Frm
set_option maxRecDepth 100000
set_option maxHeartbeats 4000000
set_option linter.unusedVariables false
theorem lenR_sumL (ls : List RowV) : lenR ls + ls.length = sumL ls := by
  induction ls with
  | nil => rfl
  | cons r ls ih => unfold lenR sumL at ih ⊢; rw [List.map_cons, List.map_cons, List.sum_cons, List.sum_cons, List.length_cons]; omega
def cntL (ls : List RowV) (j : Nat) : Nat := 10 * j + lenR (ls.take j)
theorem cntL_snoc (ls : List RowV) (j : Nat) (h : j < ls.length) : cntL ls (j + 1) = cntL ls j + 10 + ls[j].2.1.length := by unfold cntL; rw [lenR_snoc ls j h]; omega
theorem newR_len (k : UInt8) (ls : List RowV) : (newR k (bytesR ls)).length = ls.length := by simp [newR, bytesR]
theorem add_parts {k : UInt8} {ls : List RowV} (h : lenR ls + ls.length * 10 ≤ 65536) : addS [] k (bytesR ls) = (newR k (bytesR ls), 0) := by
  refine add_ok (fun b hb => ?_) ?_
  · obtain ⟨r, hr, rfl⟩ := List.mem_map.1 hb
    have := lenR_each hr
    show r.2.1.length ≤ _
    omega
  · rw [List.nil_append, all_newR]; omega
theorem add_part {k : UInt8} {ls : List RowV} {j : Nat} (hj : j < ls.length) (h : lenR ls + ls.length * 10 ≤ 65536) : addS (newR k (bytesR (ls.take j))) k [ls[j].2.1] = (newR k (bytesR (ls.take (j + 1))), 0) := by
  have h1 := lenR_each (List.getElem_mem hj)
  have h2 := lenR_le ls (j + 1)
  have h3 : (ls.take (j + 1)).length ≤ ls.length := by rw [List.length_take]; omega
  have e : newR k (bytesR (ls.take j)) ++ newR k [ls[j].2.1] = newR k (bytesR (ls.take (j + 1))) := (newR_snoc k ls j hj).symm
  rw [add_ok (fun b hb => by
    have : b = ls[j].2.1 := by simpa using hb
    subst this; omega) (by rw [e, all_newR]; omega), e]
/-- Two logs of a statement's own, apart. -/
structure Two (w0 w : World) (Fa Fb : Nat → Prop) (ga gb : Nat) (ra rb : List Rc) (ma mb qa qb : Nat) : Prop where
  a : Lg1 w0 w Fa ga ra ma qa
  b : Lg1 w0 w Fb gb rb mb qb
  ap : ∀ k, Fa k → ¬ Fb k
section
variable {w0 w w1 : World} {Fa Fb F' : Nat → Prop} {ga gb ma mb qa qb m' q' : Nat} {ra rb r' : List Rc}
theorem Two.below (h : Two w0 w Fa Fb ga gb ra rb ma mb qa qb) (hb : Below w.heap.size w w1) : Two w0 w1 Fa Fb ga gb ra rb ma mb qa qb := ⟨h.a.below hb, h.b.below hb, h.ap⟩
theorem Two.toB (h : Two w0 w Fa Fb ga gb ra rb ma mb qa qb) (hf : ∀ k, F' k → Fb k ∨ w.heap.size ≤ k) (hl : LgAt w1 F' gb r' m' q') (ht : Touch Fb w w1) : Two w0 w1 Fa F' ga gb ra r' ma m' qa q' :=
  ⟨h.a.touch ht h.ap h.b.new, h.b.to hf hl ht, fun k h1 h2 => by
    rcases hf k h2 with h3 | h3
    · exact h.ap k h1 h3
    · have := h.a.at_.lt k h1; omega⟩
theorem Two.toA (h : Two w0 w Fa Fb ga gb ra rb ma mb qa qb) (hf : ∀ k, F' k → Fa k ∨ w.heap.size ≤ k) (hl : LgAt w1 F' ga r' m' q') (ht : Touch Fa w w1) : Two w0 w1 F' Fb ga gb r' rb m' mb q' qb :=
  ⟨h.a.to hf hl ht, h.b.touch ht (fun k h1 h2 => h.ap k h2 h1) h.a.new, fun k h1 h2 => by
    rcases hf k h1 with h3 | h3
    · exact h.ap k h3 h2
    · have := h.b.at_.lt k h2; omega⟩
end
theorem parts7_walk (A : Option Addr) (ls : List RowV) (n c x : Nat) (hn : n = ls.length) (hsm : lenR ls + ls.length ≤ 1048576) (hx : x ≤ 255) (w : World) (hL : Row w w.heap.size A (ls.map rowV)) (hLO : ∀ r ∈ ls, RowOk w w.heap.size r) :
    Calls Try.prog 7 #[.slice A n c, .int .u8 (x : Int)] w (IsT true w) := by
  have HR := Lib.hid hL
  have HRO := Lib.hid hLO
  have HN := Lib.hid hn
  have HSM := Lib.hid hsm
  have hni : (n : Int) ≤ 1048576 := by omega
  have hni0 : (0 : Int) ≤ (n : Int) := by omega
  obtain ⟨y0, hy0⟩ : ∃ y0, x % 255 = y0 := ⟨_, rfl⟩
  have hrem : (x : Int).tmod 255 = (y0 : Int) := by rw [Int.tmod_eq_emod_of_nonneg (by omega)]; omega
  have hy1 : y0 ≤ 254 := by omega
  obtain ⟨k, hk⟩ : ∃ k : UInt8, k.toNat = y0 + 1 := ⟨UInt8.ofNat (y0 + 1), by rw [UInt8.toNat_ofNat']; omega⟩
  have hk0 : k ≠ 0 := fun e => by rw [e] at hk; simp at hk
  obtain ⟨kk, hkk⟩ : ∃ kk, k.toNat = kk := ⟨_, rfl⟩
  have hsum : (y0 : Int) + 1 = (kk : Int) := by omega
  have hwk : IntKind.u8.wrap (kk : Int) = (kk : Int) := by rw [IntKind.wrap_u8]; omega
  have HK0 := Lib.hid hk0
  have HKK := Lib.hid hkk
  have hxi : (x : Int) ≤ 255 := by omega
  have hxi0 : (0 : Int) ≤ (x : Int) := by omega
  clear hL hLO hn hsm hx hy0 hy1 hk hk0 hkk
  go_enter Try.func7, Try.ntmps7
  go_wp2_with fail
  go_loop [5, 6] (fun z i => ∃ j : Nat, j ≤ n ∧ i = .int .i64 j ∧ z = .int .i64 ((cntL ls j : Nat) : Int)) (fun _ i => n - (intOf i).toNat)
  case atStart => exact ⟨0, by omega, rfl, by simp [cntL, lenR]⟩
  case round =>
    obtain ⟨j, hj, rfl, rfl⟩ := hrel
    by_cases hlt : j < n
    · have hj1 : j < ls.length := by rw [← HN.out]; exact hlt
      obtain ⟨b, o, rfl, _, hc⟩ := HR.out.open_ (by simp; omega)
      have hcell : w.cell? ⟨b, o + j, none⟩ = some (rowV ls[j]) := (hc j (by simpa using hj1)).trans (congrArg some (List.getElem_map (f := rowV) (h := by simpa using hj1)))
      have hs := cntL_snoc ls j hj1
      have hyl := lenR_each (List.getElem_mem hj1)
      have hmx := lenR_le ls j
      obtain ⟨⟨A7, y, c7⟩, hy⟩ : ∃ y, ls[j] = y := ⟨_, rfl⟩
      rw [hy] at hcell hs hyl
      unfold rowV at hcell
      simp only at hcell hs hyl
      have hzb : cntL ls j ≤ 20000000 := by unfold cntL; have := HSM.out; have := HN.out; omega
      obtain ⟨z, hz⟩ : ∃ z, cntL ls j = z := ⟨_, rfl⟩
      rw [hz] at hs hzb ⊢
      have HS := Lib.hid hs
      have hz1 : (z : Int) ≤ 20000000 := by omega
      have hz0 : (0 : Int) ≤ (z : Int) := by omega
      have hyi : (y.length : Int) ≤ 1048576 := by have := HSM.out; omega
      have hji : (0 : Int) ≤ (j : Int) := by omega
      have hji2 : (j : Int) < (n : Int) := by omega
      clear hc hy hs hyl hmx hz hzb
      go_wp2
      go_round
      case rel => exact ⟨j + 1, by omega, by go_num, by rw [HS.out]; go_num⟩
      case measure => simp [intOf]; omega
    · obtain rfl : j = n := by omega
      have hcn : cntL ls j = 10 * j + lenR ls := by unfold cntL; rw [List.take_of_length_le (by rw [← HN.out]; omega)]
      rw [hcn]
      obtain ⟨z, hz⟩ : ∃ z, 10 * j + lenR ls = z := ⟨_, rfl⟩
      rw [hz]
      by_cases hzb : 800 < z
      · have hzi : (800 : Int) < (z : Int) := by omega
        clear hz hzb hcn
        go_wp2_with fail
        refine (known7_any _).mono ?_
        rintro e w1 ⟨rfl, hb⟩
        have HB := Lib.hid hb
        clear hb
        go_wp2
        go_ret
        exact ⟨rfl, HB.out⟩
      have hzi : (z : Int) ≤ 800 := by omega
      have HLE : Hid (lenR ls + ls.length * 10 ≤ 800) := Lib.hid (by have := HN.out; omega)
      clear hz hzb hcn
      go_wp2_with fail
      refine (newlg_any w).mono ?_
      rintro e w1 ⟨ga, Fa, rfl, hF, hd, hb⟩
      have HA1 : Hid (Lg1 w w1 Fa ga [] 0 0) := Lib.hid ⟨hF, hd, hb⟩
      simp only [id]
      clear hF hd hb
      go_wp2_with fail
      refine (newlg_any w1).mono ?_
      rintro e w2 ⟨gb, Fb, rfl, hF, hd, hb⟩
      have HT2 : Hid (Two w w2 Fa Fb ga gb [] [] 0 0 0 0) := Lib.hid ⟨HA1.out.below hb, HA1.out.new_ hF hd hb, fun i h1 h2 => by have := HA1.out.at_.lt i h1; have := hF i h2; omega⟩
      simp only [id]
      clear hF hd hb HA1
      have hap := append7_any Fa ga 0 0 j c k HK0.out [] A ls HN.out (by omega) (fun r hr => by have := lenR_each hr; have := HSM.out; unfold maxLen; omega) w2 HT2.out.a.at_ (RowN.of_low (HR.out.below HT2.out.a.bel) HT2.out.a.bel.size HT2.out.a.new) (fun r hr => RowN.of_low ((HRO.out r hr).1.below HT2.out.a.bel) HT2.out.a.bel.size HT2.out.a.new)
      rw [add_parts (by have := HLE.out; omega), HKK.out] at hap
      have HAP := Lib.hid hap
      clear hap
      go_wp2_with fail
      refine HAP.out.mono ?_
      rintro e w3 ⟨rfl, Fa3, hf, hl, ht⟩
      have HT3 := Lib.hid (HT2.out.toA hf hl ht)
      clear hf hl ht HAP HT2
      go_wp2_with fail
      go_loopw [11] (fun i wr => ∃ t : Nat, t ≤ j ∧ i = .int .i64 t ∧ Hid (∃ F, Two w wr Fa3 F ga gb (newR k (bytesR ls)) (newR k (bytesR (ls.take t))) 0 0 0 0)) (fun i _ => j - (intOf i).toNat)
      case atStart => exact ⟨0, by omega, rfl, Lib.hid ⟨Fb, HT3.out⟩⟩
      case round =>
        obtain ⟨t, ht, rfl, HX⟩ := hrel
        obtain ⟨F, hx⟩ := HX.out
        have HT := Lib.hid hx
        clear hx HX HT3
        by_cases hlt : t < j
        · have ht1 : t < ls.length := by rw [← HN.out]; exact hlt
          obtain ⟨b, o, rfl, _, hc⟩ := (HR.out.below HT.out.b.bel).open_ (by simp; omega)
          have hcell : wr.cell? ⟨b, o + t, none⟩ = some (rowV ls[t]) := (hc t (by simpa using ht1)).trans (congrArg some (List.getElem_map (f := rowV) (h := by simpa using ht1)))
          have hrow := (HRO.out ls[t] (List.getElem_mem ht1)).1
          have hpart := add_part (k := k) ht1 (by have := HLE.out; omega)
          have hyl := lenR_each (List.getElem_mem ht1)
          obtain ⟨⟨A7, y, c7⟩, hy⟩ : ∃ y, ls[t] = y := ⟨_, rfl⟩
          rw [hy] at hcell hrow hpart hyl
          unfold rowV at hcell
          simp only at hcell hrow hpart hyl
          have hap := append7_one wr.heap.size F gb 0 0 k HK0.out _ A7 y c7 wr rfl HT.out.b.at_ (RowN.of_low (hrow.below HT.out.b.bel) HT.out.b.bel.size HT.out.b.new) (by have := HLE.out; unfold maxLen; omega)
          rw [hpart, HKK.out] at hap
          have HAP := Lib.hid hap
          have hti : (0 : Int) ≤ (t : Int) := by omega
          have hti2 : (t : Int) < (j : Int) := by omega
          clear hc hrow hpart hyl hy hap
          go_wp2_with fail
          refine HAP.out.mono ?_
          rintro e w4 ⟨rfl, F4, hf, hl, hto⟩
          have HX4 : Hid (∃ F, Two w w4 Fa3 F ga gb (newR k (bytesR ls)) (newR k (bytesR (ls.take (t + 1)))) 0 0 0 0) := Lib.hid ⟨F4, HT.out.toB hf hl hto⟩
          clear hf hl hto HAP HT
          go_wp2
          go_roundw
          case rel => exact ⟨t + 1, by omega, by go_num, HX4⟩
          case measure => simp [intOf]; omega
        · obtain rfl : t = j := by omega
          have htk : ls.take t = ls := List.take_of_length_le (by rw [← HN.out]; omega)
          rw [htk] at HT
          have hlen : (newR k (bytesR ls)).length = t := by rw [newR_len, HN.out]
          have HLN := Lib.hid hlen
          obtain ⟨rs, hrs⟩ : ∃ rs, newR k (bytesR ls) = rs := ⟨_, rfl⟩
          rw [hrs] at HT HLN
          clear htk hlen hrs
          have hsy := sync7_any Fa3 ga 0 0 rs (by omega) wr HT.out.a.at_
          rw [HLN.out] at hsy
          have HSY := Lib.hid hsy
          clear hsy
          go_wp2_with fail
          refine HSY.out.mono ?_
          rintro e w5 ⟨rfl, Fa5, hf, hl, hto⟩
          have HT5 := Lib.hid (HT.out.toA hf hl hto)
          clear hf hl hto HSY HT
          obtain ⟨qa, hqa⟩ : ∃ qa, upN (allB (rs.drop 0)) 0 = qa := ⟨_, rfl⟩
          rw [hqa] at HT5
          go_wp2_with fail
          refine (records7_any Fa5 ga _ _ _ w5 HT5.out.a.at_).mono ?_
          rintro e w6 ⟨us, A6, c6, hus, rfl, hou, hrc, hb⟩
          have HT6 := Lib.hid (HT5.out.below hb)
          have HLA : Hid (∀ i, Fa5 i → i < w5.heap.size) := Lib.hid HT5.out.a.at_.lt
          have HLB : Hid (∀ i, F i → i < w5.heap.size) := Lib.hid HT5.out.b.at_.lt
          have HB5 : Hid (w.heap.size ≤ w5.heap.size) := Lib.hid HT5.out.a.bel.size
          have hul : us.length = t := by have := congrArg List.length hus; rw [List.length_map, HLN.out] at this; exact this
          have HUL := Lib.hid hul
          have HUS := Lib.hid hus
          have HRC := Lib.hid hrc
          rw [hul] at hou ⊢
          have HOU := Lib.hid hou
          clear hus hou hrc hb hul HT5 hqa
          go_wp2_with fail
          refine (records7_any F gb _ _ _ w6 HT6.out.b.at_).mono ?_
          rintro e w7 ⟨vs, A7, c7, hvs, rfl, hov, hrv, hb⟩
          have HT7 := Lib.hid (HT6.out.below hb)
          have HO7 := Lib.hid (ownLater HOU.out hb)
          have hvl : vs.length = t := by have := congrArg List.length hvs; rw [List.length_map, HLN.out] at this; exact this
          have HSA := Lib.hid (same_rs (show InRs w7 A6 us from (show InRs w6 A6 us from inRs_of HOU.out HRC.out).later hb) (inRs_of hov hrv) t t c6 c7 HUL.out.symm hvl.symm (HUS.out.trans hvs.symm) (by omega))
          rw [hvl]
          clear hvs hov hrv hb hvl HT6 HOU HRC HUS HUL
          go_wp2_with fail
          refine HSA.out.mono ?_
          rintro e w8 ⟨rfl, hb⟩
          have HT8 := Lib.hid (HT7.out.below hb)
          have HO8 := Lib.hid (ownLater HO7.out hb)
          clear hb HSA HT7 HO7
          go_wp2_with fail
          refine (lasting7_any Fa5 ga _ _ _ w8 HT8.out.a.at_).mono ?_
          rintro e w' ⟨rfl, rfl⟩
          go_wp2_with fail
          refine (pending7_any Fa5 ga _ _ _ w8 HT8.out.a.at_).mono ?_
          rw [HLN.out, Int.sub_self]
          rintro e w9 ⟨rfl, hb⟩
          have HT9 := Lib.hid (HT8.out.below hb)
          have HO9 := Lib.hid (ownLater HO8.out hb)
          clear hb HT8 HO8
          go_wp2_with fail
          refine (pending7_any F gb _ _ _ w9 HT9.out.b.at_).mono ?_
          rw [HLN.out]
          rintro e w10 ⟨rfl, hb⟩
          have HT10 := Lib.hid (HT9.out.below hb)
          have HO10 := Lib.hid (ownLater HO9.out hb)
          simp only [Int.natCast_zero, Int.sub_zero]
          clear hb HT9 HO9
          go_wp2_with fail
          go_loopw [14] (fun i wr => ∃ u : Nat, u ≤ t ∧ i = .int .i64 u ∧ Hid (Two w wr Fa5 F ga gb rs rs t 0 qa 0) ∧ Hid (∃ xs, wr.ownsRow w5.heap.size 64 2 (.slice A6 t c6) t xs)) (fun i _ => t - (intOf i).toNat)
          case atStart => exact ⟨0, by omega, rfl, HT10, Lib.hid ⟨_, HO10.out⟩⟩
          case round =>
            obtain ⟨u, hu, rfl, HTu, HOu⟩ := hrel
            by_cases hlt : u < t
            · obtain ⟨xs, hox⟩ := HOu.out
              obtain ⟨b, rfl⟩ : ∃ b, A6 = some ⟨b, 0, none⟩ := by
                rcases hox.2 with ⟨_, hn0⟩ | ⟨b, cap, cur, hv, _⟩
                · omega
                · injection hv with hv; exact ⟨b, hv⟩
              have hxl : xs.length = t * 2 := hox.1
              have hcell : wr.cell? ⟨b, u * 2, none⟩ = some (xs[u * 2]'(by omega)) := (hox.cellAt (u * 2) (by omega)).trans (List.getElem?_eq_getElem (by omega))
              have hfz := hox.frozenAt (u * 2)
              have hst := (hox.stored (u * 2) (.int .u8 0)).1
              have hbb := (ownIn hox rfl).1
              have hto : Touch (fun i => i = b) wr (wr.setCell ⟨b, u * 2, none⟩ (.int .u8 0)) := (Touch.refl (fun i => i = b) wr).set_ (p := ⟨b, u * 2, none⟩) (Or.inl rfl) _
              have HT2 : Hid (Two w (wr.setCell ⟨b, u * 2, none⟩ (.int .u8 0)) Fa5 F ga gb rs rs t 0 qa 0) := Lib.hid ⟨HTu.out.a.touch hto (fun i h1 h2 => by have := HLA.out i h1; simp only at hbb; omega) (fun i h2 => by have := HB5.out; simp only at hbb; omega),
                HTu.out.b.touch hto (fun i h1 h2 => by have := HLB.out i h1; simp only at hbb; omega) (fun i h2 => by have := HB5.out; simp only at hbb; omega), HTu.out.ap⟩
              have HO2 : Hid (∃ xs, (wr.setCell ⟨b, u * 2, none⟩ (.int .u8 0)).ownsRow w5.heap.size 64 2 (.slice (some ⟨b, 0, none⟩) t c6) t xs) := Lib.hid ⟨_, hst⟩
              obtain ⟨vx, hvx⟩ : ∃ vx, xs[u * 2]'(by omega) = vx := ⟨_, rfl⟩
              rw [hvx] at hcell
              have hui : (0 : Int) ≤ (u : Int) := by omega
              have hui2 : (u : Int) < (t : Int) := by omega
              clear hox hst hto hvx hxl hbb HTu HOu
              go_wp2
              go_roundw
              case rel => exact ⟨u + 1, by omega, by go_num, HT2, HO2⟩
              case measure => simp [intOf]; omega
            · obtain rfl : u = t := by omega
              go_wp2_with fail
              refine (records7_any Fa5 ga _ _ _ wr HTu.out.a.at_).mono ?_
              rintro e w11 ⟨us, A11, c11, hus, rfl, hou, hrc, hb⟩
              have HT11 := Lib.hid (HTu.out.below hb)
              have HUS := Lib.hid hus
              have HU11 := Lib.hid (inRs_of hou hrc)
              have hul : us.length = u := by have := congrArg List.length hus; rw [List.length_map, HLN.out] at this; exact this
              have HUL := Lib.hid hul
              rw [hul]
              clear hus hou hrc hb hul
              go_wp2_with fail
              refine (records7_any F gb _ _ _ w11 HT11.out.b.at_).mono ?_
              rintro e w12 ⟨vs, A12, c12, hvs, rfl, hov, hrv, hb⟩
              have HT12 := Lib.hid (HT11.out.below hb)
              have hvl : vs.length = u := by have := congrArg List.length hvs; rw [List.length_map, HLN.out] at this; exact this
              have HSA := Lib.hid (same_rs (HU11.out.later hb) (inRs_of hov hrv) u u c11 c12 HUL.out.symm hvl.symm (HUS.out.trans hvs.symm) (by omega))
              rw [hvl]
              clear hvs hov hrv hb hvl HT11
              go_wp2_with fail
              refine HSA.out.mono ?_
              rintro e w13 ⟨rfl, hb⟩
              have HT13 := Lib.hid (HT12.out.below hb)
              clear hb HSA HT12
              go_wp2_with fail
              refine (known7_any _).mono ?_
              rintro e w14 ⟨rfl, hb⟩
              have HB14 := Lib.hid (HT13.out.a.bel.trans (hb.mono HT13.out.a.bel.size))
              clear hb
              go_wp2
              go_ret
              exact ⟨rfl, HB14.out⟩
end Go.Proofs.Ytkagfjjocmjeoaa
