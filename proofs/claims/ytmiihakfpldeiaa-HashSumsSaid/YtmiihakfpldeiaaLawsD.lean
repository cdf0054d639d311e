/- The law HashSums, walked. -/
import Derived.Test.YtmiihakfpldeiaaLawsA
namespace Go.Proofs.Ytmiihakfpldeiaa
open Go.RowKit Mem Be Word
set_option maxRecDepth 100000
set_option maxHeartbeats 4000000
theorem catB_take_le (rs : List RowV) (k : Nat) (hk : k < rs.length) : rs[k].2.1.length ≤ (catB (rs.take (k + 1))).length := by
  rw [catB_snoc rs k hk, List.length_append]; omega
theorem sums_walk (A : Option Addr) (rs : List RowV) (n c : Nat) (hn : n = rs.length) (hnm : n ≤ 9223372036854775807) (w : World) (h : Row w w.heap.size A (rs.map rowV)) (hx : Rows_ w rs) (hm : ∀ r ∈ rs, r.2.1.length ≤ 140737488355328) :
    Calls Try.prog 3 #[.slice A n c] w fun e w' => e = .returned (.bool true) ∧ Below w.heap.size w w' := by
  obtain ⟨i0, hi0, hz0, hz1, hz2⟩ := info_parts info_b
  have HR := Lib.hid h
  have HX := Lib.hid hx
  have HM := Lib.hid hm
  have HN := Lib.hid hn
  clear h hx hm hn
  go_enter Try.func3, Try.ntmps3
  go_wp2
  go_loopw [3, 4] (fun v i wr => ∃ (k m cp : Nat) (A3 : Option Addr), k ≤ n ∧ i = .int .i64 k ∧ v = .slice A3 m cp ∧ m ≤ 3000 ∧ Hid (m = (catB (rs.take k)).length) ∧ Hid (wr.ownsRow w.heap.size 5 1 (.slice A3 m cp) m ((catB (rs.take k)).map byteV)) ∧ Hid (Below w.heap.size w wr)) (fun _ i _ => n - (intOf i).toNat)
  case atStart => exact ⟨0, 0, 0, none, by omega, rfl, rfl, by omega, Lib.hid rfl, Lib.hid (World.ownsRow_nil _ _ _ _), Lib.hid (Below.refl _ _)⟩
  case round =>
    obtain ⟨k, m, cp, A3, hk, rfl, rfl, hm3, HL, HO, HB⟩ := hrel
    by_cases hlt : k < n
    · have HRk := (HR.out.below HB.out)
      obtain ⟨b, o, rfl, hb, hc⟩ := HRk.open_ (by rw [List.length_map, ← HN.out]; omega)
      have hkr : k < rs.length := by rw [← HN.out]; exact hlt
      have hck := hc k (by rw [List.length_map]; exact hkr)
      rw [List.getElem_map] at hck
      have hrow := (HX.out rs[k] (List.getElem_mem hkr)).below HB.out
      have hlen := HM.out rs[k] (List.getElem_mem hkr)
      have hcat := catB_snoc rs k hkr
      obtain ⟨⟨a, bs, rp⟩, hr⟩ : ∃ r, rs[k] = r := ⟨_, rfl⟩
      rw [hr] at hck hrow hlen hcat
      unfold rowV at hck
      simp only at hck hrow hlen hcat
      have HC := Lib.hid hcat
      have HW := Lib.hid hrow
      clear hc hcat hrow hr hb HRk
      by_cases h3 : 3000 < m + bs.length
      · have h3' : (3000 : Int) < (m : Int) + (bs.length : Int) := by omega
        clear h3
        go_wp2_with (go_at_call 10; refine (known_any _).mono ?_; rintro e w' ⟨rfl, hb⟩; have HB2 := Lib.hid (HB.out.trans (hb.mono HB.out.size)); clear hb)
        go_ret
        exact ⟨rfl, HB2.out⟩
      · have h3' : (m : Int) + (bs.length : Int) ≤ 3000 := by omega
        have h3n : m + bs.length ≤ 3000 := by omega
        clear h3
        go_wp2_with (at_builtin; refine wpList_app _ rfl _ _ 23 rfl w.heap.size 5 i0 (.int .u8 0) 1 Try.underlying23 hi0 hz0 hz1 hz2 rfl _ _ _ rfl HO.out w.heap.size _ _ rp (bs.map byteV) rfl (by simp) HW.out (byte_one _) (by unfold maxLen; omega) (by omega) HB.out.size ?_)
        intro v' w3 hown hgr _
        have HB3 : Hid (Below w.heap.size w w3) := Lib.hid (HB.out.grown hgr HB.out.size fun g h => (HO.out.lt g h).1)
        have HL3 : Hid (m + bs.length = (catB (rs.take (k + 1))).length) := Lib.hid (by rw [HC.out, List.length_append, ← HL.out])
        have hx3 : (catB (rs.take k)).map byteV ++ bs.map byteV = (catB (rs.take (k + 1))).map byteV := by rw [HC.out, List.map_append]
        obtain ⟨A4, c4, hv, ho4, _⟩ := made_of (bs := catB (rs.take (k + 1))) hown hx3 HB3.out
        rw [← HL3.out] at hv ho4
        injection hv with hv
        subst hv
        have HO4 := Lib.hid ho4
        clear hown hgr ho4 hx3
        go_wp2
        go_roundw
        case rel => exact ⟨k + 1, m + bs.length, c4, A4, by omega, by go_num, rfl, h3n, HL3, HO4, HB3⟩
        case measure => simp [intOf]; omega
    · have hfin : Hid (rs.take k = rs) := Lib.hid (List.take_of_length_le (by rw [← HN.out]; omega))
      have HR1 := Lib.hid (HR.out.below HB.out)
      have HX1 : Hid (Rows_ wr rs) := Lib.hid fun r hr => ((HX.out r hr).below HB.out).more HB.out.size
      have HO1 := Lib.hid (Row.of_own HO.out)
      obtain ⟨bs, hbs⟩ : ∃ bs, catB rs = bs := ⟨_, rfl⟩
      have HBS := Lib.hid hbs
      rw [hfin.out, hbs] at HO1 HL
      clear hbs
      go_wp2_with fail
      refine (sum_any w.heap.size c n A rs HN.out _ HR1.out HX1.out (fun r hr => Nat.le_trans (HM.out r hr) (by decide)) hnm).mono ?_
      rw [HBS.out]
      rintro e w' ⟨rfl, rfl⟩
      go_wp2_with fail
      refine (refsum_any _ _ _ _ bs HL.out _ HO1.out (by omega)).mono ?_
      rintro e w' ⟨rfl, rfl⟩
      go_wp2_with fail
      refine (check_any w.heap.size c n A rs HN.out _ HR1.out HX1.out (fun r hr => Nat.le_trans (HM.out r hr) (by decide)) hnm).mono ?_
      rw [HBS.out]
      rintro e w' ⟨rfl, rfl⟩
      go_wp2_with fail
      refine (refcheck_any _ _ _ _ bs HL.out _ HO1.out (by omega)).mono ?_
      rintro e w' ⟨rfl, rfl⟩
      go_wp2_with fail
      refine (known_any _).mono ?_
      rintro e w2 ⟨rfl, hb⟩
      have HB2 : Hid (Below w.heap.size w w2) := Lib.hid (HB.out.trans (hb.mono HB.out.size))
      clear hb
      go_wp2
      go_ret
      exact ⟨rfl, HB2.out⟩
end Go.Proofs.Ytmiihakfpldeiaa
