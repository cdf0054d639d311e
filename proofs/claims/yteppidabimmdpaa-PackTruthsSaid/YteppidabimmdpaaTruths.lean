/- PackTruths returns true, whatever the input; nothing that was there is changed. -/
import Derived.Test.YteppidabimmdpaaOne
import Derived.Test.YteppidabimmdpaaOpen
import Derived.Deep.RegionHeld3
namespace Go.Proofs.Yteppidabimmdpaa
open Go.RowKit Mem Be
set_option maxRecDepth 10000
set_option maxHeartbeats 2000000
def truths (l : List Bool) : List UInt8 := l.map fun t => if t then 1 else 0
theorem truths_step {l : List Bool} {k : Nat} (h : k < l.length) : (truths (l.take k)).map byteV ++ (truthB l[k]).map byteV = (truths (l.take (k + 1))).map byteV := by
  rw [List.take_succ_eq_append_getElem h]
  unfold truths truthB
  rw [List.map_append, List.map_append]
  rfl
theorem truths_drop {l : List Bool} {k : Nat} (h : k < l.length) : truths (l.drop k) = truthB l[k] ++ truths (l.drop (k + 1)) := by
  rw [List.drop_eq_getElem_cons h]
  rfl
theorem one_truth (d : Int) (h0 : 0 ≤ d) (h1 : d ≤ 255) : ∃ tv rest ev, stepT [UInt8.ofNat d.toNat] 0 = (tv, rest, ev) ∧ (tv == (d == 1)) = true ∧ ((endZ rest ev == 0) == decide (d < 2)) = true := by
  have hb : (UInt8.ofNat d.toNat).toNat = d.toNat := by rw [UInt8.toNat_ofNat']; omega
  have e : getT [UInt8.ofNat d.toNat] = if 1 < d.toNat then (false, 0, 11) else (d.toNat == 1, 1, 0) := by
    unfold getT
    rw [if_neg (by simp)]
    simp only [List.headD_cons, hb]
  refine ⟨_, _, _, rfl, ?_, ?_⟩
  · rw [e]
    by_cases h : 1 < d.toNat
    · rw [if_pos h]; simp; omega
    · rw [if_neg h]; simp only [beq_iff_eq]; rw [Bool.eq_iff_iff]; simp only [beq_iff_eq]; omega
  · rw [e]
    by_cases h : 1 < d.toNat
    · rw [if_pos h]
      have : endZ ([UInt8.ofNat d.toNat].drop 0) 11 = 11 := rfl
      simp only [this]
      simp; omega
    · rw [if_neg h]
      have : endZ ([UInt8.ofNat d.toNat].drop 1) 0 = 0 := rfl
      simp only [this]
      simp; omega
theorem truths_walk (l : List Bool) (A : Option Addr) (m c : Nat) (hm : m = l.length) (d : Int) (hd0 : 0 ≤ d) (hd1 : d ≤ 255) (w : World) (h : Row w w.heap.size A (l.map Value.bool)) :
    Calls Try.prog 8 #[.slice A m c, .int .u8 d] w fun e w' => e = .returned (.bool true) ∧ Below w.heap.size w w' := by
  subst hm
  by_cases h2 : 100 < l.length
  · have hg : (100 : Int) < (l.length : Int) := by omega
    clear h h2
    go_enter Try.func8, Try.ntmps8
    go_wp2_with (go_at_call 10; refine (known_any _).mono ?_; rintro e w' ⟨rfl, hb⟩; have HB := Lib.hid hb; clear hb)
    go_ret
    exact ⟨rfl, HB.out⟩
  · have hg : (l.length : Int) ≤ 100 := by omega
    have HL : Hid (l.length ≤ 100) := Lib.hid (by omega)
    obtain ⟨i0, hi0, hz0, hz1, hz2⟩ := info_parts info_b
    have HR := Lib.hid h
    clear h h2
    go_enter Try.func8, Try.ntmps8
    go_wp2_with fail
    go_loopw [5, 6] (fun v i wr => ∃ k : Nat, k ≤ l.length ∧ i = .int .i64 k ∧ wr.ownsRow w.heap.size 5 1 v k ((truths (l.take k)).map byteV) ∧ Below w.heap.size w wr) (fun _ i _ => l.length - (intOf i).toNat)
    case atStart => exact ⟨0, by omega, rfl, World.ownsRow_nil _ _ _ _, Below.refl _ _⟩
    case round =>
      obtain ⟨k, hk, rfl, hown, hbl⟩ := hrel
      by_cases hlt : k < l.length
      · obtain ⟨b, o, rfl, hbB, hc⟩ := HR.out.open_ (by simp; omega)
        have hcell := (hbl.cell (p := ⟨b, o + k, none⟩) (by show b < w.heap.size; omega)).trans ((hc k (by simpa using hlt)).trans (congrArg some (List.getElem_map (f := Value.bool) (h := by simpa using hlt))))
        have HOWN := Lib.hid hown
        have HBL := Lib.hid hbl
        have HT := Lib.hid (truths_step hlt)
        clear hc hbl hown
        go_wp2_with fail
        refine (puttruth_any _ _).mono ?_
        rintro e w1 ⟨A1, c1, rfl, ho, hb⟩
        have HB1 : Hid (Below w.heap.size w w1) := Lib.hid (HBL.out.trans (hb.mono HBL.out.size))
        have HO1 := Lib.hid (own_below HOWN.out hb)
        have HR1 := Lib.hid (Row.of_own ho)
        clear ho hb
        go_wp2_with (at_builtin; refine wpList_app _ rfl _ _ 22 rfl w.heap.size 5 i0 (.int .u8 0) 1 Try.underlying22 hi0 hz0 hz1 hz2 rfl _ _ _ rfl HO1.out w1.heap.size _ 1 c1 ((truthB l[k]).map byteV) rfl (by simp [truthB]) HR1.out (byte_one _) (by unfold maxLen; omega) (by omega) HB1.out.size ?_)
        intro v' w2 hown hgr _
        have HB2 : Hid (Below w.heap.size w w2) := Lib.hid (HB1.out.grown hgr HB1.out.size (fun g hg => (HO1.out.lt g hg).1))
        rw [HT.out] at hown
        have HO2 := Lib.hid hown
        clear hown hgr
        go_wp2
        go_roundw
        case rel => exact ⟨k + 1, by omega, by go_num, HO2.out, HB2.out⟩
        case measure => simp [intOf]; omega
      · obtain rfl : k = l.length := by omega
        have HBL := Lib.hid hbl
        rw [List.take_length] at hown
        obtain ⟨A1, c1, rfl, ho⟩ := own_of (truths l) hown rfl
        have HLT : Hid ((truths l).length = l.length) := Lib.hid (by simp [truths])
        have HR1 := Lib.hid (Row.of_own ho)
        clear hown hbl ho hlt
        go_wp2_with fail
        refine (new_any _ c1 _ A1 (truths l) rfl _ HR1.out (Nat.le_refl _) (by rw [HLT.out]; have := HL.out; omega)).mono ?_
        rintro e w1 ⟨g, rfl, hg1, hrd, hb⟩
        have HB1 : Hid (Below w.heap.size w w1) := Lib.hid (HBL.out.trans (hb.mono HBL.out.size))
        have HG : Hid (w.heap.size ≤ g) := Lib.hid (Nat.le_trans HBL.out.size hg1)
        have HD := Lib.hid hrd
        clear hb hg1 hrd
        have hlt2 : ((truths l).length : Int) = (l.length : Int) := by rw [HLT.out]
        go_wp2_with fail
        go_loopw [8] (fun i wr => ∃ k : Nat, k ≤ l.length ∧ i = .int .i64 k ∧ Rd wr g (truths (l.drop k)) 0 ∧ Below w.heap.size w wr) (fun i _ => l.length - (intOf i).toNat)
        case atStart => exact ⟨0, by omega, rfl, by rw [List.drop_zero]; exact HD.out, HB1.out⟩
        case round =>
          obtain ⟨k, hk, rfl, hrd, hbl⟩ := hrel
          have HD2 := Lib.hid hrd
          have HB2 := Lib.hid hbl
          clear hrd hbl
          by_cases hlt : k < l.length
          · obtain ⟨b, o, rfl, hbB, hc⟩ := HR.out.open_ (by simp; omega)
            have hcell := (HB2.out.cell (p := ⟨b, o + k, none⟩) (by show b < w.heap.size; omega)).trans ((hc k (by simpa using hlt)).trans (congrArg some (List.getElem_map (f := Value.bool) (h := by simpa using hlt))))
            have HT := Lib.hid (truths_drop hlt)
            have hki : (0 : Int) ≤ (k : Int) := by omega
            have hki2 : (k : Int) < (l.length : Int) := by omega
            clear hc
            have HS : Hid (stepT (truths (l.drop k)) 0 = (l[k], truths (l.drop (k + 1)), 0)) := Lib.hid (by rw [HT.out]; exact step_truth _ _)
            have hbg : b < g := Nat.lt_of_lt_of_le hbB HG.out
            go_wp2_with fail
            go_region_held3 (fun w' => w'.cell? ⟨b, o + k, none⟩ = some (.bool l[k])) (first | go_keep | exact World.grownBy.cell hgr hcell (fun e => by injection e with e; exact Nat.ne_of_lt hbg e)) ((go_at_call 29; refine (truth_call g (truths (l.drop k)) 0 _ (show Rd wr.drew g _ 0 from HD2.out)).mono ?_; rw [HS.out]; rintro e w5 ⟨rfl, hrd, hgr⟩))
            have HD5 := Lib.hid hrd
            have HB5 : Hid (Below w.heap.size w w5) := Lib.hid (below_grown (w := wr.drew) (HB2.out.trans ⟨rfl, rfl, rfl, Nat.le_refl _, fun _ _ => rfl⟩) hgr HB2.out.size HG.out)
            clear hrd hgr
            go_wp2
            go_roundw
            case rel => exact ⟨k + 1, by omega, by go_num, HD5.out, HB5.out⟩
            case measure => simp [intOf]; omega
          · obtain rfl : k = l.length := by omega
            rw [List.drop_length] at HD2
            have HD3 : Hid (Rd wr g [] 0) := HD2
            clear HD2 hlt
            obtain ⟨tv, rest, ev, hS, h1, h2⟩ := one_truth d hd0 hd1
            have HS := Lib.hid hS
            have HV : Hid (Row (wr.alloc (.cells #[.int .u8 d] 5)) (wr.heap.size + 1) (some ⟨wr.heap.size, 0, none⟩) ([UInt8.ofNat d.toNat].map byteV)) := Lib.hid (row_new wr _ rfl _ [UInt8.ofNat d.toNat] _ (by
              unfold byteV
              simp
              omega))
            clear hS
            go_wp2_with fail
            refine (new_any _ 1 1 _ [UInt8.ofNat d.toNat] rfl _ HV.out (by simp) (by simp)).mono ?_
            rintro e w2 ⟨g2, rfl, hg2, hrd, hb⟩
            have HB3 : Hid (Below w.heap.size w w2) := Lib.hid ((HB2.out.alloc HB2.out.size _).trans (hb.mono (by have := HB2.out.size; simp; omega)))
            have HG2 : Hid (w.heap.size ≤ g2) := Lib.hid (by have := HB2.out.size; simp at hg2; omega)
            have HD4 := Lib.hid hrd
            have HD5 : Hid (Rd w2 g [] 0) := Lib.hid (rd_below (rd_alloc HD3.out _) hb)
            have hgg : g < g2 := by have := rd_lt HD3.out; simp at hg2; omega
            have HGG := Lib.hid hgg
            clear hb hg2 hrd hgg
            go_wp2_with fail
            refine (truth_call g2 _ 0 _ HD4.out).mono ?_
            rw [HS.out]
            rintro e w3 ⟨rfl, hrd, hgr⟩
            have HB4 : Hid (Below w.heap.size w w3) := Lib.hid (below_grown HB3.out hgr HB3.out.size HG2.out)
            have HD6 := Lib.hid hrd
            have HD7 : Hid (Rd w3 g [] 0) := Lib.hid (rd_other HD5.out hgr HGG.out)
            clear hrd hgr
            go_wp2_with fail
            refine (end_any g _ 0 _ HD7.out).mono ?_
            rw [show endZ [] 0 = 0 from rfl]
            rintro e w' ⟨rfl, rfl⟩
            go_wp2_with fail
            refine (end_any g2 _ _ _ HD6.out).mono ?_
            rintro e w' ⟨rfl, rfl⟩
            go_wp2_with fail
            refine (known_any _).mono ?_
            rintro e w4 ⟨rfl, hb⟩
            have HB5 : Hid (Below w.heap.size w w4) := Lib.hid (HB4.out.trans (hb.mono HB4.out.size))
            clear hb
            go_wp2
            go_ret
            exact ⟨rfl, HB5.out⟩
end Go.Proofs.Yteppidabimmdpaa
