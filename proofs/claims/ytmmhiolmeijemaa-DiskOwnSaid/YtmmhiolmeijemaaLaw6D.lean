/- The law DiskOwn, walked. -/
import Derived.Test.YtmmhiolmeijemaaLaw6A
import Derived.Test.YtmmhiolmeijemaaCopyB
namespace Go.Proofs.Ytmmhiolmeijemaa
open Go.RowKit Mem
set_option maxRecDepth 100000
set_option maxHeartbeats 2000000
set_option linter.unusedVariables false
def OutF (F : Nat → Prop) (A : Option Addr) : Prop := ∀ a, A = some a → ¬ F a.block
/-- A row of bytes of a statement's own, whatever stands in it. -/
def AnyRow (w : World) (B : Nat) (A : Option Addr) (n c : Nat) : Prop := ∃ xs : List UInt8, w.ownsRow B 5 1 (.slice A n c) n (xs.map byteV)
theorem AnyRow.lt {w : World} {B n c : Nat} {A : Option Addr} (h : AnyRow w B A n c) {a : Addr} (ha : A = some a) : B ≤ a.block ∧ a.block < w.heap.size := by
  obtain ⟨xs, h⟩ := h
  exact ⟨(ownIn h ha).1, (ownIn h ha).2.1⟩
theorem AnyRow.below {w w1 : World} {B n c : Nat} {A : Option Addr} (h : AnyRow w B A n c) (hb : Below w.heap.size w w1) : AnyRow w1 B A n c := by
  obtain ⟨xs, h⟩ := h
  exact ⟨xs, own_later h hb⟩
theorem AnyRow.touch {w w1 : World} {B n c : Nat} {A : Option Addr} {F : Nat → Prop} (h : AnyRow w B A n c) (ht : Touch F w w1) (ho : OutF F A) : AnyRow w1 B A n c := by
  obtain ⟨xs, h⟩ := h
  exact ⟨xs, ownKeep h fun a ha => ht.block _ (ownIn h ha).2.1 (ho a ha)⟩
theorem OutF.step {w : World} {B n c : Nat} {A : Option Addr} {F F' : Nat → Prop} (h : OutF F A) (hr : AnyRow w B A n c) (hf : ∀ k, F' k → F k ∨ w.heap.size ≤ k) : OutF F' A := fun a ha hx => by
  rcases hf _ hx with h1 | h1
  · exact h a ha h1
  · have := (hr.lt ha).2; omega
/-- A disk, a row that is spoilt, and another one, all apart. -/
structure Sp (w0 w : World) (F : Nat → Prop) (g : Nat) (L T : List UInt8) (q : Nat) (A : Option Addr) (n c : Nat) (A' : Option Addr) (n' c' : Nat) : Prop where
  dk : Dk1 w0 w F g L T q
  row : AnyRow w w0.heap.size A n c
  other : AnyRow w w0.heap.size A' n' c'
  out : OutF F A
  ap : Apart A A'
theorem Sp.round {w0 w : World} {F : Nat → Prop} {g q n c n' c' k : Nat} {L T : List UInt8} {A A' : Option Addr} (h : Sp w0 w F g L T q A n c A' n' c') (hk : k < n) :
    ∃ b v, A = some ⟨b, 0, none⟩ ∧ w.cell? ⟨b, k, none⟩ = some (.int .u8 v) ∧ 0 ≤ v ∧ v ≤ 255 ∧ w.frozen? ⟨b, k, none⟩ = false ∧ ∀ v' : Int, 0 ≤ v' → v' ≤ 255 → Sp w0 (w.setCell ⟨b, k, none⟩ (.int .u8 v')) F g L T q A n c A' n' c' := by
  obtain ⟨xs, hr⟩ := h.row
  have hl : xs.length = n := by have := hr.1; simpa using this
  obtain ⟨b, rfl⟩ : ∃ b, A = some ⟨b, 0, none⟩ := by
    rcases hr.2 with ⟨_, hn0⟩ | ⟨b, cap, cur, hv, _⟩
    · omega
    · injection hv with hv; exact ⟨b, hv⟩
  have hc0 := hr.cellAt k (by omega)
  rw [List.getElem?_map, List.getElem?_eq_getElem (by omega)] at hc0
  refine ⟨b, (xs[k].toNat : Int), rfl, hc0, by omega, by have := xs[k].toNat_lt; omega, hr.frozenAt k, fun v' h0 h1 => ?_⟩
  have hst := (hr.stored k (.int .u8 v')).1
  have ev : (.int .u8 v' : Value) = byteV (UInt8.ofNat v'.toNat) := by
    show Value.int .u8 v' = Value.int .u8 ((UInt8.ofNat v'.toNat).toNat : Int)
    congr 1
    rw [UInt8.toNat_ofNat']
    omega
  have ht : Touch (fun j => j = b) w (w.setCell ⟨b, k, none⟩ (.int .u8 v')) := (Touch.refl (fun j => j = b) w).set_ (p := ⟨b, k, none⟩) (Or.inl rfl) _
  have hb0 := (ownIn hr rfl).1
  refine ⟨⟨h.dk.new, h.dk.at_.touch ht (fun j hj e => h.out _ rfl (by rw [e] at hj; exact hj)), h.dk.bel.setCell (p := ⟨b, k, none⟩) hb0 _⟩, ⟨xs.set k (UInt8.ofNat v'.toNat), ?_⟩, h.other.touch ht (fun a ha e => h.ap _ a rfl ha e.symm), h.out, h.ap⟩
  rw [List.map_set, ← ev]
  exact hst
theorem own_walk (A B : Option Addr) (bs ls : List UInt8) (n m c d : Nat) (hn : n = bs.length) (hm : m = ls.length) (w : World) (hA : Row w w.heap.size A (bs.map byteV)) (hB : Row w w.heap.size B (ls.map byteV)) :
    Calls Try.prog 8 #[.slice A n c, .slice B m d] w (IsT6 true w) := by
  by_cases h1 : 300 < n
  · have hg : (300 : Int) < (n : Int) := by omega
    clear hA hB hn hm h1
    go_enter Try.func8, Try.ntmps8
    go_wp2_with fail
    refine (known6_any _).mono ?_
    rintro e w1 ⟨rfl, hb⟩
    have HB := Lib.hid hb
    clear hb
    go_wp2
    go_ret
    exact ⟨rfl, HB.out⟩
  have hni : (n : Int) ≤ 300 := by omega
  by_cases h2 : 300 < m
  · have hg : (300 : Int) < (m : Int) := by omega
    clear hA hB hn hm h1 h2
    go_enter Try.func8, Try.ntmps8
    go_wp2_with fail
    refine (known6_any _).mono ?_
    rintro e w1 ⟨rfl, hb⟩
    have HB := Lib.hid hb
    clear hb
    go_wp2
    go_ret
    exact ⟨rfl, HB.out⟩
  have hmi : (m : Int) ≤ 300 := by omega
  subst hn
  subst hm
  have HRA : Hid (∀ W, Below w.heap.size w W → Row W w.heap.size A (bs.map byteV)) := Lib.hid fun W hb => hA.below hb
  have HRB : Hid (∀ W, Below w.heap.size w W → Row W w.heap.size B (ls.map byteV)) := Lib.hid fun W hb => hB.below hb
  have HL : Hid (bs.length ≤ 300 ∧ ls.length ≤ 300) := Lib.hid (by omega)
  clear hA hB h1 h2
  go_enter Try.func8, Try.ntmps8
  go_wp2_with fail
  refine (copyb_any w.heap.size c bs.length A bs rfl w (HRA.out w (Below.refl _ _)) (Nat.le_refl _) (by have := HL.out; omega)).mono ?_
  rintro e w1 ⟨A1, c1, rfl, ho, hb⟩
  have HO1 := Lib.hid ho
  have HB1 := Lib.hid hb
  clear ho hb
  go_wp2_with fail
  refine (copyb_any w.heap.size d ls.length B ls rfl w1 (HRB.out w1 HB1.out) HB1.out.size (by have := HL.out; omega)).mono ?_
  rintro e w2 ⟨A2, c2, rfl, ho, hb⟩
  have HAP := Lib.hid (apart_of HO1.out ho)
  have HO1 := Lib.hid (own_later HO1.out hb)
  have HO2 := Lib.hid (ownBase ho HB1.out.size)
  have HB2 := Lib.hid (HB1.out.trans (hb.mono HB1.out.size))
  clear ho hb
  go_wp2_with fail
  refine (of_any bs.length w2.heap.size c1 bs A1 rfl (by have := HL.out; omega) w2 (Row.of_own HO1.out) (Nat.le_refl _)).mono ?_
  rintro e w3 ⟨g, F, rfl, hf, hd, hb⟩
  have HOUT1 : Hid (OutF F A1) := Lib.hid fun a ha hx => by have := hf _ hx; have := (ownIn HO1.out ha).2.1; omega
  have HOUT2 : Hid (OutF F A2) := Lib.hid fun a ha hx => by have := hf _ hx; have := (ownIn HO2.out ha).2.1; omega
  have HD : Hid (Dk1 w w3 F g bs [] 0) := Lib.hid ⟨fun k hk => Nat.le_trans HB2.out.size (hf k hk), hd, HB2.out.trans (hb.mono HB2.out.size)⟩
  have HO1 := Lib.hid (own_later HO1.out hb)
  have HO2 := Lib.hid (own_later HO2.out hb)
  simp only
  clear hf hd hb HB1 HB2
  have hA1 := append_one w3.heap.size F g 0 bs [] A2 ls c2 w3 rfl HD.out.at_ (by
    rcases Row.of_own HO2.out with h | ⟨b, o, rfl, hb, hc⟩
    · exact Or.inl h
    · exact Or.inr ⟨b, o, rfl, HOUT2.out _ rfl, hb, hc⟩) (by have := HL.out; unfold maxLen; omega)
  rw [if_neg (by have := HL.out; simp; omega), List.nil_append] at hA1
  have HAO := Lib.hid hA1
  clear hA1
  go_wp2_with fail
  refine HAO.out.mono ?_
  rintro e w4 ⟨rfl, F4, hf, hd, ht⟩
  have HSP : Hid (Sp w w4 F4 g bs ls 0 A1 bs.length c1 A2 ls.length c2 ∧ OutF F4 A2) := Lib.hid ⟨⟨HD.out.to hf hd ht, AnyRow.touch ⟨_, HO1.out⟩ ht HOUT1.out, AnyRow.touch ⟨_, HO2.out⟩ ht HOUT2.out, HOUT1.out.step ⟨_, HO1.out⟩ hf, HAP.out⟩, HOUT2.out.step ⟨_, HO2.out⟩ hf⟩
  simp only
  clear hf hd ht HO1 HO2 HOUT1 HOUT2 HD HAP HAO
  go_wp2_with fail
  go_loopw [10] (fun i wr => ∃ k : Nat, k ≤ bs.length ∧ i = .int .i64 k ∧ Hid (Sp w wr F4 g bs ls 0 A1 bs.length c1 A2 ls.length c2)) (fun i _ => bs.length - (intOf i).toNat)
  case atStart => exact ⟨0, by omega, rfl, Lib.hid HSP.out.1⟩
  case round =>
    obtain ⟨k, hk, rfl, HK⟩ := hrel
    by_cases hlt : k < bs.length
    · obtain ⟨b, v, rfl, hcell, hv0, hv1, hfz, hnx⟩ := HK.out.round hlt
      have HNX := Lib.hid hnx
      have hki : (0 : Int) ≤ (k : Int) := by omega
      have hki2 : (k : Int) < (bs.length : Int) := by omega
      clear hnx HK
      go_wp2
      go_roundw
      case rel => exact ⟨k + 1, by omega, by go_num, Lib.hid (HNX.out _ (by omega) (by omega))⟩
      case measure => simp [intOf]; omega
    · obtain rfl : k = bs.length := by omega
      have HST : Hid (Sp w wr F4 g bs ls 0 A2 ls.length c2 A1 bs.length c1) := Lib.hid ⟨HK.out.dk, HK.out.other, HK.out.row, HSP.out.2, fun a a' h1 h2 e => HK.out.ap a' a h2 h1 e.symm⟩
      clear HK HSP
      go_wp2_with fail
      go_loopw [11] (fun i wr => ∃ k : Nat, k ≤ ls.length ∧ i = .int .i64 k ∧ Hid (Sp w wr F4 g bs ls 0 A2 ls.length c2 A1 bs.length c1)) (fun i _ => ls.length - (intOf i).toNat)
      case atStart => exact ⟨0, by omega, rfl, HST⟩
      case round =>
        clear HST
        obtain ⟨k, hk, rfl, HK⟩ := hrel
        by_cases hlt : k < ls.length
        · obtain ⟨b, v, rfl, hcell, hv0, hv1, hfz, hnx⟩ := HK.out.round hlt
          have HNX := Lib.hid hnx
          have hki : (0 : Int) ≤ (k : Int) := by omega
          have hki2 : (k : Int) < (ls.length : Int) := by omega
          clear hnx HK
          go_wp2
          go_roundw
          case rel => exact ⟨k + 1, by omega, by go_num, Lib.hid (HNX.out _ (by omega) (by omega))⟩
          case measure => simp [intOf]; omega
        · obtain rfl : k = ls.length := by omega
          have HD : Hid (Dk1 w wr F4 g bs ls 0) := Lib.hid HK.out.dk
          clear HK
          go_wp2_with fail
          refine (lasting_any F4 g 0 bs ls wr HD.out.at_).mono ?_
          rintro e w5 ⟨A5, c5, rfl, ho, hb⟩
          have HO5 := Lib.hid (ownBase ho HD.out.bel.size)
          have HOUT5 : Hid (OutF F4 A5) := Lib.hid fun a ha hx => by have := HD.out.at_.lt _ hx; have := (ownIn ho ha).1; omega
          have HD5 := Lib.hid (HD.out.below hb)
          clear ho hb HD
          go_wp2_with fail
          refine (tail_any F4 g 0 bs ls w5 HD5.out.at_).mono ?_
          rintro e w6 ⟨A6, c6, rfl, ho, hb⟩
          have HST : Hid (Sp w w6 F4 g bs ls 0 A5 bs.length c5 A6 ls.length c6) := Lib.hid ⟨HD5.out.below hb, AnyRow.below ⟨_, HO5.out⟩ hb, ⟨_, ownBase ho HD5.out.bel.size⟩, HOUT5.out, apart_of HO5.out ho⟩
          have HOUT6 : Hid (OutF F4 A6) := Lib.hid fun a ha hx => by have := HD5.out.at_.lt _ hx; have := (ownIn ho ha).1; omega
          clear ho hb HD5 HO5 HOUT5
          go_wp2_with fail
          go_loopw [14] (fun i wr => ∃ k : Nat, k ≤ bs.length ∧ i = .int .i64 k ∧ Hid (Sp w wr F4 g bs ls 0 A5 bs.length c5 A6 ls.length c6)) (fun i _ => bs.length - (intOf i).toNat)
          case atStart => exact ⟨0, by omega, rfl, HST⟩
          case round =>
            clear HST
            obtain ⟨k, hk, rfl, HK⟩ := hrel
            by_cases hlt : k < bs.length
            · obtain ⟨b, v, rfl, hcell, hv0, hv1, hfz, hnx⟩ := HK.out.round hlt
              have HNX := Lib.hid hnx
              have hki : (0 : Int) ≤ (k : Int) := by omega
              have hki2 : (k : Int) < (bs.length : Int) := by omega
              clear hnx HK
              go_wp2
              go_roundw
              case rel => exact ⟨k + 1, by omega, by go_num, Lib.hid (HNX.out _ (by omega) (by omega))⟩
              case measure => simp [intOf]; omega
            · obtain rfl : k = bs.length := by omega
              have HST : Hid (Sp w wr F4 g bs ls 0 A6 ls.length c6 A5 bs.length c5) := Lib.hid ⟨HK.out.dk, HK.out.other, HK.out.row, HOUT6.out, fun a a' h1 h2 e => HK.out.ap a' a h2 h1 e.symm⟩
              clear HK HOUT6
              go_wp2_with fail
              go_loopw [15] (fun i wr => ∃ k : Nat, k ≤ ls.length ∧ i = .int .i64 k ∧ Hid (Sp w wr F4 g bs ls 0 A6 ls.length c6 A5 bs.length c5)) (fun i _ => ls.length - (intOf i).toNat)
              case atStart => exact ⟨0, by omega, rfl, HST⟩
              case round =>
                clear HST
                obtain ⟨k, hk, rfl, HK⟩ := hrel
                by_cases hlt : k < ls.length
                · obtain ⟨b, v, rfl, hcell, hv0, hv1, hfz, hnx⟩ := HK.out.round hlt
                  have HNX := Lib.hid hnx
                  have hki : (0 : Int) ≤ (k : Int) := by omega
                  have hki2 : (k : Int) < (ls.length : Int) := by omega
                  clear hnx HK
                  go_wp2
                  go_roundw
                  case rel => exact ⟨k + 1, by omega, by go_num, Lib.hid (HNX.out _ (by omega) (by omega))⟩
                  case measure => simp [intOf]; omega
                · obtain rfl : k = ls.length := by omega
                  have HD : Hid (Dk1 w wr F4 g bs ls 0) := Lib.hid HK.out.dk
                  clear HK
                  go_wp2_with fail
                  refine (lasting_any F4 g 0 bs ls wr HD.out.at_).mono ?_
                  rintro e w7 ⟨A7, c7, rfl, ho, hb⟩
                  have HD7 := Lib.hid (HD.out.below hb)
                  have HS1 := Lib.hid (same6_true w7.heap.size w.heap.size c7 c bs.length bs.length A7 A bs w7 (Row.of_own ho) (HRA.out w7 HD7.out.bel) rfl rfl)
                  clear ho hb HD
                  go_wp2_with fail
                  refine HS1.out.mono ?_
                  rintro e w' ⟨rfl, rfl⟩
                  go_wp2_with fail
                  refine (tail_any F4 g 0 bs ls w7 HD7.out.at_).mono ?_
                  rintro e w8 ⟨A8, c8, rfl, ho, hb⟩
                  have HD8 := Lib.hid (HD7.out.below hb)
                  have HS2 := Lib.hid (same6_true w8.heap.size w.heap.size c8 d ls.length ls.length A8 B ls w8 (Row.of_own ho) (HRB.out w8 HD8.out.bel) rfl rfl)
                  clear ho hb HD7 HS1
                  go_wp2_with fail
                  refine HS2.out.mono ?_
                  rintro e w' ⟨rfl, rfl⟩
                  go_wp2_with fail
                  refine (known6_any _).mono ?_
                  rintro e w9 ⟨rfl, hb⟩
                  have HB := Lib.hid (HD8.out.bel.trans (hb.mono HD8.out.bel.size))
                  clear hb
                  go_wp2
                  go_ret
                  exact ⟨rfl, HB.out⟩
end Go.Proofs.Ytmmhiolmeijemaa
