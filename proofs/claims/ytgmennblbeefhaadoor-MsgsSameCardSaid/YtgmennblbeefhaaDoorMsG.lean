/- MsG: Package msgs: what is written of a message: bytes that grow behind a variable that function values have; numbers, a truth, a ring. -/
import Derived.Test.YtgmennblbeefhaaDoorMsC
import Derived.Deep.RegionLaw
import Derived.Deep.RegionHeld3
namespace Go.Proofs.YtgmennblbeefhaaDoor
open Go.RowKit Mem Be Rg
set_option maxRecDepth 100000
set_option maxHeartbeats 4000000
set_option linter.unusedVariables false
/-- A variable with bytes of the call's own, behind it. -/
def OutB (w : World) (g : Nat) (bs : List UInt8) : Prop := ∃ A c, Blk w g 24 #[.slice A bs.length c] ∧ w.ownsRow (g + 1) 5 1 (.slice A bs.length c) bs.length (bs.map byteV)
/-- Bytes at g, and behind it, are changed, and nothing else. -/
structure OutTo (g : Nat) (w w' : World) : Prop where
  low : Below g w w'
  typ : ∀ k t cs, g < k → t ≠ 5 → Blk w k t cs → Blk w' k t cs
theorem OutTo.refl (g : Nat) (w : World) : OutTo g w w := ⟨Below.refl _ _, fun _ _ _ _ _ h => h⟩
theorem OutTo.trans {g : Nat} {w w1 w2 : World} (h : OutTo g w w1) (h' : OutTo g w1 w2) : OutTo g w w2 := ⟨h.low.trans h'.low, fun k t cs hk ht hb => h'.typ k t cs hk ht (h.typ k t cs hk ht hb)⟩
theorem OutTo.of {g : Nat} {w w1 : World} (h : Below w.heap.size w w1) (hg : g ≤ w.heap.size) : OutTo g w w1 := ⟨h.mono hg, fun k t cs _ _ hb => hb.below h hb.lt⟩
theorem OutB.below {w w1 : World} {g : Nat} {bs : List UInt8} (h : OutB w g bs) (hb : Below w.heap.size w w1) : OutB w1 g bs := by
  obtain ⟨A, c, h1, h2⟩ := h
  exact ⟨A, c, h1.below hb h1.lt, own_later h2 hb⟩
theorem OutB.lt {w : World} {g : Nat} {bs : List UInt8} (h : OutB w g bs) : g < w.heap.size := by
  obtain ⟨A, c, h1, h2⟩ := h
  exact h1.lt
def OutP (g : Nat) (bs : List UInt8) (w : World) (e : Ending) (w' : World) : Prop := e = .returned (.tuple #[]) ∧ OutB w' g bs ∧ OutTo g w w'
theorem row_block12 {w w2 : World} {B n c : Nat} {A : Option Addr} {xs : List Value} (ho : w.ownsRow B 5 1 (.slice A n c) n xs) (hb : Below w.heap.size w w2) :
    ∀ k, (Value.slice A n c).ownBlock = some k → B ≤ k ∧ ∀ t cs, Blk w2 k t cs → t = 5 := fun k hk => by
  cases A with
  | none => cases hk
  | some a =>
    have e : a.block = k := by simpa [Value.ownBlock] using hk
    obtain ⟨h1, h2, cur, h3⟩ := ownIn ho rfl
    subst e
    refine ⟨h1, fun t cs h => ?_⟩
    have h4 := (hb.block a.block h2).trans h3
    unfold Blk at h
    rw [h4] at h
    injection h with h
    injection h with _ h
    exact h.symm
theorem out_app {w w2 w3 : World} {g : Nat} {A : Option Addr} {c : Nat} {bs xs : List UInt8} {v' : Value} (hk : Blk w g 24 #[.slice A bs.length c]) (ho : w.ownsRow (g + 1) 5 1 (.slice A bs.length c) bs.length (bs.map byteV)) (hb : Below w.heap.size w w2)
    (hown : w3.ownsRow (g + 1) 5 1 v' (bs.length + xs.length) (bs.map byteV ++ xs.map byteV)) (hgr : w2.grownBy w3 (Value.slice A bs.length c).ownBlock) : OutB (w3.setCell ⟨g, 0, none⟩ v') g (bs ++ xs) ∧ OutTo g w (w3.setCell ⟨g, 0, none⟩ v') := by
  have hr := row_block12 ho hb
  have hk2 := hk.below hb hk.lt
  have hk3 : Blk w3 g 24 #[.slice A bs.length c] := (hgr.block g hk2.lt (fun e => by have := (hr g e.symm).1; omega)).trans hk2
  obtain ⟨A', c', rfl, _, _⟩ := ownShape hown
  refine ⟨⟨A', c', ?_, ?_⟩, ?_, ?_⟩
  · rw [List.length_append]; exact hk3.set_ 0 _
  · rw [List.length_append, List.map_append]; exact own_put hown (by omega) 0 _
  · refine below_set ((hb.mono (Nat.le_of_lt hk.lt)).trans ⟨hgr.os, hgr.tape, hgr.output, hgr.size, fun k hk' => hgr.block k (by have := hk2.lt; omega) (fun e => by have := (hr k e.symm).1; omega)⟩) (Nat.le_refl _) _ _
  · intro k t cs hkg ht hbk
    have h2 := hbk.below hb hbk.lt
    refine Blk.far (p := ⟨g, 0, none⟩) ((hgr.block k h2.lt (fun e => ht ((hr k e.symm).2 t cs h2))).trans h2) (by show k ≠ g; omega) _
theorem own_at12 {w w2 : World} {B n c : Nat} {A : Option Addr} {xs : List Value} (ho : w.ownsRow B 5 1 (.slice A n c) n xs) (hb : Below w.heap.size w w2) : w2.ownsRow B 5 1 (.slice A n c) n xs := own_later ho hb
/-- A number behind the bytes. -/
theorem putnum_any (n : Int) (g : Nat) (bs : List UInt8) (hl : bs.length ≤ 1073741824) (w : World) (h : OutB w g bs) : Calls Tryd.prog 28 #[.int .i64 n, .pointer (some ⟨g, 0, none⟩)] w (OutP g (bs ++ numB n) w) := by
  obtain ⟨i0, hi0, hz0, hz1, hz2⟩ := info_parts info_b
  obtain ⟨A, c, hk, ho⟩ := h
  have HK := Lib.hid hk
  have HO := Lib.hid ho
  have HL := Lib.hid hl
  have d0 : w.cell? ⟨g, 0, none⟩ = some (.slice A bs.length c) := hk.cell 0
  have HDR : Hid (Below w.heap.size w w.drew) := Lib.hid (Below.refl _ _).drew
  have HN := Lib.hid fun W => num_any n W
  have hnl := numB_le n
  obtain ⟨N, hN⟩ : ∃ N, numB n = N := ⟨_, rfl⟩
  rw [hN] at HN hnl ⊢
  have HNL := Lib.hid hnl
  have hgl : g < w.heap.size := hk.lt
  clear hk ho hl hN hnl
  go_enter Tryd.func28, Tryd.ntmps28
  go_wp2_with fail
  go_region_law (first
    | (go_simp; go_at_call 29; refine (HN.out _).mono ?_; rintro e w2 ⟨A2, c2, rfl, ho2, hb2⟩; (have HB2 := Lib.hid (HDR.out.trans (hb2.mono HDR.out.size)); have HR2 := Lib.hid (Row.of_own ho2)); (have d2 : w2.cell? ⟨g, 0, none⟩ = some (.slice A bs.length c) := (HB2.out.cell (p := ⟨g, 0, none⟩) hgl).trans d0); (have z2 : w2.frozen? ⟨g, 0, none⟩ = false := (HK.out.below HB2.out HK.out.lt).frozen 0); clear ho2 hb2)
    | (refine step_app _ (by rfl) _ _ 24 (by rfl) (g + 1) 5 i0 (.int .u8 0) 1 Tryd.underlying24 hi0 hz0 hz1 hz2 rfl (.slice A bs.length c) bs.length (bs.map byteV) (by rfl) (show World.ownsRow _ _ _ _ _ _ _ from own_at12 HO.out HB2.out) w2.heap.size A2 N.length c2 (N.map byteV) (by rfl) (by rw [List.length_map]) (show Row _ _ _ _ from HR2.out) (byte_one N) (by have := HL.out; have := HNL.out; unfold maxLen; omega) (by have := HL.out; have := HNL.out; omega) (by have := HB2.out.size; omega) ?_; intro v' w3 hown hgr hat; obtain ⟨A3, c3, rfl, _, _⟩ := ownShape hown; (have z3 : w3.cell? ⟨g, 0, none⟩ = some (.slice A bs.length c) := (World.cell?_of_block (a := ⟨g, 0, none⟩) (hgr.block g (by have := HB2.out.size; omega) (fun e => by have := (row_block12 HO.out HB2.out g e.symm).1; omega))).trans d2); (have y3 : w3.frozen? ⟨g, 0, none⟩ = false := (World.frozen?_of_block (a := ⟨g, 0, none⟩) (hgr.block g (by have := HB2.out.size; omega) (fun e => by have := (row_block12 HO.out HB2.out g e.symm).1; omega))).trans z2); (have HF := Lib.hid (out_app HK.out HO.out HB2.out hown hgr)); clear hown hgr hat))
  all_goals
    go_end0
    exact ⟨rfl, HF.out.1, HF.out.2⟩
/-- A truth behind the bytes. -/
theorem puttr_any (t : Bool) (g b : Nat) (bs : List UInt8) (hl : bs.length ≤ 1073741824) (w : World) (h : OutB w g bs) (hm : w.cell? ⟨b, 6, none⟩ = some (.bool t)) : Calls Tryd.prog 32 #[.pointer (some ⟨g, 0, none⟩), .pointer (some ⟨b, 0, none⟩)] w (OutP g (bs ++ truthB t) w) := by
  obtain ⟨i0, hi0, hz0, hz1, hz2⟩ := info_parts info_b
  obtain ⟨A, c, hk, ho⟩ := h
  have HK := Lib.hid hk
  have HO := Lib.hid ho
  have HL := Lib.hid hl
  have d0 : w.cell? ⟨g, 0, none⟩ = some (.slice A bs.length c) := hk.cell 0
  have HDR : Hid (Below w.heap.size w w.drew) := Lib.hid (Below.refl _ _).drew
  have HN := Lib.hid fun W => puttruth_any t W
  have hnl : (truthB t).length ≤ 9 := by show 1 ≤ 9; omega
  obtain ⟨N, hN⟩ : ∃ N, truthB t = N := ⟨_, rfl⟩
  have hbl : b < w.heap.size := block_lt hm
  rw [hN] at HN hnl ⊢
  have HNL := Lib.hid hnl
  have hgl : g < w.heap.size := hk.lt
  clear hk ho hl hN hnl
  go_enter Tryd.func32, Tryd.ntmps32
  go_wp2_with fail
  go_region_law (first
    | (go_simp; go_at_call 33; refine (HN.out _).mono ?_; rintro e w2 ⟨A2, c2, rfl, ho2, hb2⟩; (have HB2 := Lib.hid (HDR.out.trans (hb2.mono HDR.out.size)); have HR2 := Lib.hid (Row.of_own ho2)); (have d2 : w2.cell? ⟨g, 0, none⟩ = some (.slice A bs.length c) := (HB2.out.cell (p := ⟨g, 0, none⟩) hgl).trans d0); (have dm : w2.cell? ⟨b, 6, none⟩ = some (.bool t) := (HB2.out.cell (p := ⟨b, 6, none⟩) hbl).trans hm); (have z2 : w2.frozen? ⟨g, 0, none⟩ = false := (HK.out.below HB2.out HK.out.lt).frozen 0); clear ho2 hb2)
    | (refine step_app _ (by rfl) _ _ 24 (by rfl) (g + 1) 5 i0 (.int .u8 0) 1 Tryd.underlying24 hi0 hz0 hz1 hz2 rfl (.slice A bs.length c) bs.length (bs.map byteV) (by rfl) (show World.ownsRow _ _ _ _ _ _ _ from own_at12 HO.out HB2.out) w2.heap.size A2 N.length c2 (N.map byteV) (by rfl) (by rw [List.length_map]) (show Row _ _ _ _ from HR2.out) (byte_one N) (by have := HL.out; have := HNL.out; unfold maxLen; omega) (by have := HL.out; have := HNL.out; omega) (by have := HB2.out.size; omega) ?_; intro v' w3 hown hgr hat; obtain ⟨A3, c3, rfl, _, _⟩ := ownShape hown; (have z3 : w3.cell? ⟨g, 0, none⟩ = some (.slice A bs.length c) := (World.cell?_of_block (a := ⟨g, 0, none⟩) (hgr.block g (by have := HB2.out.size; omega) (fun e => by have := (row_block12 HO.out HB2.out g e.symm).1; omega))).trans d2); (have y3 : w3.frozen? ⟨g, 0, none⟩ = false := (World.frozen?_of_block (a := ⟨g, 0, none⟩) (hgr.block g (by have := HB2.out.size; omega) (fun e => by have := (row_block12 HO.out HB2.out g e.symm).1; omega))).trans z2); (have HF := Lib.hid (out_app HK.out HO.out HB2.out hown hgr)); clear hown hgr hat))
  all_goals
    go_end0
    exact ⟨rfl, HF.out.1, HF.out.2⟩

/-- A function value that writes a number. -/
def NumF (w : World) (g q : Nat) : Prop := w.cell? ⟨q, 0, none⟩ = some (.func (.func 28) #[] #[.pointer (some ⟨g, 0, none⟩)])
theorem flatB_le (ns : List Int) : (ns.flatMap numB).length ≤ 9 * ns.length := by
  induction ns with
  | nil => simp
  | cons a l ih => rw [List.flatMap_cons, List.length_append, List.length_cons]; have := numB_le a; omega
theorem flatB_take (ns : List Int) (k : Nat) (h : k < ns.length) : (ns.take (k + 1)).flatMap numB = (ns.take k).flatMap numB ++ numB ns[k] := by
  rw [List.take_succ_eq_append_getElem h, List.flatMap_append]; simp
theorem eachnum_any (rA : Option Addr) (n rc : Nat) (ns : List Int) (e k : Int) (hn : n = ns.length) (hl : n ≤ 1000000) (g : Nat) (bs : List UInt8) (hbl : bs.length ≤ 100000000) (w : World) (h : OutB w g bs) (hr : Row w g rA (ns.map iV)) :
    Calls Tryd.prog 38 #[.agg #[.slice rA n rc, .int .i64 e, .int .i64 k], .func (.func 28) #[] #[.pointer (some ⟨g, 0, none⟩)]] w (OutP g (bs ++ ringB ns e k) w) := by
  have hb0 : Below w.heap.size w (w.alloc (.cells #[.slice rA n rc, .int .i64 e, .int .i64 k] 32)) := (Below.refl _ _).alloc (Nat.le_refl _) _
  have HO0 := Lib.hid (h.below hb0)
  have HT0 := Lib.hid (OutTo.of hb0 (Nat.le_of_lt h.lt))
  have hgw : g < w.heap.size := h.lt
  have HK0 := Lib.hid (Blk.new w 32 #[.slice rA n rc, .int .i64 e, .int .i64 k])
  have HR := Lib.hid hr
  have HN := Lib.hid hn
  have HL := Lib.hid hbl
  have HB1 := numB_le e
  have HB2 := numB_le k
  have HB3 := numB_le (n : Int)
  have HNL := Lib.hid (show (numB e).length ≤ 9 ∧ (numB k).length ≤ 9 ∧ (numB (n : Int)).length ≤ 9 from ⟨HB1, HB2, HB3⟩)
  have hni : (n : Int) ≤ 1000000 := by omega
  have hni0 : (0 : Int) ≤ (n : Int) := by omega
  have HNN := Lib.hid hl
  have hty : 32 ≠ 5 := by decide
  have HTY := Lib.hid hty
  clear h hr hn hbl hb0 HB1 HB2 HB3 hl hty
  go_enter Tryd.func38, Tryd.ntmps38
  go_wp2_with fail
  refine (putnum_any e g bs (by have := HL.out; omega) _ HO0.out).mono ?_
  rintro e1 w1 ⟨rfl, ho1, ht1⟩
  have HO1 := Lib.hid ho1
  have HT1 := Lib.hid (HT0.out.trans ht1)
  have HK1 := Lib.hid (ht1.typ _ _ _ hgw HTY.out HK0.out)
  have k0 : w1.cell? ⟨w.heap.size, 0, none⟩ = some (.slice rA n rc) := HK1.out.cell 0
  have k1 : w1.cell? ⟨w.heap.size, 1, none⟩ = some (.int .i64 e) := HK1.out.cell 1
  have k2 : w1.cell? ⟨w.heap.size, 2, none⟩ = some (.int .i64 k) := HK1.out.cell 2
  clear ho1 ht1
  go_wp2_with fail
  refine (putnum_any k g (bs ++ numB e) (by have := HL.out; have := HNL.out; rw [List.length_append]; omega) _ HO1.out).mono ?_
  rintro e2 w2 ⟨rfl, ho2, ht2⟩
  have HO2 := Lib.hid ho2
  have HT2 := Lib.hid (HT1.out.trans ht2)
  have HK2 := Lib.hid (ht2.typ _ _ _ hgw HTY.out HK1.out)
  clear ho2 ht2 k0 k1 k2
  have k0 : w2.cell? ⟨w.heap.size, 0, none⟩ = some (.slice rA n rc) := HK2.out.cell 0
  go_wp2_with fail
  refine (putnum_any (n : Int) g (bs ++ numB e ++ numB k) (by have := HL.out; have := HNL.out; rw [List.length_append, List.length_append]; omega) _ HO2.out).mono ?_
  rintro e3 w3 ⟨rfl, ho3, ht3⟩
  have HO3 := Lib.hid ho3
  have HT3 := Lib.hid (HT2.out.trans ht3)
  have HK3 := Lib.hid (ht3.typ _ _ _ hgw HTY.out HK2.out)
  clear ho3 ht3 k0
  have k0 : w3.cell? ⟨w.heap.size, 0, none⟩ = some (.slice rA n rc) := HK3.out.cell 0
  go_wp2
  go_loopw [22, 5] (fun i x5 wr => ∃ j : Nat, j ≤ n ∧ i = .int .i64 j ∧ Hid (OutB wr g (bs ++ numB e ++ numB k ++ numB (n : Int) ++ (ns.take j).flatMap numB)) ∧ Hid (OutTo g w wr)) (fun i _ _ => n - (intOf i).toNat)
  case atStart => exact ⟨0, by omega, rfl, Lib.hid (by simpa using HO3.out), HT3⟩
  case round =>
    obtain ⟨j, hj, rfl, HO, HT⟩ := hrel
    by_cases hlt : j < n
    · have hj1 : j < ns.length := by rw [← HN.out]; exact hlt
      obtain ⟨b, o, rfl, hb, hc⟩ := int_cell (HR.out.below HT.out.low) (by omega)
      have hcj := hc j hj1
      have HNX := Lib.hid (flatB_take ns j hj1)
      have hfl := flatB_le (ns.take j)
      have htl : (ns.take j).length ≤ 1000000 := by rw [List.length_take]; have := HNN.out; omega
      have HFL : Hid ((bs ++ numB e ++ numB k ++ numB (n : Int) ++ (ns.take j).flatMap numB).length ≤ 1073741824) := Lib.hid (by
        have := HL.out; have := HNL.out
        simp only [List.length_append]; omega)
      obtain ⟨z, hz⟩ : ∃ z, ns[j] = z := ⟨_, rfl⟩
      rw [hz] at hcj HNX
      have hji : (0 : Int) ≤ (j : Int) := by omega
      have hji2 : (j : Int) < (n : Int) := by omega
      clear hc hz hfl htl
      go_wp2_with fail
      refine (putnum_any z g _ HFL.out _ HO.out).mono ?_
      rintro e4 w4 ⟨rfl, ho4, ht4⟩
      have HO4 : Hid (OutB w4 g (bs ++ numB e ++ numB k ++ numB (n : Int) ++ (ns.take (j + 1)).flatMap numB)) := Lib.hid (by rw [HNX.out, ← List.append_assoc]; exact ho4)
      have HT4 := Lib.hid (HT.out.trans ht4)
      clear ho4 ht4
      go_wp2
      go_roundw
      case rel => exact ⟨j + 1, by omega, by go_num, HO4, HT4⟩
      case measure => simp [intOf]; omega
    · obtain rfl : j = n := by omega
      have HE : Hid (OutB wr g (bs ++ ringB ns e k)) := Lib.hid (by
        have := HO.out
        rw [show ns.take j = ns by rw [HN.out]; exact List.take_length] at this
        unfold ringB
        rw [← HN.out]
        simpa only [List.append_assoc] using this)
      go_wp2
      go_end0
      exact ⟨rfl, HE.out, HT.out⟩
end Go.Proofs.YtgmennblbeefhaaDoor
