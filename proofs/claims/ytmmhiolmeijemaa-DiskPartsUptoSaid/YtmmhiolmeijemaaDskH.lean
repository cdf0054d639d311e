/- A disk's Append, where there is room. -/
import Derived.Test.YtmmhiolmeijemaaDskG
namespace Go.Proofs.Ytmmhiolmeijemaa
open Go.RowKit Mem
set_option maxRecDepth 10000
set_option maxHeartbeats 2000000
set_option linter.unusedVariables false
theorem grown_of_below (w w1 : World) (hb : Below w.heap.size w w1) (r : Option Nat) : w.grownBy w1 r := ⟨hb.os, hb.tape, hb.output, hb.size, fun k hk _ => hb.block k hk⟩
theorem append_any (F : Nat → Prop) (g n m c : Nat) (L T : List UInt8) (A0 : Option Addr) (rs : List RowV) (hm : m = rs.length) (hml : m ≤ maxLen) (w : World) (h : DkAt w F g L T n)
    (hr : RowN F w A0 (rs.map rowV)) (hrs : ∀ r ∈ rs, RowN F w r.1 (r.2.1.map byteV)) (hfit : L.length + T.length + (catB rs).length ≤ 4194304) :
    Calls Try.prog 20 #[.pointer (some ⟨g, 0, none⟩), .slice A0 m c] w (DkTo (.int .i64 0) F g L (T ++ catB rs) n w) := by
  obtain ⟨i0, hi0, hz0, hz1, hz2⟩ := info_parts info_b
  obtain ⟨A, cL, A', cT, h⟩ := h
  have l0 := later_cell (show w.cell? ⟨g, 0, none⟩ = some (.slice A L.length cL) from h.blk.cell 0)
  have l1 := later_cell (show w.cell? ⟨g, 1, none⟩ = some (.slice A' T.length cT) from h.blk.cell 1)
  have hmx := h.mx
  have hx : ∀ r ∈ rs, r.2.1.length ≤ maxLen := fun r hr => by
    have : r.2.1.length ≤ (catB rs).length := by
      obtain ⟨a, b, rfl⟩ := List.append_of_mem hr
      unfold catB
      rw [List.flatMap_append, List.flatMap_cons, List.length_append, List.length_append]; omega
    unfold maxLen; omega
  obtain ⟨q, hq⟩ : ∃ q, q + L.length + T.length = 4194304 := ⟨4194304 - L.length - T.length, by omega⟩
  have hLT : (L.length : Int) + (T.length : Int) ≤ 4194304 := by omega
  have hL0 : (0 : Int) ≤ (L.length : Int) := by omega
  have hT0 : (0 : Int) ≤ (T.length : Int) := by omega
  have hmi : (m : Int) ≤ 9223372036854775807 := by unfold maxLen at hml; omega
  have hC := fun p : Later w => count_any m q w.heap.size c A0 rs hm hml hx (by omega) p.world (hr.row.below p.bel)
  rw [show cntZ (catB rs).length q = ((catB rs).length : Nat) from if_pos (by omega), show cntE (catB rs).length q = 0 from if_pos (by omega), show ((q : Nat) : Int) = 4194304 - (L.length : Int) - (T.length : Int) by omega] at hC
  have HC := Lib.hid hC
  have H := Lib.hid h
  have HR := Lib.hid hr
  have HRS := Lib.hid hrs
  have HM := Lib.hid hm
  have HF := Lib.hid hfit
  obtain ⟨S, hS⟩ : ∃ S, (catB rs).length = S := ⟨_, rfl⟩
  rw [hS] at HC
  have HSZ := Lib.hid hS
  have hSi : (S : Int) ≤ 4194304 := by omega
  clear h hC hq hmx hr hrs hx hml hm hfit hS
  go_enter Try.func20, Try.ntmps20
  go_wp2_with fail
  refine wp_region_later (by kernel_rfl) (by kernel_rfl) ?_
  repeat (go_big_quiet_step (first
    | (go_at_call 30; exact later_same (HC.out _))))
  refine wpQuiet_nil ?_
  intro w' hw'
  obtain ⟨p, rfl⟩ := hw'
  have HP : Hid (DkB p.world F g L T n A cL A' cT) := Lib.hid (H.out.keep p.bel.size fun k hk => p.bel.block k (H.out.lt k hk))
  have HTP : Hid (Touch F w p.world) := Lib.hid (Touch.ofBelow p.bel)
  have c1 : p.world.cell? ⟨g, 1, none⟩ = some (.slice A' T.length cT) := HP.out.blk.cell 1
  clear HC l0 l1
  go_wp2_with fail
  refine (growown_any T.length cT S A' T rfl p.world HP.out.ot (by have := HF.out; rw [HSZ.out] at this; omega)).mono ?_
  rintro e w1 ⟨A1, C1, rfl, ho, ha, hb⟩
  have hD := dk_tail (m := T.length) (d := cT) HP.out (grown_of_below _ _ hb _) ho (fun a h1 => by
    rcases ha a h1 with h2 | h2
    · exact Or.inl ⟨a, h2, rfl⟩
    · exact Or.inr (by omega)) HP.out.mx
  have hblk : Blk w1 g 55 _ := HP.out.blk.below hb (HP.out.lt g HP.out.fg)
  have d1 : w1.cell? ⟨g, 1, none⟩ = some (.slice A' T.length cT) := hblk.cell 1
  have z1 := hblk.frozen 1
  have HD1 : Hid (∃ F', (∀ k, F' k → F k ∨ w.heap.size ≤ k) ∧ DkAt (w1.setCell ⟨g, 1, none⟩ (.slice A1 T.length C1)) F' g L T n ∧ Touch F w (w1.setCell ⟨g, 1, none⟩ (.slice A1 T.length C1))) := Lib.hid ⟨_, fun k hk => by
    rcases hk.1 with h | h
    · exact Or.inl h
    · exact Or.inr (Nat.le_trans p.bel.size h), ⟨_, _, _, _, hD.1⟩, HTP.out.trans hD.2 (fun k hk => Or.inl hk)⟩
  clear ho ha hb hD hblk HP HTP c1
  go_wp2_with fail
  go_loopw [42] (fun i wr => ∃ k : Nat, k ≤ m ∧ i = .int .i64 k ∧ Hid (∃ F', (∀ k, F' k → F k ∨ w.heap.size ≤ k) ∧ DkAt wr F' g L (T ++ catB (rs.take k)) n ∧ Touch F w wr)) (fun i _ => m - (intOf i).toNat)
  case atStart => exact ⟨0, by omega, rfl, Lib.hid (by simpa [catB] using HD1.out)⟩
  case round =>
    obtain ⟨k, hk, rfl, HK⟩ := hrel
    by_cases hlt : k < m
    · have hk1 : k < rs.length := by rw [← HM.out]; exact hlt
      obtain ⟨F', hF', hdk, hto⟩ := HK.out
      obtain ⟨A2, c2, A3, c3, hdk⟩ := hdk
      obtain ⟨b, o, rfl, _, hc⟩ := (HR.out.touch hto).row.open_ (by simp; omega)
      have hcell : wr.cell? ⟨b, o + k, none⟩ = some (rowV rs[k]) := (hc k (by simpa using hk1)).trans (congrArg some (List.getElem_map (f := rowV) (h := by simpa using hk1)))
      have hrow := ((HRS.out rs[k] (List.getElem_mem hk1)).touch hto).row
      obtain ⟨⟨A4, y, c4⟩, hy1⟩ : ∃ y, rs[k] = y := ⟨_, rfl⟩
      rw [hy1] at hcell hrow
      unfold rowV at hcell
      simp only at hcell hrow
      have hs := catB_snoc rs k hk1
      rw [hy1] at hs
      have hle := catB_le rs (k + 1)
      rw [hs, List.length_append] at hle
      simp only at hle
      obtain ⟨Y, hY⟩ : ∃ Y, T ++ catB (rs.take k) = Y := ⟨_, rfl⟩
      have HY : Hid (T ++ catB (rs.take (k + 1)) = Y ++ y) := Lib.hid (by rw [hs, ← hY, List.append_assoc])
      have HLE : Hid (L.length + Y.length + y.length ≤ 4194304) := Lib.hid (by have := HF.out; rw [← hY, List.length_append]; omega)
      rw [hY] at hdk
      have HDK := Lib.hid hdk
      have d1 : wr.cell? ⟨g, 1, none⟩ = some (.slice A3 Y.length c3) := hdk.blk.cell 1
      have HTO := Lib.hid hto
      have HROW := Lib.hid hrow
      have HFF := Lib.hid hF'
      have hki : (0 : Int) ≤ (k : Int) := by omega
      have hki2 : (k : Int) < (m : Int) := by omega
      clear hc hy1 hs hle hrow hY hdk hto hF' HK
      go_wp2_with (at_builtin; refine wpList_app _ rfl _ _ 22 rfl 0 5 i0 (.int .u8 0) 1 Try.underlying22 hi0 hz0 hz1 hz2 rfl _ _ _ rfl HDK.out.ot wr.heap.size _ y.length c4 (y.map byteV) rfl (by simp) HROW.out (byte_one y) (by have := HLE.out; unfold maxLen; omega) (by have := HLE.out; omega) (Nat.zero_le _) ?_)
      intro v' w2 hown hgr hat
      obtain ⟨A5, c5, rfl, _, _⟩ := ownShape hown
      have hD := dk_tail (T' := Y ++ y) (C1 := c5) HDK.out hgr (by rw [List.map_append, List.length_append]; exact hown) (fun a h1 => by
        subst h1
        rcases hat with h2 | h2
        · cases A3 with
          | none => cases h2
          | some a3 => exact Or.inl ⟨a3, rfl, by simpa [Value.ownBlock] using h2.symm⟩
        · exact Or.inr (by simp [Value.ownBlock] at h2; omega)) (by rw [List.length_append]; have := HLE.out; omega)
      have hblk : Blk w2 g 55 _ := HDK.out.blk.grown hgr (fun e => by
        cases A3 with
        | none => cases e
        | some a3 =>
          have : a3.block = g := by simpa [Value.ownBlock] using e.symm
          exact ownNe HDK.out.ot HDK.out.blk (by decide) rfl this)
      have f1 : w2.cell? ⟨g, 1, none⟩ = some (.slice A3 Y.length c3) := hblk.cell 1
      have y1 := hblk.frozen 1
      rw [List.length_append] at hD
      have HD2 : Hid (∃ F', (∀ k, F' k → F k ∨ w.heap.size ≤ k) ∧ DkAt (w2.setCell ⟨g, 1, none⟩ (.slice A5 (Y.length + y.length) c5)) F' g L (T ++ catB (rs.take (k + 1))) n ∧ Touch F w (w2.setCell ⟨g, 1, none⟩ (.slice A5 (Y.length + y.length) c5))) := Lib.hid (by
        rw [HY.out]
        exact ⟨_, fun k hk => by
          rcases hk.1 with h | h
          · exact HFF.out k h
          · exact Or.inr (Nat.le_trans HTO.out.size h), ⟨_, _, _, _, hD.1⟩, HTO.out.trans hD.2 (fun k hk => HFF.out k hk)⟩)
      clear hown hgr hat hD hblk
      go_wp2
      go_roundw
      case rel => exact ⟨k + 1, by omega, by go_num, HD2⟩
      case measure => simp [intOf]; omega
    · obtain rfl : k = m := by omega
      have ht : rs.take k = rs := List.take_of_length_le (by rw [← HM.out]; omega)
      rw [ht] at HK
      go_wp2
      go_ret
      exact ⟨rfl, HK.out⟩
end Go.Proofs.Ytmmhiolmeijemaa
