/- Whether records are the same, by the program and by the document; what layer 5's example fixes is true. -/
/- Frames of many records, laid by the program and by the document; how many bytes they take: one contract each. -/
/- Frames of many records, laid by the document: one contract. -/
import Derived.Test.YtndbggkpobcpjaaGreatRefScan5
import Derived.Deep.LoopGhost
import Derived.Deep.RegionHeld3
namespace Go.Proofs.YtndbggkpobcpjaaGreat
open Go.RowKit Mem Be Word Frm
set_option maxRecDepth 10000
set_option maxHeartbeats 1000000
set_option linter.unusedVariables false
instance laterNonempty5 (w : World) : Nonempty (Later w) := ⟨⟨w, Below.refl _ _⟩⟩
end Go.Proofs.YtndbggkpobcpjaaGreat
namespace Go.Proofs.YtndbggkpobcpjaaGreat
open Go.RowKit Mem Be Word Frm
set_option maxRecDepth 10000
set_option maxHeartbeats 1000000
set_option linter.unusedVariables false
def partB (rs : List RecV) (k : Nat) : List UInt8 := allB ((rs.take k).map rcOf)
theorem all_step5 (rs : List RecV) (k : Nat) (h : k < rs.length) : partB rs (k + 1) = partB rs k ++ frB (rcOf rs[k]) := by
  unfold partB
  rw [List.take_succ_eq_append_getElem h, List.map_append, all_app]; simp [allB]
theorem all_part (rs : List RecV) (k : Nat) : (partB rs k).length ≤ longN (rs.map rcOf) := by
  unfold partB
  rw [List.map_take]; exact long_le _ k
end Go.Proofs.YtndbggkpobcpjaaGreat
namespace Go.Proofs.YtndbggkpobcpjaaGreat
open Go.RowKit Mem Be Word Frm
set_option maxRecDepth 10000
set_option maxHeartbeats 1000000
set_option linter.unusedVariables false
theorem refall5_any (n c : Nat) (A : Option Addr) (rs : List RecV) (hn : n = rs.length) (w : World) (h : Row w w.heap.size A (recsC rs)) (hr : Recs_ w rs) (hs : Short (rs.map rcOf)) (hl : longN (rs.map rcOf) ≤ 10000000) (hnm : n ≤ 1000000) :
    Calls Tryz.prog 78 #[.slice A n c] w (MadeF w.heap.size (allB (rs.map rcOf), 0) w) := by
  obtain ⟨i0, hi0, hz0, hz1, hz2⟩ := info_parts info_b
  have HR := Lib.hid h
  have HRR := Lib.hid hr
  have HN := Lib.hid hn
  have HSH := Lib.hid hs
  have HL := Lib.hid hl
  have hnmi : (n : Int) ≤ 1000000 := by omega
  clear h hr hn hs hl hnm
  go_enter Tryz.func78, Tryz.ntmps78
  go_wp2
  go_loopw [4, 5] (fun v i wr => ∃ (k m cp : Nat) (A3 : Option Addr), k ≤ n ∧ i = .int .i64 k ∧ v = .slice A3 m cp ∧ Hid (m = (partB rs k).length) ∧ Hid (wr.ownsRow w.heap.size 5 1 (.slice A3 m cp) m ((partB rs k).map byteV)) ∧ Hid (Below w.heap.size w wr)) (fun _ i _ => n - (intOf i).toNat)
  case atStart => exact ⟨0, 0, 0, none, by omega, rfl, rfl, Lib.hid rfl, Lib.hid (World.ownsRow_nil _ _ _ _), Lib.hid (Below.refl _ _)⟩
  case round =>
    obtain ⟨k, m, cp, A3, hk, rfl, rfl, HM, HO, HB⟩ := hrel
    by_cases hlt : k < n
    · have hkr : k < rs.length := by rw [← HN.out]; exact hlt
      obtain ⟨b, o, rfl, hb, hc⟩ := recs_open HR.out (by omega)
      obtain ⟨d0, d1⟩ := hc k hkr
      have hra := HRR.out rs[k] (List.getElem_mem hkr)
      have hst := all_step5 rs k hkr
      have hpt := all_part rs (k + 1)
      have hsh := HSH.out (rcOf rs[k]) (List.mem_map.2 ⟨_, List.getElem_mem hkr, rfl⟩)
      obtain ⟨⟨kk, A1, xs, c1⟩, hx⟩ : ∃ p, rs[k]'hkr = p := ⟨_, rfl⟩
      rw [hx] at d0 d1 hra hst hsh
      simp only [rcOf] at d0 d1 hra hst hsh
      rw [← HB.out.cell (p := ⟨b, o + k * 2, none⟩) hb] at d0
      rw [← HB.out.cell (p := ⟨b, o + k * 2 + 1, none⟩) hb] at d1
      have hbs : b < wr.heap.size := Nat.lt_of_lt_of_le hb HB.out.size
      obtain ⟨F, hF⟩ : ∃ F, frB (kk, xs) = F := ⟨_, rfl⟩
      have hone : oneS (kk, xs) = (F, 0) := by unfold oneS; rw [if_neg (by show ¬ 65536 < xs.length; omega), hF]
      have HC : Hid (∀ W, Below wr.heap.size wr W → Calls Tryz.prog 80 #[.int .u8 (kk.toNat : Int), .slice A1 xs.length c1] W (MadeF W.heap.size (F, 0) W)) := Lib.hid fun W hW => by
        rw [← hone]
        exact refone_any kk W.heap.size c1 xs.length A1 xs rfl W (((hra.below HB.out).more HB.out.size).below hW |>.more hW.size) (Nat.le_refl _)
      rw [hF] at hst
      have HST := Lib.hid hst
      have HMF : Hid (m + F.length ≤ 10000000) := Lib.hid (by rw [HM.out, ← List.length_append, ← hst]; exact Nat.le_trans hpt HL.out)
      have HD : Hid (Below wr.heap.size wr wr.drew) := Lib.hid (Below.refl _ _).drew
      clear hx hra hc hst hpt hsh hF hone
      go_wp2_with fail
      go_region_held3 (fun w' => w'.cell? ⟨b, o + k * 2, none⟩ = some (.int .u8 (kk.toNat : Int)) ∧ w'.cell? ⟨b, o + k * 2 + 1, none⟩ = some (.slice A1 xs.length c1))
        (first | go_keep | exact ⟨(HD.out.cell (p := ⟨b, o + k * 2, none⟩) hbs).trans d0, (HD.out.cell (p := ⟨b, o + k * 2 + 1, none⟩) hbs).trans d1⟩)
        ((go_at_call 80; refine (HC.out _ HD.out).mono ?_; rintro e w2 ⟨A2, c2, rfl, ho2, hb2⟩; have HO3 := Lib.hid ho2; have HD := Lib.hid (HD.out.trans (hb2.mono HD.out.size)); clear ho2 hb2))
      have HB3 : Hid (Below wr.heap.size wr w2) := HD
      have HB2 : Hid (Below w.heap.size w w2) := Lib.hid (HB.out.trans (HB3.out.mono HB.out.size))
      have HO2 := Lib.hid (ownLater HO.out HB3.out)
      have HRF := Lib.hid (Row.of_own HO3.out)
      clear HC d0 d1 HD HO3
      go_wp2_with (at_builtin; refine wpList_app _ rfl _ _ 27 rfl w.heap.size 5 i0 (.int .u8 0) 1 Tryz.underlying27 hi0 hz0 hz1 hz2 rfl _ m _ rfl HO2.out w2.heap.size _ F.length c2 (F.map byteV) rfl (by simp) HRF.out (byte_one _) (by have := HMF.out; unfold maxLen; omega) (by have := HMF.out; omega) HB2.out.size ?_)
      intro v' w3 hown hgr _
      have HB3 : Hid (Below w.heap.size w w3) := Lib.hid (HB2.out.grown hgr HB2.out.size fun g h => (HO2.out.lt g h).1)
      have HM3 : Hid (m + F.length = (partB rs (k + 1)).length) := Lib.hid (by rw [HST.out, List.length_append, ← HM.out])
      have hx3 : (partB rs k).map byteV ++ F.map byteV = (partB rs (k + 1)).map byteV := by rw [HST.out, List.map_append]
      obtain ⟨A4, c4, hv, ho4, _⟩ := made_of (bs := partB rs (k + 1)) hown hx3 HB3.out
      rw [← HM3.out] at hv ho4
      injection hv with hv
      subst hv
      have HO4 := Lib.hid ho4
      clear hown hgr ho4 hx3
      go_wp2
      go_roundw
      case rel => exact ⟨k + 1, m + F.length, c4, A4, by omega, by go_num, rfl, HM3, HO4, HB3⟩
      case measure => simp [intOf]; omega
    · have hT : partB rs k = allB (rs.map rcOf) := by unfold partB; rw [List.take_of_length_le (by rw [← HN.out]; omega)]
      rw [hT] at HO HM
      clear hT
      go_wp2
      go_ret2
      exact madeF_of rfl HO.out rfl HB.out
end Go.Proofs.YtndbggkpobcpjaaGreat
