/- What layer 2 reads of a number, the program and the document: one contract each. -/
import Derived.Test.YtmbcdakfnckcmaaNum

import Derived.Laws.BitsAllLaws
import Derived.Deep.QuietTactic
import Derived.BigQuiet
namespace Go.Proofs.Ytmbcdakfnckcmaa
open Go.RowKit Mem Be
set_option maxRecDepth 10000
set_option maxHeartbeats 1000000
def three (x k e : Int) : Ending := .returned (.tuple #[.int .i64 x, .int .i64 k, .int .i64 e])
def Num3 (r : Int × Nat × Int) (w : World) (e : Ending) (w' : World) : Prop := e = three r.1 r.2.1 r.2.2 ∧ ∃ n, w' = w.drewN n
theorem shl_or (u : Int) (b : UInt8) (h0 : 0 ≤ u) (h1 : u ≤ 72057594037927935) : bits .or .u64 (IntKind.u64.wrap (u * 256)) (IntKind.u64.wrap (b.toNat : Int)) = u * 256 + (b.toNat : Int) := by
  have hb := b.toNat_lt
  have e1 : IntKind.u64.wrap (u * 256) = u * 256 := by rw [IntKind.wrap_u64]; omega
  have e2 : IntKind.u64.wrap (b.toNat : Int) = (b.toNat : Int) := by rw [IntKind.wrap_u64]; omega
  rw [e1, e2, u64_or _ _ (by omega) (by omega) (by omega) (by omega)]
  have : (u * 256).toNat ||| ((b.toNat : Int)).toNat = (u * 256).toNat + b.toNat := by
    rw [show ((b.toNat : Int)).toNat = b.toNat by omega]
    exact nat_join 8 _ _ (by omega) (by omega)
  rw [this]; omega
theorem number_none (c : Nat) (A : Option Addr) (w : World) : Calls Try.prog 38 #[.slice A 0 c] w (Num3 (getN []) w) := by
  go_enter Try.func38, Try.ntmps38
  go_wp2
  go_ret3
  exact ⟨rfl, 0, rfl⟩
theorem three_eq {x k e x' k' e' : Int} (h1 : x = x') (h2 : k = k') (h3 : e = e') : Ending.returned (.tuple #[.int .i64 x, .int .i64 k, .int .i64 e]) = three x' k' e' := by rw [h1, h2, h3]; rfl
theorem num3_end {r : Int × Nat × Int} {x : Int} {k : Nat} {e : Int} (hr : r = (x, k, e)) {x' k' : Int} (h1 : x' = x) (h2 : k' = k) (w : World) (n : Nat) :
    Num3 r w (.returned (.tuple #[.int .i64 x', .int .i64 k', .int .i64 e])) (w.drewN n) := by
  subst hr
  exact ⟨three_eq h1 h2 rfl, n, rfl⟩
theorem getN_1 (b0 : UInt8) (rest : List UInt8) (h : 8 < b0.toNat) : getN (b0 :: rest) = (0, 0, 11) := by
  unfold getN; rw [if_neg (by simp), if_pos (by simpa using h)]
theorem getN_2 (b0 : UInt8) (rest : List UInt8) (h : ¬ 8 < b0.toNat) (h2 : rest.length < b0.toNat) : getN (b0 :: rest) = (0, 0, 12) := by
  unfold getN; rw [if_neg (by simp), if_neg (by simpa using h), if_pos (by simp; omega)]
theorem getN_3 (b0 r0 : UInt8) (more : List UInt8) (h : ¬ 8 < b0.toNat) (h2 : ¬ (r0 :: more).length < b0.toNat) (h3 : 0 < b0.toNat) (h4 : r0.toNat = 0) : getN (b0 :: r0 :: more) = (0, 0, 11) := by
  unfold getN; rw [if_neg (by simp), if_neg (by simpa using h), if_neg (by simp at h2 ⊢; omega), if_pos ⟨by simpa using h3, by simpa using h4⟩]
theorem getN_4 (b0 : UInt8) (rest : List UInt8) (h : ¬ 8 < b0.toNat) (h2 : ¬ rest.length < b0.toNat) (h3 : ¬ (0 < b0.toNat ∧ (rest.headD 0).toNat = 0)) : getN (b0 :: rest) = (iZ (rd (rest.take b0.toNat)), 1 + b0.toNat, 0) := by
  unfold getN
  have e1 : (b0 :: rest).headD 0 = b0 := rfl
  have e2 : (b0 :: rest).tail = rest := rfl
  rw [e1, e2, if_neg (by simp), if_neg h, if_neg (by simp; omega), if_neg h3]
theorem wrap_i (u : Int) : IntKind.i64.wrap u = iZ u := by rw [IntKind.wrap_i64]; rfl
theorem wrap_iZ (u : Int) : wrap64 u = iZ u := by unfold wrap64 iZ; omega
theorem rd_small (bs : List UInt8) (k : Nat) (h : k ≤ 7) : rd (bs.take k) ≤ 72057594037927935 := by
  have h1 := rd_lt (bs.take k)
  have h2 := pow_mono (a := (bs.take k).length) (b := 7) (by rw [List.length_take]; omega)
  have := pows.2.2.2.2.2.2.2.1
  omega
theorem number_some (c : Nat) (b o : Nat) (b0 : UInt8) (rest : List UInt8) (w : World) (h : ∀ j (h : j < ((b0 :: rest).map byteV).length), w.cell? ⟨b, o + j, none⟩ = some ((b0 :: rest).map byteV)[j]) (hc : rest.length + 1 ≤ c) (hm : c ≤ maxLen) :
    Calls Try.prog 38 #[.slice (some ⟨b, o, none⟩) (rest.length + 1) c] w (Num3 (getN (b0 :: rest)) w) := by
  have h0 : w.cell? ⟨b, o, none⟩ = some (.int .u8 (b0.toNat : Int)) := h 0 (by simp)
  have hb := b0.toNat_lt
  have hcut : ∀ W, (Instr.slice 34 (.slice (some ⟨b, o, none⟩) (rest.length + 1) c) (some (.int .i64 1)) none none).run Try.prog W = .ok (.slice (cutA (some ⟨b, o, none⟩) 1 c) rest.length (c - 1)) W := fun W => by
    have := run_cut_l (P := Try.prog) (w := W) 34 5 _ _ Try.underlying34 info_b (some ⟨b, o, none⟩) (rest.length + 1) c 1 (by omega)
    rw [Nat.add_sub_cancel] at this
    exact this
  unfold maxLen at hm
  by_cases h8 : 8 < b0.toNat
  · have hl8 : (8 : Int) < (b0.toNat : Int) := by omega
    have HG := Lib.hid (getN_1 b0 rest h8)
    clear h
    go_enter Try.func38, Try.ntmps38
    go_wp2
    go_quiet (fail)
    go_wp2
    go_ret3
    exact num3_end HG.out rfl rfl w _
  have hl8 : (b0.toNat : Int) ≤ 8 := by omega
  by_cases h2 : rest.length < b0.toNat
  · have hl2 : (rest.length : Int) < (b0.toNat : Int) := by omega
    have HG := Lib.hid (getN_2 b0 rest h8 h2)
    clear h
    go_enter Try.func38, Try.ntmps38
    go_wp2
    go_quiet (fail)
    go_wp2
    go_ret3
    exact num3_end HG.out rfl rfl w _
  have hl2 : (b0.toNat : Int) ≤ (rest.length : Int) := by omega
  by_cases hz : b0.toNat = 0
  · have HG := Lib.hid (getN_4 b0 rest h8 h2 (by omega))
    have hcut2 : ∀ W, (Instr.slice 34 (.slice (cutA (some ⟨b, o, none⟩) 1 c) rest.length (c - 1)) none (some (.int .i64 0)) none).run Try.prog W = .ok (.slice (cutA (some ⟨b, o, none⟩) 1 c) 0 (c - 1)) W := fun W =>
      run_cut_h (P := Try.prog) (w := W) 34 5 _ _ Try.underlying34 info_b _ rest.length (c - 1) 0 (by omega)
    rw [hz] at h0 hl8 hl2 HG
    have h0' : w.cell? ⟨b, o, none⟩ = some (.int .u8 0) := h0
    clear h h0 hz h8 h2
    go_enter Try.func38, Try.ntmps38
    go_wp2
    go_quiet (fail)
    go_wp2
    go_loop [7, 40] (fun u i => u = .int .u64 0 ∧ i = .int .i64 0) (fun _ _ => 0)
    case atStart => exact ⟨rfl, rfl⟩
    case round =>
      obtain ⟨rfl, rfl⟩ := hrel
      go_wp2
      go_ret3
      exact num3_end HG.out rfl rfl w _
  · match rest, h, hc, hcut, h2, hl2 with
    | [], _, _, _, h2, _ => simp at h2; omega
    | r0 :: more, h, hc, hcut, h2, hl2 =>
      have h1 : w.cell? ⟨b, o + 1, none⟩ = some (.int .u8 (r0.toNat : Int)) := h 1 (by simp)
      rw [cutA_some b o 1 c (by simp at hc; omega)] at hcut
      have hz0 : (0 : Int) < (b0.toNat : Int) := by omega
      by_cases hr : r0.toNat = 0
      · have HG := Lib.hid (getN_3 b0 r0 more h8 h2 (by omega) hr)
        rw [hr] at h1
        have hl3 : (b0.toNat : Int) ≤ (more.length : Int) + 1 := by simp at hl2; omega
        have h1' : w.cell? ⟨b, o + 1, none⟩ = some (.int .u8 0) := h1
        clear h h1 hr hz h8 h2
        go_enter Try.func38, Try.ntmps38
        go_wp2
        go_quiet (fail)
        go_wp2
        go_ret3
        exact num3_end HG.out rfl rfl w _
      · have HG := Lib.hid (getN_4 b0 (r0 :: more) h8 h2 (by rintro ⟨_, h⟩; exact hr h))
        have hbn : ((r0.toNat : Int) == 0) = false := by simp; omega
        obtain ⟨rest, hre⟩ : ∃ rest, r0 :: more = rest := ⟨_, rfl⟩
        have hcut2 : ∀ W, (Instr.slice 34 (.slice (some ⟨b, o + 1, none⟩) (r0 :: more).length (c - 1)) none (some (.int .i64 (b0.toNat : Int))) none).run Try.prog W = .ok (.slice (some ⟨b, o + 1, none⟩) b0.toNat (c - 1)) W := fun W =>
          run_cut_h (P := Try.prog) (w := W) 34 5 _ _ Try.underlying34 info_b _ (r0 :: more).length (c - 1) b0.toNat (by omega)
        have HC : Hid (∀ j (h : j < rest.length), w.cell? ⟨b, o + 1 + j, none⟩ = some (.int .u8 (rest[j].toNat : Int))) := Lib.hid (by
          intro j hj
          subst hre
          have := h (j + 1) (by simpa using hj)
          rw [show o + 1 + j = o + (j + 1) by omega, this]
          simp only [List.map_cons, List.getElem_cons_succ]
          exact congrArg some (byteV_list (r0 :: more) j hj))
        have hlr : b0.toNat ≤ rest.length := by rw [← hre]; omega
        rw [hre] at HG hcut hcut2 hl2 hc ⊢
        clear h hr hz h8 h2 hre
        go_enter Try.func38, Try.ntmps38
        go_wp2
        go_quiet (fail)
        go_wp2
        go_loop [7, 40] (fun u i => ∃ k : Nat, k ≤ b0.toNat ∧ i = .int .i64 k ∧ u = .int .u64 (rd (rest.take k))) (fun _ i => b0.toNat - (intOf i).toNat)
        case atStart => exact ⟨0, by omega, rfl, rfl⟩
        case round =>
          obtain ⟨k, hk, rfl, rfl⟩ := hrel
          by_cases hlt : k < b0.toNat
          · have hcell := HC.out k (by omega)
            go_wp2
            go_round
            case rel => exact ⟨k + 1, by omega, by go_num, by rw [shl_or _ _ (rd_nonneg _) (rd_small _ _ (by omega)), rd_snoc rest k (by omega)]⟩
            case measure => simp [intOf]; omega
          · have e8 : k = b0.toNat := by omega
            go_wp2
            go_ret3
            exact num3_end HG.out (wrap_iZ _) (by omega) w _
theorem number_any (B c : Nat) (A : Option Addr) (bs : List UInt8) (w : World) (h : Row w B A (bs.map byteV)) (hc : bs.length ≤ c) (hm : c ≤ maxLen) :
    Calls Try.prog 38 #[.slice A bs.length c] w (Num3 (getN bs) w) := by
  match bs, h, hc with
  | [], _, _ => exact number_none c A w
  | b0 :: rest, h, hc =>
    obtain ⟨b, o, rfl, _, hcell⟩ := h.open_ (by simp)
    exact number_some c b o b0 rest w hcell hc hm
end Go.Proofs.Ytmbcdakfnckcmaa
