/- The first frame, found by the document: one contract. -/
import Derived.Test.YtkdpfjenjcpcfaaGreatDoorNext5
import Derived.Test.YtkdpfjenjcpcfaaGreatDoorCore
namespace Go.Proofs.YtkdpfjenjcpcfaaGreatDoor
open Go.RowKit Mem Be Word Frm
set_option maxRecDepth 10000
set_option maxHeartbeats 1000000
set_option linter.unusedVariables false
def OwnB (B0 : Nat) (ys : List UInt8) (A : Option Addr) (c : Nat) (w : World) : Prop := w.ownsRow B0 5 1 (.slice A ys.length c) ys.length (ys.map byteV)
def r16T (B0 : Nat) (A C : Option Addr) (P : Value) (n c c6 E L : Nat) (kd : Nat) (ys : List UInt8) : Nat → Value → World → Prop
  | 0, v, _ => v = .slice A n c
  | 1, v, _ => v = P
  | 2, v, _ => v = .int .u8 (kd : Int)
  | 3, v, _ => v = .slice A n c
  | 4, v, _ => v = .int .i64 (L : Int)
  | 5, v, _ => v = .int .i64 (E : Int)
  | 6, v, _ => v = .slice C L c6
  | 7, v, w => ∃ A' c', v = .tuple #[.slice A' ys.length c', .int .i64 0] ∧ OwnB B0 ys A' c' w
  | 8, v, w => ∃ A' c', v = .tuple #[.slice A' ys.length c', .int .i64 0] ∧ OwnB B0 ys A' c' w
  | 9, v, w => ∃ A' c', v = .slice A' ys.length c' ∧ OwnB B0 ys A' c' w
  | 10, v, _ => v = .int .i64 0
  | 11, v, w => ∃ A' c', v = .slice A' ys.length c' ∧ OwnB B0 ys A' c' w
  | _, v, _ => v = .int .i64 0
theorem r16T_later (B0 : Nat) (A C : Option Addr) (P : Value) (n c c6 E L : Nat) (kd : Nat) (ys : List UInt8) : ∀ i v w1 w2, r16T B0 A C P n c c6 E L kd ys i v w1 → Below w1.heap.size w1 w2 → r16T B0 A C P n c c6 E L kd ys i v w2 := by
  intro i v w1 w2 h hb
  unfold r16T at h ⊢
  split at h <;> first | exact h | (obtain ⟨a, b, e, hk⟩ := h; exact ⟨a, b, e, own_later hk hb⟩)
def r19T (B0 : Nat) (A C : Option Addr) (P : Value) (n c c6 E Z L : Nat) (kd : Nat) (ys : List UInt8) : Nat → Value → World → Prop
  | 0, v, _ => v = .slice A n c
  | 1, v, _ => v = P
  | 2, v, _ => v = .int .u8 (kd : Int)
  | 3, v, _ => v = .slice A n c
  | 4, v, _ => v = .int .i64 (L : Int)
  | 5, v, _ => v = .int .i64 (E : Int)
  | 6, v, _ => v = .slice C L c6
  | 7, v, w => ∃ A' c', v = .slice A' ys.length c' ∧ OwnB B0 ys A' c' w
  | 8, v, _ => v = .int .i64 (L : Int)
  | 9, v, _ => v = .int .i64 (Z : Int)
  | 10, v, _ => v = .int .u8 (kd : Int)
  | 11, v, w => ∃ A' c', v = .slice A' ys.length c' ∧ OwnB B0 ys A' c' w
  | 12, v, _ => v = .int .i64 (Z : Int)
  | _, v, _ => v = .int .i64 0
theorem r19T_later (B0 : Nat) (A C : Option Addr) (P : Value) (n c c6 E Z L : Nat) (kd : Nat) (ys : List UInt8) : ∀ i v w1 w2, r19T B0 A C P n c c6 E Z L kd ys i v w1 → Below w1.heap.size w1 w2 → r19T B0 A C P n c c6 E Z L kd ys i v w2 := by
  intro i v w1 w2 h hb
  unfold r19T at h ⊢
  split at h <;> first | exact h | (obtain ⟨a, b, e, hk⟩ := h; exact ⟨a, b, e, own_later hk hb⟩)
theorem nx_nil {bs : List UInt8} (h : bs.length = 0) : nextS bs = .bad 4 := by
  obtain rfl : bs = [] := List.eq_nil_of_length_eq_zero h
  rfl
theorem nx_11 {bs : List UInt8} (h0 : bs.length ≠ 0) (h : bs.getD 0 0 ≠ 165) : nextS bs = .bad 11 := by
  have hl : lenS bs = (0, 11) := by unfold lenS; rw [if_neg h0, if_pos h]
  unfold nextS; rw [hl]; rfl
theorem nx_12 {bs : List UInt8} (h0 : bs.length ≠ 0) (h : bs.getD 0 0 = 165) (h6 : bs.length < 6) : nextS bs = .bad 12 := by
  have hl : lenS bs = (0, 12) := by unfold lenS; rw [if_neg h0, if_neg (by simpa using h), if_pos h6]
  unfold nextS; rw [hl]; rfl
theorem len_6 {bs : List UInt8} (h : bs.getD 0 0 = 165) (h6 : ¬ bs.length < 6) : lenS bs = if 65536 < rd ((bs.drop 2).take 4) then (0, 11) else (rd ((bs.drop 2).take 4), 0) := by
  unfold lenS; rw [if_neg (by omega), if_neg (by simpa using h), if_neg h6]
theorem refnext_any (B c n : Nat) (A : Option Addr) (bs : List UInt8) (hn : n = bs.length) (hc : n ≤ c) (w : World) (h : Row w B A (bs.map byteV)) (hB : B ≤ w.heap.size) (hnm : n ≤ 1073741824) :
    Calls Tryz.prog 160 #[.slice A n c] w (NextP (nextS bs) w) := by
  by_cases h0 : n = 0
  · rw [nx_nil (by omega)]
    subst h0
    clear h hn hc hnm
    go_enter Tryz.func160, Tryz.ntmps160
    go_wp2
    exact bodyPost_ret (v := .tuple #[.int .u8 0, .slice none 0 0, .int .i64 0, .int .i64 4]) (by simp [results, Tryz.results160, go_sem]) rfl ⟨rfl, Below.refl _ _⟩
  have hz : ((n : Int) == 0) = false := by simp; omega
  obtain ⟨b, o, rfl, hb, hcell⟩ := h.open_ (by rw [List.length_map]; omega)
  have h00 : 0 < bs.length := by omega
  have hc0 := hcell 0 (by rw [List.length_map]; omega)
  rw [byteV_list bs 0 h00, Nat.add_zero] at hc0
  have hn0 : 0 < n := by omega
  by_cases h1 : bs.getD 0 0 ≠ 165
  · rw [nx_11 (by omega) h1]
    rw [getD_at bs 0 h00] at h1
    obtain ⟨v, hv⟩ : ∃ v, bs[0].toNat = v := ⟨_, rfl⟩
    have hv1 : v ≠ 165 := by rw [← hv]; exact byte_ne _ h1
    have hvn : ((v : Int) != 165) = true := by simp; omega
    rw [hv] at hc0
    clear h hn hc hcell h1 hv h0
    go_enter Tryz.func160, Tryz.ntmps160
    go_wp2
    exact bodyPost_ret (v := .tuple #[.int .u8 0, .slice none 0 0, .int .i64 0, .int .i64 11]) (by simp [results, Tryz.results160, go_sem]) rfl ⟨rfl, Below.refl _ _⟩
  have h1 := Decidable.not_not.1 h1
  have h165 : bs[0].toNat = 165 := by
    rw [getD_at bs 0 h00] at h1
    rw [h1]; rfl
  rw [h165] at hc0
  have hc0 : w.cell? ⟨b, o, none⟩ = some (.int .u8 165) := hc0
  by_cases h6 : n < 6
  · rw [nx_12 (by omega) h1 (by omega)]
    have h6i : (n : Int) < 6 := by omega
    clear h hn hc hcell h1 h165 h0 h6
    go_enter Tryz.func160, Tryz.ntmps160
    go_wp2
    exact bodyPost_ret (v := .tuple #[.int .u8 0, .slice none 0 0, .int .i64 0, .int .i64 12]) (by simp [results, Tryz.results160, go_sem]) rfl ⟨rfl, Below.refl _ _⟩
  have h6i : (6 : Int) ≤ (n : Int) := by omega
  have hl := len_6 h1 (by omega : ¬ bs.length < 6)
  obtain ⟨zs, hzs⟩ : ∃ zs, (bs.drop 2).take 4 = zs := ⟨_, rfl⟩
  have hl4 : zs.length = 4 := by rw [← hzs, List.length_take, List.length_drop]; omega
  have HZC : Hid (∀ k (hk : k < zs.length), w.cell? ⟨b, o + (2 + k), none⟩ = some (.int .u8 (zs[k].toNat : Int))) := Lib.hid fun k hk => by
    have := hcell (2 + k) (by rw [List.length_map]; omega)
    rw [byteV_list bs (2 + k) (by omega)] at this
    rw [this]
    subst hzs
    simp
  have HZL := Lib.hid hl4
  rw [hzs] at hl
  obtain ⟨kk, hkk⟩ : ∃ kk, bs.getD 1 0 = kk := ⟨_, rfl⟩
  have hc1 : w.cell? ⟨b, o + 1, none⟩ = some (.int .u8 (kk.toNat : Int)) := by
    have := hcell 1 (by rw [List.length_map]; omega)
    rw [byteV_list bs 1 (by omega), ← getD_at bs 1 (by omega), hkk] at this
    exact this
  have HC1 : Hid (∀ W, Below w.heap.size w W → W.cell? ⟨b, o + 1, none⟩ = some (.int .u8 (kk.toNat : Int))) := Lib.hid fun W hb2 =>
    ((hb2.mono hB).cell (p := ⟨b, o + 1, none⟩) hb).trans hc1
  have HROW : Hid (∀ W, Below w.heap.size w W → Row W W.heap.size (some ⟨b, o, none⟩) (bs.map byteV)) := Lib.hid fun W hb => (h.below (hb.mono hB)).more (Nat.le_trans hB hb.size)
  have HN := Lib.hid hn
  have HC := Lib.hid hc
  have HL := Lib.hid hl
  have HK := Lib.hid hkk
  clear h hn hc hcell h1 h165 h0 h6 hl hl4 hkk hc1 hzs
  go_enter Tryz.func160, Tryz.ntmps160
  go_wp2
  go_loop [6, 7] (fun v i => ∃ k : Nat, k ≤ 4 ∧ i = .int .i64 ((2 + k : Nat) : Int) ∧ v = .int .i64 (rd (zs.take k))) (fun _ i => 6 - (intOf i).toNat)
  case atStart => exact ⟨0, by omega, rfl, rfl⟩
  case round =>
    obtain ⟨k, hk, rfl, rfl⟩ := hrel
    by_cases hlt : k < 4
    · have hck := HZC.out k (by rw [HZL.out]; exact hlt)
      have r0 := rd_nonneg (zs.take k)
      have r1 := rd_small4 zs k (by rw [HZL.out]; exact hlt) (by rw [HZL.out]; omega)
      have r2 := (zs[k]'(by rw [HZL.out]; exact hlt)).toNat_lt
      have hs := Lib.hid (rd_snoc zs k (by rw [HZL.out]; exact hlt))
      obtain ⟨u, hu⟩ : ∃ u, rd (zs.take k) = u := ⟨_, rfl⟩
      obtain ⟨v, hv⟩ : ∃ v, (zs[k]'(by rw [HZL.out]; exact hlt)).toNat = v := ⟨_, rfl⟩
      rw [hu] at r0 r1 hs ⊢
      rw [hv] at hck r2 hs
      clear hu hv
      go_wp2
      go_round
      case rel => exact ⟨k + 1, by omega, by go_num, by rw [hs.out]⟩
      case measure => simp [intOf]; omega
    · obtain rfl : k = 4 := by omega
      have hT : zs.take 4 = zs := List.take_of_length_le (by rw [HZL.out]; exact Nat.le_refl _)
      have r0 := rd_nonneg zs
      rw [hT]
      obtain ⟨u, hu⟩ : ∃ u, rd zs = u := ⟨_, rfl⟩
      rw [hu] at r0 HL ⊢
      clear hT hu hlt hk HZC HZL
      by_cases hu1 : 65536 < u
      · have hx : nextS bs = .bad 11 := by have := HL.out; rw [if_pos hu1] at this; unfold nextS; rw [this]; rfl
        have HX := Lib.hid hx
        clear HL hx
        go_wp2
        refine bodyPost_ret (v := .tuple #[.int .u8 0, .slice none 0 0, .int .i64 0, .int .i64 11]) (by simp [results, Tryz.results160, go_sem]) rfl ?_
        rw [HX.out]
        exact ⟨rfl, Below.refl _ _⟩
      have hle : lenS bs = (u, 0) := by have := HL.out; rw [if_neg hu1] at this; exact this
      obtain ⟨L, hL⟩ : ∃ L : Nat, u = (L : Int) := ⟨u.toNat, by omega⟩
      subst hL
      have hL2 : L ≤ 65536 := by omega
      have hl2 : (L : Int) ≤ 65536 := by omega
      obtain ⟨E, hE⟩ : ∃ E, L + 6 = E := ⟨_, rfl⟩
      obtain ⟨Z, hZ⟩ : ∃ Z, L + 10 = Z := ⟨_, rfl⟩
      have q1 : (6 : Int) + (L : Int) = (E : Int) := by omega
      have q2 : (L : Int) + 10 = (Z : Int) := by omega
      have hn := HN.out
      have hx0 : nextS bs = if n < Z then .bad 12 else if rd ((bs.drop E).take 4) ≠ (chk (bs.take E) : Int) then .bad 20 else .ok (bs.getD 1 0, (bs.drop 6).take L) := by
        unfold nextS
        rw [hle]
        simp only [Int.toNat_natCast, ne_eq, not_true_eq_false, if_false]
        rw [hn, ← hE, ← hZ]
      by_cases hs : n < Z
      · rw [if_pos hs] at hx0
        have hsi : (n : Int) < (Z : Int) := by omega
        have HX := Lib.hid hx0
        clear HL hx0 hle hE hZ hn hs hu1 hL2
        go_wp2
        refine bodyPost_ret (v := .tuple #[.int .u8 0, .slice none 0 0, .int .i64 0, .int .i64 12]) (by simp [results, Tryz.results160, go_sem]) rfl ?_
        rw [HX.out]
        exact ⟨rfl, Below.refl _ _⟩
      rw [if_neg hs] at hx0
      have hsi : (Z : Int) ≤ (n : Int) := by omega
      have hcc := HC.out
      have hft := fr_there hle (by omega)
      rw [hE, hZ] at hft
      obtain ⟨ys, hys⟩ : ∃ ys, (bs.drop 6).take L = ys := ⟨_, rfl⟩
      have hyl : ys.length = L := by rw [← hys, List.length_take, List.length_drop]; omega
      rw [HK.out, hys] at hft hx0
      obtain ⟨F, hF⟩ : ∃ F, frB (kk, ys) = F := ⟨_, rfl⟩
      rw [hF] at hft
      have hFl : F.length = Z := by rw [← hF, fr_len]; show ys.length + 10 = Z; omega
      obtain ⟨bb, hbb⟩ : ∃ bb : Bool, (F == bs.take Z) = bb := ⟨_, rfl⟩
      have hx1 : nextS bs = if bb = true then .ok (kk, ys) else .bad 20 := by
        rw [hx0, ← hbb]
        by_cases hq : F = bs.take Z
        · rw [if_neg (by simpa using hft.1 hq), if_pos (by simpa using hq)]
        · rw [if_pos (fun e => hq (hft.2 e)), if_neg (by simpa using hq)]
      have u3 : ∀ W, (Instr.slice 27 (.slice (some ⟨b, o, none⟩) n c) (some (.int .i64 6)) (some (.int .i64 (E : Int))) none).run Tryz.prog W = .ok (.slice (cutA (some ⟨b, o, none⟩) 6 c) L (c - 6)) W := fun W => by
        have := run_cut_lh (P := Tryz.prog) (w := W) 27 5 _ _ Tryz.underlying27 info_b (some ⟨b, o, none⟩) n c 6 E (by omega) (by omega)
        rw [show E - 6 = L by omega] at this
        exact this
      have u4 : ∀ W, (Instr.slice 27 (.slice (some ⟨b, o, none⟩) n c) none (some (.int .i64 (Z : Int))) none).run Tryz.prog W = .ok (.slice (some ⟨b, o, none⟩) Z c) W := fun W =>
        run_cut_h (P := Tryz.prog) (w := W) 27 5 _ _ Tryz.underlying27 info_b (some ⟨b, o, none⟩) n c Z (by omega)
      have HYR : Hid (∀ W, Below w.heap.size w W → Row W W.heap.size (cutA (some ⟨b, o, none⟩) 6 c) (ys.map byteV)) := Lib.hid fun W hb2 => by
        rw [← hys, List.map_take, List.map_drop]
        exact take_row (cut_row (HROW.out W hb2) 6 c (by rw [List.length_map]; omega)) L
      have HOE : oneS (kk, ys) = (F, 0) := by unfold oneS; rw [if_neg (by show ¬ 65536 < ys.length; omega), hF]
      have HON : Hid (∀ W, Below w.heap.size w W → Calls Tryz.prog 100 #[.int .u8 (kk.toNat : Int), .slice (cutA (some ⟨b, o, none⟩) 6 c) L (c - 6)] W (MadeF W.heap.size (F, 0) W)) := Lib.hid fun W hb2 => by
        have := refone_any kk W.heap.size (c - 6) L _ ys hyl.symm W (HYR.out W hb2) (Nat.le_refl _)
        rw [HOE] at this
        exact this
      have HCL : Hid (∀ W, Below w.heap.size w W → Calls Tryz.prog 54 #[.slice (cutA (some ⟨b, o, none⟩) 6 c) L (c - 6)] W (Made W.heap.size ys W)) := Lib.hid fun W hb2 =>
        copyb_any W.heap.size (c - 6) L _ ys hyl.symm W (HYR.out W hb2) (Nat.le_refl _) (by omega)
      have HTK : Hid (∀ W, Below w.heap.size w W → Row W W.heap.size (some ⟨b, o, none⟩) ((bs.take Z).map byteV)) := Lib.hid fun W hb2 => by
        rw [List.map_take]; exact take_row (HROW.out W hb2) Z
      have hZl : (bs.take Z).length = Z := by rw [List.length_take]; omega
      obtain ⟨C6, hC6⟩ : ∃ C6, cutA (some ⟨b, o, none⟩) 6 c = C6 := ⟨_, rfl⟩
      obtain ⟨c6, hc6⟩ : ∃ c6, c - 6 = c6 := ⟨_, rfl⟩
      rw [hC6] at u3 HON HCL
      rw [hc6] at u3 HON HCL
      have hn1 : (1 : Int) < (n : Int) := by omega
      have r5 : IntKind.i64.wrap (E : Int) = (E : Int) := by rw [IntKind.wrap_i64]; omega
      have r6 : IntKind.i64.wrap (Z : Int) = (Z : Int) := by rw [IntKind.wrap_i64]; omega
      have HX := Lib.hid (And.intro hx1 (And.intro hyl (And.intro hZ (And.intro hFl (And.intro hZl hbb)))))
      clear HL hx0 hx1 hle hE hZ hn hs hu1 hL2 hcc hft hys hyl hF hFl hbb HOE hC6 hc6 hZl HYR HROW HN HC HK
      go_wp2_with fail
      refine Rely.wp_region_by [[], [(0, 40)], [(1, 41)], [], [], [(4, 44)], [(3, 43), (5, 45)], [(2, 42), (6, 46)], [(7, 47)], [(8, 39)], [(8, 39)], [(9, 48)], [(10, 49)]] [(0, 40), (1, 41), (2, 42), (3, 43), (4, 44), (5, 45), (6, 46), (7, 47), (8, 39), (9, 48), (10, 49), (11, 8), (12, 9)] [] (r16T w.heap.size (some ⟨b, o, none⟩) C6 (.pointer (some ⟨b, o + 1, none⟩)) n c c6 E L kk.toNat F) (by kernel_rfl) (by kernel_rfl) (by kernel_rfl) (by kernel_rfl) (by kernel_rfl) (by kernel_rfl) (r16T_later w.heap.size (some ⟨b, o, none⟩) C6 (.pointer (some ⟨b, o + 1, none⟩)) n c c6 E L kk.toNat F) ?_ ?_
      · iterate 2 (refine Rely.stepsZ_cons (by
          intro vs w' hb hp
          simp only [Rely.Pre, r16T] at hp
          unfold Rely.gives
          simp only [Rely.sel, List.foldl_cons, List.foldl_nil]
          go_simp
          exact ⟨Below.refl _ _, rfl⟩) ?_)
        refine Rely.stepsZ_cons (by
          intro vs w' hb hp
          simp only [Rely.Pre, r16T] at hp
          have hcc := HC1.out w' hb
          unfold Rely.gives
          simp only [Rely.sel, List.foldl_cons, List.foldl_nil]
          go_simp
          exact ⟨Below.refl _ _, rfl⟩) ?_
        iterate 4 (refine Rely.stepsZ_cons (by
          intro vs w' hb hp
          simp only [Rely.Pre, r16T] at hp
          unfold Rely.gives
          simp only [Rely.sel, List.foldl_cons, List.foldl_nil]
          go_simp
          exact ⟨Below.refl _ _, rfl⟩) ?_)
        refine Rely.stepsZ_cons (by
          intro vs w' hb hp
          simp only [Rely.Pre, r16T] at hp
          unfold Rely.gives
          simp only [Rely.sel, List.foldl_cons, List.foldl_nil]
          go_simp
          simp only [Rely.GivesR]
          refine (HON.out w' hb).mono ?_
          rintro e w3 ⟨A3, c3, rfl, ho3, hb3⟩
          exact ⟨_, rfl, hb3, A3, c3, rfl, ownBase ho3 hb.size⟩) ?_
        iterate 2 (refine Rely.stepsZ_cons (by
          intro vs w' hb hp
          simp only [Rely.Pre, r16T] at hp
          obtain ⟨⟨a3, c3, e3, ho3⟩, _⟩ := hp
          unfold Rely.gives
          simp only [Rely.sel, List.foldl_cons, List.foldl_nil]
          go_simp
          exact ⟨Below.refl _ _, a3, c3, rfl, ho3⟩) ?_)
        refine Rely.stepsZ_cons (by
          intro vs w' hb hp
          simp only [Rely.Pre, r16T] at hp
          obtain ⟨⟨a3, c3, e3, ho3⟩, _⟩ := hp
          unfold Rely.gives
          simp only [Rely.sel, List.foldl_cons, List.foldl_nil]
          go_simp
          exact ⟨Below.refl _ _, rfl⟩) ?_
        refine Rely.stepsZ_cons (by
          intro vs w' hb hp
          simp only [Rely.Pre, r16T] at hp
          obtain ⟨⟨a3, c3, e3, ho3⟩, _⟩ := hp
          unfold Rely.gives
          simp only [Rely.sel, List.foldl_cons, List.foldl_nil]
          go_simp
          exact ⟨Below.refl _ _, a3, c3, rfl, ho3⟩) ?_
        refine Rely.stepsZ_cons (by
          intro vs w' hb hp
          simp only [Rely.Pre, r16T] at hp
          unfold Rely.gives
          simp only [Rely.sel, List.foldl_cons, List.foldl_nil]
          go_simp
          exact ⟨Below.refl _ _, rfl⟩) ?_
        exact Rely.stepsZ_nil
      intro vs w1 hb1 hp _
      simp only [Rely.Pre, r16T] at hp
      obtain ⟨h0, h1, h2, h3, h4, h5, h6, ⟨a7, b7, h7, _⟩, ⟨a8, b8, h8, _⟩, ⟨a9, b9, h9, _⟩, h10, ⟨aF, cF, h11, hoF⟩, h12, _⟩ := hp
      simp only [Rely.sel, List.foldl_cons, List.foldl_nil, h0, h1, h2, h3, h4, h5, h6, h7, h8, h9, h10, h11, h12]
      clear h0 h1 h2 h3 h4 h5 h6 h7 h8 h9 h10 h11 h12
      have HB1 := Lib.hid hb1
      have hsm := same_any w1.heap.size w1.heap.size cF c F.length Z aF (some ⟨b, o, none⟩) F (bs.take Z) w1 (Row.of_own hoF) (HTK.out w1 hb1) rfl HX.out.2.2.2.2.1.symm
      rw [HX.out.2.2.2.2.2] at hsm
      have HSM := Lib.hid hsm
      clear hb1 hoF hsm HON HTK
      simp only [Act.put, List.setIfInBounds_toArray, List.set_cons_succ, List.set_cons_zero]
      go_wp2_with fail
      refine HSM.out.mono ?_
      rintro e w' ⟨rfl, rfl⟩
      clear HSM
      cases bb
      · have hx2 : Hid (nextS bs = .bad 20) := Lib.hid (by rw [HX.out.1, if_neg (by decide)])
        clear HX
        go_wp2
        refine bodyPost_ret (v := .tuple #[.int .u8 0, .slice none 0 0, .int .i64 0, .int .i64 20]) (by simp [results, Tryz.results160, go_sem]) rfl ?_
        rw [hx2.out]
        exact ⟨rfl, HB1.out⟩
      have hx2 : Hid (nextS bs = .ok (kk, ys)) := Lib.hid (by rw [HX.out.1, if_pos rfl])
      go_wp2_with fail
      refine Rely.wp_region_by [[], [(0, 57)], [(1, 58)], [], [], [(4, 61)], [(3, 60), (5, 62)], [(6, 63)], [], [(8, 65)], [(2, 59)], [(7, 64)], [(9, 66)], []] [(0, 57), (1, 58), (2, 59), (3, 60), (4, 61), (5, 62), (6, 63), (7, 64), (8, 65), (9, 66), (10, 2), (11, 3), (12, 4), (13, 5)] [] (r19T w.heap.size (some ⟨b, o, none⟩) C6 (.pointer (some ⟨b, o + 1, none⟩)) n c c6 E Z L kk.toNat ys) (by kernel_rfl) (by kernel_rfl) (by kernel_rfl) (by kernel_rfl) (by kernel_rfl) (by kernel_rfl) (r19T_later w.heap.size (some ⟨b, o, none⟩) C6 (.pointer (some ⟨b, o + 1, none⟩)) n c c6 E Z L kk.toNat ys) ?_ ?_
      · iterate 2 (refine Rely.stepsZ_cons (by
          intro vs w' hb hp
          simp only [Rely.Pre, r19T] at hp
          unfold Rely.gives
          simp only [Rely.sel, List.foldl_cons, List.foldl_nil]
          go_simp
          exact ⟨Below.refl _ _, rfl⟩) ?_)
        refine Rely.stepsZ_cons (by
          intro vs w' hb hp
          simp only [Rely.Pre, r19T] at hp
          have hcc := HC1.out w' (HB1.out.trans (hb.mono HB1.out.size))
          unfold Rely.gives
          simp only [Rely.sel, List.foldl_cons, List.foldl_nil]
          go_simp
          exact ⟨Below.refl _ _, rfl⟩) ?_
        iterate 4 (refine Rely.stepsZ_cons (by
          intro vs w' hb hp
          simp only [Rely.Pre, r19T] at hp
          unfold Rely.gives
          simp only [Rely.sel, List.foldl_cons, List.foldl_nil]
          go_simp
          exact ⟨Below.refl _ _, rfl⟩) ?_)
        refine Rely.stepsZ_cons (by
          intro vs w' hb hp
          simp only [Rely.Pre, r19T] at hp
          unfold Rely.gives
          simp only [Rely.sel, List.foldl_cons, List.foldl_nil]
          go_simp
          simp only [Rely.GivesR]
          refine (HCL.out w' (HB1.out.trans (hb.mono HB1.out.size))).mono ?_
          rintro e w3 ⟨A3, c3, rfl, ho3, hb3⟩
          exact ⟨_, rfl, hb3, A3, c3, rfl, ownBase ho3 (Nat.le_trans HB1.out.size hb.size)⟩) ?_
        iterate 3 (refine Rely.stepsZ_cons (by
          intro vs w' hb hp
          simp only [Rely.Pre, r19T] at hp
          unfold Rely.gives
          simp only [Rely.sel, List.foldl_cons, List.foldl_nil]
          go_simp
          exact ⟨Below.refl _ _, rfl⟩) ?_)
        refine Rely.stepsZ_cons (by
          intro vs w' hb hp
          simp only [Rely.Pre, r19T] at hp
          obtain ⟨⟨a3, c3, e3, ho3⟩, _⟩ := hp
          unfold Rely.gives
          simp only [Rely.sel, List.foldl_cons, List.foldl_nil]
          go_simp
          exact ⟨Below.refl _ _, a3, c3, rfl, ho3⟩) ?_
        iterate 2 (refine Rely.stepsZ_cons (by
          intro vs w' hb hp
          simp only [Rely.Pre, r19T] at hp
          unfold Rely.gives
          simp only [Rely.sel, List.foldl_cons, List.foldl_nil]
          go_simp
          exact ⟨Below.refl _ _, rfl⟩) ?_)
        exact Rely.stepsZ_nil
      intro vs w2 hb2 hp _
      simp only [Rely.Pre, r19T] at hp
      obtain ⟨h0, h1, h2, h3, h4, h5, h6, ⟨a7, b7, h7, _⟩, h8, h9, h10, ⟨aC, cC, h11, hoC⟩, h12, h13, _⟩ := hp
      simp only [Rely.sel, List.foldl_cons, List.foldl_nil, h0, h1, h2, h3, h4, h5, h6, h7, h8, h9, h10, h11, h12, h13]
      clear h0 h1 h2 h3 h4 h5 h6 h7 h8 h9 h10 h11 h12 h13
      have HO := Lib.hid hoC
      have HB2 := Lib.hid (HB1.out.trans (hb2.mono HB1.out.size))
      clear hoC hb2 u3 u4
      simp only [Act.put, List.setIfInBounds_toArray, List.set_cons_succ, List.set_cons_zero]
      go_wp2
      refine bodyPost_ret (v := .tuple #[.int .u8 (kk.toNat : Int), .slice aC ys.length cC, .int .i64 (Z : Int), .int .i64 0]) (by simp [results, Tryz.results160, go_sem]) rfl ?_
      rw [hx2.out]
      refine ⟨aC, cC, ?_, HO.out, HB2.out⟩
      simp only
      rw [HX.out.2.1, HX.out.2.2.1]
end Go.Proofs.YtkdpfjenjcpcfaaGreatDoor
