/- The first frame, found by the program: one contract. -/
import Derived.Test.YtkdpfjenjcpcfaaGreatDoorRefOne5
import Derived.Test.YtkdpfjenjcpcfaaGreatDoorRely
namespace Go.Proofs.YtkdpfjenjcpcfaaGreatDoor
open Go.RowKit Mem Be Word Frm
set_option maxRecDepth 10000
set_option maxHeartbeats 1000000
set_option linter.unusedVariables false
theorem getD_at (bs : List UInt8) (i : Nat) (h : i < bs.length) : bs.getD i 0 = bs[i] := by
  rw [List.getD_eq_getElem?_getD, List.getElem?_eq_getElem h]; rfl
theorem byte_ne (x : UInt8) (h : x ≠ 165) : x.toNat ≠ 165 := fun e => h (by
  apply UInt8.toNat_inj.1
  rw [e]; rfl)
theorem lengthin_any (B c n : Nat) (A : Option Addr) (bs : List UInt8) (hn : n = bs.length) (hc : n ≤ c) (w : World) (h : Row w B A (bs.map byteV)) :
    Calls Tryz.prog 195 #[.slice A n c] w fun e w' => e = .returned (.tuple #[.int .i64 (lenS bs).1, .int .i64 (lenS bs).2]) ∧ w = w' := by
  by_cases h0 : n = 0
  · have hl : lenS bs = (0, 4) := by unfold lenS; rw [if_pos (by omega)]
    rw [hl]
    subst h0
    clear h hn hl hc
    go_enter Tryz.func195, Tryz.ntmps195
    go_wp2
    go_ret2
    exact ⟨rfl, rfl⟩
  have hz : ((n : Int) == 0) = false := by simp; omega
  obtain ⟨b, o, rfl, hb, hcell⟩ := h.open_ (by rw [List.length_map]; omega)
  have h00 : 0 < bs.length := by omega
  have hc0 := hcell 0 (by rw [List.length_map]; omega)
  rw [byteV_list bs 0 h00, Nat.add_zero] at hc0
  have hn0 : 0 < n := by omega
  by_cases h1 : bs.getD 0 0 ≠ 165
  · have hl : lenS bs = (0, 11) := by unfold lenS; rw [if_neg (by omega), if_pos h1]
    rw [hl]
    rw [getD_at bs 0 h00] at h1
    obtain ⟨v, hv⟩ : ∃ v, bs[0].toNat = v := ⟨_, rfl⟩
    have hv1 : v ≠ 165 := by rw [← hv]; exact byte_ne _ h1
    have hvn : ((v : Int) != 165) = true := by simp; omega
    rw [hv] at hc0
    clear h hn hl hc hcell h1 hv h0
    go_enter Tryz.func195, Tryz.ntmps195
    go_wp2
    go_ret2
    exact ⟨rfl, rfl⟩
  have h165 : bs[0].toNat = 165 := by
    have := Decidable.not_not.1 h1
    rw [getD_at bs 0 h00] at this
    rw [this]; rfl
  rw [h165] at hc0
  have hc0 : w.cell? ⟨b, o, none⟩ = some (.int .u8 165) := hc0
  by_cases h6 : n < 6
  · have hl : lenS bs = (0, 12) := by unfold lenS; rw [if_neg (by omega), if_neg h1, if_pos (by omega)]
    rw [hl]
    have h6i : (n : Int) < 6 := by omega
    clear h hn hl hc hcell h1 h165 h0 h6
    go_enter Tryz.func195, Tryz.ntmps195
    go_wp2
    go_ret2
    exact ⟨rfl, rfl⟩
  have h6i : (6 : Int) ≤ (n : Int) := by omega
  have hcut : ∀ W, (Instr.slice 27 (.slice (some ⟨b, o, none⟩) n c) (some (.int .i64 2)) (some (.int .i64 6)) none).run Tryz.prog W = .ok (.slice (cutA (some ⟨b, o, none⟩) 2 c) 4 (c - 2)) W := fun W =>
    run_cut_lh (P := Tryz.prog) (w := W) 27 5 _ _ Tryz.underlying27 info_b (some ⟨b, o, none⟩) n c 2 6 (by omega) (by omega)
  have hrow : Row w B (cutA (some ⟨b, o, none⟩) 2 c) (((bs.drop 2).take 4).map byteV) := by
    rw [List.map_take, List.map_drop]
    exact take_row (cut_row h 2 c (by rw [List.length_map]; omega)) 4
  obtain ⟨C, hC⟩ : ∃ C, cutA (some ⟨b, o, none⟩) 2 c = C := ⟨_, rfl⟩
  rw [hC] at hcut hrow
  have hl4 : ((bs.drop 2).take 4).length = 4 := by rw [List.length_take, List.length_drop]; omega
  have hl : lenS bs = if 65536 < rd ((bs.drop 2).take 4) then (0, 11) else (rd ((bs.drop 2).take 4), 0) := by unfold lenS; rw [if_neg (by omega), if_neg h1, if_neg (by omega)]
  have hr0 := rd_nonneg ((bs.drop 2).take 4)
  have HRD := Lib.hid (readword_any B (c - 2) 4 C ((bs.drop 2).take 4) hl4.symm (by omega) w hrow)
  obtain ⟨r, hr⟩ : ∃ r, rd ((bs.drop 2).take 4) = r := ⟨_, rfl⟩
  rw [hr] at hl HRD hr0
  clear h hn hc hcell h1 h165 h0 h6 hrow hl4 hr hC
  by_cases hg : 65536 < r
  · rw [if_pos hg] at hl
    rw [hl]
    clear hl
    go_enter Tryz.func195, Tryz.ntmps195
    go_wp2_with fail
    refine HRD.out.mono ?_
    rintro e w' ⟨rfl, rfl⟩
    go_wp2
    go_ret2
    exact ⟨rfl, rfl⟩
  · rw [if_neg hg] at hl
    rw [hl]
    have hg' : r ≤ 65536 := by omega
    have r1 : IntKind.i64.wrap r = r := by rw [IntKind.wrap_i64]; omega
    clear hl hg
    go_enter Tryz.func195, Tryz.ntmps195
    go_wp2_with fail
    refine HRD.out.mono ?_
    rintro e w' ⟨rfl, rfl⟩
    go_wp2
    go_ret2
    exact ⟨rfl, rfl⟩
/-- What the first frame is told to be. -/
def NextP (x : Nx) (w : World) (e : Ending) (w' : World) : Prop := match x with
  | .bad e0 => e = .returned (.tuple #[.int .u8 0, .slice none 0 0, .int .i64 0, .int .i64 e0]) ∧ Below w.heap.size w w'
  | .ok r => ∃ A c, e = .returned (.tuple #[.int .u8 (r.1.toNat : Int), .slice A r.2.length c, .int .i64 ((r.2.length + 10 : Nat) : Int), .int .i64 0]) ∧
      w'.ownsRow w.heap.size 5 1 (.slice A r.2.length c) r.2.length (r.2.map byteV) ∧ Below w.heap.size w w'
theorem check_blk (p : Nat) (A : Option Addr) (bs : List UInt8) (n c : Nat) (hn : n = bs.length) (K : Nat) (hK : chk bs = K) (hl : n ≤ 1000000) (W : World) (hb : Blk W p 27 #[.slice A n c]) (hr : Row W W.heap.size A (bs.map byteV)) :
    Calls Tryz.prog 175 #[.slice (some ⟨p, 0, none⟩) 1 1] W fun e w' => e = .returned (.int .u32 (K : Int)) ∧ W = w' := by
  have h := check_any W.heap.size 1 1 (some ⟨p, 0, none⟩) [(A, bs, c)] rfl W (Or.inr ⟨p, 0, rfl, hb.lt, fun j hj => by
    have : j = 0 := by simpa using hj
    subst this
    rw [hb.cell]
    subst hn; rfl⟩) (fun r hr2 => by simp at hr2; subst hr2; exact hr) (fun r hr2 => by simp at hr2; subst hr2; show bs.length ≤ _; omega) (by omega)
  rw [show catB [(A, bs, c)] = bs by simp [catB], show checkN (sumN basisN bs) = K from hK] at h
  exact h
def n8T (A C : Option Addr) (n c c4 E Z : Nat) (x : Int) (K : Nat) (bb : Bool) : Nat → Value → World → Prop
  | 0, v, _ => v = .slice A n c
  | 1, v, _ => v = .int .i64 (E : Int)
  | 2, v, _ => v = .int .i64 (Z : Int)
  | 3, v, _ => v = .slice C 4 c4
  | 4, v, _ => v = .int .u32 x
  | 5, v, _ => v = .slice A n c
  | 6, v, _ => v = .int .i64 (E : Int)
  | 7, v, _ => v = .slice A E c
  | 8, v, w => ∃ p, v = .slice (some ⟨p, 0, none⟩) 1 1 ∧ Blk w p 27 #[.slice A E c]
  | 9, v, _ => v = .int .u32 (K : Int)
  | _, v, _ => v = .bool bb
theorem n8T_later (A C : Option Addr) (n c c4 E Z : Nat) (x : Int) (K : Nat) (bb : Bool) : ∀ i v w1 w2, n8T A C n c c4 E Z x K bb i v w1 → Below w1.heap.size w1 w2 → n8T A C n c c4 E Z x K bb i v w2 := by
  intro i v w1 w2 h hb
  unfold n8T at h ⊢
  split at h <;> first | exact h | (obtain ⟨p, e, hk⟩ := h; exact ⟨p, e, hk.below hb hk.lt⟩)
def n10T (B0 : Nat) (A C : Option Addr) (P : Value) (n c c6 E Z L : Nat) (kd : Nat) (ys : List UInt8) : Nat → Value → World → Prop
  | 0, v, _ => v = .slice A n c
  | 1, v, _ => v = P
  | 2, v, _ => v = .int .u8 (kd : Int)
  | 3, v, _ => v = .slice A n c
  | 4, v, _ => v = .int .i64 (E : Int)
  | 5, v, _ => v = .slice C L c6
  | 6, v, w => ∃ A' c', v = .slice A' ys.length c' ∧ w.ownsRow B0 5 1 (.slice A' ys.length c') ys.length (ys.map byteV)
  | 7, v, _ => v = .int .i64 (Z : Int)
  | 8, v, _ => v = .int .u8 (kd : Int)
  | 9, v, w => ∃ A' c', v = .slice A' ys.length c' ∧ w.ownsRow B0 5 1 (.slice A' ys.length c') ys.length (ys.map byteV)
  | 10, v, _ => v = .int .i64 (Z : Int)
  | _, v, _ => v = .int .i64 0
theorem n10T_later (B0 : Nat) (A C : Option Addr) (P : Value) (n c c6 E Z L : Nat) (kd : Nat) (ys : List UInt8) : ∀ i v w1 w2, n10T B0 A C P n c c6 E Z L kd ys i v w1 → Below w1.heap.size w1 w2 → n10T B0 A C P n c c6 E Z L kd ys i v w2 := by
  intro i v w1 w2 h hb
  unfold n10T at h ⊢
  split at h <;> first | exact h | (obtain ⟨a, b, e, hk⟩ := h; exact ⟨a, b, e, own_later hk hb⟩)
theorem next_any (B c n : Nat) (A : Option Addr) (bs : List UInt8) (hn : n = bs.length) (hc : n ≤ c) (w : World) (h : Row w B A (bs.map byteV)) (hB : B ≤ w.heap.size) (hnm : n ≤ 1073741824) :
    Calls Tryz.prog 176 #[.slice A n c] w (NextP (nextS bs) w) := by
  have HL := Lib.hid (lengthin_any B c n A bs hn hc w h)
  by_cases he : (lenS bs).2 ≠ 0
  · have hx : nextS bs = .bad (lenS bs).2 := by unfold nextS; rw [if_pos he]
    rw [hx]
    obtain ⟨⟨l0, e0⟩, hle⟩ : ∃ p, lenS bs = p := ⟨_, rfl⟩
    rw [hle] at HL he ⊢
    have he' : (e0 != 0) = true := by simpa using he
    simp only at HL ⊢
    clear h hn hc he hle hx
    go_enter Tryz.func176, Tryz.ntmps176
    go_wp2_with fail
    refine HL.out.mono ?_
    rintro e w' ⟨rfl, rfl⟩
    go_wp2
    exact bodyPost_ret (v := .tuple #[.int .u8 0, .slice none 0 0, .int .i64 0, .int .i64 e0]) (by simp [results, Tryz.results176, go_sem]) rfl ⟨rfl, Below.refl _ _⟩
  have hr := len_range bs
  obtain ⟨⟨l0, e0⟩, hle⟩ : ∃ p, lenS bs = p := ⟨_, rfl⟩
  have he0 : e0 = 0 := by rw [hle] at he; simpa using he
  subst he0
  rw [hle] at HL hr
  simp only at HL hr
  obtain ⟨L, hL⟩ : ∃ L : Nat, l0 = (L : Int) := ⟨l0.toNat, by omega⟩
  subst hL
  have hL2 : L ≤ 65536 := by omega
  have hl2 : (L : Int) ≤ 65536 := by omega
  obtain ⟨E, hE⟩ : ∃ E, L + 6 = E := ⟨_, rfl⟩
  obtain ⟨Z, hZ⟩ : ∃ Z, L + 10 = Z := ⟨_, rfl⟩
  have q1 : (6 : Int) + (L : Int) = (E : Int) := by omega
  have q2 : (E : Int) + 4 = (Z : Int) := by omega
  have hx0 : nextS bs = if n < Z then .bad 12 else if rd ((bs.drop E).take 4) ≠ (chk (bs.take E) : Int) then .bad 20 else .ok (bs.getD 1 0, (bs.drop 6).take L) := by
    unfold nextS
    rw [hle]
    simp only [Int.toNat_natCast, ne_eq, not_true_eq_false, if_false]
    rw [hn, ← hE, ← hZ]
  by_cases hs : n < Z
  · rw [hx0, if_pos hs]
    have hsi : (n : Int) < (Z : Int) := by omega
    clear h hn hc he hle hx0 hs hE hZ hr hL2
    go_enter Tryz.func176, Tryz.ntmps176
    go_wp2_with fail
    refine HL.out.mono ?_
    rintro e w' ⟨rfl, rfl⟩
    go_wp2
    exact bodyPost_ret (v := .tuple #[.int .u8 0, .slice none 0 0, .int .i64 0, .int .i64 12]) (by simp [results, Tryz.results176, go_sem]) rfl ⟨rfl, Below.refl _ _⟩
  rw [if_neg hs] at hx0
  have hsi : (Z : Int) ≤ (n : Int) := by omega
  have u1 : ∀ W, (Instr.slice 27 (.slice A n c) (some (.int .i64 (E : Int))) (some (.int .i64 (Z : Int))) none).run Tryz.prog W = .ok (.slice (cutA A E c) 4 (c - E)) W := fun W => by
    have := run_cut_lh (P := Tryz.prog) (w := W) 27 5 _ _ Tryz.underlying27 info_b A n c E Z (by omega) (by omega)
    rw [show Z - E = 4 by omega] at this
    exact this
  have u2 : ∀ W, (Instr.slice 27 (.slice A n c) none (some (.int .i64 (E : Int))) none).run Tryz.prog W = .ok (.slice A E c) W := fun W =>
    run_cut_h (P := Tryz.prog) (w := W) 27 5 _ _ Tryz.underlying27 info_b A n c E (by omega)
  have hrow : ∀ W, Below w.heap.size w W → Row W W.heap.size A (bs.map byteV) := fun W hb => (h.below (hb.mono hB)).more (Nat.le_trans hB hb.size)
  have hl4 : ((bs.drop E).take 4).length = 4 := by rw [List.length_take, List.length_drop]; omega
  have HRD : Hid (∀ W, Below w.heap.size w W → Calls Tryz.prog 196 #[.slice (cutA A E c) 4 (c - E)] W fun e w' => e = .returned (.int .u32 (rd ((bs.drop E).take 4))) ∧ W = w') := Lib.hid fun W hb =>
    readword_any W.heap.size (c - E) 4 _ ((bs.drop E).take 4) hl4.symm (by omega) W (by
      rw [List.map_take, List.map_drop]
      exact take_row (cut_row (hrow W hb) E c (by rw [List.length_map]; omega)) 4)
  have hEl : (bs.take E).length = E := by rw [List.length_take]; omega
  obtain ⟨K, hK⟩ : ∃ K, chk (bs.take E) = K := ⟨_, rfl⟩
  have HCK : Hid (∀ W p, Below w.heap.size w W → Blk W p 27 #[.slice A E c] → Calls Tryz.prog 175 #[.slice (some ⟨p, 0, none⟩) 1 1] W fun e w' => e = .returned (.int .u32 (K : Int)) ∧ W = w') := Lib.hid fun W p hb hk =>
    check_blk p A (bs.take E) E c hEl.symm K hK (by omega) W hk (by rw [List.map_take]; exact take_row (hrow W hb) E)
  obtain ⟨C, hC⟩ : ∃ C, cutA A E c = C := ⟨_, rfl⟩
  obtain ⟨c4, hc4⟩ : ∃ c4, c - E = c4 := ⟨_, rfl⟩
  obtain ⟨x, hxx⟩ : ∃ x, rd ((bs.drop E).take 4) = x := ⟨_, rfl⟩
  rw [hC, hc4] at u1 HRD
  rw [hxx] at hx0 HRD
  rw [hK] at hx0
  obtain ⟨bb, hbb⟩ : ∃ bb : Bool, (x != (K : Int)) = bb := ⟨_, rfl⟩
  have hx1 : nextS bs = if bb = true then .bad 20 else .ok (bs.getD 1 0, (bs.drop 6).take L) := by
    rw [hx0, ← hbb]
    by_cases hxk : x = (K : Int)
    · rw [if_neg (by simp [hxk]), if_neg (by simp [hxk])]
    · rw [if_pos hxk, if_pos (by simpa using hxk)]
  have HX := Lib.hid hx1
  have HROW := Lib.hid hrow
  have HG := Lib.hid (And.intro hn (And.intro hc (And.intro hE (And.intro hZ hL2))))
  clear h hc he hle hx0 hx1 hs hE hZ hr hL2 hrow hl4 hEl hC hc4 hxx hK hn
  go_enter Tryz.func176, Tryz.ntmps176
  go_wp2_with fail
  refine HL.out.mono ?_
  rintro e w' ⟨rfl, rfl⟩
  go_wp2_with fail
  refine Rely.wp_region_by [[], [], [], [(0, 28), (1, 29), (2, 30)], [(3, 31)], [], [], [(5, 33), (6, 34)], [(7, 35)], [(8, 36)], [(4, 32), (9, 37)], [(10, 38)]] [(0, 28), (1, 29), (2, 30), (3, 31), (4, 32), (5, 33), (6, 34), (7, 35), (8, 36), (9, 37), (10, 38), (11, 27)] [] (n8T A C n c c4 E Z x K bb) (by kernel_rfl) (by kernel_rfl) (by kernel_rfl) (by kernel_rfl) (by kernel_rfl) (by kernel_rfl) (n8T_later A C n c c4 E Z x K bb) ?_ ?_
  · iterate 4 (refine Rely.stepsZ_cons (by
      intro vs w' hb hp
      simp only [Rely.Pre, n8T] at hp
      unfold Rely.gives
      simp only [Rely.sel, List.foldl_cons, List.foldl_nil]
      go_simp
      exact ⟨Below.refl _ _, rfl⟩) ?_)
    refine Rely.stepsZ_cons (by
      intro vs w' hb hp
      simp only [Rely.Pre, n8T] at hp
      unfold Rely.gives
      simp only [Rely.sel, List.foldl_cons, List.foldl_nil]
      go_simp
      simp only [Rely.GivesR]
      refine (HRD.out w' hb).mono ?_
      rintro e w3 ⟨rfl, rfl⟩
      exact ⟨_, rfl, Below.refl _ _, rfl⟩) ?_
    iterate 3 (refine Rely.stepsZ_cons (by
      intro vs w' hb hp
      simp only [Rely.Pre, n8T] at hp
      unfold Rely.gives
      simp only [Rely.sel, List.foldl_cons, List.foldl_nil]
      go_simp
      exact ⟨Below.refl _ _, rfl⟩) ?_)
    refine Rely.stepsZ_cons (by
      intro vs w' hb hp
      simp only [Rely.Pre, n8T] at hp
      unfold Rely.gives
      simp only [Rely.sel, List.foldl_cons, List.foldl_nil]
      go_simp
      exact ⟨(Below.refl _ _).alloc (Nat.le_refl _) _, w'.heap.size, rfl, Blk.new _ _ _⟩) ?_
    refine Rely.stepsZ_cons (by
      intro vs w' hb hp
      simp only [Rely.Pre, n8T] at hp
      obtain ⟨⟨p, e1, hk⟩, _⟩ := hp
      unfold Rely.gives
      simp only [Rely.sel, List.foldl_cons, List.foldl_nil]
      go_simp
      simp only [Rely.GivesR]
      refine (HCK.out w' p hb hk).mono ?_
      rintro e w3 ⟨rfl, rfl⟩
      exact ⟨_, rfl, Below.refl _ _, rfl⟩) ?_
    iterate 2 (refine Rely.stepsZ_cons (by
      intro vs w' hb hp
      simp only [Rely.Pre, n8T] at hp
      unfold Rely.gives
      simp only [Rely.sel, List.foldl_cons, List.foldl_nil]
      go_simp
      exact ⟨Below.refl _ _, rfl⟩) ?_)
    exact Rely.stepsZ_nil
  · intro vs w1 hb1 hp _
    simp only [Rely.Pre, n8T] at hp
    obtain ⟨h0, h1, h2, h3, h4, h5, h6, h7, ⟨p, h8, hk⟩, h9, h10, h11, _⟩ := hp
    simp only [Rely.sel, List.foldl_cons, List.foldl_nil, h0, h1, h2, h3, h4, h5, h6, h7, h8, h9, h10, h11]
    clear h0 h1 h2 h3 h4 h5 h6 h7 h8 h9 h10 h11
    have HB1 := Lib.hid hb1
    clear hk hb1 HCK HRD u1 u2 q1 q2 HL
    simp only [Act.put, List.setIfInBounds_toArray, List.set_cons_succ, List.set_cons_zero]
    cases bb
    · obtain ⟨hn, hc, hE, hZ, hL2⟩ := HG.out
      obtain ⟨b, o, rfl, hb, hcell⟩ := (HROW.out w (Below.refl _ _)).open_ (by rw [List.length_map]; omega)
      have h1l : 1 < bs.length := by omega
      have hc1 := hcell 1 (by rw [List.length_map]; exact h1l)
      rw [byteV_list bs 1 h1l, ← getD_at bs 1 h1l] at hc1
      obtain ⟨kk, hkk⟩ : ∃ kk, bs.getD 1 0 = kk := ⟨_, rfl⟩
      have hx2 : nextS bs = .ok (kk, (bs.drop 6).take L) := by rw [HX.out, if_neg (by decide), hkk]
      rw [hkk] at hc1
      have HC1 : Hid (∀ W, Below w1.heap.size w1 W → W.cell? ⟨b, o + 1, none⟩ = some (.int .u8 (kk.toNat : Int))) := Lib.hid fun W hb2 =>
        ((HB1.out.trans (hb2.mono HB1.out.size)).cell (p := ⟨b, o + 1, none⟩) hb).trans hc1
      have hn1 : (1 : Int) < (n : Int) := by omega
      have u3 : ∀ W, (Instr.slice 27 (.slice (some ⟨b, o, none⟩) n c) (some (.int .i64 6)) (some (.int .i64 (E : Int))) none).run Tryz.prog W = .ok (.slice (cutA (some ⟨b, o, none⟩) 6 c) L (c - 6)) W := fun W => by
        have := run_cut_lh (P := Tryz.prog) (w := W) 27 5 _ _ Tryz.underlying27 info_b (some ⟨b, o, none⟩) n c 6 E (by omega) (by omega)
        rw [show E - 6 = L by omega] at this
        exact this
      obtain ⟨ys, hys⟩ : ∃ ys, (bs.drop 6).take L = ys := ⟨_, rfl⟩
      have hyl : ys.length = L := by rw [← hys, List.length_take, List.length_drop]; omega
      have HCL : Hid (∀ W, Below w1.heap.size w1 W → Calls Tryz.prog 71 #[.slice (cutA (some ⟨b, o, none⟩) 6 c) L (c - 6)] W (Made W.heap.size ys W)) := Lib.hid fun W hb2 =>
        clone_any W.heap.size (c - 6) _ ys L hyl.symm W (by
          rw [← hys, List.map_take, List.map_drop]
          exact take_row (cut_row (HROW.out W (HB1.out.trans (hb2.mono HB1.out.size))) 6 c (by rw [List.length_map]; omega)) L) (Nat.le_refl _) (by omega)
      obtain ⟨C6, hC6⟩ : ∃ C6, cutA (some ⟨b, o, none⟩) 6 c = C6 := ⟨_, rfl⟩
      obtain ⟨c6, hc6⟩ : ∃ c6, c - 6 = c6 := ⟨_, rfl⟩
      rw [hC6, hc6] at u3 HCL
      rw [hys] at hx2
      have HX2 := Lib.hid (And.intro hx2 (And.intro hyl hZ))
      clear hn hc hE hZ hL2 hcell hc1 hkk hx2 hys hyl hC6 hc6 h1l hbb HX HG HROW
      go_wp2_with fail
      refine Rely.wp_region_by [[], [(0, 39)], [(1, 40)], [], [], [(3, 42), (4, 43)], [(5, 44)], [], [(2, 41)], [(6, 45)], [(7, 46)], []] [(0, 39), (1, 40), (2, 41), (3, 42), (4, 43), (5, 44), (6, 45), (7, 46), (8, 2), (9, 3), (10, 4), (11, 5)] [] (n10T w.heap.size (some ⟨b, o, none⟩) C6 (.pointer (some ⟨b, o + 1, none⟩)) n c c6 E Z L kk.toNat ys) (by kernel_rfl) (by kernel_rfl) (by kernel_rfl) (by kernel_rfl) (by kernel_rfl) (by kernel_rfl) (n10T_later w.heap.size (some ⟨b, o, none⟩) C6 (.pointer (some ⟨b, o + 1, none⟩)) n c c6 E Z L kk.toNat ys) ?_ ?_
      · iterate 2 (refine Rely.stepsZ_cons (by
          intro vs w' hb hp
          simp only [Rely.Pre, n10T] at hp
          unfold Rely.gives
          simp only [Rely.sel, List.foldl_cons, List.foldl_nil]
          go_simp
          exact ⟨Below.refl _ _, rfl⟩) ?_)
        refine Rely.stepsZ_cons (by
          intro vs w' hb hp
          simp only [Rely.Pre, n10T] at hp
          have hcc := HC1.out w' hb
          unfold Rely.gives
          simp only [Rely.sel, List.foldl_cons, List.foldl_nil]
          go_simp
          exact ⟨Below.refl _ _, rfl⟩) ?_
        iterate 3 (refine Rely.stepsZ_cons (by
          intro vs w' hb hp
          simp only [Rely.Pre, n10T] at hp
          unfold Rely.gives
          simp only [Rely.sel, List.foldl_cons, List.foldl_nil]
          go_simp
          exact ⟨Below.refl _ _, rfl⟩) ?_)
        refine Rely.stepsZ_cons (by
          intro vs w' hb hp
          simp only [Rely.Pre, n10T] at hp
          unfold Rely.gives
          simp only [Rely.sel, List.foldl_cons, List.foldl_nil]
          go_simp
          simp only [Rely.GivesR]
          refine (HCL.out w' hb).mono ?_
          rintro e w3 ⟨A3, c3, rfl, ho3, hb3⟩
          exact ⟨_, rfl, hb3, A3, c3, rfl, ownBase ho3 (Nat.le_trans HB1.out.size hb.size)⟩) ?_
        iterate 2 (refine Rely.stepsZ_cons (by
          intro vs w' hb hp
          simp only [Rely.Pre, n10T] at hp
          unfold Rely.gives
          simp only [Rely.sel, List.foldl_cons, List.foldl_nil]
          go_simp
          exact ⟨Below.refl _ _, rfl⟩) ?_)
        refine Rely.stepsZ_cons (by
          intro vs w' hb hp
          simp only [Rely.Pre, n10T] at hp
          obtain ⟨⟨a3, c3, e3, ho3⟩, _⟩ := hp
          unfold Rely.gives
          simp only [Rely.sel, List.foldl_cons, List.foldl_nil]
          go_simp
          exact ⟨Below.refl _ _, a3, c3, rfl, ho3⟩) ?_
        iterate 2 (refine Rely.stepsZ_cons (by
          intro vs w' hb hp
          simp only [Rely.Pre, n10T] at hp
          unfold Rely.gives
          simp only [Rely.sel, List.foldl_cons, List.foldl_nil]
          go_simp
          exact ⟨Below.refl _ _, rfl⟩) ?_)
        exact Rely.stepsZ_nil
      · intro vs w2 hb2 hp _
        simp only [Rely.Pre, n10T] at hp
        obtain ⟨h0, h1, h2, h3, h4, h5, ⟨a6, b6, h6, _⟩, h7, h8, ⟨a9, b9, h9, ho9⟩, h10, h11, _⟩ := hp
        simp only [Rely.sel, List.foldl_cons, List.foldl_nil, h0, h1, h2, h3, h4, h5, h6, h7, h8, h9, h10, h11]
        clear h0 h1 h2 h3 h4 h5 h6 h7 h8 h9 h10 h11
        have HO := Lib.hid ho9
        have HB2 := Lib.hid (HB1.out.trans (hb2.mono HB1.out.size))
        clear ho9 hb2
        simp only [Act.put, List.setIfInBounds_toArray, List.set_cons_succ, List.set_cons_zero]
        go_wp2
        refine bodyPost_ret (v := .tuple #[.int .u8 (kk.toNat : Int), .slice a9 ys.length b9, .int .i64 (Z : Int), .int .i64 0]) (by simp [results, Tryz.results176, go_sem]) rfl ?_
        rw [HX2.out.1]
        refine ⟨a9, b9, ?_, HO.out, HB2.out⟩
        simp only
        rw [HX2.out.2.1, HX2.out.2.2]
    · have hx2 : Hid (nextS bs = .bad 20) := Lib.hid (by rw [HX.out, if_pos rfl])
      clear HX hbb HG HROW hsi
      go_wp2
      refine bodyPost_ret (v := .tuple #[.int .u8 0, .slice none 0 0, .int .i64 0, .int .i64 20]) (by simp [results, Tryz.results176, go_sem]) rfl ?_
      rw [hx2.out]
      exact ⟨rfl, HB1.out⟩
end Go.Proofs.YtkdpfjenjcpcfaaGreatDoor
