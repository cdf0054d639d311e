/- The reference's step of a log: one contract. -/
import Derived.Test.YtkagfjjocmjeoaaRefStep7
import Derived.Test.YtkagfjjocmjeoaaLaw7E
namespace Go.Proofs.Ytkagfjjocmjeoaa
open Go.RowKit Mem Be Word Frm
set_option maxRecDepth 10000
set_option maxHeartbeats 4000000
set_option linter.unusedVariables false
def nS (T : List UInt8) (q : Nat) (k : Int) : Nat := if k = 2 then upN T q else q
theorem nS_le (T : List UInt8) (q : Nat) (k : Int) : nS T q k ≤ q + 1 := by
  unfold nS upN
  split
  · split <;> omega
  · omega
theorem refdo_any (F : Nat → Prop) (AL AT R : Option Addr) (cL cT c m q : Nat) (L T : List UInt8) (vs : List RecV) (d : DoG) (hL : allB ((vs.map rcOf).take m) = L) (hT : allB ((vs.map rcOf).drop m) = T) (hm : m ≤ (vs.map rcOf).length)
    (hmx : (allB (vs.map rcOf)).length ≤ 100000) (hd : lgD d ≤ 10000) (hq : q ≤ 4611686018427387904) (hkp : d.kept ≤ 9223372036854775807) (w : World) (hF : ∀ k, F k → k < w.heap.size) (h : RefL w F AL cL AT cT R c L T vs)
    (hr : RowN F w d.at_ (d.rows.map rowV)) (hrs : ∀ r ∈ d.rows, RowN F w r.1 (r.2.1.map byteV)) :
    ∃ q', q' = nS T q d.kind ∧ Calls Try.prog 14 #[.agg #[.slice AL L.length cL, .slice AT T.length cT, .int .i64 (q : Int), .slice R vs.length c, .int .i64 (m : Int)], .agg #[.int .i64 d.kind, .int .u8 (d.of_.toNat : Int), .slice d.at_ d.rows.length d.room, .int .i64 d.kept]] w
      (RefP F (fun v => .tuple #[v, .int .i64 (gS (vs.map rcOf) m d).2.2]) (allB ((gS (vs.map rcOf) m d).1.take (gS (vs.map rcOf) m d).2.1)) (allB ((gS (vs.map rcOf) m d).1.drop (gS (vs.map rcOf) m d).2.1)) q' (gS (vs.map rcOf) m d).2.1 (gS (vs.map rcOf) m d).1 w) := by
  have hlen : L.length + T.length = (allB (vs.map rcOf)).length := by rw [← hL, ← hT]; exact (all_parts _ m).symm
  have hvl : vs.length * 10 ≤ 100000 := by have := many_of (rs := vs.map rcOf) hmx; rwa [List.length_map] at this
  have hmx1 : L.length + T.length ≤ 4194304 := by omega
  have hvm : vs.length ≤ 1000000 := by omega
  obtain ⟨kd, of_, A0, ls, c0, kp⟩ := d
  unfold lgD at hd
  simp only at hd hkp hr hrs ⊢
  have heach : ∀ r ∈ ls, r.2.1.length ≤ 65536 := fun r hr => by have := lenR_each hr; omega
  unfold gS
  simp only
  by_cases h1 : kd = 1
  · subst h1
    rw [if_pos rfl]
    by_cases h0 : of_ = 0
    · subst h0
      rw [if_pos rfl]
      simp only
      rw [hL, hT]
      exact ⟨q, (by unfold nS; rw [if_neg (by decide)]), refstep_1 F AL AT R cL cT c m q q m L T L T vs (vs.map rcOf) c0 0 A0 ls.length kp 2 w hF h fun W F1 hb hF1 hf1 hl1 => refapp_zero F1 AL AT R cL cT c m q L T vs hmx1 hvm hq A0 ls.length c0 W hF1 hl1⟩
    · rw [if_neg h0]
      have hbs : ∀ b ∈ bytesR ls, b.length ≤ 65536 := fun b hb => by
        obtain ⟨r, hr1, rfl⟩ := List.mem_map.1 hb
        exact heach r hr1
      have hnew : (allB (newR of_ (bytesR ls))).length ≤ 10000 := by rw [all_newR]; omega
      have hadd : addS (vs.map rcOf) of_ (bytesR ls) = (vs.map rcOf ++ newR of_ (bytesR ls), 0) := add_ok hbs (by rw [all_app, List.length_append]; omega)
      rw [hadd]
      simp only
      rw [List.take_append_of_le_length hm, List.drop_append_of_le_length hm, all_app, hL, hT]
      exact ⟨q, (by unfold nS; rw [if_neg (by decide)]), refstep_1 F AL AT R cL cT c m q q m L T L (T ++ allB (newR of_ (bytesR ls))) vs _ c0 of_ A0 ls.length kp 0 w hF h fun W F1 hb hF1 hf1 hl1 =>
        refapp_any F1 AL AT R cL cT c m q L T vs hmx1 hvm hq of_ h0 A0 c0 ls (by omega) hbs (by omega) W hF1 hl1 (hr.step (Touch.ofBelow hb) hf1) fun r hr1 => (hrs r hr1).step (Touch.ofBelow hb) hf1⟩
  rw [if_neg h1]
  by_cases h2 : kd = 2
  · subst h2
    rw [if_pos rfl]
    simp only
    rw [List.take_length, List.drop_length, all_drop (vs.map rcOf) m, hL, hT]
    have hl : (vs.map rcOf).length = vs.length := by rw [List.length_map]
    rw [hl]
    exact ⟨upN T q, (by unfold nS; rw [if_pos rfl]), refstep_2 F AL AT R cL cT c m q (upN T q) vs.length L T (L ++ T) [] vs (vs.map rcOf) c0 of_ A0 ls.length kp w hF h fun W F1 hb hF1 hf1 hl1 => refsync_any F1 AL AT R cL cT c m q L T vs hmx1 hvm hq W hF1 hl1⟩
  rw [if_neg h2]
  by_cases h3 : kd = 3
  · subst h3
    rw [if_pos rfl]
    have hfb : (firstB ls).length ≤ 65536 := by
      cases hl : ls with
      | nil => exact Nat.zero_le _
      | cons r rs => exact heach r (by rw [hl]; exact List.mem_cons_self ..)
    have hsn : snapS (vs.map rcOf) m (firstB ls) = ([(0, firstB ls)], 1, 0) := if_neg (by omega)
    rw [hsn]
    simp only
    rw [show ([(0, firstB ls)] : List Rc).take 1 = [(0, firstB ls)] from rfl, show ([(0, firstB ls)] : List Rc).drop 1 = [] from rfl, all_one]
    cases ls with
    | nil =>
      exact ⟨q, (by unfold nS; rw [if_neg (by decide)]), refstep_30 F AL AT R cL cT c m q q 1 L T (frB (0, [])) [] vs [(0, [])] c0 of_ A0 kp 0 w hF h fun W F1 hb hF1 hf1 hl1 => refsnap_any F1 AL AT R cL cT c m q L T vs hmx1 hvm hq none [] 0 (by simp) W hF1 hl1 (Or.inl rfl)⟩
    | cons r ls =>
      obtain ⟨A1, y, c1⟩ := r
      have hr1 := hr
      rcases hr1 with hx | ⟨b0, o0, rfl, hbf, hbl, hcc⟩
      · simp at hx
      have hc0 := hcc 0 (by simp)
      rw [Nat.add_zero] at hc0
      exact ⟨q, (by unfold nS; rw [if_neg (by decide)]), refstep_3 F AL AT R cL cT c m q q 1 L T (frB (0, y)) [] vs [(0, y)] c0 of_ b0 o0 _ y.length c1 A1 kp 0 (by simp) (by simp only [List.length_cons] at hd ⊢; omega) w (fun W hb => (hb.cell (p := ⟨b0, o0, none⟩) hbl).trans hc0) hF h fun W F1 hb hF1 hf1 hl1 =>
        refsnap_any F1 AL AT R cL cT c m q L T vs hmx1 hvm hq A1 y c1 hfb W hF1 hl1 ((hrs (A1, y, c1) (List.mem_cons_self ..)).step (Touch.ofBelow hb) hf1)⟩
  rw [if_neg h3]
  by_cases h4 : kp < 0
  · rw [if_pos h4]
    simp only
    rw [hL, hT]
    exact ⟨q, (by unfold nS; rw [if_neg h2]), refstep_neg F AL AT R cL cT c m q q m L T L T vs (vs.map rcOf) c0 of_ A0 ls.length kd kp h1 h2 h3 w hF h fun W F1 hb hF1 hf1 hl1 => refcrash_neg F1 AL AT R cL cT c m q L T vs hmx1 hvm hq kp h4 W hF1 hl1⟩
  rw [if_neg h4]
  obtain ⟨n, rfl⟩ : ∃ n : Nat, kp = (n : Int) := ⟨kp.toNat, by omega⟩
  simp only
  unfold crashS
  rw [Int.toNat_natCast, hL, hT]
  obtain ⟨X, hX⟩ : ∃ X, L ++ T.take n = X := ⟨_, rfl⟩
  rw [hX, List.take_length, List.drop_length, scan_again]
  exact ⟨q, (by unfold nS; rw [if_neg h2]), refstep_4 F AL AT R cL cT c m q q (scanS X).1.length L T (X.take (scanS X).2.1) [] vs (scanS X).1 c0 of_ A0 ls.length kd (n : Int) h1 h2 h3 w hF h fun W F1 hb hF1 hf1 hl1 => refcrash_any F1 AL AT R cL cT c m q L T vs hmx1 hvm hq n (by omega) W hF1 hl1 X hX⟩
end Go.Proofs.Ytkagfjjocmjeoaa
