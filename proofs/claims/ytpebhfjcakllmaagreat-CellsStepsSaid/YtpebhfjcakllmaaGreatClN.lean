/- ClN: Package cells: New, Copy; Store of a table that is not there. -/
import Derived.Test.YtpebhfjcakllmaaGreatClS
import Derived.Test.YtpebhfjcakllmaaGreatClF
import Derived.Shelf.SlMaps.Clone
namespace Go.Proofs.YtpebhfjcakllmaaGreat
open Go.RowKit Mem Be Word Rg Go.Maps
set_option maxRecDepth 10000
set_option maxHeartbeats 4000000
set_option linter.unusedVariables false
/-- A new table. -/
def NewT (v : Value → Value) (S : Cl) (w : World) (e : Ending) (w' : World) : Prop :=
  ∃ g b tk, e = .returned (v (.pointer (some ⟨g, 0, none⟩))) ∧ (w.heap.size ≤ g ∧ w.heap.size ≤ b ∧ w.heap.size ≤ tk) ∧ ClAt w' (Own3 g b tk) g b tk S ∧ Below w.heap.size w w'
/-- A copy of a table: in blocks of its own, its cells' bytes apart from those that the first one's are apart from. -/
def CopyT (F : Nat → Prop) (S : Cl) (w : World) (e : Ending) (w' : World) : Prop :=
  ∃ g b tk, e = .returned (.pointer (some ⟨g, 0, none⟩)) ∧ (w.heap.size ≤ g ∧ w.heap.size ≤ b ∧ w.heap.size ≤ tk) ∧ ClAt w' (fun k => F k ∨ Own3 g b tk k) g b tk S ∧ Below w.heap.size w w'
theorem RowN.later11 {F F' : Nat → Prop} {w w' : World} {A : Option Addr} {xs : List Value} (h : RowN F w A xs) (hf : ∀ k, F' k → F k ∨ w.heap.size ≤ k) (ht : Touch F w w') : RowN F' w' A xs := by
  have h2 := h.touch ht
  rcases h with h | ⟨b, o, rfl, hb, hl, hc⟩
  · exact Or.inl h
  · rcases h2 with h2 | ⟨b2, o2, e, hb2, hl2, hc2⟩
    · exact Or.inl h2
    · injection e with e
      injection e with e1 e2
      subst e1; subst e2
      exact Or.inr ⟨b, o, rfl, fun hk => by rcases hf b hk with h3 | h3; exact hb h3; omega, hl2, hc2⟩
theorem ownInts {w : World} {B n c : Nat} {A : Option Addr} {xs : List Value} (h : w.ownsRow B 3 1 (.slice A n c) n xs) (hn : 0 < n) : ∃ tk, A = some ⟨tk, 0, none⟩ ∧ B ≤ tk := by
  rcases h.2 with ⟨_, h0⟩ | ⟨g, cap, cur, hv, hg, _⟩
  · have := h.1; rw [h0] at this; simp at this; omega
  · injection hv with hv _ _
    exact ⟨g, hv, hg⟩
def new0 (rc rb : Int) (nb : Nat) (fr : Bool) : Cl := ⟨rc, rb, nb, fr, [], List.replicate nb 0, 0⟩
def newS (rc rb : Int) (nb : Nat) (fr : Bool) : Cl := if fr = true then new0 rc rb nb fr else forgetS (new0 rc rb nb fr)
def RoomOk (rc rb nb : Int) : Prop := (1 ≤ rc ∧ rc ≤ 4096) ∧ (1 ≤ rb ∧ rb ≤ 4194304) ∧ (1 ≤ nb ∧ nb ≤ 256)
theorem ok_new0 {rc rb : Int} {nb : Nat} {fr : Bool} (h : RoomOk rc rb (nb : Int)) : OkC (new0 rc rb nb fr) ∧ LimC (new0 rc rb nb fr) 0 := by
  obtain ⟨h1, h2, h3⟩ := h
  refine ⟨⟨sort_nil, fun x hx => (by cases hx), fun x hx => (by cases hx), fun x hx => (by cases hx), h1, h2, by show 1 ≤ nb ∧ nb ≤ 256; omega, by simp [new0], ?_, ?_, Int.le_refl _, fun t ht => ?_⟩, ⟨Int.le_refl _, fun t ht => ?_⟩⟩
  · show ((0 : Nat) : Int) ≤ rc; omega
  · show ((0 : Nat) : Int) ≤ rb; omega
  · rw [List.eq_of_mem_replicate ht]; exact Int.le_refl _
  · rw [List.eq_of_mem_replicate ht]; omega
theorem ok_newS {rc rb : Int} {nb : Nat} {fr : Bool} (h : RoomOk rc rb (nb : Int)) : OkC (newS rc rb nb fr) ∧ LimC (newS rc rb nb fr) 1 := by
  unfold newS
  split
  · exact ⟨(ok_new0 h).1, lim_q (ok_new0 h).2⟩
  · exact ok_forget (ok_new0 h)
theorem made_ints (w : World) (n : Nat) (hl : n ≤ maxLen) : TokB (w.alloc (.cells (madeCells #[.int .i64 0] n) 3)) w.heap.size n (List.replicate n 0) := by
  have hs : (madeCells #[.int .i64 0] n).size = n := by
    have := congrArg List.length (toList_madeCells_one (.int .i64 0) n)
    simpa using this
  unfold TokB
  rw [List.length_replicate]
  refine ⟨by simp, Or.inr ⟨w.heap.size, n, madeCells #[.int .i64 0] n, rfl, Nat.zero_le _, heap_alloc_new w _, Nat.le_refl _, hl, by rw [hs]; simp, ?_⟩⟩
  rw [toList_madeCells_one]
  simp [iV]
theorem new_bad11 (rc rb nb : Int) (fr : Bool) (hb : ¬ RoomOk rc rb nb) (w : World) :
    Calls Tryz.prog 6 #[.agg #[.int .i64 rc, .int .i64 rb, .int .i64 nb, .bool fr]] w fun e w' => e = .returned (.tuple #[.pointer none, .int .i64 2]) ∧ Below w.heap.size w w' := by
  have HB : Hid (Below w.heap.size w (w.alloc (.cells #[.int .i64 rc, .int .i64 rb, .int .i64 nb, .bool fr] 23))) := Lib.hid ((Below.refl _ _).alloc (Nat.le_refl _) _)
  by_cases h1 : 1 ≤ rc ∧ rc ≤ 4096
  · have g1 : decide (1 ≤ rc ∧ rc ≤ 4096) = true := decide_eq_true h1
    by_cases h2 : 1 ≤ rb ∧ rb ≤ 4194304
    · have g2 : decide (1 ≤ rb ∧ rb ≤ 4194304) = true := decide_eq_true h2
      have g3 : decide (1 ≤ nb ∧ nb ≤ 256) = false := decide_eq_false fun h3 => hb ⟨h1, h2, h3⟩
      have H1 := Lib.hid (fun W => oneTo_any rc 4096 W)
      have H2 := Lib.hid (fun W => oneTo_any rb 4194304 W)
      have H3 := Lib.hid (fun W => oneTo_any nb 256 W)
      rw [g1] at H1
      rw [g2] at H2
      rw [g3] at H3
      clear hb h1 h2 g1 g2 g3
      go_enter Tryz.func6, Tryz.ntmps6
      go_wp2_with fail
      refine (H1.out _).mono ?_
      rintro e w' ⟨rfl, rfl⟩
      go_wp2_with fail
      refine (H2.out _).mono ?_
      rintro e w' ⟨rfl, rfl⟩
      go_wp2_with fail
      refine (H3.out _).mono ?_
      rintro e w' ⟨rfl, rfl⟩
      go_wp2_with fail
      go_ret2
      exact ⟨rfl, HB.out⟩
    · have g2 : decide (1 ≤ rb ∧ rb ≤ 4194304) = false := decide_eq_false h2
      have H1 := Lib.hid (fun W => oneTo_any rc 4096 W)
      have H2 := Lib.hid (fun W => oneTo_any rb 4194304 W)
      rw [g1] at H1
      rw [g2] at H2
      clear hb h1 h2 g1 g2
      go_enter Tryz.func6, Tryz.ntmps6
      go_wp2_with fail
      refine (H1.out _).mono ?_
      rintro e w' ⟨rfl, rfl⟩
      go_wp2_with fail
      refine (H2.out _).mono ?_
      rintro e w' ⟨rfl, rfl⟩
      go_wp2_with fail
      go_ret2
      exact ⟨rfl, HB.out⟩
  · have g1 : decide (1 ≤ rc ∧ rc ≤ 4096) = false := decide_eq_false h1
    have H1 := Lib.hid (fun W => oneTo_any rc 4096 W)
    rw [g1] at H1
    clear hb h1 g1
    go_enter Tryz.func6, Tryz.ntmps6
    go_wp2_with fail
    refine (H1.out _).mono ?_
    rintro e w' ⟨rfl, rfl⟩
    go_wp2_with fail
    go_ret2
    exact ⟨rfl, HB.out⟩
theorem new_table {W : World} {g m t : Nat} {rc rb : Int} {nb : Nat} {fr : Bool} (hk : Blk W g 73 (clC (new0 rc rb nb fr) m t nb)) (hm : TabBC W m []) (ht : TokB W t nb (List.replicate nb 0)) : ClAt W (Own3 g m t) g m t (new0 rc rb nb fr) :=
  ⟨[], nb, rfl, hk, hm, ht, Or.inl rfl, Or.inr (Or.inl rfl), Or.inr (Or.inr rfl), fun x hx => (by cases hx), fun k hk' => by
    rcases hk' with rfl | rfl | rfl
    · exact hk.lt
    · exact hm.lt
    · exact ht.lt⟩
theorem new_wayA (rc rb : Int) (nb : Nat) (fr : Bool) (hl : nb ≤ maxLen) (w : World) :
    ClAt (((((w.alloc (.cells #[.int .i64 rc, .int .i64 rb, .int .i64 (nb : Int), .bool fr] 23)).alloc (.map #[] 0)).alloc (.cells (madeCells #[.int .i64 0] nb) 3)).alloc (.cells #[.int .i64 rc, .int .i64 rb, .int .i64 (nb : Int), .bool fr, .map (some (w.heap.size + 1)), .int .i64 0, .slice (some ⟨w.heap.size + 1 + 1, 0, none⟩) nb nb, .int .i64 0] 73)).drew) (Own3 (w.heap.size + 1 + 1 + 1) (w.heap.size + 1) (w.heap.size + 1 + 1)) (w.heap.size + 1 + 1 + 1) (w.heap.size + 1) (w.heap.size + 1 + 1) (new0 rc rb nb fr) ∧ Below w.heap.size w (((((w.alloc (.cells #[.int .i64 rc, .int .i64 rb, .int .i64 (nb : Int), .bool fr] 23)).alloc (.map #[] 0)).alloc (.cells (madeCells #[.int .i64 0] nb) 3)).alloc (.cells #[.int .i64 rc, .int .i64 rb, .int .i64 (nb : Int), .bool fr, .map (some (w.heap.size + 1)), .int .i64 0, .slice (some ⟨w.heap.size + 1 + 1, 0, none⟩) nb nb, .int .i64 0] 73)).drew) := by
  have e1 : (w.alloc (.cells #[.int .i64 rc, .int .i64 rb, .int .i64 (nb : Int), .bool fr] 23)).heap.size = w.heap.size + 1 := by simp
  obtain ⟨W1, hW1⟩ : ∃ W1, w.alloc (.cells #[.int .i64 rc, .int .i64 rb, .int .i64 (nb : Int), .bool fr] 23) = W1 := ⟨_, rfl⟩
  have hb1 : Below w.heap.size w W1 := by rw [← hW1]; exact (Below.refl _ _).alloc (Nat.le_refl _) _
  rw [hW1] at e1 ⊢
  have hm := TabBC.made W1
  have e2 : (W1.alloc (.map #[] 0)).heap.size = w.heap.size + 1 + 1 := by simp [e1]
  obtain ⟨W2, hW2⟩ : ∃ W2, W1.alloc (.map #[] 0) = W2 := ⟨_, rfl⟩
  have hb2 : Below W1.heap.size W1 W2 := by rw [← hW2]; exact (Below.refl _ _).alloc (Nat.le_refl _) _
  rw [hW2] at e2 hm ⊢
  have ht := made_ints W2 nb hl
  have e3 : (W2.alloc (.cells (madeCells #[.int .i64 0] nb) 3)).heap.size = w.heap.size + 1 + 1 + 1 := by simp [e2]
  obtain ⟨W3, hW3⟩ : ∃ W3, W2.alloc (.cells (madeCells #[.int .i64 0] nb) 3) = W3 := ⟨_, rfl⟩
  have hb3 : Below W2.heap.size W2 W3 := by rw [← hW3]; exact (Below.refl _ _).alloc (Nat.le_refl _) _
  rw [hW3] at e3 ht ⊢
  have hk := Blk.new W3 73 (clC (new0 rc rb nb fr) (w.heap.size + 1) (w.heap.size + 1 + 1) nb)
  have hb4 : Below W3.heap.size W3 (W3.alloc (.cells (clC (new0 rc rb nb fr) (w.heap.size + 1) (w.heap.size + 1 + 1) nb) 73)).drew := ((Below.refl _ _).alloc (Nat.le_refl _) _).drew
  rw [e1] at hm
  rw [e2] at ht
  rw [e3] at hk
  refine ⟨new_table hk.drew ?_ ?_, ((hb1.trans (hb2.mono hb1.size)).trans (hb3.mono (by omega))).trans (hb4.mono (by omega))⟩
  · exact (hm.keep (hb3.block _ (by omega))).keep (hb4.block _ (by omega))
  · exact ht.keep (hb4.block _ (by omega))
theorem new_wayB (rc rb : Int) (nb : Nat) (fr : Bool) (hl : nb ≤ maxLen) (w : World) :
    ClAt (((((w.alloc (.cells #[.int .i64 rc, .int .i64 rb, .int .i64 (nb : Int), .bool fr] 23)).alloc (.cells (madeCells #[.int .i64 0] nb) 3)).alloc (.map #[] 0)).alloc (.cells #[.int .i64 rc, .int .i64 rb, .int .i64 (nb : Int), .bool fr, .map (some (w.heap.size + 1 + 1)), .int .i64 0, .slice (some ⟨w.heap.size + 1, 0, none⟩) nb nb, .int .i64 0] 73)).drew) (Own3 (w.heap.size + 1 + 1 + 1) (w.heap.size + 1 + 1) (w.heap.size + 1)) (w.heap.size + 1 + 1 + 1) (w.heap.size + 1 + 1) (w.heap.size + 1) (new0 rc rb nb fr) ∧ Below w.heap.size w (((((w.alloc (.cells #[.int .i64 rc, .int .i64 rb, .int .i64 (nb : Int), .bool fr] 23)).alloc (.cells (madeCells #[.int .i64 0] nb) 3)).alloc (.map #[] 0)).alloc (.cells #[.int .i64 rc, .int .i64 rb, .int .i64 (nb : Int), .bool fr, .map (some (w.heap.size + 1 + 1)), .int .i64 0, .slice (some ⟨w.heap.size + 1, 0, none⟩) nb nb, .int .i64 0] 73)).drew) := by
  have e1 : (w.alloc (.cells #[.int .i64 rc, .int .i64 rb, .int .i64 (nb : Int), .bool fr] 23)).heap.size = w.heap.size + 1 := by simp
  obtain ⟨W1, hW1⟩ : ∃ W1, w.alloc (.cells #[.int .i64 rc, .int .i64 rb, .int .i64 (nb : Int), .bool fr] 23) = W1 := ⟨_, rfl⟩
  have hb1 : Below w.heap.size w W1 := by rw [← hW1]; exact (Below.refl _ _).alloc (Nat.le_refl _) _
  rw [hW1] at e1 ⊢
  have ht := made_ints W1 nb hl
  have e2 : (W1.alloc (.cells (madeCells #[.int .i64 0] nb) 3)).heap.size = w.heap.size + 1 + 1 := by simp [e1]
  obtain ⟨W2, hW2⟩ : ∃ W2, W1.alloc (.cells (madeCells #[.int .i64 0] nb) 3) = W2 := ⟨_, rfl⟩
  have hb2 : Below W1.heap.size W1 W2 := by rw [← hW2]; exact (Below.refl _ _).alloc (Nat.le_refl _) _
  rw [hW2] at e2 ht ⊢
  have hm := TabBC.made W2
  have e3 : (W2.alloc (.map #[] 0)).heap.size = w.heap.size + 1 + 1 + 1 := by simp [e2]
  obtain ⟨W3, hW3⟩ : ∃ W3, W2.alloc (.map #[] 0) = W3 := ⟨_, rfl⟩
  have hb3 : Below W2.heap.size W2 W3 := by rw [← hW3]; exact (Below.refl _ _).alloc (Nat.le_refl _) _
  rw [hW3] at e3 hm ⊢
  have hk := Blk.new W3 73 (clC (new0 rc rb nb fr) (w.heap.size + 1 + 1) (w.heap.size + 1) nb)
  have hb4 : Below W3.heap.size W3 (W3.alloc (.cells (clC (new0 rc rb nb fr) (w.heap.size + 1 + 1) (w.heap.size + 1) nb) 73)).drew := ((Below.refl _ _).alloc (Nat.le_refl _) _).drew
  rw [e1] at ht
  rw [e2] at hm
  rw [e3] at hk
  refine ⟨new_table hk.drew ?_ ?_, ((hb1.trans (hb2.mono hb1.size)).trans (hb3.mono (by omega))).trans (hb4.mono (by omega))⟩
  · exact hm.keep (hb4.block _ (by omega))
  · exact (ht.keep (hb3.block _ (by omega))).keep (hb4.block _ (by omega))
theorem new_ok11 (rc rb : Int) (nb : Nat) (fr : Bool) (hok : RoomOk rc rb (nb : Int)) (w : World) :
    Calls Tryz.prog 6 #[.agg #[.int .i64 rc, .int .i64 rb, .int .i64 (nb : Int), .bool fr]] w (NewT (fun p => .tuple #[p, .int .i64 0]) (newS rc rb nb fr) w) := by
  obtain ⟨h1, h2, h3⟩ := hok
  have H1 := Lib.hid (fun W => oneTo_any rc 4096 W)
  have H2 := Lib.hid (fun W => oneTo_any rb 4194304 W)
  have H3 := Lib.hid (fun W => oneTo_any (nb : Int) 256 W)
  rw [decide_eq_true h1] at H1
  rw [decide_eq_true h2] at H2
  rw [decide_eq_true h3] at H3
  have HZT : Hid (∀ t ∈ (new0 rc rb nb fr).tok, t ≤ 4611686018427387904) := Lib.hid fun t ht => by rw [List.eq_of_mem_replicate ht]; omega
  have HWA := Lib.hid (new_wayA rc rb nb fr (by unfold maxLen; omega) w)
  have HWB := Lib.hid (new_wayB rc rb nb fr (by unfold maxLen; omega) w)
  have HOK : Hid (OkC (new0 rc rb nb fr)) := Lib.hid (ok_new0 ⟨h1, h2, h3⟩).1
  have hnb : (nb : Int) ≤ 256 := h3.2
  have hnb0 : (1 : Int) ≤ (nb : Int) := h3.1
  have hmk := fun W => run_make_row' (P := Tryz.prog) 32 3 (.int .i64 0) 8 Tryz.underlying32 info_i rfl .i64 .i64 nb (by omega) (by omega) W
  have hmm := @run_makeMap Tryz.prog
  have HMI : Hid (∀ W : World, TokB (W.alloc (.cells (madeCells #[.int .i64 0] nb) 3)) W.heap.size nb (List.replicate nb 0)) := Lib.hid fun W => made_ints W nb (by unfold maxLen; omega)
  have HB : Hid (Below w.heap.size w (w.alloc (.cells #[.int .i64 rc, .int .i64 rb, .int .i64 (nb : Int), .bool fr] 23))) := Lib.hid ((Below.refl _ _).alloc (Nat.le_refl _) _)
  have HRM := Lib.hid (Blk.new w 23 #[.int .i64 rc, .int .i64 rb, .int .i64 (nb : Int), .bool fr])
  have r0 := HRM.out.is 0 _ rfl
  have r1 := HRM.out.is 1 _ rfl
  have r2 := HRM.out.is 2 _ rfl
  have r3 := HRM.out.is 3 _ rfl
  clear h1 h2 h3
  rcases fr with _ | _
  all_goals
    go_enter Tryz.func6, Tryz.ntmps6
    go_wp2_with fail
    refine (H1.out _).mono ?_
    rintro e w' ⟨rfl, rfl⟩
    go_wp2_with fail
    refine (H2.out _).mono ?_
    rintro e w' ⟨rfl, rfl⟩
    go_wp2_with fail
    refine (H3.out _).mono ?_
    rintro e w' ⟨rfl, rfl⟩
    go_wp2_with fail
    go_region
  · go_wp2_with fail
    refine (forget_any HOK.out HZT.out _ HWA.out.1).mono ?_
    rintro e w9 ⟨rfl, hat, htu⟩
    have HF := Lib.hid (And.intro hat htu)
    clear hat htu
    go_wp2_with fail
    go_ret2
    exact ⟨_, _, _, rfl, ⟨by omega, by omega, by omega⟩, HF.out.1, HWA.out.2.trans (HF.out.2.below HWA.out.2.size fun k hk => by rcases hk with rfl | rfl | rfl <;> omega)⟩
  · go_wp2_with fail
    refine (forget_any HOK.out HZT.out _ HWB.out.1).mono ?_
    rintro e w9 ⟨rfl, hat, htu⟩
    have HF := Lib.hid (And.intro hat htu)
    clear hat htu
    go_wp2_with fail
    go_ret2
    exact ⟨_, _, _, rfl, ⟨by omega, by omega, by omega⟩, HF.out.1, HWB.out.2.trans (HF.out.2.below HWB.out.2.size fun k hk => by rcases hk with rfl | rfl | rfl <;> omega)⟩
  · go_wp2_with fail
    go_ret2
    exact ⟨_, _, _, rfl, ⟨by omega, by omega, by omega⟩, HWA.out.1, HWA.out.2⟩
  · go_wp2_with fail
    go_ret2
    exact ⟨_, _, _, rfl, ⟨by omega, by omega, by omega⟩, HWB.out.1, HWB.out.2⟩
theorem store_nil (w : World) : Calls Tryz.prog 20 #[.pointer none, .agg #[.string ⟨#[]⟩, .int .i64 0, .int .i64 0, .int .i64 0, .bool false, .slice none 0 0]] w fun e w' => e = .returned (.int .i64 1) ∧ Below w.heap.size w w' := by
  go_enter Tryz.func20, Tryz.ntmps20
  go_wp2_with fail
  go_ret
  exact ⟨rfl, (Below.refl _ _).alloc (Nat.le_refl _) _⟩
end Go.Proofs.YtpebhfjcakllmaaGreat
