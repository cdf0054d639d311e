/- Rows of tags that come in, opened; the law TagsMax, walked. -/
import Derived.Test.YtmbcdakfnckcmaaRefMax
namespace Go.Proofs.Ytmbcdakfnckcmaa
open Go.RowKit Mem Be Go.ChangeShapes Go.WideShapes
set_option maxRecDepth 100000
set_option maxHeartbeats 2000000
set_option linter.unusedVariables false
section
variable {H : Type} {enc : TypeId × Value → H} {w : World} {base : Nat} {held : Bool}
theorem open_tags {a : Option Addr} {len cap : Nat} {d : DataW H} {ps : List MemPlace} (h : DataW.Trod enc Try.prog w base (fun _ => true) held 22 (.slice a len cap) d ps) :
    ∃ ts : List Tg, len = ts.length ∧ Row w w.heap.size a (tgsC ts) := by
  obtain ⟨fuel, hf⟩ := h
  rcases Go.Deep.open_slice Try.underlying22 (by simpa [Value.cells] using hf) with ⟨hcs, _⟩ | ⟨x, l, c, m, n, D, Pl, hcs, _, hl, hm, hmm, _, hx⟩
  · simp only [List.cons.injEq, and_true] at hcs
    injection hcs with h1 h2 h3
    subst h1; subst h2
    exact ⟨[], rfl, Row.nil _ _ _⟩
  · simp only [List.cons.injEq, and_true] at hcs
    injection hcs with h1 h2 h3
    subst h1; subst h2; subst h3
    simp only [if_true] at hmm
    subst hmm
    have hC : Try.prog.cellsOf 25 = 3 := by kernel_rfl
    rw [hC] at hx
    obtain ⟨V, hV⟩ := Go.Deep.choose_lt (n := len) (α := Tg) (p := fun i p => ∀ j, j < 3 → w.cell? (x.add (i * 3 + j)) = (tgC p)[j]?) (fun i hi => by
      obtain ⟨cs', h1, h2⟩ := hx i (by omega)
      obtain ⟨_, hlen, hat⟩ := World.cells?_some h1
      match cs', hlen with
      | [c0, c1, c2], _ =>
        obtain ⟨s, u, o, rfl, rfl, rfl, _⟩ := tag_cells h2
        refine ⟨(s, u, o), fun j hj => ?_⟩
        rw [← Go.Deep.add_add, hat j hj]
        rfl)
    refine ⟨(List.range len).map V, by simp, ?_⟩
    rcases Nat.eq_zero_or_pos len with h0 | h0
    · subst h0; exact Or.inl rfl
    · have hc0 := hV 0 h0 0 (by omega)
      have hc0' : w.cell? x = some (.int .i64 (V 0).1) := by
        have e : x.add (0 * 3 + 0) = x := by simp [Addr.add]
        rw [e] at hc0; exact hc0
      obtain ⟨b, o, spot⟩ := x
      have hspot : spot = none := World.cell?_spot hc0'
      subst hspot
      refine Or.inr ⟨b, o, rfl, block_lt hc0', fun j hj => ?_⟩
      have hj3 : j < len * 3 := by rw [tgsC_len] at hj; simpa using hj
      have hi : j / 3 < len := by omega
      have hd : j = j / 3 * 3 + j % 3 := by omega
      have hv := hV (j / 3) hi (j % 3) (by omega)
      rw [← hd] at hv
      have e : (⟨b, o, none⟩ : Addr).add j = ⟨b, o + j, none⟩ := by
        unfold Addr.add; split
        · subst_vars; rfl
        · rfl
      rw [e] at hv
      have ht := tgsC_at ((List.range len).map V) (j / 3) (by simpa using hi) (j % 3) (by omega)
      rw [← hd, List.getElem?_eq_getElem hj] at ht
      rw [hv, ht, List.getElem_map, List.getElem_range]
end
theorem known_of (w : World) : Calls Try.prog 5 #[] w (IsB true w) := known_any w
theorem max_walk (ts : List Tg) (A : Option Addr) (n c : Nat) (hn : n = ts.length) (w : World) (h : Row w w.heap.size A (tgsC ts)) :
    Calls Try.prog 3 #[.slice A n c] w fun e w' => e = .returned (.bool true) ∧ Below w.heap.size w w' := by
  by_cases h60 : 60 < n
  · have hg : (60 : Int) < (n : Int) := by omega
    clear h60 hn h
    go_enter Try.func3, Try.ntmps3
    go_wp2_with (go_at_call 5; refine (known_any _).mono ?_; rintro e w' ⟨rfl, hb⟩; have HB := Lib.hid hb; clear hb)
    go_ret
    exact ⟨rfl, HB.out⟩
  have hg : (n : Int) ≤ 60 := by omega
  have hg' : n ≤ 60 := by omega
  clear h60
  obtain ⟨⟨m0, m1, m2⟩, HP, HQ, hle⟩ : ∃ M : Tg, Hid (∀ W, Row W W.heap.size A (tgsC ts) → Calls Try.prog 6 #[.slice A n c] W fun e w' => e = .returned (tgV M) ∧ Below W.heap.size W w') ∧
      Hid (∀ W, Row W W.heap.size A (tgsC ts) → Calls Try.prog 8 #[.slice A n c] W fun e w' => e = .returned (tgV M) ∧ Below W.heap.size W w') ∧ Hid (∀ i (hi : i < ts.length), cT ts[i] M ≤ 0) := by
    rcases Nat.eq_zero_or_pos n with h0 | h0
    · subst h0
      exact ⟨(0, 0, 0), Lib.hid fun W _ => max_none A c W, Lib.hid fun W _ => refmax_none A c W, Lib.hid fun i hi => by omega⟩
    · obtain ⟨M, hM⟩ := max_ex ts (fun e => by rw [e] at hn; simp at hn; omega)
      exact ⟨M, Lib.hid fun W hW => max_any ts M hM A n c hn (by omega) W hW, Lib.hid fun W hW => refmax_any ts M hM A n c hn (by omega) W hW, Lib.hid fun i hi => by
        have := hM.2 ts[i] (List.getElem_mem hi)
        have := cT_anti M ts[i]; omega⟩
  have HP : Hid (∀ W, Row W W.heap.size A (tgsC ts) → Calls Try.prog 6 #[.slice A n c] W fun e w' => e = .returned (tagV m0 m1 m2) ∧ Below W.heap.size W w') := HP
  have HQ : Hid (∀ W, Row W W.heap.size A (tgsC ts) → Calls Try.prog 8 #[.slice A n c] W fun e w' => e = .returned (tagV m0 m1 m2) ∧ Below W.heap.size W w') := HQ
  have HR := Lib.hid h
  have HN := Lib.hid hn
  have hq := run_eqT m0 m1 m2 m0 m1 m2
  rw [eqT_refl] at hq
  clear h hn
  go_enter Try.func3, Try.ntmps3
  go_wp2_with fail
  refine (HP.out _ HR.out).mono ?_
  rintro e w1 ⟨rfl, hb⟩
  have HB1 := Lib.hid hb
  have hl1 := hb.size
  clear hb
  go_wp2
  go_loopw [4] (fun i wr => ∃ k : Nat, k ≤ n ∧ i = .int .i64 k ∧ Hid (Below w.heap.size w wr) ∧ Hid (Blk wr w1.heap.size 25 #[.int .i64 m0, .int .i64 m1, .int .i64 m2])) (fun i _ => n - (intOf i).toNat)
  case atStart => exact ⟨0, by omega, rfl, Lib.hid (HB1.out.alloc HB1.out.size _), Lib.hid (Blk.new _ _ _)⟩
  case round =>
    obtain ⟨k, hk, rfl, HB, HK⟩ := hrel
    by_cases hlt : k < n
    · have hkt : k < ts.length := by rw [← HN.out]; exact hlt
      obtain ⟨b, o, rfl, hbb, hc⟩ := rowT_open HR.out (by omega)
      obtain ⟨d0, d1, d2⟩ := hc k hkt
      have hle := hle.out k hkt
      obtain ⟨⟨x0, x1, x2⟩, hx⟩ : ∃ p, ts[k]'hkt = p := ⟨_, rfl⟩
      rw [hx] at d0 d1 d2 hle
      simp only at d0 d1 d2
      obtain ⟨cc, hcc⟩ : ∃ q, cmpT x0 x1 x2 m0 m1 m2 = q := ⟨_, rfl⟩
      have hle' : cc ≤ 0 := by rw [← hcc]; exact hle
      have HCC := Lib.hid hcc
      rw [← HB.out.cell (p := ⟨b, o + k * 3, none⟩) hbb] at d0
      rw [← HB.out.cell (p := ⟨b, o + k * 3 + 1, none⟩) hbb] at d1
      rw [← HB.out.cell (p := ⟨b, o + k * 3 + 2, none⟩) hbb] at d2
      have l0 := later_cell d0
      have l1 := later_cell d1
      have l2 := later_cell d2
      obtain ⟨e0, e1, e2⟩ := later_tag HK.out
      clear hx d0 d1 d2 hcc hle hc
      go_wp2_with fail
      refine wp_region_later (by kernel_rfl) (by kernel_rfl) ?_
      repeat (go_big_quiet_step (first
        | (go_at_call 7; exact later_of (compare_val _ _ _ _ _ _ _ HCC _))))
      refine wpQuiet_nil ?_
      intro w' hw'
      obtain ⟨p, rfl⟩ := hw'
      go_wp2
      go_roundw
      case rel => exact ⟨k + 1, by omega, by go_num, Lib.hid (HB.out.trans (p.bel.mono HB.out.size)), Lib.hid (later_blk HK.out p)⟩
      case measure => simp [intOf]; omega
    · obtain rfl : k = n := by omega
      obtain ⟨e0, e1, e2⟩ := later_tag HK.out
      have HRL : Hid (∀ p : Later wr, Row p.world p.world.heap.size A (tgsC ts)) := Lib.hid fun p => ((HR.out.below HB.out).below (p.bel.mono HB.out.size)).more (Nat.le_trans HB.out.size p.bel.size)
      go_wp2_with fail
      refine wp_region_later (by kernel_rfl) (by kernel_rfl) ?_
      repeat (go_big_quiet_step (first
        | (go_at_call 8; exact later_of (HQ.out _ (HRL.out _)))
        | (go_at_call 5; exact later_of (known_any _))))
      refine wpQuiet_nil ?_
      intro w' hw'
      obtain ⟨p, rfl⟩ := hw'
      go_wp2
      go_ret
      exact ⟨rfl, HB.out.trans (p.bel.mono HB.out.size)⟩
end Go.Proofs.Ytmbcdakfnckcmaa
