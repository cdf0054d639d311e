/- Package wal: slices.Clone of records, copyOf, Records. -/
import Derived.Test.YtkagfjjocmjeoaaLogD
namespace Go.Proofs.Ytkagfjjocmjeoaa
open Go.RowKit Mem Be Word Frm
set_option maxRecDepth 10000
set_option maxHeartbeats 2000000
set_option linter.unusedVariables false
theorem empty_ownR (w : World) : (w.alloc (.cells #[] 64)).ownsRow w.heap.size 64 2 (.slice (some ⟨w.heap.size, 0, none⟩) 0 0) 0 (recsC []) :=
  ⟨rfl, Or.inr ⟨w.heap.size, 0, #[], rfl, Nat.le_refl _, heap_alloc_new w _, Nat.le_refl _, by unfold maxLen; omega, rfl, rfl⟩⟩
theorem eql_nilR (A : Option Addr) (n c : Nat) (W : World) : (binOp .eql 30 (.slice A n c) (.slice none 0 0)).run Try.prog W = .ok (.bool A.isNone) W :=
  Lib.run_eql_slice_nil W 30 64 A n c 0 0 Try.underlying30
/-- The same records, in a new row; their bytes as they lay. -/
def CloneR (vs : List RecV) (w : World) (e : Ending) (w' : World) : Prop :=
  ∃ A c, e = .returned (.slice A vs.length c) ∧ w'.ownsRow w.heap.size 64 2 (.slice A vs.length c) vs.length (recsC vs) ∧ Below w.heap.size w w'
theorem cloneR_any (n c : Nat) (A : Option Addr) (vs : List RecV) (hn : n = vs.length) (w : World) (h : Row w w.heap.size A (recsC vs)) (hl : n ≤ 1000000000) :
    Calls Try.prog 63 #[.slice A n c] w (CloneR vs w) := by
  subst hn
  rcases A with _ | a
  · have hv : vs = [] := by
      rcases h with h | ⟨b, o, e, _⟩
      · have := congrArg List.length h
        rw [recsC_len] at this
        exact List.eq_nil_of_length_eq_zero (by simp at this; omega)
      · cases e
    subst hv
    clear h hl
    have he := eql_nilR none 0 c
    go_enter Try.func63, Try.ntmps63
    go_wp2
    go_ret
    exact ⟨none, 0, rfl, World.ownsRow_nil _ _ _ _, Below.refl _ _⟩
  · have HR := Lib.hid (h.alloc (Nat.le_refl _) (.cells #[] 64))
    have HO := Lib.hid (empty_ownR w)
    clear h
    have he := eql_nilR (some a) vs.length c
    go_enter Try.func63, Try.ntmps63
    go_wp2_with (at_builtin; refine wpList_appR rfl _ _ rfl w.heap.size _ 0 [] rfl HO.out w.heap.size _ vs.length c vs rfl rfl HR.out (by omega) (by simp) ?_)
    intro A' c' w1 hown hg
    have HB : Hid (Below w.heap.size w w1) := Lib.hid (((Below.refl _ _).alloc (Nat.le_refl _) _).grown hg (by simp) (fun g hg => by simp [Value.ownBlock] at hg; omega))
    have HW := Lib.hid hown
    clear hown hg
    go_wp2
    go_ret
    refine ⟨A', c', by simp, ?_, HB.out⟩
    exact HW.out
/-- The same records, with bytes of their own, all in new memory. -/
def MadeR (rs : List Rc) (w : World) (e : Ending) (w' : World) : Prop :=
  ∃ (us : List RecV) (A : Option Addr) (c : Nat), us.map rcOf = rs ∧ e = .returned (.slice A us.length c) ∧ w'.ownsRow w.heap.size 64 2 (.slice A us.length c) us.length (recsC us) ∧ RecsO w' w.heap.size us ∧ Below w.heap.size w w'
theorem recsC_set (ns tl : List RecV) (k : UInt8) (A A2 : Option Addr) (y : List UInt8) (c c2 : Nat) :
    (recsC (ns ++ (k, A, y, c) :: tl)).set (ns.length * 2 + 1) (.slice A2 y.length c2) = recsC (ns ++ (k, A2, y, c2) :: tl) := by
  rw [recsC_app, recsC_app, List.set_append_right _ _ (by rw [recsC_len]; omega), recsC_len]
  rw [show ns.length * 2 + 1 - ns.length * 2 = 1 by omega]
  rfl
theorem copyof_any (n c : Nat) (A : Option Addr) (vs : List RecV) (hn : n = vs.length) (w : World) (h : Row w w.heap.size A (recsC vs)) (hr : Recs_ w vs) (hl : n ≤ 1000000000) (hb : ∀ r ∈ vs, r.2.2.1.length ≤ 140737488355328) :
    Calls Try.prog 49 #[.slice A n c] w (MadeR (vs.map rcOf) w) := by
  have HCL := Lib.hid (cloneR_any n c A vs hn w h hl)
  have HRS := Lib.hid hr
  have HBL := Lib.hid hb
  have HN := Lib.hid hn
  have hni : (n : Int) ≤ 1000000000 := by omega
  clear h hr hb hn hl
  go_enter Try.func49, Try.ntmps49
  go_wp2_with fail
  refine HCL.out.mono ?_
  rintro e w1 ⟨A1, c1, rfl, ho, hb⟩
  have HO := Lib.hid ho
  have HB := Lib.hid hb
  rw [← HN.out] at HO ⊢
  clear ho hb HCL
  go_wp2_with fail
  go_loopw [10] (fun i wr => ∃ (j : Nat) (ns : List RecV), j ≤ n ∧ i = .int .i64 j ∧ ns.length = j ∧ Hid (ns.map rcOf = (vs.take j).map rcOf) ∧ Hid (wr.ownsRow w.heap.size 64 2 (.slice A1 n c1) n (recsC (ns ++ vs.drop j))) ∧ Hid (RecsO wr w.heap.size ns) ∧ Hid (Below w.heap.size w wr)) (fun i _ => n - (intOf i).toNat)
  case atStart => exact ⟨0, [], by omega, rfl, rfl, Lib.hid rfl, HO, Lib.hid (recsO_nil _ _), HB⟩
  case round =>
    obtain ⟨j, ns, hj, rfl, hnl, HM, HOW, HRO, HBW⟩ := hrel
    by_cases hlt : j < n
    · have hj1 : j < vs.length := by rw [← HN.out]; exact hlt
      have hd : vs.drop j = vs[j] :: vs.drop (j + 1) := List.drop_eq_getElem_cons hj1
      have hsn : (vs.take (j + 1)).map rcOf = (vs.take j).map rcOf ++ [rcOf vs[j]] := by rw [List.take_succ_eq_append_getElem hj1, List.map_append]; rfl
      have hrow := HRS.out vs[j] (List.getElem_mem hj1)
      have hbl := HBL.out vs[j] (List.getElem_mem hj1)
      obtain ⟨⟨k, A2, y, c2⟩, hy⟩ : ∃ y, vs[j] = y := ⟨_, rfl⟩
      rw [hy] at hd hsn hrow hbl
      simp only at hrow hbl
      have how := HOW.out
      rw [hd] at how
      obtain ⟨b, rfl⟩ : ∃ b, A1 = some ⟨b, 0, none⟩ := by
        rcases how.2 with ⟨_, hn0⟩ | ⟨b, cap, cur, hv, _⟩
        · omega
        · injection hv with hv; exact ⟨b, hv⟩
      have hlen : (recsC (ns ++ (k, A2, y, c2) :: vs.drop (j + 1))).length = n * 2 := how.1
      have hcell : ∀ i, i < 2 → wr.cell? ⟨b, j * 2 + i, none⟩ = (recC (k, A2, y, c2))[i]? := fun i hi => by
        rw [how.cellAt (j * 2 + i) (by omega), recsC_app, List.getElem?_append_right (by rw [recsC_len]; omega), recsC_len, hnl, show j * 2 + i - j * 2 = i by omega]
        show (recC (k, A2, y, c2) ++ recsC (vs.drop (j + 1)))[i]? = _
        rw [List.getElem?_append_left (by show i < 2; exact hi)]
      have f0 : wr.cell? ⟨b, j * 2, none⟩ = some (.int .u8 (k.toNat : Int)) := hcell 0 (by omega)
      have f1 : wr.cell? ⟨b, j * 2 + 1, none⟩ = some (.slice A2 y.length c2) := hcell 1 (by omega)
      have hbw : w.heap.size ≤ b := (ownIn how rfl).1
      have hbl2 : b < wr.heap.size := block_lt f0
      have HCY : Hid (∀ W, Below w.heap.size w W → Calls Try.prog 53 #[.slice A2 y.length c2] W (Made W.heap.size y W)) := Lib.hid fun W hb =>
        clone_any w.heap.size c2 A2 y y.length rfl W (hrow.below hb) hb.size hbl
      have hal : Below wr.heap.size wr (wr.alloc (.cells #[.int .u8 (k.toNat : Int), .slice A2 y.length c2] 64)) := (Below.refl _ _).alloc (Nat.le_refl _) _
      have HAL := Lib.hid hal
      have HOW2 := Lib.hid how
      have HSN := Lib.hid hsn
      have hji : (0 : Int) ≤ (j : Int) := by omega
      have hji2 : (j : Int) < (n : Int) := by omega
      clear hd hsn hrow hbl hy how hlen hcell hal HOW
      go_wp2_with fail
      refine (HCY.out _ (HBW.out.trans (HAL.out.mono HBW.out.size))).mono ?_
      rintro e w2 ⟨A3, c3, rfl, ho, hb⟩
      have hb2 : Below wr.heap.size wr w2 := HAL.out.trans (hb.mono HAL.out.size)
      have how2 := ownLater HOW2.out hb2
      have hst := (how2.stored (j * 2 + 1) (.slice A3 y.length c3)).1
      rw [← hnl, recsC_set, hnl] at hst
      have hfz := how2.frozenAt (j * 2 + 1)
      have g1 : w2.cell? ⟨b, j * 2 + 1, none⟩ = some (.slice A2 y.length c2) := (hb2.cell (p := ⟨b, j * 2 + 1, none⟩) hbl2).trans f1
      have hne : ∀ a, A3 = some a → a.block ≠ b := fun a ha => by
        have h1 := (ownIn ho ha).1
        simp at h1
        omega
      have hset : ∀ k, k ≠ b → (w2.setCell ⟨b, j * 2 + 1, none⟩ (.slice A3 y.length c3)).heap[k]? = w2.heap[k]? := fun k hk => Below.heap_setCell w2 ⟨b, j * 2 + 1, none⟩ _ k hk
      have HRO2 : Hid (RecsO (w2.setCell ⟨b, j * 2 + 1, none⟩ (.slice A3 y.length c3)) w.heap.size (ns ++ [(k, A3, y, c3)])) := Lib.hid fun r hr => by
        rcases List.mem_append.1 hr with hr | hr
        · have h1 := ownLater (HRO.out r hr) hb2
          refine ownKeep h1 fun a ha => hset _ fun e => ?_
          obtain ⟨_, _, cur, hh⟩ := ownIn h1 ha
          rcases how2.2 with ⟨h3, _⟩ | ⟨g', cap', cur', h3, _, hh', _⟩
          · cases h3
          · injection h3 with h3
            injection h3 with h3
            injection h3 with h3
            rw [e, h3, hh'] at hh
            injection hh with hh
            injection hh with _ ht
            exact absurd ht (by decide)
        · have : r = (k, A3, y, c3) := by simpa using hr
          subst this
          exact ownKeep (ownBase ho (Nat.le_trans HBW.out.size HAL.out.size)) fun a ha => hset _ (hne a ha)
      have HB2 : Hid (Below w.heap.size w (w2.setCell ⟨b, j * 2 + 1, none⟩ (.slice A3 y.length c3))) := Lib.hid ((HBW.out.trans (hb2.mono HBW.out.size)).setCell (p := ⟨b, j * 2 + 1, none⟩) hbw _)
      have HST := Lib.hid hst
      clear ho hb hb2 how2 hst hne hset f0 f1 HOW2 HAL HCY HBW HRO
      go_wp2
      go_roundw
      case rel => exact ⟨j + 1, ns ++ [(k, A3, y, c3)], by omega, by go_num, by simp [hnl], Lib.hid (by rw [List.map_append, HM.out, HSN.out]; rfl), Lib.hid (by rw [List.append_assoc]; exact HST.out), HRO2, HB2⟩
      case measure => simp [intOf]; omega
    · obtain rfl : j = n := by omega
      have ht : vs.take j = vs := List.take_of_length_le (by rw [← HN.out]; omega)
      have hdr : vs.drop j = [] := List.drop_eq_nil_of_le (by rw [← HN.out]; omega)
      have hst := HOW.out
      rw [hdr, List.append_nil] at hst
      have hm := HM.out
      rw [ht] at hm
      have HM2 := Lib.hid hm
      have HST := Lib.hid hst
      clear ht hdr hst hm HM HOW
      go_wp2
      go_ret
      exact ⟨ns, A1, c1, HM2.out, by rw [hnl]; rfl, by rw [hnl]; exact HST.out, HRO.out, HBW.out⟩
theorem records7_any (F : Nat → Prop) (g m q : Nat) (rs : List Rc) (w : World) (h : LgAt w F g rs m q) :
    Calls Try.prog 24 #[.pointer (some ⟨g, 0, none⟩)] w (MadeR rs w) := by
  have hmany := h.many
  have hshort := h.short
  obtain ⟨FD, FR, vs, R, c, h1, h2, h3, hlg⟩ := h
  have d3 := dka_c3 hlg.dk
  have hvl : vs.length = rs.length := by rw [← h1, List.length_map]
  have hvb : ∀ r ∈ vs, r.2.2.1.length ≤ 140737488355328 := fun r hr => by
    have h4 := hshort (rcOf r) (by rw [← h1]; exact List.mem_map_of_mem hr)
    have e : (rcOf r).2 = r.2.2.1 := rfl
    rw [e] at h4
    omega
  have HC := Lib.hid (copyof_any vs.length c R vs rfl w (ownRow hlg.own) (recsO_recs hlg.byt) (by omega) hvb)
  rw [h1] at HC
  clear h1 h2 h3 hlg hmany hshort hvl hvb
  go_enter Try.func24, Try.ntmps24
  go_wp2_with fail
  refine HC.out.mono ?_
  rintro e w1 ⟨us, A, cA, h1, rfl, h2⟩
  have HX := Lib.hid h2
  have HU := Lib.hid h1
  clear h1 h2 HC
  go_wp2
  go_ret
  exact ⟨us, A, cA, HU.out, rfl, HX.out⟩
end Go.Proofs.Ytkagfjjocmjeoaa
