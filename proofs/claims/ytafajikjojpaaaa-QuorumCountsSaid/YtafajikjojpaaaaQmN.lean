/- Nodes of a list that are counted: package quorum's Count. -/
import Derived.Test.YtafajikjojpaaaaQmE
import Derived.Test.YtafajikjojpaaaaRgI
import Derived.Deep.OwnRows
namespace Go.Proofs.Ytafajikjojpaaaa
open Go.RowKit Mem Rg
set_option maxRecDepth 100000
set_option maxHeartbeats 8000000
set_option linter.unusedVariables false
theorem info_tr : (Try.prog.info? 4).map (fun i => (i.zero, i.size, i.bytes)) = some (some (.bool false), 1, 1) := by kernel_rfl
def tickV (L S : List Int) : List Value := L.map fun x => .bool (isIn x S)
/-- Block g is a Count of the list L in which those are counted that are in S; its memory begins at B. -/
def CtB (w : World) (B g : Nat) (L S : List Int) : Prop :=
  ∃ (A : Option Addr) (c g2 c2 : Nat), Blk w g 62 #[.slice A L.length c, .slice (some ⟨g2, 0, none⟩) L.length c2] ∧ B ≤ g ∧ OwnI B L (.slice A L.length c) w ∧ w.ownsRow B 4 1 (.slice (some ⟨g2, 0, none⟩) L.length c2) L.length (tickV L S)
theorem CtB.below {w w' : World} {B g : Nat} {L S : List Int} (h : CtB w B g L S) (hb : Below w.heap.size w w') : CtB w' B g L S := by
  obtain ⟨A, c, g2, c2, h1, h2, h3, h4⟩ := h
  exact ⟨A, c, g2, c2, h1.below hb h1.lt, h2, ownLater h3 hb, ownLater h4 hb⟩
theorem tickV_congr {L S S' : List Int} (h : ∀ x ∈ L, x ∈ S ↔ x ∈ S') : tickV L S = tickV L S' := by
  unfold tickV
  exact List.map_congr_left fun x hx => by rw [isIn_congr (h x hx)]
theorem CtB.congr {w : World} {B g : Nat} {L S S' : List Int} (h : CtB w B g L S) (e : ∀ x ∈ L, x ∈ S ↔ x ∈ S') : CtB w B g L S' := by
  obtain ⟨A, c, g2, c2, h1, h2, h3, h4⟩ := h
  exact ⟨A, c, g2, c2, h1, h2, h3, by rw [← tickV_congr e]; exact h4⟩
theorem made_ticks (w : World) (L : List Int) (hl : L.length ≤ maxLen) : (w.alloc (.cells (madeCells #[.bool false] L.length) 4)).ownsRow w.heap.size 4 1 (.slice (some ⟨w.heap.size, 0, none⟩) L.length L.length) L.length (tickV L []) := by
  have e : tickV L [] = List.replicate L.length (.bool false) := by
    unfold tickV
    have : (fun x : Int => Value.bool (isIn x [])) = fun _ => Value.bool false := funext fun x => by simp [isIn]
    rw [this, List.map_const']
  have hs : (madeCells #[.bool false] L.length).size = L.length := by
    have := congrArg List.length (toList_madeCells_one (.bool false) L.length)
    simpa using this
  refine ⟨by rw [e]; simp, Or.inr ⟨w.heap.size, L.length, madeCells #[.bool false] L.length, rfl, Nat.le_refl _, heap_alloc_new w _, Nat.le_refl _, hl, by rw [hs]; simp, ?_⟩⟩
  rw [toList_madeCells_one, e]
  simp
theorem new_bad (n c : Nat) (A : Option Addr) (L : List Int) (hn : n = L.length) (hl : n ≤ 17592186044416) (hw : WfI L) (hbad : L.length = 0 ∨ ¬ L.Nodup) (w : World) (h : Row w w.heap.size A (L.map iV)) :
    Calls Try.prog 26 #[.slice A n c] w (TwoE (.pointer none) 2 w) := by
  have HD := Lib.hid (different_any w.heap.size n c A L hn hl hw w h (Nat.le_refl _))
  have hdl := dd_le L []
  rcases Nat.eq_zero_or_pos n with h0 | h0
  · subst h0
    clear HD h hn hbad hdl
    go_enter Try.func26, Try.ntmps26
    go_wp2
    go_ret2
    exact ⟨rfl, Below.refl _ _⟩
  · have hlt : (dd [] L).length < n := by
      rw [hn]
      refine (dd_nodup_iff L).2 ?_
      rcases hbad with h | h
      · omega
      · exact h
    obtain ⟨z, hz⟩ : ∃ z, (dd [] L).length = z := ⟨_, rfl⟩
    have HZ := Lib.hid hz
    rw [hz] at hlt
    have hne : ((n : Int) == 0) = false := by simp; omega
    have hd : decide ((z : Int) < (n : Int)) = true := by simp; omega
    have hd' : decide (z < n) = true := by simp; omega
    clear h hn hbad hdl hz h0 hlt
    go_enter Try.func26, Try.ntmps26
    go_wp2_with (go_at_call 32; refine HD.out.mono ?_; rintro e w1 ⟨A1, c1, rfl, _, hb1⟩; rw [HZ.out]; (have HB1 := Lib.hid hb1); clear hb1)
    go_ret2
    exact ⟨rfl, HB1.out⟩
def NewC (L : List Int) (w : World) (e : Ending) (w' : World) : Prop := ∃ g, e = .returned (.tuple #[.pointer (some ⟨g, 0, none⟩), .int .i64 0]) ∧ CtB w' w.heap.size g L [] ∧ Below w.heap.size w w'
theorem new_ok (n c : Nat) (A : Option Addr) (L : List Int) (hn : n = L.length) (hl : n ≤ 17592186044416) (hw : WfI L) (h0 : 0 < n) (hnd : L.Nodup) (w : World) (h : Row w w.heap.size A (L.map iV)) :
    Calls Try.prog 26 #[.slice A n c] w (NewC L w) := by
  have HD := Lib.hid (different_any w.heap.size n c A L hn hl hw w h (Nat.le_refl _))
  have HZ : Hid ((dd [] L).length = n) := Lib.hid (by rw [dd_self hnd, hn])
  have HCL := Lib.hid fun W (hb : Below w.heap.size w W) => clonei_any W.heap.size c n A L hn W ((h.below hb).more hb.size) (Nat.le_refl _) hl
  have hmk := fun W => run_make_row' (P := Try.prog) 60 4 (.bool false) 1 Try.underlying60 info_tr rfl .i64 .i64 n (by omega) (by omega) W
  have hne : ((n : Int) == 0) = false := by simp; omega
  have HMT := Lib.hid fun W => made_ticks W L (by unfold maxLen; omega)
  have HN := Lib.hid hn
  clear h hnd hw h0 hn
  go_enter Try.func26, Try.ntmps26
  go_wp2_with (go_at_call 32; refine HD.out.mono ?_; rintro e w1 ⟨A1, c1, rfl, _, hb1⟩; rw [HZ.out]; (have HB1 := Lib.hid hb1); clear hb1)
  go_region_with (go_at_call 37; refine (HCL.out _ (by first | exact HB1.out.drew | exact (HB1.out.alloc HB1.out.size _).drew)).mono ?_; rintro e2 w2 ⟨A2, c2, rfl, ho2, hb2⟩; (have HO2 := Lib.hid ho2); (have HB2 := Lib.hid hb2); clear ho2 hb2)
  · go_wp2
    go_ret2
    have hn := HN.out
    subst hn
    have hb1 := HB1.out
    have hb2 : Below w1.heap.size w1 w2 := Below.trans (by exact ⟨rfl, rfl, rfl, Nat.le_refl _, fun _ _ => rfl⟩) HB2.out
    have hbw := hb1.trans (hb2.mono hb1.size)
    have hal1 : Below w2.heap.size w2 (w2.alloc (.cells (madeCells #[.bool false] L.length) 4)) := (Below.refl _ _).alloc (Nat.le_refl _) _
    have hal2 := fun cs => ((Below.refl (w2.alloc (.cells (madeCells #[.bool false] L.length) 4)).heap.size (w2.alloc (.cells (madeCells #[.bool false] L.length) 4))).alloc (Nat.le_refl _) (.cells cs 62))
    have hbk := fun cs => Blk.new (w2.alloc (.cells (madeCells #[.bool false] L.length) 4)) 62 cs
    simp only [World.size_alloc] at hbk
    exact ⟨w2.heap.size + 1, rfl, ⟨A2, c2, w2.heap.size, L.length, hbk _, by have := hbw.size; omega, ownLater (ownLater (ownBase HO2.out hb1.size) hal1) (hal2 _), ownLater (ownBase (HMT.out w2) hbw.size) (hal2 _)⟩, (hbw.trans (hal1.mono hbw.size)).trans ((hal2 _).mono (Nat.le_trans hbw.size hal1.size))⟩
  · go_wp2
    go_ret2
    have hn := HN.out
    subst hn
    have hb1 := HB1.out
    have hal1 : Below w1.heap.size w1 (w1.alloc (.cells (madeCells #[.bool false] L.length) 4)) := (Below.refl _ _).alloc (Nat.le_refl _) _
    have hb2 : Below (w1.alloc (.cells (madeCells #[.bool false] L.length) 4)).heap.size (w1.alloc (.cells (madeCells #[.bool false] L.length) 4)) w2 := Below.trans (by exact ⟨rfl, rfl, rfl, Nat.le_refl _, fun _ _ => rfl⟩) HB2.out
    have hbw1 := hb1.trans (hal1.mono hb1.size)
    have hbw := hbw1.trans (hb2.mono hbw1.size)
    have hal2 := fun cs => ((Below.refl w2.heap.size w2).alloc (Nat.le_refl _) (.cells cs 62))
    have hbk := fun cs => Blk.new w2 62 cs
    exact ⟨w2.heap.size, rfl, ⟨A2, c2, w1.heap.size, L.length, hbk _, hbw.size, ownLater (ownBase HO2.out hbw1.size) (hal2 _), ownLater (ownLater (ownBase (HMT.out w1) hb1.size) hb2) (hal2 _)⟩, hbw.trans ((hal2 _).mono hbw.size)⟩
/-- In which place a node stands. -/
theorem idx_of {L : List Int} {x : Int} (h : x ∈ L) : ∃ i, ∃ hi : i < L.length, L[i] = x ∧ ∀ t (ht : t < L.length), t < i → L[t] ≠ x := by
  induction L with
  | nil => cases h
  | cons y L ih =>
    by_cases e : y = x
    · exact ⟨0, by simp, e, fun t _ h => absurd h (Nat.not_lt_zero _)⟩
    · have hx : x ∈ L := by
        rcases List.mem_cons.1 h with h | h
        · exact absurd h.symm e
        · exact h
      obtain ⟨i, hi, h1, h2⟩ := ih hx
      refine ⟨i + 1, by simpa using hi, h1, fun t ht hti => ?_⟩
      cases t with
      | zero => exact e
      | succ t => exact h2 t (by simpa using ht) (by omega)
theorem tick_set {L S : List Int} {x : Int} {i : Nat} (hi : i < L.length) (hx : L[i] = x) (hnd : L.Nodup) : tickV L (S ++ [x]) = (tickV L S).set i (.bool true) := by
  refine List.ext_getElem (by simp [tickV]) fun j h1 h2 => ?_
  have hj : j < L.length := by simpa [tickV] using h1
  rw [List.getElem_set]
  simp only [tickV, List.getElem_map]
  by_cases e : i = j
  · subst e
    rw [if_pos rfl, isIn_true (by rw [hx]; simp)]
  · rw [if_neg e]
    have hne : L[j] ≠ x := by
      rw [← hx]
      intro h
      exact e ((List.getElem_inj hnd).1 h).symm
    rw [isIn_congr (a := S ++ [x]) (b := S) (by simp [hne])]
theorem add_none (B g : Nat) (L S : List Int) (x : Int) (hx : x ∉ L) (hl : L.length ≤ 1000000) (w : World) (h : CtB w B g L S) :
    Calls Try.prog 27 #[.pointer (some ⟨g, 0, none⟩), .int .i64 x] w fun e w' => e = .returned (.int .i64 4) ∧ w = w' := by
  obtain ⟨A, c, g2, c2, h1, h2, h3, h4⟩ := h
  have d0 : w.cell? ⟨g, 0, none⟩ = some (.slice A L.length c) := h1.cell 0
  have HI := Lib.hid (index_none w.heap.size c L.length A L x rfl hl hx w (ownRow h3))
  clear h1 h2 h3 h4 hx
  go_enter Try.func27, Try.ntmps27
  go_wp2_with (go_at_call 39; refine HI.out.mono ?_; rintro e w' ⟨rfl, rfl⟩)
  go_ret
  exact ⟨rfl, rfl⟩
theorem add_some (B g : Nat) (L S : List Int) (x : Int) (hx : x ∈ L) (hl : L.length ≤ 1000000) (hnd : L.Nodup) (w : World) (h : CtB w B g L S) :
    Calls Try.prog 27 #[.pointer (some ⟨g, 0, none⟩), .int .i64 x] w fun e w' => e = .returned (.int .i64 0) ∧ CtB w' B g L (S ++ [x]) ∧ Below B w w' := by
  obtain ⟨A, c, g2, c2, h1, h2, h3, h4⟩ := h
  obtain ⟨i, hi, hxi, hfi⟩ := idx_of hx
  have d0 : w.cell? ⟨g, 0, none⟩ = some (.slice A L.length c) := h1.cell 0
  have d1 : w.cell? ⟨g, 1, none⟩ = some (.slice (some ⟨g2, 0, none⟩) L.length c2) := h1.cell 1
  have HI := Lib.hid (index_some w.heap.size c L.length A L x i rfl hl hi hxi hfi w (ownRow h3))
  have hlt := h4.lt g2 rfl
  have hil : i < (tickV L S).length := by simpa [tickV] using hi
  have d2 : w.cell? ⟨g2, i, none⟩ = some ((tickV L S)[i]) := (h4.cellAt i (by omega)).trans (List.getElem?_eq_getElem hil)
  have d3 : (tickV L S)[i] = .bool (isIn L[i] S) := by simp [tickV]
  rw [d3] at d2
  have hBlk : ∃ cur, Blk w g2 4 cur := by
    rcases h4.2 with ⟨h, _⟩ | ⟨g', cap', cur, hv, _, hh, _⟩
    · cases h
    · injection hv with h1 _ _
      injection h1 with h1
      injection h1 with h1 _ _
      subst h1
      exact ⟨cur, hh⟩
  obtain ⟨cur, hcur⟩ := hBlk
  have f2 : w.frozen? ⟨g2, i, none⟩ = false := hcur.frozen i
  have hgg : g ≠ g2 := h1.ne_ hcur (by decide)
  have h4' := h4.stored i (.bool true)
  have hst : CtB (w.setCell ⟨g2, i, none⟩ (.bool true)) B g L (S ++ [x]) := ⟨A, c, g2, c2, h1.far hgg _, h2, ownsRow_setCell_other h3 (by
    rcases ownOther9 h3 h4 (by decide) with h | h
    · rw [h]; simp
    · exact h) _, by rw [tick_set hi hxi hnd]; exact h4'.1⟩
  have HST := Lib.hid hst
  have HBS : Hid (Below B w (w.setCell ⟨g2, i, none⟩ (.bool true))) := Lib.hid (by
    exact Below.setCell (Below.refl B w) (by show B ≤ g2; exact hlt.1) _)
  have hi0 : (0 : Int) ≤ (i : Int) := by omega
  have hi1 : (i : Int) < (L.length : Int) := by omega
  have hll : (L.length : Int) ≤ 1000000 := by omega
  clear h1 h2 h3 h4 h4' hst hcur hx hxi hfi hlt d3 hgg hnd hil
  generalize isIn L[i] S = u at d2
  go_enter Try.func27, Try.ntmps27
  go_wp2_with (go_at_call 39; refine HI.out.mono ?_; rintro e w' ⟨rfl, rfl⟩)
  go_ret
  exact ⟨rfl, HST.out, HBS.out⟩
theorem got_any (B g : Nat) (L S : List Int) (hl : L.length ≤ 1000000) (w : World) (h : CtB w B g L S) :
    Calls Try.prog 28 #[.pointer (some ⟨g, 0, none⟩)] w (IntsE (inn L S) w) := by
  obtain ⟨i0, hi0, hz0, hz1, hz2⟩ := info_parts info_i
  obtain ⟨A, c, g2, c2, h1, h2, h3, h4⟩ := h
  have H1 := Lib.hid h1
  have HR := Lib.hid (ownRow h3)
  have HR2 := Lib.hid (ownRow h4)
  have hnl : (L.length : Int) ≤ 1000000 := by omega
  have d0 : w.cell? ⟨g, 0, none⟩ = some (.slice A L.length c) := h1.cell 0
  have HL := Lib.hid hl
  clear h1 h2 h3 h4 hl
  go_enter Try.func28, Try.ntmps28
  go_wp2
  go_loopw [3, 13] (fun v i wr => ∃ q : Nat, q ≤ L.length ∧ i = .int .i64 q ∧ Hid (OwnI w.heap.size (inn (L.take q) S) v wr) ∧ Hid (Below w.heap.size w wr)) (fun _ i _ => L.length - (intOf i).toNat)
  case atStart => exact ⟨0, by omega, rfl, Lib.hid (World.ownsRow_nil _ _ _ _), Lib.hid (Below.refl _ _)⟩
  case round =>
    obtain ⟨q, hq, rfl, HO, HB⟩ := hrel
    clear d0
    by_cases hlt : q < L.length
    · obtain ⟨bb, o, rfl, hbw, hc⟩ := int_cell HR.out (by omega)
      have d0 := hc q hlt
      rw [← HB.out.cell (p := ⟨bb, o + q, none⟩) hbw] at d0
      have hk := H1.out.below HB.out H1.out.lt
      have e0 : wr.cell? ⟨g, 0, none⟩ = some (.slice (some ⟨bb, o, none⟩) L.length c) := hk.cell 0
      have e1 : wr.cell? ⟨g, 1, none⟩ = some (.slice (some ⟨g2, 0, none⟩) L.length c2) := hk.cell 1
      have hil : q < (tickV L S).length := by simpa [tickV] using hlt
      obtain ⟨b3, o3, e3, hb3, hc3⟩ := HR2.out.open_ (by omega)
      injection e3 with e3
      injection e3 with e3 e3' _
      subst e3; subst e3'
      have d2 : wr.cell? ⟨g2, 0 + q, none⟩ = some ((tickV L S)[q]) := (HB.out.cell (p := ⟨g2, 0 + q, none⟩) hb3).trans (hc3 q hil)
      have d3 : (tickV L S)[q] = .bool (isIn L[q] S) := by simp [tickV]
      rw [d3, Nat.zero_add] at d2
      have hsn := inn_snoc L S q hlt
      have hle := inn_le (L.take q) S
      rw [List.length_take] at hle
      obtain ⟨x, hx⟩ : ∃ x, L[q] = x := ⟨_, rfl⟩
      rw [hx] at d0 hsn d2
      obtain ⟨D, hD⟩ : ∃ D, inn (L.take q) S = D := ⟨_, rfl⟩
      rw [hD] at hsn hle HO
      obtain ⟨u, hu⟩ : ∃ u, isIn x S = u := ⟨_, rfl⟩
      rw [hu] at d2 hsn
      have HSN := Lib.hid hsn
      have HLE : Hid (D.length ≤ 1000000) := Lib.hid (by have := HL.out; omega)
      have hq0 : (0 : Int) ≤ (q : Int) := by omega
      have hq1 : (q : Int) < (L.length : Int) := by omega
      clear hc hc3 hx hD hu hsn hle hk hil d3
      rcases u with _ | _
      · have HST : Hid (inn (L.take (q + 1)) S = D) := Lib.hid (by rw [HSN.out]; simp)
        go_wp2
        go_roundw
        case rel => exact ⟨q + 1, by omega, by go_num, Lib.hid (by rw [HST.out]; exact HO.out), HB⟩
        case measure => simp [intOf]; omega
      · have HST : Hid (inn (L.take (q + 1)) S = D ++ [x]) := Lib.hid (by rw [HSN.out]; simp)
        have HB4 : Hid (Below w.heap.size w (wr.alloc (.cells #[.int .i64 x] 3))) := Lib.hid (HB.out.alloc HB.out.size _)
        have HO4 := Lib.hid (own_later HO.out ((Below.refl wr.heap.size wr).alloc (Nat.le_refl _) (.cells #[.int .i64 x] 3)))
        go_wp2_with (at_builtin; refine wpList_app _ rfl _ _ 22 rfl w.heap.size 3 i0 _ 8 Try.underlying22 hi0 hz0 hz1 hz2 rfl _ D.length (D.map iV) rfl HO4.out (wr.heap.size + 1) (some ⟨wr.heap.size, 0, none⟩) 1 1 ([x].map iV) rfl rfl (int_row wr x) (iV_one _) (by have := HLE.out; unfold maxLen; omega) (by have := HLE.out; omega) (by have := HB.out.size; simp; omega) ?_)
        intro v' w5 hown hgr _
        have HO5 : Hid (OwnI w.heap.size (inn (L.take (q + 1)) S) v' w5) := Lib.hid (by rw [HST.out]; unfold OwnI; rw [List.map_append, List.length_append]; exact hown)
        have HB5 : Hid (Below w.heap.size w w5) := Lib.hid (HB4.out.grown hgr HB4.out.size fun g hg => (HO4.out.lt g hg).1)
        clear hown hgr
        go_wp2
        go_roundw
        case rel => exact ⟨q + 1, by omega, by go_num, HO5, HB5⟩
        case measure => simp [intOf]; omega
    · obtain rfl : q = L.length := by omega
      have ho := HO.out
      rw [List.take_length] at ho
      obtain ⟨A3, c3, rfl⟩ := ownI_shape ho
      have HRES : Hid (IntsE (inn L S) w (.returned (.slice A3 (inn L S).length c3)) wr) := Lib.hid ⟨A3, c3, rfl, ho, HB.out⟩
      clear ho
      go_wp2
      go_ret
      exact HRES.out
def leftN (L S : List Int) : Nat := need L.length - (inn L S).length
theorem left_any (B g : Nat) (L S : List Int) (hl : L.length ≤ 1000000) (w : World) (h : CtB w B g L S) :
    Calls Try.prog 29 #[.pointer (some ⟨g, 0, none⟩)] w fun e w' => e = .returned (.int .i64 ((leftN L S : Nat) : Int)) ∧ Below w.heap.size w w' := by
  have HG := Lib.hid (got_any B g L S hl w h)
  obtain ⟨A, c, g2, c2, h1, h2, h3, h4⟩ := h
  have d0 : w.cell? ⟨g, 0, none⟩ = some (.slice A L.length c) := h1.cell 0
  have HND := Lib.hid (needn_any L.length (by omega))
  have hnl := need_le L.length
  have hil := inn_le L S
  have hll : (L.length : Int) ≤ 1000000 := by omega
  unfold leftN
  obtain ⟨m, hm⟩ : ∃ m, need L.length = m := ⟨_, rfl⟩
  obtain ⟨z, hz⟩ : ∃ z, (inn L S).length = z := ⟨_, rfl⟩
  have HZ := Lib.hid hz
  rw [hm] at HND hnl ⊢
  rw [hz] at hil ⊢
  have hm1 : (m : Int) ≤ 1000001 := by omega
  have hz1 : (z : Int) ≤ 1000000 := by omega
  clear h1 h2 h3 h4 hm hz
  by_cases hlt : z ≤ m
  · have HE : Hid (((m - z : Nat) : Int) = (m : Int) - (z : Int)) := Lib.hid (by omega)
    have hge : ¬ ((m : Int) - (z : Int) < 0) := by omega
    go_enter Try.func29, Try.ntmps29
    go_wp2_with (first
      | (go_at_call 12; refine (HND.out _).mono ?_; rintro e w' ⟨rfl, rfl⟩)
      | (go_at_call 28; refine HG.out.mono ?_; rintro e w1 ⟨A3, c3, rfl, _, hb1⟩; rw [HZ.out]; (have HB1 := Lib.hid hb1); clear hb1))
    go_ret
    rw [HE.out]
    exact ⟨by first | rfl | (simp; omega), HB1.out⟩
  · have HE : Hid (((m - z : Nat) : Int) = 0) := Lib.hid (by omega)
    have hge : (m : Int) - (z : Int) < 0 := by omega
    go_enter Try.func29, Try.ntmps29
    go_wp2_with (first
      | (go_at_call 12; refine (HND.out _).mono ?_; rintro e w' ⟨rfl, rfl⟩)
      | (go_at_call 28; refine HG.out.mono ?_; rintro e w1 ⟨A3, c3, rfl, _, hb1⟩; rw [HZ.out]; (have HB1 := Lib.hid hb1); clear hb1))
    go_ret
    rw [HE.out]
    exact ⟨by first | rfl | (simp; omega), HB1.out⟩
theorem done_any (B g : Nat) (L S : List Int) (hl : L.length ≤ 1000000) (hnd : L.Nodup) (hw : WfI L) (w : World) (h : CtB w B g L S) :
    Calls Try.prog 30 #[.pointer (some ⟨g, 0, none⟩)] w (IsB (enO L S) w) := by
  have HG := Lib.hid fun W (hb : Below w.heap.size w W) => got_any B g L S hl W (h.below hb)
  obtain ⟨A, c, g2, c2, h1, h2, h3, h4⟩ := h
  have d0 : w.cell? ⟨g, 0, none⟩ = some (.slice A L.length c) := h1.cell 0
  have hen : enO (dd [] L) (inn L S) = enO L S := by
    rw [dd_self hnd]
    unfold enO
    rw [inn_idem]
  have HE := Lib.hid fun W W2 A3 c3 (hb : Below w.heap.size w W) (ho : OwnI W.heap.size (inn L S) (.slice A3 (inn L S).length c3) W2) (hb2 : Below W.heap.size W W2) => by
    have := enough_any L.length c (inn L S).length c3 A A3 L (inn L S) rfl hl rfl (by have := inn_le L S; omega) hw W2 (((ownRow h3).below (hb.trans (hb2.mono hb.size))).more (hb.trans (hb2.mono hb.size)).size) (ownRow ho)
    rw [hen] at this
    exact this
  have HGL := Lib.hid h1.lt
  clear h1 h2 h3 h4 hen
  go_enter Try.func30, Try.ntmps30
  go_wp2
  go_region_with (first
    | (go_at_call 28; refine (HG.out _ (by exact ⟨rfl, rfl, rfl, Nat.le_refl _, fun _ _ => rfl⟩)).mono ?_; rintro e1 w1 ⟨A3, c3, rfl, ho1, hb1⟩; (have HE1 := Lib.hid (HE.out _ w1 A3 c3 (by exact ⟨rfl, rfl, rfl, Nat.le_refl _, fun _ _ => rfl⟩) ho1 hb1)); (have HB1 : Hid (Below w.heap.size w w1) := Lib.hid (Below.trans (by exact ⟨rfl, rfl, rfl, Nat.le_refl _, fun _ _ => rfl⟩) hb1)); (have d1 : w1.cell? ⟨g, 0, none⟩ = some (.slice A L.length c) := (HB1.out.cell (p := ⟨g, 0, none⟩) HGL.out).trans d0); clear ho1 hb1)
    | (go_at_call 13; refine HE1.out.mono ?_; rintro e2 w2 ⟨rfl, hb2⟩; (have HB2 : Hid (Below w.heap.size w w2) := Lib.hid (HB1.out.trans (hb2.mono HB1.out.size))); clear hb2))
  all_goals go_wp2
  all_goals go_ret
  all_goals exact ⟨rfl, HB2.out⟩
end Go.Proofs.Ytafajikjojpaaaa
