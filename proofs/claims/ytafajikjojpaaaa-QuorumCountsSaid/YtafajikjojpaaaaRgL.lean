/- Who keeps each point, by the program: rows of rows of numbers. -/
import Derived.Test.YtafajikjojpaaaaRgG
namespace Go.Proofs.Ytafajikjojpaaaa
open Go.RowKit Mem Rg
set_option maxRecDepth 100000
set_option maxHeartbeats 8000000
set_option linter.unusedVariables false
/-- Rows of numbers, as slices; each lies in the world. -/
abbrev RowIV := Option Addr × List Int × Nat
def rowIV (r : RowIV) : Value := .slice r.1 r.2.1.length r.2.2
theorem rowIV_one (l : List RowIV) : ∀ u ∈ l.map rowIV, u.oneCell' = true := by
  intro u hu
  obtain ⟨b, _, rfl⟩ := List.mem_map.1 hu
  rfl
theorem ownOther9 {w : World} {B B' s s' n n' : Nat} {e e' : TypeId} {v v' : Value} {xs xs' : List Value} (h : w.ownsRow B e s v n xs) (h' : w.ownsRow B' e' s' v' n' xs') (hne : e ≠ e') : v.ownBlock = none ∨ v.ownBlock ≠ v'.ownBlock := by
  rcases h.2 with ⟨rfl, _⟩ | ⟨g, cap, cur, rfl, hb, hh, _⟩
  · exact Or.inl rfl
  · refine Or.inr fun eq => ?_
    rcases h'.2 with ⟨rfl, _⟩ | ⟨g', cap', cur', rfl, hb', hh', _⟩
    · cases eq
    · have eg : g = g' := by simpa [Value.ownBlock] using eq
      subst eg
      rw [hh] at hh'
      injection hh' with hh'
      injection hh' with _ ht
      exact hne ht
def RowsI (w : World) (rs : List RowIV) : Prop := ∀ r ∈ rs, ∃ B, OwnI B r.2.1 (.slice r.1 r.2.1.length r.2.2) w
theorem rowsI_below {w w' : World} {rs : List RowIV} (h : RowsI w rs) (hb : Below w.heap.size w w') : RowsI w' rs := fun r hr => by
  obtain ⟨B, ho⟩ := h r hr
  exact ⟨B, ownLater ho hb⟩
theorem rowsI_row {w : World} {rs : List RowIV} (h : RowsI w rs) (r : RowIV) (hr : r ∈ rs) : Row w w.heap.size r.1 (r.2.1.map iV) := by
  obtain ⟨B, ho⟩ := h r hr
  exact ownRow ho
theorem rowsI_grown {w w' : World} {rs : List RowIV} {B n : Nat} {v : Value} {xs : List Value} (h : RowsI w rs) (hv : w.ownsRow B 22 1 v n xs) (hg : w.grownBy w' v.ownBlock) : RowsI w' rs := fun r hr => by
  obtain ⟨B, ho⟩ := h r hr
  exact ⟨B, World.ownsRow.kept ho hg (ownOther9 ho hv (by decide))⟩
theorem rowI_row (w : World) (r : RowIV) : Row (w.alloc (.cells #[rowIV r] 22)) (w.heap.size + 1) (some ⟨w.heap.size, 0, none⟩) ([r].map rowIV) :=
  row_cells (xs := [r].map rowIV) rfl
def OwnL (b : Nat) (rs : List RowIV) (v : Value) (w : World) : Prop := w.ownsRow b 22 1 v rs.length (rs.map rowIV)
def ListsE (LL : List (List Int)) (w : World) (x : Ending) (w' : World) : Prop :=
  ∃ A c rs, x = .returned (.slice A LL.length c) ∧ rs.map (fun r : RowIV => r.2.1) = LL ∧ Row w' w'.heap.size A (rs.map rowIV) ∧ RowsI w' rs ∧ Below w.heap.size w w'
theorem info_l : (Try.prog.info? 22).map (fun i => (i.zero, i.size, i.bytes)) = some (some (.slice none 0 0), 1, 24) := by kernel_rfl
/-- The rows of the points up to a place. -/
def PartL (b : Nat) (l : List Pt) (keep q : Nat) (v : Value) (w : World) : Prop := ∃ rs : List RowIV, rs.map (fun r => r.2.1) = (l.take q).map (fun p => keepP l p.1 keep) ∧ OwnL b rs v w ∧ RowsI w rs
def listsP (l : List Pt) (keep : Nat) : List (List Int) := l.map (fun p => keepP l p.1 keep)
theorem lists_any (l : List Pt) (hs : SL l) (keep : Nat) (hk0 : 1 ≤ keep) (hk1 : keep ≤ 64) (n c : Nat) (A : Option Addr) (hn : n = l.length) (hp : 0 < n) (hl : n ≤ 4096) (w : World) (hr : Row w w.heap.size A (ptsC l)) :
    Calls Try.prog 45 #[.slice A n c, .int .i64 (keep : Int)] w (ListsE (listsP l keep) w) := by
  obtain ⟨i0, hi0, hz0, hz1, hz2⟩ := info_parts info_l
  have HFOL := Lib.hid fun (h : Nat) W (hb : Below w.heap.size w W) => following_any l hs h keep hk0 hk1 n c A hn hp hl W ((hr.below hb).more hb.size)
  obtain ⟨C, hC⟩ := make_room (P := Try.prog) 56 22 _ 1 24 Try.underlying56 info_l n (by omega) (by unfold maxLen; omega)
  have hmk := fun W => (hC W).1
  have HOWN := Lib.hid fun W => (hC W).2
  obtain ⟨b, o, rfl, hbw, hc⟩ := pts_open hr (by omega)
  have HC := Lib.hid hc
  have HN := Lib.hid hn
  have hn1 : (n : Int) ≤ 4096 := by omega
  have hn0 : (0 : Int) < (n : Int) := by omega
  clear hC hc hn hs hr
  go_enter Try.func45, Try.ntmps45
  go_wp2
  clear hmk
  have HP0 : Hid (PartL w.heap.size l keep 0 (.slice (some ⟨w.heap.size, 0, none⟩) 0 n) (w.alloc (.cells C 22))) := Lib.hid ⟨[], rfl, HOWN.out w, fun r h => by cases h⟩
  go_loopw [5, 13] (fun v i wr => ∃ q : Nat, q ≤ n ∧ i = .int .i64 q ∧ Hid (PartL w.heap.size l keep q v wr) ∧ Hid (Below w.heap.size w wr)) (fun _ i _ => n - (intOf i).toNat)
  case atStart => exact ⟨0, by omega, rfl, HP0, Lib.hid ((Below.refl _ _).alloc (Nat.le_refl _) _)⟩
  case round =>
    obtain ⟨q, hq, rfl, HP, HB⟩ := hrel
    by_cases hlt : q < n
    · have hql : q < l.length := by rw [← HN.out]; exact hlt
      obtain ⟨d0, d1⟩ := HC.out q hql
      rw [← HB.out.cell (p := ⟨b, o + q * 2, none⟩) hbw] at d0
      rw [← HB.out.cell (p := ⟨b, o + q * 2 + 1, none⟩) hbw] at d1
      have hsn : l.take (q + 1) = l.take q ++ [l[q]] := List.take_succ_eq_append_getElem hql
      obtain ⟨⟨h, x⟩, hx⟩ : ∃ x, l[q] = x := ⟨_, rfl⟩
      rw [hx] at d0 d1 hsn
      simp only at d0 d1
      have HSN := Lib.hid hsn
      have hq0 : (0 : Int) ≤ (q : Int) := by omega
      have hq1 : (q : Int) < (n : Int) := by omega
      have hsz := HB.out.size
      have HSZ := Lib.hid hsz
      obtain ⟨L, hL⟩ : ∃ L, keepP l h keep = L := ⟨_, rfl⟩
      have HF2 := Lib.hid fun W hb => HFOL.out h W hb
      rw [hL] at HF2
      have HL := Lib.hid hL
      clear hx hsn hsz hL
      go_wp2_with fail
      refine (HF2.out _ (HB.out.alloc HB.out.size _)).mono ?_
      rintro e2 w2 ⟨A2, c2, rfl, hr2, hb2⟩
      obtain ⟨rs, hrs, hov, hrw⟩ := HP.out
      have hbw2 : Below wr.heap.size wr w2 := ((Below.refl _ _).alloc (Nat.le_refl _) _).trans (hb2.mono (by simp))
      have HB2 := Lib.hid (HB.out.trans (hbw2.mono HB.out.size))
      have hr3 : RowsI w2 (rs ++ [(A2, L, c2)]) := fun r hr => by
        rcases List.mem_append.1 hr with hr | hr
        · exact rowsI_below hrw hbw2 r hr
        · have : r = (A2, L, c2) := by simpa using hr
          subst this
          exact ⟨_, hr2⟩
      have hov2 := ownLater hov hbw2
      have hal : Below w2.heap.size w2 (w2.alloc (.cells #[.slice A2 L.length c2] 22)) := (Below.refl _ _).alloc (Nat.le_refl _) _
      have HOV := Lib.hid (ownLater hov2 hal)
      have HRW := Lib.hid (rowsI_below hr3 hal)
      have HB4 := Lib.hid (HB2.out.trans (hal.mono HB2.out.size))
      have HW2 := Lib.hid HB2.out.size
      have HRS := Lib.hid hrs
      have HRL : Hid (rs.length = q) := Lib.hid (by
        have := congrArg List.length hrs
        rw [List.length_map, List.length_map, List.length_take] at this
        omega)
      clear hov hrw hbw2 hr3 hov2 hal hb2 hr2 hrs
      go_wp2_with (at_builtin; refine wpList_app _ rfl _ _ 56 rfl w.heap.size 22 i0 _ 24 Try.underlying56 hi0 hz0 hz1 hz2 rfl _ rs.length (rs.map rowIV) rfl HOV.out (w2.heap.size + 1) (some ⟨w2.heap.size, 0, none⟩) 1 1 ([(A2, L, c2)].map rowIV) rfl rfl (rowI_row w2 (A2, L, c2)) (rowIV_one _) (by have := HRL.out; unfold maxLen; omega) (by have := HRL.out; omega) (by have := HW2.out; simp; omega) ?_)
      intro v' w5 hown hgr _
      have HP5 : Hid (PartL w.heap.size l keep (q + 1) v' w5) := Lib.hid ⟨rs ++ [(A2, L, c2)], by
        rw [HSN.out, List.map_append, List.map_append, HRS.out]
        show _ ++ [L] = _ ++ [keepP l h keep]
        rw [HL.out], by
        unfold OwnL
        rw [List.map_append, List.length_append]
        exact hown, rowsI_grown HRW.out HOV.out hgr⟩
      have HB5 : Hid (Below w.heap.size w w5) := Lib.hid (HB4.out.grown hgr HB4.out.size fun g hg => (HOV.out.lt g hg).1)
      clear hown hgr
      go_wp2
      go_roundw
      case rel => exact ⟨q + 1, by omega, by go_num, HP5, HB5⟩
      case measure => simp [intOf]; omega
    · obtain rfl : q = n := by omega
      obtain ⟨rs, hrs, hov, hrw⟩ := HP.out
      rw [List.take_of_length_le (by have := HN.out; omega)] at hrs
      obtain ⟨A2, c2, rfl, _⟩ := ownShape hov
      have hlen : rs.length = (listsP l keep).length := by
        have := congrArg List.length hrs
        rw [List.length_map] at this
        exact this
      have HRES : Hid (ListsE (listsP l keep) w (.returned (.slice A2 rs.length c2)) wr) := Lib.hid (by
        rw [hlen]
        exact ⟨A2, c2, rs, rfl, hrs, ownRow hov, hrw, HB.out⟩)
      clear hrs hov hrw hlen
      go_wp2
      go_ret
      exact HRES.out
def ListsE2 (LL : List (List Int)) (w : World) (x : Ending) (w' : World) : Prop :=
  ∃ A c rs, x = .returned (.tuple #[.slice A LL.length c, .int .i64 0]) ∧ rs.map (fun r : RowIV => r.2.1) = LL ∧ Row w' w'.heap.size A (rs.map rowIV) ∧ RowsI w' rs ∧ Below w.heap.size w w'
theorem ringlists_ok (A : Option Addr) (n c : Nat) (ns : List Int) (e k : Nat) (hn : n = ns.length) (ok : OkR ns e k) (w : World) (hr : Row w w.heap.size A (ns.map iV)) :
    Calls Try.prog 36 #[.agg #[.slice A n c, .int .i64 (e : Int), .int .i64 (k : Int)]] w (ListsE2 (listsP (ptsP fP ns e) k) w) := by
  have HP := Lib.hid fun W (hb : Below w.heap.size w W) => points_ok A n c ns e k hn ok W ((hr.below hb).more hb.size)
  obtain ⟨p1, p2, p3, p4, p5, p6, p7⟩ := pts_len_ok ok
  have HF := Lib.hid fun W (A' : Option Addr) (c' : Nat) (h2 : Row W W.heap.size A' (ptsC (ptsP fP ns e))) => lists_any (ptsP fP ns e) (ptsP_sl _ _ _) k p4 p5 _ c' A' rfl p2 p1 W h2
  clear p1 p2 p3 p4 p5 p6 p7 hn ok hr
  generalize listsP (ptsP fP ns e) k = L at HF ⊢
  generalize ptsP fP ns e = l at HF HP
  go_enter Try.func36, Try.ntmps36
  go_wp2_with fail
  refine (HP.out _ ((Below.refl _ _).alloc (Nat.le_refl _) _)).mono ?_
  rintro e1 w1 ⟨A1, c1, rfl, hr1, hb1⟩
  have HB1 := Lib.hid (below_after1 hb1)
  have hk1 := (Blk.new w 30 #[.slice A n c, .int .i64 (e : Int), .int .i64 (k : Int)]).below hb1 (by simp)
  have c2 : w1.cell? ⟨w.heap.size, 2, none⟩ = some (.int .i64 (k : Int)) := hk1.cell 2
  have HR1 := Lib.hid hr1
  clear hb1 hr1 hk1
  go_wp2_with fail
  refine (HF.out _ A1 c1 HR1.out).mono ?_
  rintro e2 w2 ⟨A2, c3, rs, rfl, hrs, hr2, hri, hb2⟩
  have HRES : Hid (ListsE2 L w (.returned (.tuple #[.slice A2 L.length c3, .int .i64 0])) w2) := Lib.hid ⟨A2, c3, rs, rfl, hrs, hr2, hri, HB1.out.trans (hb2.mono HB1.out.size)⟩
  clear hr2 hb2 hri hrs
  go_wp2
  go_ret2
  exact HRES.out
theorem ringlists_bad (A : Option Addr) (n c : Nat) (ns : List Int) (e k : Int) (hn : n = ns.length) (hl : n ≤ maxLen) (bad : ¬ OkR ns e k) (w : World) (hr : Row w w.heap.size A (ns.map iV)) :
    Calls Try.prog 36 #[.agg #[.slice A n c, .int .i64 e, .int .i64 k]] w fun x w' => x = .returned (.tuple #[.slice none 0 0, .int .i64 2]) ∧ Below w.heap.size w w' := by
  have HP := Lib.hid fun W (hb : Below w.heap.size w W) => points_bad A n c ns e k hn hl bad W ((hr.below hb).more hb.size)
  clear hr hn bad hl
  go_enter Try.func36, Try.ntmps36
  go_wp2_with fail
  refine (HP.out _ ((Below.refl _ _).alloc (Nat.le_refl _) _)).mono ?_
  rintro e1 w1 ⟨rfl, hb1⟩
  have HB1 := Lib.hid (below_after1 hb1)
  clear hb1
  go_wp2
  go_ret2
  exact ⟨rfl, HB1.out⟩
end Go.Proofs.Ytafajikjojpaaaa
