/- Package wal: framesOf. -/
import Derived.Test.YtkagfjjocmjeoaaLogA
import Derived.Test.YtkagfjjocmjeoaaOne5
import Derived.Deep.LoopGhost
namespace Go.Proofs.Ytkagfjjocmjeoaa
open Go.RowKit Mem Be Word Frm
set_option maxRecDepth 10000
set_option maxHeartbeats 2000000
set_option linter.unusedVariables false
theorem info_s7 : (Try.prog.info? 27).map (fun i => (i.zero, i.size, i.bytes)) = some (some (.slice none 0 0), 1, 24) := by kernel_rfl
def ShortR (rs : List RowV) : Prop := ∀ r ∈ rs, r.2.1.length ≤ 65536
def frsB (k : UInt8) (rs : List RowV) : List (List UInt8) := rs.map fun r => frB (k, r.2.1)
/-- Bytes in new memory. -/
def OwnF (w : World) (B : Nat) (r : RowV) : Prop := w.ownsRow B 5 1 (.slice r.1 r.2.1.length r.2.2) r.2.1.length (r.2.1.map byteV)
/-- What framesOf tells. -/
def FrsP (k : UInt8) (rs : List RowV) (w : World) (e : Ending) (w' : World) : Prop :=
  (ShortR rs ∧ ∃ (fs : List RowV) (A : Option Addr) (c : Nat), fs.map (fun r => r.2.1) = frsB k rs ∧ e = .returned (.tuple #[.slice A fs.length c, .int .i64 0]) ∧
    w'.ownsRow w.heap.size 27 1 (.slice A fs.length c) fs.length (fs.map rowV) ∧ (∀ r ∈ fs, OwnF w' w.heap.size r) ∧ Below w.heap.size w w') ∨
  (¬ ShortR rs ∧ e = .returned (.tuple #[.slice none 0 0, .int .i64 3]) ∧ Below w.heap.size w w')
theorem rowV_one (r : RowV) : ∀ u ∈ [rowV r], u.oneCell' = true := by
  intro u hu
  have : u = rowV r := by simpa using hu
  subst this; rfl
theorem framesof_any (k : UInt8) (n c : Nat) (A0 : Option Addr) (rs : List RowV) (hn : n = rs.length) (hnl : n ≤ 5864062014805) (w : World) (h : Row w w.heap.size A0 (rs.map rowV)) (hr : Rows_ w rs) :
    Calls Try.prog 67 #[.int .u8 (k.toNat : Int), .slice A0 n c] w (FrsP k rs w) := by
  obtain ⟨i0, hi0, hz0, hz1, hz2⟩ := info_parts info_s7
  have HR := Lib.hid h
  have HS := Lib.hid hr
  have HN := Lib.hid hn
  have HNL := Lib.hid hnl
  have hni : (n : Int) ≤ 5864062014805 := by omega
  clear h hr hn hnl
  go_enter Try.func67, Try.ntmps67
  go_wp2_with fail
  go_step3
  go_wp2_with fail
  go_step3
  go_wp2_with fail
  go_loopg [6, 7, 14] n (fun gk z e i wr => ∃ (j : Nat) (fs : List RowV) (A : Option Addr) (c : Nat), j + gk = n ∧ i = .int .i64 j ∧ z = .slice A fs.length c ∧ e = .int .i64 0 ∧ Hid (fs.map (fun r => r.2.1) = frsB k (rs.take j)) ∧ Hid (ShortR (rs.take j)) ∧
    Hid (wr.ownsRow w.heap.size 27 1 (.slice A fs.length c) fs.length (fs.map rowV)) ∧ Hid (∀ r ∈ fs, OwnF wr w.heap.size r) ∧ Hid (Below w.heap.size w wr))
  case atStart => exact ⟨0, [], none, 0, by omega, rfl, rfl, rfl, Lib.hid rfl, Lib.hid (fun r h => by simp at h), Lib.hid (World.ownsRow_nil _ _ _ _), Lib.hid (fun r h => by cases h), Lib.hid (Below.refl _ _)⟩
  case round =>
    obtain ⟨j, fs, A, cA, hj, rfl, rfl, rfl, HM, HSH, HO, HOF, HB⟩ := hrel
    by_cases hlt : j < n
    · have hj1 : j < rs.length := by rw [← HN.out]; exact hlt
      obtain ⟨b, o, rfl, hbl, hc⟩ := HR.out.open_ (by simp; omega)
      have hcell0 : w.cell? ⟨b, o + j, none⟩ = some (rowV rs[j]) := (hc j (by simpa using hj1)).trans (congrArg some (List.getElem_map (f := rowV) (h := by simpa using hj1)))
      have hcell : wr.cell? ⟨b, o + j, none⟩ = some (rowV rs[j]) := (HB.out.cell (p := ⟨b, o + j, none⟩) hbl).trans hcell0
      have hrow := (rows_below HS.out HB.out) rs[j] (List.getElem_mem hj1)
      have hsn : rs.take (j + 1) = rs.take j ++ [rs[j]] := List.take_succ_eq_append_getElem hj1
      obtain ⟨⟨A1, y, c1⟩, hy⟩ : ∃ y, rs[j] = y := ⟨_, rfl⟩
      have hmem : (A1, y, c1) ∈ rs := by rw [← hy]; exact List.getElem_mem hj1
      rw [hy] at hcell hrow hsn
      unfold rowV at hcell
      simp only at hcell hrow
      have hlen : fs.length = j := by have := congrArg List.length HM.out; rw [List.length_map] at this; rw [this]; simp [frsB]; omega
      have HLEN := Lib.hid hlen
      have HSN := Lib.hid hsn
      have HMEM := Lib.hid hmem
      have hji : (0 : Int) ≤ (j : Int) := by omega
      have hji2 : (j : Int) < (n : Int) := by omega
      have hone := one_any k wr.heap.size c1 y.length A1 y rfl wr hrow (Nat.le_refl _)
      by_cases hl : 65536 < y.length
      · rw [show oneS (k, y) = ([], 3) from if_pos hl] at hone
        have HONE := Lib.hid hone
        have HNO : Hid (¬ ShortR rs) := Lib.hid fun hs => by have := hs _ HMEM.out; simp only at this; omega
        clear hone hc hcell0 hy hrow hsn hmem hlen hl
        go_wp2_with fail
        refine HONE.out.mono ?_
        rintro e w1 ⟨A2, c2, rfl, ho, hb⟩
        have HB1 : Hid (Below w.heap.size w w1) := Lib.hid (HB.out.trans (hb.mono HB.out.size))
        clear ho hb
        go_wp2
        try rw [Exit.noGoto_ret]
        go_ret2
        exact Or.inr ⟨HNO.out, rfl, HB1.out⟩
      · rw [show oneS (k, y) = (frB (k, y), 0) from if_neg hl] at hone
        have HONE := Lib.hid hone
        have HYL := Lib.hid hl
        clear hone hc hcell0 hy hrow hsn hmem hlen hl
        go_wp2_with fail
        refine HONE.out.mono ?_
        rintro e w1 ⟨A2, c2, rfl, ho, hb⟩
        obtain ⟨X, hX⟩ : ∃ X, frB (k, y) = X := ⟨_, rfl⟩
        have HX := Lib.hid hX
        simp only at ho ⊢
        rw [hX] at ho ⊢
        have HB1 : Hid (Below w.heap.size w w1) := Lib.hid (HB.out.trans (hb.mono HB.out.size))
        have HO1 := Lib.hid (own_later HO.out hb)
        have HOF1 : Hid (∀ r ∈ fs ++ [(A2, X, c2)], OwnF w1 w.heap.size r) := Lib.hid fun r hr => by
          rcases List.mem_append.1 hr with hr | hr
          · exact own_later (HOF.out r hr) hb
          · have : r = (A2, X, c2) := by simpa using hr
            subst this
            exact ownBase ho HB.out.size
        clear ho hb hX HONE
        have HB2 : Hid (∀ o, Below w.heap.size w (w1.alloc o)) := Lib.hid fun o => HB1.out.alloc HB1.out.size o
        have HO2 : Hid (∀ o, (w1.alloc o).ownsRow w.heap.size 27 1 (.slice A fs.length cA) fs.length (fs.map rowV)) := Lib.hid fun o => own_later HO1.out ((Below.refl _ _).alloc (Nat.le_refl _) o)
        have HOF2 : Hid (∀ o, ∀ r ∈ fs ++ [(A2, X, c2)], OwnF (w1.alloc o) w.heap.size r) := Lib.hid fun o r hr => own_later (HOF1.out r hr) ((Below.refl _ _).alloc (Nat.le_refl _) o)
        have hsz : w.heap.size ≤ w1.heap.size := HB1.out.size
        go_wp2_with (at_builtin; refine wpList_app _ rfl _ _ 36 rfl w.heap.size 27 i0 (.slice none 0 0) 24 Try.underlying36 hi0 hz0 hz1 hz2 rfl _ _ _ rfl (HO2.out _) (w1.heap.size + 1) _ 1 1 [rowV (A2, X, c2)] rfl rfl (row_cells (by rfl)) (rowV_one _) (by have := HLEN.out; unfold maxLen; omega) (by have := HLEN.out; omega) (by simp; omega) ?_)
        intro v' w2 hown hgr _
        obtain ⟨A3, c3, rfl, _, _⟩ := ownShape hown
        have HB3 : Hid (Below w.heap.size w w2) := Lib.hid ((HB2.out _).grown hgr (HB2.out _).size fun g h => ((HO2.out (.cells #[.slice A2 X.length c2] 27)).lt g h).1)
        have HOF3 : Hid (∀ r ∈ fs ++ [(A2, X, c2)], OwnF w2 w.heap.size r) := Lib.hid fun r hr => (HOF2.out (.cells #[.slice A2 X.length c2] 27) r hr).kept hgr (by
          have h1 := HOF2.out (.cells #[.slice A2 X.length c2] 27) r hr
          have h2 := HO2.out (.cells #[.slice A2 X.length c2] 27)
          rcases h1.2 with ⟨h3, _⟩ | ⟨g, cap, cur, h3, _, hh, _⟩
          · rw [h3]; exact Or.inl rfl
          · refine Or.inr fun e => ?_
            rw [h3] at e
            rcases h2.2 with ⟨h4, _⟩ | ⟨g', cap', cur', h4, _, hh', _⟩
            · rw [h4] at e; cases e
            · rw [h4] at e
              have eg : g = g' := by simpa [Value.ownBlock] using e
              subst eg
              rw [hh] at hh'
              injection hh' with hh'
              injection hh' with _ ht
              exact absurd ht (by decide))
        have HO3 := Lib.hid hown
        clear hown hgr HB2 HO2 HOF2 HO HOF HB
        go_wp2
        go_roundg (gk - 1)
        case measure => omega
        case rel => exact ⟨j + 1, fs ++ [(A2, X, c2)], A3, c3, by omega, by go_num, by rw [List.length_append]; rfl, rfl, Lib.hid (by rw [HSN.out, List.map_append, HM.out, ← HX.out]; simp [frsB]),
          Lib.hid (by
            rw [HSN.out]
            intro r hr
            rcases List.mem_append.1 hr with hr | hr
            · exact HSH.out r hr
            · have : r = (A1, y, c1) := by simpa using hr
              subst this
              have := HYL.out
              show y.length ≤ 65536
              omega), Lib.hid (by rw [List.length_append, List.map_append]; exact HO3.out), HOF3, HB3⟩
    · obtain rfl : j = n := by omega
      have ht : rs.take j = rs := List.take_of_length_le (by rw [← HN.out]; omega)
      rw [ht] at HM HSH
      go_wp2
      try rw [Exit.noGoto_ret]
      go_ret2
      exact Or.inl ⟨HSH.out, fs, A, cA, HM.out, rfl, HO.out, HOF.out, HB.out⟩
end Go.Proofs.Ytkagfjjocmjeoaa
