/- All rows that bytes are, by the program. -/
import Derived.Test.YtndbggkpobcpjaaGreatSames
import Derived.Test.YtndbggkpobcpjaaGreatRefAll
import Derived.Test.YtndbggkpobcpjaaGreatPk
import Derived.Deep.LoopGhost
namespace Go.Proofs.YtndbggkpobcpjaaGreat
open Go.RowKit Mem Be
set_option maxRecDepth 10000
set_option maxHeartbeats 1000000
theorem own_type_ne {w : World} {b1 b2 : Nat} {t1 t2 : TypeId} {v1 v2 : Value} {n1 n2 : Nat} {x1 x2 : List Value} (h1 : w.ownsRow b1 t1 1 v1 n1 x1) (h2 : w.ownsRow b2 t2 1 v2 n2 x2) (hne : t1 ≠ t2) : v1.ownBlock = none ∨ v1.ownBlock ≠ v2.ownBlock := by
  rcases h1.2 with ⟨rfl, _⟩ | ⟨g, cap, cur, rfl, _, hh, _⟩
  · exact Or.inl rfl
  · right
    rcases h2.2 with ⟨rfl, _⟩ | ⟨g', cap', cur', rfl, _, hh', _⟩
    · simp [Value.ownBlock]
    · intro e
      have : g = g' := by simpa [Value.ownBlock] using e
      subst this
      rw [hh] at hh'
      injection hh' with hh'
      injection hh' with _ ht
      exact hne ht
/-- Each row is memory of its own, of bytes, made since B. -/
def RowsOwn (w : World) (B : Nat) (rs : List RowV) : Prop := ∀ x ∈ rs, w.ownsRow B 5 1 (rowV x) x.2.1.length (x.2.1.map byteV)
theorem RowsOwn.grown {w w' : World} {B B' n : Nat} {rs : List RowV} {v : Value} {xs : List Value} (h : RowsOwn w B rs) (ho : w.ownsRow B' 27 1 v n xs) (hg : w.grownBy w' v.ownBlock) : RowsOwn w' B rs :=
  fun x hx => (h x hx).kept hg (own_type_ne (h x hx) ho (by decide))
theorem RowsOwn.one {w w' : World} {B g : Nat} {rs : List RowV} (h : RowsOwn w B rs) (hg : w.grownBy w' (some g)) (hB : g < B) : RowsOwn w' B rs := fun x hx => (h x hx).kept hg (by
  cases hv : (rowV x).ownBlock with
  | none => exact Or.inl rfl
  | some k => exact Or.inr (fun e => by injection e with e; have := ((h x hx).lt k hv).1; omega))
theorem RowsOwn.row {w : World} {B : Nat} {rs : List RowV} (h : RowsOwn w B rs) : ∀ x ∈ rs, Row w w.heap.size x.1 (x.2.1.map byteV) := fun x hx => Row.of_own (h x hx)
theorem rows_any (B c n : Nat) (A : Option Addr) (bs : List UInt8) (hn : n = bs.length) (w : World) (h : Row w B A (bs.map byteV)) (hB : B ≤ w.heap.size) (hl : n ≤ 1000000) :
    Calls Tryz.prog 126 #[.slice A n c] w (Rows2 (allA getR bs) w) := by
  obtain ⟨i0, hi0, hz0, hz1, hz2⟩ := info_parts info_s
  have HR := Lib.hid h
  have HN := Lib.hid hn
  have HL := Lib.hid hl
  clear h hn
  go_enter Tryz.func126, Tryz.ntmps126
  go_wp2_with fail
  go_step3
  go_wp2_with fail
  refine (new_any _ c _ A bs HN.out _ HR.out hB (by rw [← HN.out]; omega)).mono ?_
  rintro e w1 ⟨g, rfl, hg1, hrd, hb⟩
  have HB1 := Lib.hid hb
  have HG := Lib.hid hg1
  have HD := Lib.hid hrd
  have HG2 := Lib.hid (rd_lt hrd)
  clear hb hg1 hrd
  go_wp2_with fail
  go_step3
  go_wp2_with fail
  go_loopg [5] n (fun gk v wr => ∃ (rest : List UInt8) (acc : List RowV), rest.length ≤ gk ∧ acc.length + rest.length ≤ n ∧ Hid (Rd wr g rest 0) ∧ Hid (wr.ownsRow w1.heap.size 27 1 v acc.length (acc.map rowV)) ∧ Hid (RowsOwn wr w1.heap.size acc) ∧ Hid (join (acc.map (fun x => x.2.1)) (allA getR rest) = allA getR bs) ∧ Hid (Below w.heap.size w wr) ∧ Hid (w1.heap.size ≤ wr.heap.size))
  case atStart => exact ⟨bs, [], by have := HN.out; omega, by have := HN.out; simp; omega, HD, Lib.hid (World.ownsRow_nil _ _ _ _), Lib.hid (fun x hx => by simp at hx), Lib.hid (join_start good_row bs).symm, HB1, Lib.hid (Nat.le_refl _)⟩
  case round =>
    obtain ⟨rest, acc, hr1, hr2, HRD, HO, HX, HJ, HB, HS⟩ := hrel
    have H1 := Lib.hid hr1
    have H2 := Lib.hid hr2
    clear hr1 hr2
    by_cases hlen : rest.length = 0
    · have HXX : Hid ((acc.map (fun x => x.2.1), 0) = allA getR bs) := Lib.hid (by rw [← HJ.out]; exact (join_end _ _ hlen).symm)
      have HE : Hid (endZ rest 0 = 0) := Lib.hid (by unfold endZ; rw [if_pos rfl, if_pos hlen])
      have hle : (rest.length : Int) ≤ 0 := by omega
      clear hlen
      go_wp2_with (first
        | (go_at_call 150; refine (left_any g rest 0 _ HRD.out).mono ?_; rintro e w' ⟨rfl, rfl⟩)
        | (go_at_call 153; refine (end_any g rest 0 _ HRD.out).mono ?_; rw [HE.out]; rintro e w' ⟨rfl, rfl⟩))
      rw [Exit.noGoto_ret]
      go_ret2
      exact rows_of HXX.out HB1.out.size HO.out HB.out HX.out.row
    · have hpos : (0 : Int) < (rest.length : Int) := by omega
      have he := getR_err rest
      have hj := join_step good_row (acc.map (fun x => x.2.1)) rest hlen
      have hj2 := join_err (get := getR) (acc.map (fun x => x.2.1)) rest hlen
      have hst : stepR rest 0 = ((getR rest).1, rest.drop (getR rest).2.1, (getR rest).2.2) := if_pos rfl
      obtain ⟨ys, k2, er, hg⟩ : ∃ x k2 er, getR rest = (x, k2, er) := ⟨_, _, _, rfl⟩
      rw [hg] at he hj hj2 hst
      simp only at he hj hj2 hst
      have HST := Lib.hid hst
      by_cases h0 : er = 0
      · subst h0
        have HJ2 : Hid (join (acc.map (fun x => x.2.1) ++ [ys]) (allA getR (rest.drop k2)) = allA getR bs) := Lib.hid (by rw [← hj rfl]; exact HJ.out)
        obtain ⟨b1, b2⟩ : 1 ≤ k2 ∧ k2 ≤ rest.length := by rcases he with ⟨_, h1, h2⟩ | ⟨_, _, h⟩ <;> omega
        clear hj hj2 he hg hlen hst
        go_wp2_with fail
        refine (left_any g rest 0 _ HRD.out).mono ?_
        rintro e w' ⟨rfl, rfl⟩
        go_wp2_with fail
        refine (row_call g rest 0 _ HRD.out).mono ?_
        rw [HST.out]
        rintro e w2 ⟨A2, c2, rfl, ho, hrd, hgr⟩
        have HO2 := Lib.hid ho
        have HRD2 := Lib.hid hrd
        have HG3 := Lib.hid hgr
        clear ho hrd hgr
        go_wp2_with fail
        refine (failed_no g _ _ HRD2.out).mono ?_
        rintro e w' ⟨rfl, rfl⟩
        have HOL : Hid (w2.ownsRow w1.heap.size 27 1 u5 acc.length (acc.map rowV)) := Lib.hid (HO.out.kept HG3.out (by
          cases hv : u5.ownBlock with
          | none => exact Or.inl rfl
          | some k => exact Or.inr (fun e => by injection e with e; have := (HO.out.lt k hv).1; have := HG2.out; omega)))
        have HB2 : Hid (Below w.heap.size w w2) := Lib.hid (below_grown HB.out HG3.out HB.out.size HG.out)
        have HS2 : Hid (w1.heap.size ≤ w2.heap.size) := Lib.hid (Nat.le_trans HS.out HG3.out.size)
        have HX2 : Hid (RowsOwn w2 w1.heap.size (acc ++ [(A2, ys, c2)])) := Lib.hid (by
          intro x hx
          rcases List.mem_append.1 hx with hx | hx
          · exact HX.out.one HG3.out HG2.out x hx
          · simp only [List.mem_singleton] at hx
            subst hx
            rcases HO2.out.2 with hn | ⟨g', cap, cur, hv, hb', rest'⟩
            · exact ⟨HO2.out.1, Or.inl hn⟩
            · exact ⟨HO2.out.1, Or.inr ⟨g', cap, cur, hv, Nat.le_trans HS.out hb', rest'⟩⟩)
        go_wp2_with (at_builtin; refine wpList_app _ rfl _ _ 107 rfl w1.heap.size 27 i0 (.slice none 0 0) 24 Tryz.underlying107 hi0 hz0 hz1 hz2 rfl _ _ _ rfl (HOL.out.alloc _) (w2.heap.size + 1) _ 1 1 [.slice A2 ys.length c2] rfl rfl (row_one w2 _ _) (one_oneR (A2, ys, c2)) (by have := H2.out; unfold maxLen; omega) (by have := H2.out; omega) (by have := HS2.out; simp; omega) ?_)
        intro v' w3 hown hgr _
        have HO3 : Hid (w3.ownsRow w1.heap.size 27 1 v' (acc ++ [(A2, ys, c2)]).length ((acc ++ [(A2, ys, c2)]).map rowV)) := Lib.hid (by rw [List.map_append, List.length_append]; exact hown)
        have HX3 : Hid (RowsOwn w3 w1.heap.size (acc ++ [(A2, ys, c2)])) := Lib.hid (RowsOwn.grown (w := w2.alloc (.cells #[.slice A2 ys.length c2] 27)) (fun x hx => (HX2.out x hx).alloc _) (HOL.out.alloc _) hgr)
        have HR3 : Hid (Rd w3 g (rest.drop k2) 0) := Lib.hid (rd_grownBy (rd_alloc HRD2.out _) hgr fun k hk => by have := (HOL.out.lt k hk).1; have := HG2.out; omega)
        have HB3 : Hid (Below w.heap.size w w3) := Lib.hid ((HB2.out.alloc HB2.out.size _).grown hgr (by have := HB2.out.size; simp; omega) fun k hk => by have := (HOL.out.lt k hk).1; have := HB1.out.size; omega)
        have HS3 : Hid (w1.heap.size ≤ w3.heap.size) := Lib.hid (by have := HS2.out; have := hgr.size; simp at this; omega)
        have HJ3 : Hid (join ((acc ++ [(A2, ys, c2)]).map (fun x => x.2.1)) (allA getR (rest.drop k2)) = allA getR bs) := Lib.hid (by rw [List.map_append]; exact HJ2.out)
        have HL3 : Hid ((rest.drop k2).length ≤ gk - 1 ∧ (acc ++ [(A2, ys, c2)]).length + (rest.drop k2).length ≤ n ∧ gk - 1 < gk) := Lib.hid (by
          have := H1.out; have := H2.out
          rw [List.length_drop, List.length_append]
          simp
          omega)
        clear hown hgr
        go_wp2
        go_roundg (gk - 1)
        case measure => exact HL3.out.2.2
        case rel => exact ⟨rest.drop k2, acc ++ [(A2, ys, c2)], HL3.out.1, HL3.out.2.1, HR3, HO3, HX3, HJ3, HB3, HS3⟩
      · have HXX : Hid (([], er) = allA getR bs) := Lib.hid (by rw [← HJ.out]; exact (hj2 h0).symm)
        have HE : Hid (endZ (rest.drop k2) er = er) := Lib.hid (end_no _ er h0)
        have HNE := Lib.hid h0
        clear hj hj2 he hg hlen hst h0
        go_wp2_with fail
        refine (left_any g rest 0 _ HRD.out).mono ?_
        rintro e w' ⟨rfl, rfl⟩
        go_wp2_with fail
        refine (row_call g rest 0 _ HRD.out).mono ?_
        rw [HST.out]
        rintro e w2 ⟨A2, c2, rfl, ho, hrd, hgr⟩
        have HRD2 := Lib.hid hrd
        have HB2 : Hid (Below w.heap.size w w2) := Lib.hid (below_grown HB.out hgr HB.out.size HG.out)
        clear ho hrd hgr
        go_wp2_with fail
        refine (failed_yes g _ er HNE.out _ HRD2.out).mono ?_
        rintro e w' ⟨rfl, rfl⟩
        go_wp2_with fail
        refine (end_any g _ er _ HRD2.out).mono ?_
        rw [HE.out]
        rintro e w' ⟨rfl, rfl⟩
        go_wp2
        rw [Exit.noGoto_ret]
        go_ret2
        exact rows_of (rs := []) HXX.out (Nat.le_refl _) (World.ownsRow_nil _ _ _ _) HB2.out (by simp)
end Go.Proofs.YtndbggkpobcpjaaGreat
