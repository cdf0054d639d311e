/- LnU: LinWidens returns true, whatever the arguments; what was there is left as it was. -/
import Derived.Test.YtlecbhnopokmnaaLnJ
import Derived.Test.YtlecbhnopokmnaaLnM
import Derived.Test.YtlecbhnopokmnaaLnG
import Derived.Test.YtlecbhnopokmnaaAppS
namespace Go.Proofs.Ytlecbhnopokmnaa
open Go.RowKit Mem
set_option maxRecDepth 100000
set_option maxHeartbeats 8000000
set_option linter.unusedVariables false
set_option linter.unusedSimpArgs false
open Ln
theorem dds_one (l : List DdL) : ∀ u ∈ ddsC l, u.oneCell' = true := by
  intro u hu
  obtain ⟨r, _, hr⟩ := List.mem_flatMap.1 hu
  simp only [ddC, List.mem_cons, List.not_mem_nil, or_false] at hr
  rcases hr with rfl | rfl | rfl | rfl | rfl | rfl | rfl <;> rfl
theorem dds_set2 (l : List DdL) (k : Nat) (hk : k < l.length) (f t : Int) : ((ddsC l).set (k * 7 + 2) (.int .i64 f)).set (k * 7 + 3) (.int .i64 t) = ddsC (l.set k { l[k] with fro := f, till := t }) := by
  induction l generalizing k with
  | nil => simp at hk
  | cons p l ih =>
    rcases k with _ | k
    · rfl
    · have e : ddsC (p :: l) = ddC p ++ ddsC l := rfl
      have hl : (ddC p).length = 7 := rfl
      rw [e, List.set_append_right _ _ (by omega), hl, List.set_append_right _ _ (by omega), hl, show (k + 1) * 7 + 2 - 7 = k * 7 + 2 by omega, show (k + 1) * 7 + 3 - 7 = k * 7 + 3 by omega, ih k (by simpa using hk)]
      rfl
theorem row_setC {w : World} {B b o i : Nat} {xs : List Value} (h : Row w B (some ⟨b, o, none⟩) xs) (hi : i < xs.length) (u : Value) : Row (w.setCell ⟨b, o + i, none⟩ u) B (some ⟨b, o, none⟩) (xs.set i u) := by
  rcases h with rfl | ⟨b', o', e, hb, hc⟩
  · exact absurd hi (Nat.not_lt_zero _)
  · injection e with e
    injection e with e1 e2
    subst e1; subst e2
    refine Or.inr ⟨b, o, rfl, hb, fun j hj => ?_⟩
    rw [List.length_set] at hj
    have h1 := hc j hj
    by_cases e : i = j
    · subst e
      rw [World.cell?_setCell_same _ _ _ h1]
      simp
    · rw [World.cell?_setCell_other _ _ _ _ (fun e2 => by injection e2 with _ e2; omega), h1]
      simp [List.getElem_set, e]
theorem own_frz18 {w : World} {B s n m c : Nat} {e : TypeId} {b o : Nat} {xs : List Value} (h : w.ownsRow B e s (.slice (some ⟨b, o, none⟩) m c) n xs) (j : Nat) : w.frozen? ⟨b, j, none⟩ = false := by
  rcases h.2 with ⟨hv, _⟩ | ⟨g, cap, cur, hv, hg, hh, _⟩
  · injection hv with hv; cases hv
  · injection hv with hv
    injection hv with hv
    injection hv with hv
    subst hv
    simp [World.frozen?, hh]
theorem ownBase18 {w : World} {B s n m c : Nat} {e : TypeId} {b o : Nat} {A : Option Addr} {xs : List Value} (h : w.ownsRow B e s (.slice A m c) n xs) (hA : A = some ⟨b, o, none⟩) : B ≤ b := by
  rcases h.2 with ⟨hv, _⟩ | ⟨g, cap, cur, hv, hg, hh, _⟩
  · injection hv with hv; rw [hA] at hv; cases hv
  · injection hv with hv
    rw [hA] at hv
    injection hv with hv
    injection hv with hv
    subst hv
    exact hg
theorem frz_set {w : World} {a p : Addr} (u : Value) (h : w.frozen? a = false) : (w.setCell p u).frozen? a = false := by
  rw [World.frozen?_setCell]; exact h
theorem wide_set (l : List DdL) (k : Nat) (hk : k < l.length) (f t : Int) (hf : f ≤ l[k].fro) (ht : l[k].till ≤ t) : WidL (l.map DdL.p) ((l.set k { l[k] with fro := f, till := t }).map DdL.p) where
  len := by simp
  at_ := fun i hi => by
    rw [List.length_map] at hi
    have e1 : atD (l.map DdL.p) i = l[i].p := by unfold atD; rw [List.getD_eq_getElem?_getD, List.getElem?_map, List.getElem?_eq_getElem hi]; rfl
    have e2 : atD ((l.set k { l[k] with fro := f, till := t }).map DdL.p) i = ((l.set k { l[k] with fro := f, till := t })[i]'(by simpa using hi)).p := by unfold atD; rw [List.getD_eq_getElem?_getD, List.getElem?_map, List.getElem?_eq_getElem (by simpa using hi)]; rfl
    rw [e1, e2, List.getElem_set]
    by_cases h : k = i
    · subst h
      rw [if_pos rfl]
      exact ⟨rfl, rfl, hf, ht, rfl⟩
    · rw [if_neg h]
      exact ⟨rfl, rfl, Int.le_refl _, Int.le_refl _, rfl⟩
/-- What a deed must be that is looked at. -/
def OkW (y : DdL) : Prop := y.fro ≤ y.till ∧ 0 ≤ y.fro ∧ y.till ≤ 1000000 ∧ y.done = true
theorem widens_walk (l : List DdL) (n c : Nat) (A : Option Addr) (a b m : Int) (ha0 : 0 ≤ a) (ha1 : a ≤ 255) (hb0 : 0 ≤ b) (hb1 : b ≤ 255) (hm0 : 0 ≤ m) (hm1 : m ≤ 255) (hn : n = l.length) (hl : l.length ≤ maxLen) (w : World) (hr : Row w w.heap.size A (ddsC l)) (hd : ∀ r ∈ l, DdOk w r) :
    Calls Try.prog 8 #[.slice A n c, .int .u8 a, .int .u8 b, .int .u8 m] w (IsB18 true w) := by
  subst hn
  have HRES : Hid (∀ W W' : World, Below w.heap.size w W → Below W.heap.size W W' → IsB18 true w (.returned (.bool true)) W') := Lib.hid fun W W' h h' => ⟨rfl, h.trans (h'.mono h.size)⟩
  have HLG := Lib.hid (long18_any l hl w.heap.size c A w hr (Nat.le_refl _))
  have HR := Lib.hid hr
  have HDD : Hid (Dds_ w w.heap.size l) := Lib.hid fun r h => (hd r h).1
  have HW : Hid (∀ r ∈ l, minI ≤ r.till) := Lib.hid fun r h => (hd r h).2.1
  obtain ⟨Q, hQ⟩ : ∃ Q, IsB18 true w = Q := ⟨_, rfl⟩
  rw [hQ] at HRES ⊢
  have hln : (l.length : Int) ≤ 9223372036854775807 := by unfold maxLen at hl; omega
  clear hQ hr hd hl
  go_enter Try.func8, Try.ntmps8
  go_wp2_with fail
  refine HLG.out.mono ?_
  rintro e w1 ⟨b1, rfl, h7, hb1⟩
  have HB1 := Lib.hid hb1
  clear hb1 HLG
  cases b1
  rotate_left
  · go_wp2_with fail
    refine (known18_any _).mono ?_
    rintro e w2 ⟨rfl, hb2⟩
    go_wp2
    exact HRES.out _ _ HB1.out hb2
  have h7' : l.length ≤ 7 := h7 rfl
  clear h7
  by_cases h0 : l.length = 0
  · have h02 : (l.length : Int) = 0 := by omega
    go_wp2_with fail
    refine (known18_any _).mono ?_
    rintro e w2 ⟨rfl, hb2⟩
    go_wp2
    exact HRES.out _ _ HB1.out hb2
  have hn0 : (0 : Int) < (l.length : Int) := by omega
  have hnz : ((l.length : Int) == 0) = false := by simpa using h0
  go_wp2
  go_loopw [9] (fun iv wr => ∃ q : Nat, q ≤ l.length ∧ iv = .int .i64 (q : Int) ∧ Hid (∀ (i : Nat) (y : DdL), i < q → l[i]? = some y → OkW y) ∧ Hid (Below w.heap.size w wr)) (fun iv _ => l.length - (intOf iv).toNat)
  case atStart => exact ⟨0, by omega, rfl, Lib.hid (fun i y hi => by omega), HB1⟩
  case round =>
    obtain ⟨q, hq, rfl, HF, HB⟩ := hrel
    have hq0 : (0 : Int) ≤ (q : Int) := by omega
    by_cases hlt : q < l.length
    · have hlt2 : (q : Int) < (l.length : Int) := by omega
      obtain ⟨bb, o, hA, hbB, hcl⟩ := dds_open HR.out (by omega)
      obtain ⟨e0, e1, e2, e3, e4, e5, e6⟩ := (hcl q hlt).keep (HB.out.block bb hbB)
      have HY0 : Hid (l[q]? = some l[q]) := Lib.hid (List.getElem?_eq_getElem hlt)
      obtain ⟨y, hy⟩ : ∃ y, l[q] = y := ⟨_, rfl⟩
      rw [hy] at e0 e1 e2 e3 e4 e5 e6 HY0
      subst hA
      clear hy hcl hbB
      obtain ⟨kind, yA, yb, yc, fro, till, done, has, A2, vb, c2⟩ := y
      simp only at e0 e1 e2 e3 e4 e5 e6
      clear e0 e1 e5 e6
      by_cases ht : till < fro
      · go_wp2
        go_quiet (fail)
        go_wp2_with fail
        refine (known18_any _).mono ?_
        rintro e w2 ⟨rfl, hb2⟩
        go_wp2
        exact HRES.out _ _ (HB.out.trans (below_drew' _ _ _)) hb2
      have ht2 : fro ≤ till := by omega
      by_cases hf : fro < 0
      · go_wp2
        go_quiet (fail)
        go_wp2_with fail
        refine (known18_any _).mono ?_
        rintro e w2 ⟨rfl, hb2⟩
        go_wp2
        exact HRES.out _ _ (HB.out.trans (below_drew' _ _ _)) hb2
      have hf2 : 0 ≤ fro := by omega
      by_cases hx : 1000000 < till
      · go_wp2
        go_quiet (fail)
        go_wp2_with fail
        refine (known18_any _).mono ?_
        rintro e w2 ⟨rfl, hb2⟩
        go_wp2
        exact HRES.out _ _ (HB.out.trans (below_drew' _ _ _)) hb2
      have hx2 : till ≤ 1000000 := by omega
      cases done
      · go_wp2
        go_quiet (fail)
        go_wp2_with fail
        refine (known18_any _).mono ?_
        rintro e w2 ⟨rfl, hb2⟩
        go_wp2
        exact HRES.out _ _ (HB.out.trans (below_drew' _ _ _)) hb2
      · go_wp2
        go_quiet (fail)
        go_wp2
        go_roundw
        case rel => exact ⟨q + 1, by omega, by go_num, Lib.hid (fun i z hi hz => by
          rcases Nat.lt_or_ge i q with h | h
          · exact HF.out i z h hz
          · have : i = q := by omega
            subst this
            rw [HY0.out] at hz
            injection hz with hz
            subst hz
            exact ⟨ht2, hf2, hx2, rfl⟩), Lib.hid (HB.out.trans (below_drew' _ _ _))⟩
        case measure => simp [intOf]; omega
    obtain rfl : q = l.length := by omega
    clear hq hlt hq0
    have HOK : Hid (∀ i (h : i < l.length), OkW l[i]) := Lib.hid fun i h => HF.out i _ h (List.getElem?_eq_getElem h)
    have HO := Lib.hid (order_full l (by omega) w.heap.size c A _ (HR.out.below HB.out) HB.out.size (HDD.out.below HB.out) HW.out)
    clear HF
    go_wp2_with fail
    refine HO.out.mono ?_
    intro e w3 ho3
    obtain ⟨V, e5, rfl, HE5, hb3⟩ : ∃ (V : Value) (e5 : Int), e = .returned (.tuple #[V, .int .i64 e5]) ∧ Hid ((e5 = 0 ∧ ∃ o : List Int, holdsP (l.map DdL.p) o = true) ∨ e5 = 4) ∧ Below w.heap.size w w3 := by
      obtain ⟨hb3, ⟨h, _⟩ | ⟨_, hno, rfl⟩ | ⟨_, out, A3, c3, h1, h2, h3, rfl, ho⟩⟩ := ho3
      · omega
      · exact ⟨_, 4, rfl, Lib.hid (Or.inr rfl), HB.out.trans (hb3.mono HB.out.size)⟩
      · exact ⟨_, 0, rfl, Lib.hid (Or.inl ⟨rfl, _, h1⟩), HB.out.trans (hb3.mono HB.out.size)⟩
    have HB3 := Lib.hid hb3
    clear ho3 hb3 HO
    obtain ⟨i0, hi0, hz0, hz1, hz2⟩ := info_parts (show (Try.prog.info? 47).map (fun i => (i.zero, i.size, i.bytes)) = some (some (.agg #[.int .i64 0, .slice none 0 0, .int .i64 0, .int .i64 0, .bool false, .bool false, .slice none 0 0]), 7, 88) by kernel_rfl)
    have HN0 : Hid (w3.ownsRow w.heap.size 47 7 (.slice none 0 0) 0 (ddsC [])) := Lib.hid (World.ownsRow_nil _ _ _ _)
    go_wp2_with (at_builtin; refine wpList_appS (P := Try.prog) (by rfl) _ _ _ (by rfl) w.heap.size 47 i0 (.agg #[.int .i64 0, .slice none 0 0, .int .i64 0, .int .i64 0, .bool false, .bool false, .slice none 0 0]) 7 88 Try.underlying28 hi0 hz0 hz1 hz2 rfl (by decide) _ 0 (ddsC []) (by rfl) (by exact HN0.out) w.heap.size A l.length c (ddsC l) (by rfl) (by rw [ddsC_len]) (by exact HR.out.below HB3.out) (dds_one l) (by unfold maxLen; omega) (by omega) (by exact HB3.out.size) ?_)
    intro v' w4 hown hgr hat
    obtain ⟨A4, c4, rfl, _, _⟩ := ownShape hown
    have HB4 := Lib.hid (HB3.out.grown hgr HB3.out.size fun g h => by cases h)
    have hrow : Row w4 w4.heap.size A4 (ddsC l) := ownRow hown
    obtain ⟨bb, o, rfl, hbb, hcl⟩ := dds_open hrow (by omega)
    have hba := (ownBase18 hown rfl)
    obtain ⟨k, hk, hkn⟩ : ∃ k : Nat, a.tmod (l.length : Int) = (k : Int) ∧ k < l.length := by
      have h1 := Int.tmod_nonneg (l.length : Int) ha0
      have h2 := Int.tmod_lt_of_pos a hn0
      exact ⟨(a.tmod (l.length : Int)).toNat, by omega, by omega⟩
    have hk0 : (0 : Int) ≤ (k : Int) := by omega
    have hkl : (k : Int) < (l.length : Int) := by omega
    obtain ⟨e0, e1, e2, e3, e4, e5, e6⟩ := hcl k hkn
    have f2 := own_frz18 hown (o + k * 7 + 2)
    have f3 := own_frz18 hown (o + k * 7 + 3)
    have hok := HOK.out k hkn
    obtain ⟨hok1, hok2, hok3, _⟩ := hok
    obtain ⟨fr, hfr⟩ : ∃ fr, l[k].fro = fr := ⟨_, rfl⟩
    obtain ⟨ti, hti⟩ : ∃ ti, l[k].till = ti := ⟨_, rfl⟩
    have HFR := Lib.hid hfr
    have HTI := Lib.hid hti
    rw [hfr] at e2 hok1 hok2
    rw [hti] at e3 hok1 hok3
    obtain ⟨w5, hw5⟩ : ∃ W, w4.setCell ⟨bb, o + k * 7 + 2, none⟩ (.int .i64 (fr - b)) = W := ⟨_, rfl⟩
    obtain ⟨w6, hw6⟩ : ∃ W, w5.setCell ⟨bb, o + k * 7 + 3, none⟩ (.int .i64 (ti + m)) = W := ⟨_, rfl⟩
    have g3 : w5.cell? ⟨bb, o + k * 7 + 3, none⟩ = some (.int .i64 ti) := by
      rw [← hw5, World.cell?_setCell_other _ _ _ _ (fun e2 => by injection e2 with _ e2; omega)]; exact e3
    have q3 : w5.frozen? ⟨bb, o + k * 7 + 3, none⟩ = false := by rw [← hw5]; exact frz_set _ f3
    have z5 : w5.heap.size = w4.heap.size := by rw [← hw5]; simp [World.setCell]
    have z6 : w6.heap.size = w5.heap.size := by rw [← hw6]; simp [World.setCell]
    have hlw : bb < w4.heap.size := hbb
    have hlw5 : bb < w5.heap.size := by omega
    have HB6 : Hid (Below w.heap.size w w6) := Lib.hid (by rw [← hw6, ← hw5]; exact below_set (below_set HB4.out hba _ _) hba _ _)
    have HR6 : Hid (Row w6 w6.heap.size (some ⟨bb, o, none⟩) (ddsC (l.set k { l[k] with fro := fr - b, till := ti + m }))) := Lib.hid (by
      have h1 := row_setC hrow (i := k * 7 + 2) (by rw [ddsC_len]; omega) (.int .i64 (fr - b))
      have h2 := row_setC h1 (i := k * 7 + 3) (by rw [List.length_set, ddsC_len]; omega) (.int .i64 (ti + m))
      rw [dds_set2 l k hkn] at h2
      rw [← hw6, ← hw5]
      exact h2.more (by simp [World.setCell]))
    have HD6 : Hid (Dds_ w6 w6.heap.size (l.set k { l[k] with fro := fr - b, till := ti + m })) := Lib.hid fun r hr => by
      have hall : ∀ r ∈ l, Row w6 w6.heap.size r.A (r.b.map byteV) ∧ Row w6 w6.heap.size r.A2 (r.vb.map byteV) := fun r hr => ⟨((HDD.out r hr).1.below HB6.out).more HB6.out.size, ((HDD.out r hr).2.below HB6.out).more HB6.out.size⟩
      rcases List.mem_or_eq_of_mem_set hr with h | rfl
      · exact hall r h
      · exact hall l[k] (List.getElem_mem hkn)
    have HW6 : Hid (∀ r ∈ l.set k { l[k] with fro := fr - b, till := ti + m }, minI ≤ r.till) := Lib.hid fun r hr => by
      rcases List.mem_or_eq_of_mem_set hr with h | rfl
      · exact HW.out r h
      · show minI ≤ ti + m
        unfold minI; omega
    have HWD : Hid (WidL (l.map DdL.p) ((l.set k { l[k] with fro := fr - b, till := ti + m }).map DdL.p)) := Lib.hid (wide_set l k hkn _ _ (by rw [HFR.out]; omega) (by rw [HTI.out]; omega))
    have HO6 := Lib.hid (order_full (l.set k { l[k] with fro := fr - b, till := ti + m }) (by rw [List.length_set]; omega) w6.heap.size c4 _ w6 HR6.out (Nat.le_refl _) HD6.out HW6.out)
    rw [List.length_set] at HO6
    have HDN : Hid (∀ i, i < ((l.set k { l[k] with fro := fr - b, till := ti + m }).map DdL.p).length → (atD ((l.set k { l[k] with fro := fr - b, till := ti + m }).map DdL.p) i).done = true) := Lib.hid fun i hi => by
      rw [HWD.out.len, List.length_map] at hi
      rw [(HWD.out.at_ i (by rw [List.length_map]; exact hi)).done]
      have e1 : atD (l.map DdL.p) i = l[i].p := by unfold atD; rw [List.getD_eq_getElem?_getD, List.getElem?_map, List.getElem?_eq_getElem hi]; rfl
      rw [e1]
      exact (HOK.out i hi).2.2.2
    have hfr2 : fr ≤ 1000000 := by omega
    have hti0 : 0 ≤ ti := by omega
    clear hown hgr hat hrow hcl e0 e1 e4 e5 e6 hfr hti HDD HW HR HFR HTI HOK HB4 HB3 HR6 HD6 HW6 i0 hi0 hz0 hz1 hz2 HN0 hok1
    go_wp2_with fail
    refine HO6.out.mono ?_
    intro e w7 ho7
    obtain ⟨A7, n7, c7, e7, rfl, HE7, hb7⟩ : ∃ (A7 : Option Addr) (n7 c7 : Nat) (e7 : Int), e = .returned (.tuple #[.slice A7 n7 c7, .int .i64 e7]) ∧ Hid ((e7 = 0 ∧ n7 = l.length) ∨ (e7 = 4 ∧ e5 = 4)) ∧ Below w.heap.size w w7 := by
      obtain ⟨hb7, ⟨h, _⟩ | ⟨_, hno, rfl⟩ | ⟨_, out, A3, c3, h1, h2, h3, rfl, ho⟩⟩ := ho7
      · rw [List.length_set] at h; omega
      · refine ⟨_, _, _, 4, rfl, Lib.hid (Or.inr ⟨rfl, ?_⟩), HB6.out.trans (hb7.mono HB6.out.size)⟩
        rcases HE5.out with ⟨_, o2, ho2⟩ | h
        · have := holds_wide HWD.out ho2
          rw [hno o2] at this
          exact absurd this (by decide)
        · exact h
      · refine ⟨_, _, _, 0, rfl, Lib.hid (Or.inl ⟨rfl, ?_⟩), HB6.out.trans (hb7.mono HB6.out.size)⟩
        have := holds_len HDN.out h1
        rw [HWD.out.len, List.length_map, List.length_map] at this
        exact this
    have HB7 := Lib.hid hb7
    clear hb7 ho7 HO6 HDN HWD
    rcases HE7.out with ⟨rfl, rfl⟩ | ⟨rfl, rfl⟩
    · rcases HE5.out with ⟨rfl, _⟩ | rfl
      all_goals
        go_wp2_with fail
        refine (known18_any _).mono ?_
        rintro e w8 ⟨rfl, hb8⟩
        go_wp2
        exact HRES.out _ _ HB7.out hb8
    · go_wp2_with fail
      refine (known18_any _).mono ?_
      rintro e w8 ⟨rfl, hb8⟩
      go_wp2
      exact HRES.out _ _ HB7.out hb8
end Go.Proofs.Ytlecbhnopokmnaa
