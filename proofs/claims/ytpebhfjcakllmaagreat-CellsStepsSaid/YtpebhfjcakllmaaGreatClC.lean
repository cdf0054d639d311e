/- ClC: Package cells: Cells: all cells by rising keys, in new memory. Rows of cells. -/
import Derived.Test.YtpebhfjcakllmaaGreatClW
import Derived.Test.YtpebhfjcakllmaaGreatClE
import Derived.Test.YtpebhfjcakllmaaGreatAppS
import Derived.Sort.KeysCollected
import Derived.Test.YtpebhfjcakllmaaGreatIter8
namespace Go.Proofs.YtpebhfjcakllmaaGreat
open Go.RowKit Mem Be Go.Maps Go.Sort Go.Shelf
set_option maxRecDepth 10000
set_option maxHeartbeats 2000000
set_option linter.unusedVariables false
theorem sorts11 (m : Nat) : AnyZ.SortsIn Tryz.prog Tryz.sorted35_ren Fence.wide m :=
  ⟨fun blk off cap ss W hH hblk hsz => callsIn_wide.2 (AnyM.slices_Sort_string Tryz.sort57 blk off cap ss W hH hblk hsz),
   fun p cap W => callsIn_wide.2 (AnyM.slices_Sort_string_none Tryz.sort57 p cap W)⟩
theorem keys11 (mb : Option Nat) (W : World) : Calls Tryz.prog 36 #[.map mb] W fun e w' => e = .returned (.func (.func 58) #[] #[.pointer (some ⟨W.heap.size, 0, none⟩)]) ∧ w' = W.alloc (.cells #[.map mb] 71) :=
  callsIn_wide.1 (AnyZ.keys_in Tryz.keys36 Fence.wide 5 trivial rfl mb W)
def KeysC (T : List CV) (w : World) (e : Ending) (w' : World) : Prop :=
  ∃ A c, e = .returned (.slice A T.length c) ∧ w'.ownsRow w.heap.size 9 1 (.slice A T.length c) T.length ((T.map kC).map fun k => Value.string ⟨k.toArray⟩) ∧ Below w.heap.size w w'
theorem sorted11 (T : List CV) (b : Nat) (hS : SortT kC T) (hn : T.length ≤ 8388608) (w : World) (hT : TabBC w b T) :
    Calls Tryz.prog 35 #[.func (.func 58) #[] #[.pointer (some ⟨w.heap.size, 0, none⟩)]] (w.alloc (.cells #[.map (some b)] 71)) (KeysC T (w.alloc (.cells #[.map (some b)] 71))) := by
  have hend : ∀ (e : Ending) (W w' : World), (∃ (v : Value) (ss : List (List UInt8)), e = .returned v ∧ ss.Perm (T.map kC) ∧
      w'.ownsRow W.heap.size 9 1 v ss.length ((ss.mergeSort (fun x y => decide (x ≤ y))).map encStr) ∧ (v = .slice none 0 0 ↔ ss = []) ∧ Below W.heap.size W w') → KeysC T W e w' := by
    rintro e W w' ⟨v, ss, rfl, hp, ho, _, hb⟩
    have hl : ss.length = T.length := by rw [hp.length_eq, List.length_map]
    rw [sorted_keys hS hp, hl] at ho
    obtain ⟨A, c, rfl, _, _⟩ := ownShape ho
    exact ⟨A, c, rfl, ho, hb⟩
  refine (callsIn_wide (n := 5)).1 ?_
  have hbl := hT.lt
  have hseq : SeqGives Fence.wide 2 Tryz.prog 58 #[.pointer (some ⟨w.heap.size, 0, none⟩)] encStr (fun ss => ss.Perm (strKeys (tbDC T))) (Maps.size (tbDC T)) (w.alloc (.cells #[.map (some b)] 71)) :=
    AnyZ.keys_gives (ρ := Tryz.keys36_ren) { Tryz.keys36 with } Fence.wide _ trivial rfl (by omega) w.heap.size b T.length (tbDC T) _ (by simp) (by simp) (by
      obtain ⟨es, clock, hb, Ft, hs, hD⟩ := hT
      exact ⟨es, clock, (Below.heap_alloc _ _ b hbl).trans hb, Ft, hs, hD⟩)
  refine (AnyZ.sorted_in Tryz.sorted35 Fence.wide 5 trivial trivial trivial trivial rfl (by omega) (sorts11 _) (enters_of Tryz.func57 (by kernel_rfl) rfl) 58 #[.pointer (some ⟨w.heap.size, 0, none⟩)] trivial (enters_of Tryz.func58 (by kernel_rfl) rfl) _ _ (by rw [tb_sizeC]; unfold maxLen; omega) (by rw [tb_sizeC]; omega) _ hseq).mono ?_
  rintro e w' ⟨v, ss, he, hp, h⟩
  rw [tb_keysC] at hp
  exact hend e _ w' ⟨v, ss, he, hp, h⟩
end Go.Proofs.YtpebhfjcakllmaaGreat
namespace Go.Proofs.YtpebhfjcakllmaaGreat
open Go.RowKit Mem Be Word Rg Go.Maps
set_option maxRecDepth 10000
set_option maxHeartbeats 4000000
set_option linter.unusedVariables false
def cellC (x : CV) : List Value := [.string ⟨x.1.e.k.toArray⟩, .int .i64 x.1.e.s, .int .i64 x.1.e.u, .int .i64 x.1.e.o, .bool x.1.e.has, .slice x.2.1 x.1.e.v.length x.2.2, .bool x.1.wh, .bool x.1.cl, .int .i64 x.1.us]
abbrev cellsC (l : List CV) : List Value := l.flatMap cellC
theorem cellsC_len (l : List CV) : (cellsC l).length = l.length * 9 := by
  induction l with
  | nil => rfl
  | cons p l ih => simp only [cellsC, List.flatMap_cons, List.length_append, cellC, List.length_cons, List.length_nil]; have := ih; unfold cellsC at this; omega
theorem cellsC_app (a b : List CV) : cellsC (a ++ b) = cellsC a ++ cellsC b := List.flatMap_append
theorem cellsC_one (l : List CV) : ∀ u ∈ cellsC l, u.oneCell' = true := by
  intro u hu
  obtain ⟨x, _, hx⟩ := List.mem_flatMap.1 hu
  simp only [cellC, List.mem_cons, List.not_mem_nil, or_false] at hx
  rcases hx with rfl | rfl | rfl | rfl | rfl | rfl | rfl | rfl | rfl <;> rfl
theorem cellsC_at (l : List CV) (i : Nat) (h : i < l.length) (j : Nat) (hj : j < 9) : (cellsC l)[i * 9 + j]? = (cellC l[i])[j]? := by
  induction l generalizing i with
  | nil => simp at h
  | cons p l ih =>
    have hc : cellsC (p :: l) = cellC p ++ cellsC l := rfl
    rw [hc]
    have hl : (cellC p).length = 9 := rfl
    rcases i with _ | i
    · rw [List.getElem?_append_left (by omega), Nat.zero_mul, Nat.zero_add]; rfl
    · rw [List.getElem?_append_right (by omega), hl, show (i + 1) * 9 + j - 9 = i * 9 + j by omega, ih i (by simpa using h)]
      rfl
theorem cells_open {w : World} {B : Nat} {A : Option Addr} {l : List CV} (h : Row w B A (cellsC l)) (hn : 0 < l.length) :
    ∃ b o, A = some ⟨b, o, none⟩ ∧ b < B ∧ ∀ i (hi : i < l.length), ∀ j v, (cellC l[i])[j]? = some v → w.cell? ⟨b, o + i * 9 + j, none⟩ = some v := by
  obtain ⟨b, o, hA, hb, hc⟩ := h.open_ (by rw [cellsC_len]; omega)
  refine ⟨b, o, hA, hb, fun i hi j v hv => ?_⟩
  have hj : j < 9 := (List.getElem?_eq_some_iff.1 hv).1
  have hlt : i * 9 + j < (cellsC l).length := by rw [cellsC_len]; omega
  rw [show o + i * 9 + j = o + (i * 9 + j) by omega, hc (i * 9 + j) hlt, ← hv, ← cellsC_at l i hi j hj, List.getElem?_eq_getElem hlt]
theorem info_cell : (Tryz.prog.info? 88).map (fun i => (i.zero, i.size, i.bytes)) = some (some (cV (cvN [])), 9, 88) := by kernel_rfl
theorem cell_lit {w : World} {x : CV} {g : Nat} (h : Blk w g 88 ⟨cellC x⟩) {B : Nat} (hB : g < B) : Row w B (some ⟨g, 0, none⟩) (cellsC [x]) := by
  refine Or.inr ⟨g, 0, rfl, hB, fun j hj => ?_⟩
  have e : cellsC [x] = cellC x := by simp [cellsC]
  have h1 := h.cell (0 + j)
  rw [h1]
  have hj2 : j < (cellC x).length := by rw [← e]; exact hj
  rw [Nat.zero_add]
  rw [List.getElem_of_eq e hj]
  show (⟨cellC x⟩ : Array Value)[j]? = _
  rw [List.getElem?_toArray, List.getElem?_eq_getElem hj2]
/-- Its entry, in memory. -/
def evC (x : CV) : EV := (x.1.e, x.2)
/-- Cells in new memory: copies of a table's, in its order. -/
def CellsP (l : List CP) (w : World) (e : Ending) (w' : World) : Prop :=
  ∃ (us : List CV) (A : Option Addr) (c : Nat), us.map Prod.fst = l ∧ e = .returned (.slice A us.length c) ∧ w'.ownsRow w.heap.size 88 9 (.slice A us.length c) us.length (cellsC us) ∧ EntsO w' w.heap.size (us.map evC) ∧ Below w.heap.size w w'
theorem heap_set6 {w : World} {g' k : Nat} (hn : k ≠ g') (u0 u1 u2 u3 u4 u5 : Value) :
    ((((((w.setCell ⟨g', 0, none⟩ u0).setCell ⟨g', 1, none⟩ u1).setCell ⟨g', 2, none⟩ u2).setCell ⟨g', 3, none⟩ u3).setCell ⟨g', 4, none⟩ u4).setCell ⟨g', 5, none⟩ u5).heap[k]? = w.heap[k]? := by
  have hk : ∀ (W : World) (j : Nat) (u : Value), (W.setCell ⟨g', j, none⟩ u).heap[k]? = W.heap[k]? := fun W j u => Below.heap_setCell W ⟨g', j, none⟩ u k hn
  simp only [hk]
theorem cells_any {F : Nat → Prop} {g b tk : Nat} {S : Cl} (ok : OkC S) (w : World) (h : ClAt w F g b tk S) :
    Calls Tryz.prog 13 #[.pointer (some ⟨g, 0, none⟩)] w (CellsP S.T w) := by
  obtain ⟨V, c, h⟩ := h
  have hVn : V.length ≤ 4096 := by rw [h.lens]; have h1 := ok.len; have h2 := ok.rc; omega
  obtain ⟨i0, hi0, hz0, hz1, hz2⟩ := info_parts info_cell
  obtain ⟨w1, hmk, hmo, hmg⟩ := run_make_own (P := Tryz.prog) w w.heap.size 31 88 i0 (cV (cvN [])) 9 Tryz.underlying31 hi0 hz0 hz1 .i64 .i64 V.length (by rw [hz2]; omega) (by unfold maxLen; omega) (Nat.le_refl _)
  have hlen := fun ty => len_anyC h ty w (Below.refl _ _)
  rw [← h.lens] at hlen
  have c4 := h.c4
  have H := Lib.hid h
  have HS := Lib.hid (h.srt ok)
  have HN := Lib.hid hVn
  have HOK : Hid (∀ x ∈ V, okE x.1.e) := Lib.hid fun x hx => h.okE ok hx
  have HMO := Lib.hid hmo
  have HB1 : Hid (Below w.heap.size w w1) := Lib.hid ⟨hmg.os, hmg.tape, hmg.output, hmg.size, fun k hk => hmg.block k hk (by simp)⟩
  have d4 := (h.below HB1.out).c4
  rw [← h.ent]
  clear h ok hVn hmo hmg
  go_enter Tryz.func13, Tryz.ntmps13
  go_wp2_with fail
  refine (keys11 (some b) w1).mono ?_
  rintro e w2 ⟨rfl, rfl⟩
  have HKS := Lib.hid (sorted11 V b HS.out (by have := HN.out; omega) w1 (H.out.below HB1.out).map)
  go_wp2_with fail
  refine HKS.out.mono ?_
  rintro e w3 ⟨AK, cK, rfl, hok, hb3⟩
  have HOWN := Lib.hid hok
  have HB3 : Hid (Below w1.heap.size w1 w3) := Lib.hid ((((Below.refl _ w1).alloc (Nat.le_refl _) _).trans (hb3.mono (by simp))))
  have HM3 : Hid (w3.ownsRow w.heap.size 88 9 (.slice (some ⟨w.heap.size, 0, none⟩) 0 V.length) 0 []) := Lib.hid (ownLater HMO.out HB3.out)
  have HBW : Hid (Below w.heap.size w w3) := Lib.hid (HB1.out.trans (HB3.out.mono HB1.out.size))
  have HRK : Hid (Row w3 w3.heap.size AK ((V.map kC).map fun k => Value.string ⟨k.toArray⟩)) := Lib.hid (Row.of_own HOWN.out)
  have hni : (V.length : Int) ≤ 4096 := by have := HN.out; omega
  clear hok hb3 HKS hlen hmk c4 d4
  go_wp2_with fail
  go_loopw [3, 22] (fun v i wr => ∃ (j : Nat) (us : List CV) (A : Option Addr) (c : Nat), j ≤ V.length ∧ i = .int .i64 j ∧ v = .slice A j c ∧ Hid (us.length = j) ∧ Hid (us.map Prod.fst = (V.map Prod.fst).take j) ∧
    Hid (wr.ownsRow w.heap.size 88 9 (.slice A j c) j (cellsC us)) ∧ Hid (EntsO wr w.heap.size (us.map evC)) ∧ Hid (∀ k, k < w3.heap.size → k ≠ w.heap.size → wr.heap[k]? = w3.heap[k]?) ∧ Hid (w3.heap.size ≤ wr.heap.size) ∧ Hid (∀ a, A = some a → a.block = w.heap.size ∨ w3.heap.size ≤ a.block) ∧ Hid (Below w.heap.size w wr)) (fun _ i _ => V.length - (intOf i).toNat)
  case atStart => exact ⟨0, [], _, _, Nat.zero_le _, rfl, rfl, Lib.hid rfl, Lib.hid rfl, HM3, Lib.hid (entsO_nil _ _), Lib.hid (fun _ _ _ => rfl), Lib.hid (Nat.le_refl _), Lib.hid (fun a h => by injection h with h; subst h; exact Or.inl rfl), HBW⟩
  case round =>
    obtain ⟨j, us, A, cA, hj, rfl, rfl, HUL, HM, HO, HE, HKP, HWS, HAB, HB⟩ := hrel
    by_cases hlt : j < V.length
    · obtain ⟨x, hx⟩ : ∃ x, V[j] = x := ⟨_, rfl⟩
      have hxm : x ∈ V := by rw [← hx]; exact List.getElem_mem hlt
      obtain ⟨bk', o, rfl, hbl, hc⟩ := HRK.out.open_ (by simp; omega)
      have hbge : w.heap.size < bk' := by have h1 := (ownIn HOWN.out rfl).1; have h2 := HB1.out.size; simp at h1; omega
      have hcell : wr.cell? ⟨bk', o + j, none⟩ = some (.string ⟨x.1.e.k.toArray⟩) := by
        rw [World.cell?_of_block (w := w3) (a := ⟨bk', o + j, none⟩) (HKP.out bk' hbl (by omega)), hc j (by simpa using hlt)]
        simp [hx]
      have hTr := H.out.below HB.out
      have d4 := hTr.c4
      have hgl : g < wr.heap.size := hTr.lt g hTr.fg
      have hlook := look_okL hTr (k := x.1.e.k) (by have := (sizE_le (HOK.out x hxm)).2.1; unfold maxLen; omega) false wr (Below.refl _ _)
      rw [show oldC V x.1.e.k = x by unfold oldC; rw [get_mem HS.out hxm]; rfl] at hlook
      simp only [if_false, Bool.false_eq_true] at hlook
      unfold cV at hlook
      have HCB : Hid (Below wr.heap.size wr (wr.alloc (.cells #[.string ⟨x.1.e.k.toArray⟩, .int .i64 x.1.e.s, .int .i64 x.1.e.u, .int .i64 x.1.e.o, .bool x.1.e.has, .slice x.2.1 x.1.e.v.length x.2.2, .bool x.1.wh, .bool x.1.cl, .int .i64 x.1.us] 88))) := Lib.hid ((Below.refl _ _).alloc (Nat.le_refl _) _)
      have HC := Lib.hid (copyE_any ⟨x.1.e.k.toArray⟩ x.1.e.s x.1.e.u x.1.e.o x.1.e.has x.2.1 x.1.e.v x.1.e.v.length x.2.2 rfl _ (((hTr.val x hxm).ok (sizE_le (HOK.out x hxm)).2.2.1).below HCB.out))
      have HX1 := Lib.hid (Blk.new wr 88 #[.string ⟨x.1.e.k.toArray⟩, .int .i64 x.1.e.s, .int .i64 x.1.e.u, .int .i64 x.1.e.o, .bool x.1.e.has, .slice x.2.1 x.1.e.v.length x.2.2, .bool x.1.wh, .bool x.1.cl, .int .i64 x.1.us])
      have hsn : (V.map Prod.fst).take (j + 1) = (V.map Prod.fst).take j ++ [x.1] := by
        rw [List.take_succ_eq_append_getElem (by simpa using hlt)]
        simp [hx]
      have HSN := Lib.hid hsn
      have HBG := Lib.hid hbge
      have hji : (0 : Int) ≤ (j : Int) := by omega
      have hji2 : (j : Int) < (V.length : Int) := by omega
      have hjn := HN.out
      clear hTr hc hsn hx hxm hbge
      go_wp2_with fail
      refine HC.out.mono ?_
      rintro e w4 ⟨A4, c4, rfl, ho4, hb4⟩
      obtain ⟨y, hy⟩ : ∃ y : CV, y = (x.1, A4, c4) := ⟨_, rfl⟩
      have hO4 : OwnE w4 wr.heap.size (evC y) := by rw [hy]; exact ownBase ho4 (by simp)
      have HX4 := Lib.hid (HX1.out.below hb4 HX1.out.lt)
      have hbx : Below wr.heap.size wr w4 := HCB.out.trans (hb4.mono HCB.out.size)
      have hlt4 : wr.heap.size < w4.heap.size := Nat.lt_of_lt_of_le HX1.out.lt hb4.size
      have z0 := HX4.out.frozen 0
      have z1 := HX4.out.frozen 1
      have z2 := HX4.out.frozen 2
      have z3 := HX4.out.frozen 3
      have z4 := HX4.out.frozen 4
      have z5 := HX4.out.frozen 5
      have r0 := HX4.out.is 0 _ rfl
      have r1 := HX4.out.is 1 _ rfl
      have r2 := HX4.out.is 2 _ rfl
      have r3 := HX4.out.is 3 _ rfl
      have r4 := HX4.out.is 4 _ rfl
      have r5 := HX4.out.is 5 _ rfl
      have r6 := HX4.out.is 6 _ rfl
      have r7 := HX4.out.is 7 _ rfl
      have r8 := HX4.out.is 8 _ rfl
      obtain ⟨W6, hW6⟩ : ∃ W6, ((((((w4.setCell ⟨wr.heap.size, 0, none⟩ (.string ⟨x.1.e.k.toArray⟩)).setCell ⟨wr.heap.size, 1, none⟩ (.int .i64 x.1.e.s)).setCell ⟨wr.heap.size, 2, none⟩ (.int .i64 x.1.e.u)).setCell ⟨wr.heap.size, 3, none⟩ (.int .i64 x.1.e.o)).setCell ⟨wr.heap.size, 4, none⟩ (.bool x.1.e.has)).setCell ⟨wr.heap.size, 5, none⟩ (.slice A4 x.1.e.v.length c4)) = W6 := ⟨_, rfl⟩
      have hk6 : ∀ k, k ≠ wr.heap.size → W6.heap[k]? = w4.heap[k]? := fun k hk => by rw [← hW6]; exact heap_set6 hk _ _ _ _ _ _
      have hs6 : W6.heap.size = w4.heap.size := by rw [← hW6]; simp [World.setCell]
      have hb6 : Below wr.heap.size wr W6 := by
        rw [← hW6]
        exact below_set (below_set (below_set (below_set (below_set (below_set hbx (Nat.le_refl _) _ _) (Nat.le_refl _) _ _) (Nat.le_refl _) _ _) (Nat.le_refl _) _ _) (Nat.le_refl _) _ _) (Nat.le_refl _) _ _
      have hX6 : Blk W6 wr.heap.size 88 #[.string ⟨x.1.e.k.toArray⟩, .int .i64 x.1.e.s, .int .i64 x.1.e.u, .int .i64 x.1.e.o, .bool x.1.e.has, .slice A4 x.1.e.v.length c4, .bool x.1.wh, .bool x.1.cl, .int .i64 x.1.us] := by
        rw [← hW6]
        simpa using (((((HX4.out.set_ 0 (.string ⟨x.1.e.k.toArray⟩)).set_ 1 (.int .i64 x.1.e.s)).set_ 2 (.int .i64 x.1.e.u)).set_ 3 (.int .i64 x.1.e.o)).set_ 4 (.bool x.1.e.has)).set_ 5 (.slice A4 x.1.e.v.length c4)
      have HBL : Hid (Blk (W6.alloc (.cells ⟨cellC y⟩ 88)) w4.heap.size 88 ⟨cellC y⟩) := Lib.hid (by rw [← hs6]; exact Blk.new _ _ _)
      have hal : ∀ ob, Below W6.heap.size W6 (W6.alloc ob) := fun ob => (Below.refl _ _).alloc (Nat.le_refl _) ob
      have hO6 : OwnE W6 wr.heap.size (evC y) := ownKeep hO4 fun a ha => hk6 _ (fun e1 => ownNe hO4 HX4.out (by decide) ha e1)
      have HO4 : Hid (∀ ob, (W6.alloc ob).ownsRow w.heap.size 88 9 (.slice A j cA) j (cellsC us)) := Lib.hid fun ob => ownLater (ownLater HO.out hb6) (hal ob)
      have HE4 : Hid (∀ ob, EntsO (W6.alloc ob) w.heap.size ((us ++ [y]).map evC)) := Lib.hid fun ob => by
        rw [List.map_append]
        exact entsO_below (entsO_app (entsO_below HE.out hb6) (entsO_one (ownBase hO6 HB.out.size))) (hal ob)
      have HB4 : Hid (∀ ob, Below w.heap.size w (W6.alloc ob)) := Lib.hid fun ob => (HB.out.trans (hb6.mono HB.out.size)).trans ((hal ob).mono (HB.out.trans (hb6.mono HB.out.size)).size)
      have HK4 : Hid (∀ ob, ∀ k, k < wr.heap.size → (W6.alloc ob).heap[k]? = wr.heap[k]?) := Lib.hid fun ob k hk => ((hal ob).block k (Nat.lt_of_lt_of_le hk hb6.size)).trans (hb6.block k hk)
      have HW4 : Hid (wr.heap.size ≤ w4.heap.size ∧ W6.heap.size = w4.heap.size) := Lib.hid ⟨by omega, hs6⟩
      have q0 := hX6.is 0 _ rfl
      have q1 := hX6.is 1 _ rfl
      have q2 := hX6.is 2 _ rfl
      have q3 := hX6.is 3 _ rfl
      have q4 := hX6.is 4 _ rfl
      have q5 := hX6.is 5 _ rfl
      have q6 := hX6.is 6 _ rfl
      have q7 := hX6.is 7 _ rfl
      have q8 := hX6.is 8 _ rfl
      subst hy
      clear ho4 hb4 hal hO4 hO6 HC hk6 hb6 hX6 hbx
      go_wp2_with (at_builtin; refine wpList_appS (P := Tryz.prog) (by rfl) _ _ _ (by rfl) w.heap.size 88 i0 (cV (cvN [])) 9 88 Tryz.underlying31 hi0 hz0 hz1 hz2 rfl (by decide) _ j (cellsC us) (by rfl) (by exact HO4.out _) (w4.heap.size + 1) (some ⟨w4.heap.size, 0, none⟩) 1 1 (cellsC [(x.1, A4, c4)]) (by first | rfl | (rw [hs6]; rfl)) (by rfl) (by exact cell_lit HBL.out (by omega)) (cellsC_one _) (by have := hjn; unfold maxLen; omega) (by have := hjn; omega) (by have := (HB4.out (.cells ⟨cellC (x.1, A4, c4)⟩ 88)).size; exact this) ?_)
      intro v' w5 hown hgr hat
      obtain ⟨A5, c5, rfl, _, _⟩ := ownShape hown
      have HB5 : Hid (Below w.heap.size w w5) := Lib.hid ((HB4.out _).grown hgr (HB4.out _).size fun g h => ((HO4.out (.cells ⟨cellC (x.1, A4, c4)⟩ 88)).lt g h).1)
      have HE5 : Hid (EntsO w5 w.heap.size ((us ++ [(x.1, A4, c4)]).map evC)) := Lib.hid (entsO_grown (HE4.out (.cells ⟨cellC (x.1, A4, c4)⟩ 88)) (HO4.out _) (by decide) hgr)
      have HK5 : Hid (∀ k, k < w3.heap.size → k ≠ w.heap.size → w5.heap[k]? = w3.heap[k]?) := Lib.hid fun k hk hne => by
        have h3 := HWS.out
        refine (hgr.block k (by have h2 := HW4.out; simp; omega) fun e => ?_).trans ((HK4.out _ k (by omega)).trans (HKP.out k hk hne))
        cases A with
        | none => cases e
        | some a =>
          have e2 : k = a.block := by simpa [Value.ownBlock] using e
          rcases HAB.out a rfl with h | h <;> omega
      have HAB5 : Hid (∀ a, A5 = some a → a.block = w.heap.size ∨ w3.heap.size ≤ a.block) := Lib.hid fun a ha => by
        subst ha
        rcases hat with h | h
        · cases A with
          | none => cases h
          | some a' =>
            have e2 : a.block = a'.block := by simpa [Value.ownBlock] using h
            rw [e2]; exact HAB.out a' rfl
        · have h2 := HW4.out
          have h3 := HWS.out
          have e2 : a.block = w4.heap.size + 1 := by simpa [Value.ownBlock] using h
          exact Or.inr (by omega)
      have HS5 : Hid (w3.heap.size ≤ w5.heap.size) := Lib.hid (by have h1 := hgr.size; have h2 := HW4.out; have h3 := HWS.out; simp at h1; omega)
      have HO5 := Lib.hid hown
      clear hown hgr hat HO4 HE4 HB4 HK4 HO HE HB hW6
      go_wp2
      go_roundw
      case rel => exact ⟨j + 1, us ++ [(x.1, A4, c4)], A5, c5, by omega, by go_num, rfl, Lib.hid (by rw [List.length_append, HUL.out]; rfl), Lib.hid (by rw [List.map_append, HM.out, HSN.out]; rfl), Lib.hid (by rw [cellsC_app]; exact HO5.out), HE5, HK5, HS5, HAB5, HB5⟩
      case measure => simp [intOf]; omega
    · obtain rfl : j = V.length := by omega
      have ht : (V.map Prod.fst).take V.length = V.map Prod.fst := List.take_of_length_le (by simp)
      rw [ht] at HM
      go_wp2
      go_ret
      have hl := HUL.out
      have ho := HO.out
      rw [← hl] at ho ⊢
      exact ⟨us, A, cA, HM.out, rfl, ho, HE.out, HB.out⟩
end Go.Proofs.YtpebhfjcakllmaaGreat
