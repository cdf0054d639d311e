/- Points that are sorted, by Go's package slices with the program's own comparison; where a word begins among points. -/
import Derived.Test.YtafajikjojpaaaaRgB
import Derived.Test.YtafajikjojpaaaaLay9s
import Derived.StillTailTactics
import Derived.Shelf.SlSortCmp.NoneTotal
namespace Go.Proofs.Ytafajikjojpaaaa
open Go.RowKit Mem Rg Go.Lib Go.Sort
set_option maxRecDepth 100000
set_option maxHeartbeats 2000000
set_option linter.unusedVariables false
/-- How two points stand. -/
def cfP (p q : Pt) : Int := orZ (cmpZ p.1 q.1) (cmpZ p.2 q.2)
theorem ltOf_cfP (p q : Pt) : ltOf cfP p q = decide (ltP p q) := by
  unfold ltOf cfP orZ
  rw [Bool.eq_iff_iff]
  simp only [decide_eq_true_eq]
  rcases Nat.lt_trichotomy p.1 q.1 with h | h | h
  · have e : cmpZ p.1 q.1 = -1 := if_pos (by omega)
    rw [e, if_neg (by decide)]
    exact ⟨fun _ => Or.inl h, fun _ => by decide⟩
  · have e : cmpZ p.1 q.1 = 0 := by unfold cmpZ; rw [if_neg (by omega), if_neg (by omega)]
    rw [e, if_pos rfl]
    rcases Int.lt_trichotomy p.2 q.2 with h2 | h2 | h2
    · have e : cmpZ p.2 q.2 = -1 := if_pos h2
      rw [e]
      exact ⟨fun _ => Or.inr ⟨h, h2⟩, fun _ => by decide⟩
    · have e : cmpZ p.2 q.2 = 0 := by unfold cmpZ; rw [if_neg (by omega), if_neg (by omega)]
      rw [e]
      exact ⟨fun h3 => absurd h3 (by decide), fun h3 => by unfold ltP at h3; omega⟩
    · have e : cmpZ p.2 q.2 = 1 := by unfold cmpZ; rw [if_neg (by omega), if_pos h2]
      rw [e]
      exact ⟨fun h3 => absurd h3 (by decide), fun h3 => by unfold ltP at h3; omega⟩
  · have e : cmpZ p.1 q.1 = 1 := by unfold cmpZ; rw [if_neg (by omega), if_pos (by omega)]
    rw [e, if_neg (by decide)]
    exact ⟨fun h3 => absurd h3 (by decide), fun h3 => by unfold ltP at h3; omega⟩
theorem swoP : SWO (ltOf cfP) where
  irrefl x := by rw [ltOf_cfP]; simpa using ltP_irrefl x
  trans x y z h1 h2 := by rw [ltOf_cfP] at *; simp at *; exact ltP_trans h1 h2
  ntrans x y z h1 h2 := by
    rw [ltOf_cfP] at *
    simp only [decide_eq_false_iff_not] at *
    intro h
    rcases ltP_tri x y with h3 | rfl | h3
    · exact h1 h3
    · exact h2 h
    · exact h2 (ltP_trans h3 h)
theorem totP (x y : Pt) (h1 : ltOf cfP x y = false) (h2 : ltOf cfP y x = false) : x = y := by
  rw [ltOf_cfP] at *
  simp only [decide_eq_false_iff_not] at *
  rcases ltP_tri x y with h3 | h3 | h3
  · exact absurd h3 h1
  · exact h3
  · exact absurd h3 h2
theorem blk_at' {w : World} {g g' : Nat} {t : TypeId} {cs : Array Value} (e : g = g') (h : Blk w g' t cs) : Blk w g t cs := by subst e; exact h
theorem closure_any (x y : Pt) (W : World) : Calls Try.prog 75 #[.agg #[.int .u64 (x.1 : Int), .int .i64 x.2], .agg #[.int .u64 (y.1 : Int), .int .i64 y.2]] W fun e w' => e = .returned (.int .i64 (cfP x y)) ∧ ∃ q os', w' = grow (W.drewN q) os' := by
  obtain ⟨a, b⟩ := x
  obtain ⟨c, d⟩ := y
  unfold cfP
  simp only
  obtain ⟨u, hu⟩ : ∃ u, cmpZ (a : Int) (c : Int) = u := ⟨_, rfl⟩
  obtain ⟨v, hv⟩ : ∃ v, cmpZ b d = v := ⟨_, rfl⟩
  have c1 := fun w => cmpu_any (a : Int) (c : Int) w
  have c2 := fun w => cmpi_any b d w
  rw [hu] at c1
  rw [hv] at c2
  rw [hu, hv]
  have C1 := Lib.hid c1
  have C2 := Lib.hid c2
  clear hu hv c1 c2
  go_enter Try.func75, Try.ntmps75
  go_wp2
  obtain ⟨os, hos⟩ : ∃ os, (W.alloc (.cells #[.int .u64 (a : Int), .int .i64 b] 77)).alloc (.cells #[.int .u64 (c : Int), .int .i64 d] 77) = grow W os := ⟨_, by rw [alloc_eq_grow, alloc_eq_grow, grow_grow]⟩
  have k1 : Blk ((W.alloc (.cells #[.int .u64 (a : Int), .int .i64 b] 77)).alloc (.cells #[.int .u64 (c : Int), .int .i64 d] 77)) W.heap.size 77 #[.int .u64 (a : Int), .int .i64 b] := (Blk.new _ _ _).alloc _
  have k2 : Blk ((W.alloc (.cells #[.int .u64 (a : Int), .int .i64 b] 77)).alloc (.cells #[.int .u64 (c : Int), .int .i64 d] 77)) (W.heap.size + 1) 77 #[.int .u64 (c : Int), .int .i64 d] := blk_at' (by simp) (Blk.new _ _ _)
  generalize (W.alloc (.cells #[.int .u64 (a : Int), .int .i64 b] 77)).alloc (.cells #[.int .u64 (c : Int), .int .i64 d] 77) = W2 at hos k1 k2 ⊢
  refine wp_region_still_tail 10 (by kernel_rfl) (by kernel_rfl) ?_
  change wpStill _ _ W2.drew (fun a' => wpList _ _ _ _ a' W2.drew) _ _
  have f0 : W2.drew.cell? ⟨W.heap.size, 0, none⟩ = some (.int .u64 (a : Int)) := k1.cell 0
  have f1 : W2.drew.cell? ⟨W.heap.size, 1, none⟩ = some (.int .i64 b) := k1.cell 1
  have f2 : W2.drew.cell? ⟨W.heap.size + 1, 0, none⟩ = some (.int .u64 (c : Int)) := k2.cell 0
  have f3 : W2.drew.cell? ⟨W.heap.size + 1, 1, none⟩ = some (.int .i64 d) := k2.cell 1
  have hW3 : W2.drew = grow (W.drewN 1) os := by rw [hos, drew_grow]; rfl
  clear k1 k2 hos
  generalize W2.drew = W3 at hW3 f0 f1 f2 f3 ⊢
  have HW3 := Lib.hid hW3
  clear hW3
  simp only [List.take_succ_cons, List.take_zero, List.drop_succ_cons, List.drop_zero]
  repeat still_step
  still_call ((C1.out _).mono fun _ _ h => ⟨h.1, h.2.symm⟩)
  repeat still_step
  still_call ((C2.out _).mono fun _ _ h => ⟨h.1, h.2.symm⟩)
  refine wpStill_nil ?_
  go_wp2_with fail
  refine (or_any u v W3.heap.size _ ?_ ?_).mono ?_
  · exact (Blk.new _ _ _).cell 0
  · exact (Blk.new _ _ _).cell 1
  rintro e w' ⟨rfl, rfl⟩
  go_wp2
  go_ret
  exact ⟨rfl, 1, _, by rw [HW3.out, alloc_eq_grow, grow_grow]⟩
theorem cmpLaysP (g size : Nat) (w : World) : CmpLays Try.prog 75 #[] ptC 2 cfP g 0 size w := fun _ _ _ _ x y => closure_any x y _
theorem below_sort (B : Nat) (w : World) (g m : Nat) (d : Array Pt) (os : Array Obj) (hB : B ≤ g) (hBw : B ≤ w.heap.size) (hg : g < w.heap.size) : Below B w (sortWorldK ptC 2 w g 0 m d os) := by
  unfold sortWorldK
  have e : ∀ k, k ≠ g → (putRowK ptC 2 (Sort.ahead w m) g 0 d).heap[k]? = w.heap[k]? := fun k hk => by
    show (Array.modify w.heap g _)[k]? = _
    rw [Array.getElem?_modify, if_neg (fun h => hk h.symm)]
  have es : (putRowK ptC 2 (Sort.ahead w m) g 0 d).heap.size = w.heap.size := by
    show (Array.modify w.heap g _).size = _
    simp
  refine ⟨rfl, rfl, rfl, by rw [size_grow, es]; omega, fun k hk => ?_⟩
  rw [heap_grow_old _ _ (by rw [es]; omega)]
  exact e k (by omega)
def sortedP (l : List Pt) : List Pt := l.mergeSort fun x y => !ltOf cfP y x
theorem sortedP_perm (l : List Pt) : (sortedP l).Perm l := List.mergeSort_perm l _
theorem sortedP_sl {l : List Pt} (h : l.Nodup) : SL (sortedP l) := by
  have h1 : (sortedP l).Pairwise fun x y => (!ltOf cfP y x) = true := by
    refine List.pairwise_mergeSort (fun a b c h1 h2 => ?_) (fun a b => ?_) l
    · simp only [ltOf_cfP, Bool.not_eq_true', decide_eq_false_iff_not] at *
      intro h3
      rcases ltP_tri b c with h | rfl | h
      · exact h1 (ltP_trans h h3)
      · exact h1 h3
      · exact h2 h
    · simp only [ltOf_cfP, Bool.or_eq_true, Bool.not_eq_true', decide_eq_false_iff_not]
      rcases ltP_tri a b with h | rfl | h
      · exact Or.inl fun h3 => ltP_asymm h h3
      · exact Or.inl (ltP_irrefl _)
      · exact Or.inr fun h3 => ltP_asymm h h3
  have h2 : (sortedP l).Nodup := (sortedP_perm l).nodup_iff.2 h
  have h3 := List.Pairwise.and h1 h2
  refine h3.imp fun {a b} ⟨hx, hy⟩ => ?_
  simp only [ltOf_cfP, Bool.not_eq_true', decide_eq_false_iff_not] at hx
  rcases ltP_tri a b with h | h | h
  · exact h
  · exact absurd h hy
  · exact absurd h hx
theorem ptsC_flat (l : List Pt) (t : Nat) (h : t < l.length * 2) : (ptsC l)[t]? = some ((ptC (l.toArray[t / 2]!))[t % 2]!) := by
  have h2 : t / 2 < l.length := by omega
  have e := ptsC_at l (t / 2) h2 (t % 2) (by omega)
  rw [show t / 2 * 2 + t % 2 = t by omega] at e
  rw [e, getElem!_pos l.toArray (t / 2) (by simpa using h2)]
  have hlt : t % 2 < (ptC l[t / 2]).length := by show t % 2 < 2; omega
  rw [List.getElem?_eq_getElem hlt]
  simp only [List.getElem_toArray]
  exact congrArg some (getElem!_pos (ptC l[t / 2]) (t % 2) hlt).symm
theorem sortpt_any (l : List Pt) (g cap B : Nat) (w : World) (ho : w.ownsRow B 77 2 (.slice (some ⟨g, 0, none⟩) l.length cap) l.length (ptsC l)) (hB : B ≤ w.heap.size) (hl : l.length ≤ 1000000) :
    Calls Try.prog 74 #[.slice (some ⟨g, 0, none⟩) l.length cap, .func (.func 75) #[] #[]] w fun e w' => e = .returned (.tuple #[]) ∧ Row w' w'.heap.size (some ⟨g, 0, none⟩) (ptsC (sortedP l)) ∧ Below B w w' := by
  have hgt := ho.lt g rfl
  have hBlk : ∃ cur, Blk w g 77 cur := by
    rcases ho.2 with ⟨h, _⟩ | ⟨g', cap', cur, hv, _, hh, _⟩
    · cases h
    · injection hv with h1 _ _
      injection h1 with h1
      injection h1 with h1 _ _
      subst h1
      exact ⟨cur, hh⟩
  obtain ⟨cur, hcur⟩ := hBlk
  have hH : HoldsK ptC 2 w g 0 l.toArray := fun t ht => by
    have ht2 : t < l.length * 2 := by simpa [flatK] using ht
    refine ⟨?_, by rw [Nat.zero_add]; exact hcur.frozen t⟩
    rw [Nat.zero_add, ho.cellAt t (by omega), ptsC_flat l t ht2]
    show _ = some (id ((flatK ptC 2 l.toArray)[t]!))
    rw [get_flatK ptC 2 l.toArray t (by simpa using ht2)]
    rfl
  have eg : ∀ args w, (callFunc 75 args).run Try.prog w = .ok (.enter 75 args) w := enters_of Try.func75 (by kernel_rfl) rfl
  have hcon := AnyQ.slices_SortFunc_total Try.sortPt 2 Try.isAgg77 Try.sizeOf77 ptC (fun _ => rfl) (fun x v hv => by simp [ptC] at hv; rcases hv with rfl | rfl <;> rfl) cfP swoP 75 #[] g 0 cap l.toArray w eg (cmpLaysP g _ w) hH hgt.2 (by simp; omega) totP
  have hcon2 : Calls Try.prog 74 #[.slice (some ⟨g, 0, none⟩) l.length cap, .func (.func 75) #[] #[]] w _ := hcon
  refine hcon2.mono ?_
  rintro e w' ⟨rfl, n, os, rfl⟩
  have hs : (sortedP l).length = l.length := (sortedP_perm l).length_eq
  have hK : HoldsK ptC 2 (sortWorldK ptC 2 w g 0 n (sortedP l).toArray os) g 0 (sortedP l).toArray := holdsK_sortWorldK_c ptC 2 w g 0 l.toArray _ n os hH hgt.2 (by simpa using hs)
  refine ⟨rfl, Or.inr ⟨g, 0, rfl, ?_, fun j hj => ?_⟩, ?_⟩
  · have := size_sortWorldK_c ptC 2 w g 0 n (sortedP l).toArray os
    exact Nat.lt_of_lt_of_le hgt.2 this
  · have hj2 : j < (sortedP l).length * 2 := by rw [ptsC_len] at hj; exact hj
    have h1 := (hK j (by simpa [flatK] using hj2)).1
    have h2 := ptsC_flat (sortedP l) j hj2
    rw [List.getElem?_eq_getElem hj] at h2
    have e2 : (flatK ptC 2 (sortedP l).toArray)[j]! = (ptsC (sortedP l))[j] := by
      rw [get_flatK ptC 2 _ j (by simpa using hj2)]
      injection h2 with h2
      exact h2.symm
    rw [← e2]
    exact h1
  · exact below_sort B w g n _ os hgt.1 hB hgt.2
end Go.Proofs.Ytafajikjojpaaaa
