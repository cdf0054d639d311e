/- Numbers that are sorted, numbers that are taken off, by Go's package slices; who is in a list; what two lists have in common. -/
import Derived.Test.YtafajikjojpaaaaQmB
import Derived.Test.YtafajikjojpaaaaLay10s
import Derived.Test.YtafajikjojpaaaaLay10d
import Derived.Shelf.SortM.Plain
import Derived.Shelf.SortM.SortNone
import Derived.Shelf.SlicesE.DeleteFunc
import Derived.Shelf.GgSortFunc.Compose
import Derived.Laws.EntriesVeiled
namespace Go.Proofs.Ytafajikjojpaaaa
open Go.RowKit Mem Rg Go.Lib Go.Sort
set_option maxRecDepth 100000
set_option maxHeartbeats 4000000
set_option linter.unusedVariables false
theorem holdsI {B g cap : Nat} {xs : List Int} {w : World} (ho : OwnI B xs (.slice (some ⟨g, 0, none⟩) xs.length cap) w) : Holds (Value.int .i64) w g 0 xs.toArray := by
  have hgt := ho.lt g rfl
  have hBlk : ∃ cur, Blk w g 3 cur := by
    rcases ho.2 with ⟨h, _⟩ | ⟨g', cap', cur, hv, _, hh, _⟩
    · cases h
    · injection hv with h1 _ _
      injection h1 with h1
      injection h1 with h1 _ _
      subst h1
      exact ⟨cur, hh⟩
  obtain ⟨cur, hcur⟩ := hBlk
  intro j hj
  have hj2 : j < xs.length := by simpa using hj
  refine ⟨?_, by rw [Nat.zero_add]; exact hcur.frozen j⟩
  rw [Nat.zero_add, ho.cellAt j (by omega), getElem!_pos xs.toArray j hj]
  simp [iV, hj2]
theorem row_holds {w : World} {g : Nat} {xs : List Int} (h : Holds (Value.int .i64) w g 0 xs.toArray) (hg : g < w.heap.size) : Row w w.heap.size (some ⟨g, 0, none⟩) (xs.map iV) := by
  refine Or.inr ⟨g, 0, rfl, hg, fun j hj => ?_⟩
  have hj2 : j < xs.length := by simpa using hj
  have := (h j (by simpa using hj2)).1
  rw [this, getElem!_pos xs.toArray j (by simpa using hj2)]
  simp [iV]
theorem below_sortI (B : Nat) (w : World) (g m : Nat) (d : Array Int) (os : Array Obj) (hB : B ≤ g) (hBw : B ≤ w.heap.size) : Below B w (grow (putRow (Value.int .i64) (Sort.ahead w m) g 0 d) os) := by
  have e : ∀ k, k ≠ g → (putRow (Value.int .i64) (Sort.ahead w m) g 0 d).heap[k]? = w.heap[k]? := fun k hk => by
    show (Array.modify w.heap g _)[k]? = _
    rw [Array.getElem?_modify, if_neg (fun h => hk h.symm)]
  have es : (putRow (Value.int .i64) (Sort.ahead w m) g 0 d).heap.size = w.heap.size := by
    show (Array.modify w.heap g _).size = _
    simp
  refine ⟨rfl, rfl, rfl, by rw [size_grow, es]; omega, fun k hk => ?_⟩
  rw [heap_grow_old _ _ (by rw [es]; omega)]
  exact e k (by omega)
theorem kept_sortI (w : World) (g m : Nat) (d : Array Int) (os : Array Obj) : KeptB (fun k => k < w.heap.size ∧ k ≠ g) w (grow (putRow (Value.int .i64) (Sort.ahead w m) g 0 d) os) := by
  have es : (putRow (Value.int .i64) (Sort.ahead w m) g 0 d).heap.size = w.heap.size := by
    show (Array.modify w.heap g _).size = _
    simp
  refine ⟨by rw [size_grow, es]; omega, fun k hk => ?_⟩
  rw [heap_grow_old _ _ (by rw [es]; omega)]
  show (Array.modify w.heap g _)[k]? = _
  rw [Array.getElem?_modify, if_neg (fun h => hk.2 h.symm)]
def srt (xs : List Int) : List Int := xs.mergeSort fun x y => decide (x ≤ y)
theorem srt_len (xs : List Int) : (srt xs).length = xs.length := (List.mergeSort_perm xs _).length_eq
theorem srt_mem {xs : List Int} {x : Int} : x ∈ srt xs ↔ x ∈ xs := (List.mergeSort_perm xs _).mem_iff
theorem srt_le (xs : List Int) : (srt xs).Pairwise (· ≤ ·) := by
  have := List.pairwise_mergeSort (le := fun x y : Int => decide (x ≤ y)) (fun a b c h1 h2 => by simp at *; omega) (fun a b => by simp; omega) xs
  exact this.imp fun h => by simpa using h
/-- A list of its own is sorted. -/
theorem sorti_any (B c : Nat) (A : Option Addr) (xs : List Int) (w : World) (ho : OwnI B xs (.slice A xs.length c) w) (hB : B ≤ w.heap.size) (hl : xs.length ≤ 17592186044416) :
    Calls Try.prog 40 #[.slice A xs.length c] w fun e w' => e = .returned (.tuple #[]) ∧ Row w' w'.heap.size A ((srt xs).map iV) ∧ Below B w w' ∧ KeptB (fun k => k < w.heap.size ∧ ∀ g, A = some ⟨g, 0, none⟩ → k ≠ g) w w' := by
  rcases Nat.eq_zero_or_pos xs.length with h0 | h0
  · have hx : xs = [] := List.length_eq_zero_iff.1 h0
    subst hx
    have hcon := AnyM.slices_Sort_int_none Try.sortI A c w
    have hcon2 : Calls Try.prog 40 #[.slice A 0 c] w _ := hcon
    refine hcon2.mono ?_
    rintro e w' ⟨rfl, rfl⟩
    exact ⟨rfl, Or.inl (by simp [srt]), Below.mono (Below.refl w'.heap.size _) hB, Nat.le_refl _, fun _ _ => rfl⟩
  · obtain ⟨g, rfl⟩ : ∃ g, A = some ⟨g, 0, none⟩ := by
      rcases ho.2 with ⟨_, hn⟩ | ⟨g', cap', cur, hv, _⟩
      · omega
      · injection hv with h1 _ _
        exact ⟨g', h1⟩
    have hgt := ho.lt g rfl
    have hH := holdsI ho
    have hcon := AnyM.slices_Sort_int Try.sortI g 0 c xs w hH hgt.2 (by omega)
    have hcon2 : Calls Try.prog 40 #[.slice (some ⟨g, 0, none⟩) xs.length c] w _ := hcon
    refine hcon2.mono ?_
    rintro e w' ⟨rfl, n, os, rfl⟩
    have hK : Holds (Value.int .i64) (sortWorld (Value.int .i64) w g 0 n (srt xs).toArray os) g 0 (srt xs).toArray := holds_sortWorld (Value.int .i64) w g 0 n xs.toArray _ os hgt.2 hH (by simpa using srt_len xs)
    exact ⟨rfl, row_holds hK (lt_sortWorld (Value.int .i64) w g 0 n _ os hgt.2), below_sortI B w g n _ os hgt.1 hB, (kept_sortI w g n _ os).1, fun k hk => (kept_sortI w g n _ os).2 k ⟨hk.1, hk.2 g rfl⟩⟩
/-- A function value that tells who is in a list. -/
def InE (l : List Int) (w : World) (e : Ending) (w' : World) : Prop :=
  ∃ g, e = .returned (.func (.func 41) #[] #[.pointer (some ⟨g, 0, none⟩)]) ∧ Fnd (fun k => w.heap.size ≤ k ∧ k < w'.heap.size) w' g l ∧ Below w.heap.size w w'
theorem within_any (n c B : Nat) (A : Option Addr) (l : List Int) (hn : n = l.length) (hl : n ≤ 1000000) (w : World) (h : Row w B A (l.map iV)) (hB : B ≤ w.heap.size) :
    Calls Try.prog 33 #[.slice A n c] w (InE l w) := by
  have HCL := Lib.hid (clonei_any B c n A l hn w h hB (by omega))
  have HLL : Hid (l.length ≤ 1000000) := Lib.hid (by omega)
  clear h hn hl
  go_enter Try.func33, Try.ntmps33
  go_wp2_with fail
  refine HCL.out.mono ?_
  rintro e1 w1 ⟨A1, c1, rfl, ho1, hb1⟩
  have hal : Below w1.heap.size w1 (w1.alloc (.cells #[.slice A1 l.length c1] 22)) := (Below.refl _ _).alloc (Nat.le_refl _) _
  have HO1 := Lib.hid (ownLater ho1 hal)
  have HB1 := Lib.hid hb1
  have HSRT := Lib.hid (sorti_any w.heap.size c1 A1 l (w1.alloc (.cells #[.slice A1 l.length c1] 22)) HO1.out (Nat.le_trans hb1.size hal.size) (by have := HLL.out; omega))
  have HAL := Lib.hid hal
  have HO := Lib.hid ho1
  clear hb1 hal ho1
  go_wp2_with fail
  refine HSRT.out.mono ?_
  rintro e2 w2 ⟨rfl, hr2, hb2, hk2⟩
  have HRES : Hid (InE l w (.returned (.func (.func 41) #[] #[.pointer (some ⟨w1.heap.size, 0, none⟩)])) w2) := Lib.hid (by
    have hbk : Blk (w1.alloc (.cells #[.slice A1 l.length c1] 22)) w1.heap.size 22 #[.slice A1 (srt l).length c1] := by rw [srt_len]; exact Blk.new _ _ _
    have hne : ∀ g, A1 = some ⟨g, 0, none⟩ → w.heap.size ≤ g ∧ g < w1.heap.size := fun g e => HO.out.lt g (by rw [e]; rfl)
    have hsz : (w1.alloc (.cells #[.slice A1 l.length c1] 22)).heap.size = w1.heap.size + 1 := by simp
    have hs2 := hk2.1
    refine ⟨w1.heap.size, rfl, ⟨A1, c1, srt l, (hk2.2 _ ⟨by omega, fun g e => by have := hne g e; omega⟩).trans hbk, hr2, srt_le l, fun x => srt_mem, by rw [srt_len]; exact HLL.out, fun k hk => hk.2, ⟨HB1.out.size, by omega⟩, fun b o e hs => ?_⟩, (HB1.out.trans (HAL.out.mono HB1.out.size)).trans hb2⟩
    rcases hr2 with h | ⟨b', o', e', hb', _⟩
    · exact absurd (by simpa using h) hs
    · rw [e] at e'
      injection e' with e'
      injection e' with e' e'' _
      subst e'; subst e''
      refine ⟨?_, hb'⟩
      rcases HO.out.2 with ⟨hv, hn0⟩ | ⟨g', cap', cur, hv, hg', _⟩
      · injection hv with h1 _ _; rw [e] at h1; cases h1
      · injection hv with h1 _ _
        rw [e] at h1
        injection h1 with h1
        injection h1 with h1 _ _
        omega)
  clear hr2 hb2 hk2
  go_wp2
  go_ret
  exact HRES.out
/-- A list of its own, some numbers taken off (Go's slices.DeleteFunc). -/
theorem deli_any (B c f : Nat) (lb : Array Value) (eg : ∀ args w, (callFunc f args).run Try.prog w = .ok (.enter f args) w) (p : Int → Bool) (A : Option Addr) (xs : List Int) (w : World) (ho : OwnI B xs (.slice A xs.length c) w) (hB : B ≤ w.heap.size) (hl : xs.length ≤ 17592186044416)
    (hp : ∀ (W : World) (x : Int), KeptB (fun k => k < w.heap.size ∧ ∀ g, A = some ⟨g, 0, none⟩ → k ≠ g) w W → Calls Try.prog f (#[.int .i64 x] ++ lb) W fun e w' => e = .returned (.bool (p x)) ∧ ∃ q, w' = W.drewN q) :
    Calls Try.prog 34 #[.slice A xs.length c, .func (.func f) #[] lb] w fun e w' => (∃ c', e = .returned (.slice A (xs.filter fun x => !p x).length c')) ∧ Row w' w'.heap.size A ((xs.filter fun x => !p x).map iV) ∧ Below B w w' := by
  rcases A with _ | a
  · have hx : xs = [] := by
      rcases ho.2 with ⟨_, hn⟩ | ⟨g', cap', cur, hv, _⟩
      · exact List.length_eq_zero_iff.1 hn
      · injection hv with h1 _ _; cases h1
    subst hx
    clear hp ho
    have HI : ∀ W, Calls Try.prog 43 #[.slice none 0 c, .func (.func f) #[] lb] W fun e w' => e = .returned (.int .i64 (-1)) ∧ W = w' := fun W => by
      go_enter Try.func43, Try.ntmps43
      go_wp2
      refine wp_loop_rounds 1 ?_
      rw [rounds_succ]
      go_wp2
      go_ret
      exact ⟨rfl, rfl⟩
    go_enter Try.func34, Try.ntmps34
    go_wp2_with (go_at_call 43; refine (HI _).mono ?_; rintro e w' ⟨rfl, rfl⟩)
    go_ret
    exact ⟨⟨c, rfl⟩, Or.inl rfl, Below.mono (Below.refl w.heap.size _) hB⟩
  · obtain ⟨g, rfl⟩ : ∃ g, a = ⟨g, 0, none⟩ := by
      rcases ho.2 with ⟨hv, hn⟩ | ⟨g', cap', cur, hv, _⟩
      · injection hv with h1 _ _; cases h1
      · injection hv with h1 _ _
        injection h1 with h1
        exact ⟨g', h1⟩
    have hgt := ho.lt g rfl
    have hH := holdsI ho
    have hcap : xs.length ≤ c := by
      rcases ho.2 with ⟨hv, hn⟩ | ⟨g', cap', cur, hv, _, _, hc, _⟩
      · injection hv with h1 _ _; cases h1
      · injection hv with _ _ h3
        omega
    have hrf : ∀ k : Nat, (∀ g', some (⟨g, 0, none⟩ : Addr) = some ⟨g', 0, none⟩ → k ≠ g') ↔ k ≠ g := fun k => ⟨fun h => h g rfl, fun h g' e => by injection e with e; injection e with e _ _; omega⟩
    have hcon := AnyE.slices_DeleteFunc Try.delI (Value.int .i64) (fun _ => rfl) p f lb eg 0 (fun W => zeroI W) g 0 c xs.toArray w
      (fun W x hb => hp W x ⟨hb.size, fun k hk => hb.block k hk.1⟩)
      (fun n os dk x _ => hp _ x ⟨(kept_sortI w g n dk os).1, fun k hk => (kept_sortI w g n dk os).2 k ⟨hk.1, (hrf k).1 hk.2⟩⟩) hH (by simp; omega) (by simpa using hcap)
    have hcon2 : Calls Try.prog 34 #[.slice (some ⟨g, 0, none⟩) xs.length c, .func (.func f) #[] lb] w _ := hcon
    refine hcon2.mono ?_
    simp only [List.size_toArray]
    rintro e w' ⟨rfl, n, rfl⟩
    obtain ⟨fs, hfs⟩ : ∃ fs, (xs.filter fun x => !p x) = fs := ⟨_, rfl⟩
    have hfl : fs.length ≤ xs.length := by rw [← hfs]; exact List.length_filter_le _ _
    rw [hfs]
    have hsz : (fs ++ List.replicate (xs.length - fs.length) (0 : Int)).toArray.size = xs.toArray.size := by simp; omega
    have hK : Holds (Value.int .i64) (sortWorld (Value.int .i64) w g 0 n (fs ++ List.replicate (xs.length - fs.length) (0 : Int)).toArray #[]) g 0 _ := holds_sortWorld (Value.int .i64) w g 0 n xs.toArray _ #[] hgt.2 hH hsz
    have hL := lt_sortWorld (Value.int .i64) w g 0 n (fs ++ List.replicate (xs.length - fs.length) (0 : Int)).toArray #[] hgt.2
    have hR := row_holds hK hL
    have hBl := below_sortI B w g n (fs ++ List.replicate (xs.length - fs.length) (0 : Int)).toArray #[] hgt.1 hB
    unfold sortWorld at hR
    rw [grow_empty] at hR hBl
    refine ⟨⟨c, rfl⟩, ?_, hBl⟩
    rw [List.map_append] at hR
    rcases hR with h | ⟨b, o, e, hb, hc⟩
    · have h := (List.append_eq_nil_iff.1 h).1
      exact Or.inl h
    · exact Or.inr ⟨b, o, e, hb, fun j hj => (hc j (by rw [List.length_append]; omega)).trans (congrArg some (List.getElem_append_left hj))⟩
/-- Numbers, somewhere in memory. -/
def RowE (l : List Int) (w : World) (x : Ending) (w' : World) : Prop := ∃ A c, x = .returned (.slice A l.length c) ∧ Row w' w'.heap.size A (l.map iV) ∧ Below w.heap.size w w'
theorem common_any (n1 c1 n2 c2 : Nat) (A1 A2 : Option Addr) (a b : List Int) (hn1 : n1 = a.length) (hn2 : n2 = b.length) (hl1 : n1 ≤ 1000000) (hl2 : n2 ≤ 1000000) (hw : WfI a) (w : World) (h1 : Row w w.heap.size A1 (a.map iV)) (h2 : Row w w.heap.size A2 (b.map iV)) :
    Calls Try.prog 16 #[.slice A1 n1 c1, .slice A2 n2 c2] w (RowE (cmn a b) w) := by
  have HWI := Lib.hid (within_any n2 c2 w.heap.size A2 b hn2 hl2 w h2 (Nat.le_refl _))
  have HD := Lib.hid fun W (hb : Below w.heap.size w W) => different_any W.heap.size n1 c1 A1 a hn1 (by omega) hw W ((h1.below hb).more hb.size) (Nat.le_refl _)
  have HLE : Hid ((dd [] a).length ≤ 1000000) := Lib.hid (by have := dd_le a []; simp at this; omega)
  have HCM := Lib.hid (cmn_eq a b)
  clear h1 h2 hn1 hn2 hl1 hl2 hw
  go_enter Try.func16, Try.ntmps16
  go_wp2_with fail
  refine HWI.out.mono ?_
  rintro e1 w1 ⟨g, rfl, hf1, hb1⟩
  have hal : Below w1.heap.size w1 (w1.alloc (.cells #[.func (.func 41) #[] #[.pointer (some ⟨g, 0, none⟩)]] 53)) := (Below.refl _ _).alloc (Nat.le_refl _) _
  have HB1 := Lib.hid (hb1.trans (hal.mono hb1.size))
  have HF1 := Lib.hid (hf1.below hal)
  have HK1 := Lib.hid (Blk.new w1 53 #[.func (.func 41) #[] #[.pointer (some ⟨g, 0, none⟩)]])
  have HS1 := Lib.hid hb1.size
  clear hb1 hf1 hal
  go_wp2_with fail
  refine (HD.out _ HB1.out).mono ?_
  rintro e2 w2 ⟨A3, c3, rfl, ho2, hb2⟩
  have HB2 := Lib.hid (HB1.out.trans (hb2.mono HB1.out.size))
  have hf2 := HF1.out.below hb2
  have hk2 := HK1.out.below hb2 HK1.out.lt
  have HDEL := Lib.hid (deli_any _ c3 35 #[.pointer (some ⟨w1.heap.size, 0, none⟩)] (enters_of Try.func35 (by kernel_rfl) rfl) (fun x => !isIn x b) A3 (dd [] a) w2 ho2 hb2.size (by have := HLE.out; omega)
    (fun W x hk => notin_any _ g w1.heap.size b x W (hf2.keep ⟨hk.1, fun k hK => hk.2 k ⟨Nat.lt_of_lt_of_le hK.2 (Nat.le_trans (by simp) hb2.size), fun g' e => by have := (ho2.lt g' (by rw [e]; rfl)).1; simp at this; omega⟩⟩) (by
      have hlt := hk2.lt
      rw [cell_kept (p := ⟨w1.heap.size, 0, none⟩) (hk.2 w1.heap.size ⟨hlt, fun g' e => by have := (ho2.lt g' (by rw [e]; rfl)).1; simp at this; omega⟩)]
      exact hk2.cell 0)))
  have HFE : Hid (((dd [] a).filter fun x => !(!isIn x b)) = cmn a b) := Lib.hid (by rw [HCM.out]; unfold inn; simp)
  rw [HFE.out] at HDEL
  have HBM : Hid ((w1.alloc (.cells #[.func (.func 41) #[] #[.pointer (some ⟨g, 0, none⟩)]] 53)).heap.size ≥ w.heap.size) := Lib.hid HB1.out.size
  clear ho2 hb2 hf2 hk2
  go_wp2_with fail
  refine HDEL.out.mono ?_
  rintro e3 w3 ⟨⟨c4, rfl⟩, hr3, hb3⟩
  have HRES : Hid (RowE (cmn a b) w (.returned (.slice A3 (cmn a b).length c4)) w3) := Lib.hid ⟨A3, c4, rfl, hr3, HB2.out.trans (hb3.mono HBM.out)⟩
  clear hr3 hb3
  go_wp2
  go_ret
  exact HRES.out
end Go.Proofs.Ytafajikjojpaaaa
