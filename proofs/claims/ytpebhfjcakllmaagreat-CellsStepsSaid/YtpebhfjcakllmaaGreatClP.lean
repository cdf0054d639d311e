/- ClP: Package cells: oldest. -/
import Derived.Test.YtpebhfjcakllmaaGreatClO
namespace Go.Proofs.YtpebhfjcakllmaaGreat
open Go.RowKit Mem Be Word Rg Go.Maps
set_option maxRecDepth 10000
set_option maxHeartbeats 1000000
set_option linter.unusedVariables false
/-- The key of the clean cell that was used least lately, of other keys; or none. -/
def oldK (T : List CP) (k : List UInt8) : List UInt8 := match oldS T k with | some x => x.e.k | none => []
def QC (k : List UInt8) (y : CV) : Prop := y.1.e.k ≠ k ∧ y.1.cl = true
/-- What the search has by then. -/
def OldI (V : List CV) (k : List UInt8) (left : Lit → Bool) (l : List UInt8) (u : Int) : Prop :=
  (u = 0 ∧ l = [] ∧ ∀ y ∈ V, QC k y → left (.string y.1.e.k) = true) ∨
  ∃ m ∈ V, QC k m ∧ left (.string m.1.e.k) = false ∧ l = m.1.e.k ∧ u = m.1.us ∧ 1 ≤ u ∧ ∀ y ∈ V, QC k y → left (.string y.1.e.k) = false → u ≤ y.1.us
theorem oldI_start {V : List CV} (hV : SortT kC V) (k : List UInt8) : OldI V k (Maps.has (tbDC V)) [] 0 := Or.inl ⟨rfl, rfl, fun y hy _ => by
  rw [has_iffC, show getK kC V y.1.e.k = some y from get_mem hV hy]; rfl⟩
theorem left_next {left : Lit → Bool} {V : List CV} {x y : CV} (hV : SortT kC V) (hx : x ∈ V) (hy : y ∈ V) : (left (.string y.1.e.k) && !(Lit.string y.1.e.k).sameKey (.string x.1.e.k)) = false → left (.string y.1.e.k) = false ∨ y = x := fun h => by
  cases hl : left (.string y.1.e.k) with
  | false => exact Or.inl rfl
  | true =>
    rw [hl] at h
    have hk : y.1.e.k = x.1.e.k := by
      have : (y.1.e.k == x.1.e.k) = true := by
        have e : (Lit.string y.1.e.k).sameKey (.string x.1.e.k) = (y.1.e.k == x.1.e.k) := rfl
        rw [e] at h
        simpa using h
      simpa using this
    exact Or.inr (sort_inj hV hy hx hk)
theorem left_same {left : Lit → Bool} {x : CV} : (left (.string x.1.e.k) && !(Lit.string x.1.e.k).sameKey (.string x.1.e.k)) = false := by
  have e : (Lit.string x.1.e.k).sameKey (.string x.1.e.k) = (x.1.e.k == x.1.e.k) := rfl
  rw [e]; simp
theorem left_stays {left : Lit → Bool} {a : List UInt8} {l : Lit} (h : left l = false) : (left l && !l.sameKey (.string a)) = false := by rw [h]; rfl
/-- One that may not go changes nothing. -/
theorem oldI_pass {V : List CV} {k l : List UInt8} {left : Lit → Bool} {u : Int} {x : CV} (hV : SortT kC V) (hx : x ∈ V) (hq : ¬ QC k x) (h : OldI V k left l u) : OldI V k (fun z => left z && !z.sameKey (.string x.1.e.k)) l u := by
  rcases h with ⟨h1, h2, h3⟩ | ⟨m, h1, h2, h3, h4, h5, h6, h7⟩
  · refine Or.inl ⟨h1, h2, fun y hy qy => ?_⟩
    cases hn : (left (.string y.1.e.k) && !(Lit.string y.1.e.k).sameKey (.string x.1.e.k)) with
    | true => exact hn
    | false =>
      rcases left_next hV hx hy hn with h | h
      · rw [h3 y hy qy] at h; cases h
      · subst h; exact absurd qy hq
  · refine Or.inr ⟨m, h1, h2, left_stays h3, h4, h5, h6, fun y hy qy hn => ?_⟩
    rcases left_next hV hx hy hn with h | h
    · exact h7 y hy qy h
    · subst h; exact absurd qy hq
/-- One that was used before all others by then is the one. -/
theorem oldI_take {V : List CV} {k l : List UInt8} {left : Lit → Bool} {u : Int} {x : CV} (hV : SortT kC V) (hx : x ∈ V) (hq : QC k x) (hp : 1 ≤ x.1.us) (hu : u = 0 ∨ x.1.us < u) (h : OldI V k left l u) : OldI V k (fun z => left z && !z.sameKey (.string x.1.e.k)) x.1.e.k x.1.us := by
  refine Or.inr ⟨x, hx, hq, left_same, rfl, rfl, hp, fun y hy qy hn => ?_⟩
  rcases left_next hV hx hy hn with h0 | h0
  · rcases h with ⟨h1, h2, h3⟩ | ⟨m, h1, h2, h3, h4, h5, h6, h7⟩
    · rw [h3 y hy qy] at h0; cases h0
    · have := h7 y hy qy h0
      rcases hu with hu | hu <;> omega
  · subst h0; exact Int.le_refl _
theorem oldI_keep {V : List CV} {k l : List UInt8} {left : Lit → Bool} {u : Int} {x : CV} (hV : SortT kC V) (hx : x ∈ V) (hu : 1 ≤ u) (hle : u ≤ x.1.us) (h : OldI V k left l u) : OldI V k (fun z => left z && !z.sameKey (.string x.1.e.k)) l u := by
  rcases h with ⟨h1, h2, h3⟩ | ⟨m, h1, h2, h3, h4, h5, h6, h7⟩
  · omega
  · refine Or.inr ⟨m, h1, h2, left_stays h3, h4, h5, h6, fun y hy qy hn => ?_⟩
    rcases left_next hV hx hy hn with h | h
    · exact h7 y hy qy h
    · subst h; exact hle
theorem oldI_end {S : Cl} {V : List CV} {k l : List UInt8} {left : Lit → Bool} {u : Int} (ok : OkC S) (he : V.map Prod.fst = S.T) (hl : ∀ k, left k = false) (h : OldI V k left l u) : l = oldK S.T k := by
  have hm : ∀ y ∈ S.T, ∃ z ∈ V, z.1 = y := fun y hy => by rw [← he] at hy; obtain ⟨z, h1, h2⟩ := List.mem_map.1 hy; exact ⟨z, h1, h2⟩
  unfold oldK
  rcases h with ⟨h1, h2, h3⟩ | ⟨m, h1, h2, h3, h4, h5, h6, h7⟩
  · cases ho : oldS S.T k with
    | none => exact h2
    | some x =>
      obtain ⟨x1, x2, x3, _⟩ := old_some ho
      obtain ⟨z, hz, e⟩ := hm x x1
      have := h3 z hz ⟨by rw [e]; exact x2, by rw [e]; exact x3⟩
      rw [hl] at this; cases this
  · have : oldS S.T k = some m.1 := old_is ok.inj (by rw [← he]; exact List.mem_map_of_mem h1) h2.1 h2.2 fun y hy y1 y2 => by
      obtain ⟨z, hz, e⟩ := hm y hy
      subst e
      rw [← h5]
      exact h7 z hz ⟨y1, y2⟩ (hl _)
    rw [this]; exact h4
def IsS (k : List UInt8) (w : World) (e : Ending) (w' : World) : Prop := e = .returned (.string ⟨k.toArray⟩) ∧ Below w.heap.size w w'
theorem oldest_any {F : Nat → Prop} {g b tk c : Nat} {S : Cl} {V : List CV} (ok : OkC S) (k : List UInt8) (w : World) (h : ClB w F g b tk S V c) :
    Calls Tryz.prog 68 #[.pointer (some ⟨g, 0, none⟩), .string ⟨k.toArray⟩] w (IsS (oldK S.T k) w) := by
  have HS := Lib.hid (h.srt ok)
  have HP : Hid (∀ x ∈ V, 1 ≤ x.1.us) := Lib.hid fun x hx => (ok.pos _ (h.mem hx)).1
  have HE : Hid (∀ (l : List UInt8) (left : Lit → Bool) (u : Int), (∀ k, left k = false) → OldI V k left l u → l = oldK S.T k) := Lib.hid fun l left u => oldI_end ok h.ent
  obtain ⟨w1, hrange, hrg, hb1, hs1⟩ := rng_startC h.map
  have HRG := Lib.hid hrg
  have HB1 : Hid (Below w.heap.size w w1) := Lib.hid hb1
  have HSZ : Hid (w1.heap.size = w.heap.size + 1) := Lib.hid hs1
  have c4 := h.c4
  have HBL := Lib.hid (h.lt b h.fb)
  clear h ok hrg hb1 hs1
  go_enter Tryz.func68, Tryz.ntmps68
  go_wp2_with fail
  go_loopw [5, 6, 7, 8] (fun lv uv _ _ wr => ∃ (left : Lit → Bool) (cnt : Nat) (l : List UInt8) (u : Int), lv = .string ⟨l.toArray⟩ ∧ uv = .int .i64 u ∧ Hid (RngBC wr b w.heap.size V.length V left cnt) ∧ Hid (OldI V k left l u) ∧ Hid (w.heap.size + 1 ≤ wr.heap.size) ∧ Hid (Below w.heap.size w wr)) (fun _ _ _ _ wr => wr.rangeLeft b w.heap.size)
  case atStart => exact ⟨_, _, [], 0, rfl, rfl, HRG, Lib.hid (oldI_start HS.out k), Lib.hid (by have := HSZ.out; omega), HB1⟩
  case round =>
    obtain ⟨left, cnt, l, u, rfl, rfl, HRn, HO, HZ, HB⟩ := hrel
    rcases rng_nextC HS.out HRn.out 0 with ⟨h0, hl, hrun⟩ | ⟨x, w2, cnt', hx, hlk, hrun, hrg, hlt, hgr, hsz, hen⟩
    · have hv : Hid (l = oldK S.T k) := Lib.hid (HE.out _ _ _ hl HO.out)
      clear h0 hl
      go_wp2
      go_ret
      exact ⟨by rw [hv.out]; rfl, HB.out⟩
    · have hz2 := HZ.out
      have hbl := HBL.out
      have HBW : Hid (Below w.heap.size w w2) := Lib.hid (HB.out.grown hgr HB.out.size (fun g hg => by injection hg with hg; omega))
      have HZW : Hid (w.heap.size + 1 ≤ w2.heap.size) := Lib.hid (by omega)
      have HM : Hid (∀ W : World, Below w2.heap.size w2 W → RngBC W b w.heap.size V.length V (fun z => left z && !z.sameKey (.string x.1.e.k)) cnt' ∧ W.rangeLeft b w.heap.size < wr.rangeLeft b w.heap.size ∧ w.heap.size + 1 ≤ W.heap.size ∧ Below w.heap.size w W) := Lib.hid fun W hb => by
        have h3 := rng_keep2C hrg (hb.block b (by omega)) (hb.block _ (by omega))
        exact ⟨h3, by rw [World.ranges.left_eq h3, World.ranges.left_eq HRn.out]; exact hlt, by have := hb.size; omega, HBW.out.trans (hb.mono HBW.out.size)⟩
      have HFIN : Hid (∀ (W : World) (l' : List UInt8) (u' : Int), Below w2.heap.size w2 W → OldI V k (fun z => left z && !z.sameKey (.string x.1.e.k)) l' u' →
          (∃ (left : Lit → Bool) (cnt : Nat) (l : List UInt8) (u : Int), Value.string ⟨l'.toArray⟩ = .string ⟨l.toArray⟩ ∧ Value.int .i64 u' = .int .i64 u ∧ Hid (RngBC W b w.heap.size V.length V left cnt) ∧ Hid (OldI V k left l u) ∧ Hid (w.heap.size + 1 ≤ W.heap.size) ∧ Hid (Below w.heap.size w W)) ∧ W.rangeLeft b w.heap.size < wr.rangeLeft b w.heap.size) := Lib.hid fun W l' u' hb ho => by
        obtain ⟨h1, h2, h3, h4⟩ := HM.out W hb
        exact ⟨⟨_, _, l', u', rfl, rfl, Lib.hid h1, Lib.hid ho, Lib.hid h3, Lib.hid h4⟩, h2⟩
      have HAL : Hid (∀ ob, Below w2.heap.size w2 (w2.alloc ob)) := Lib.hid fun ob => (Below.refl _ _).alloc (Nat.le_refl _) ob
      have HX := Lib.hid hx
      have hp := HP.out x hx
      have HI := HO.out
      clear hrg hlt hgr hlk hsz HM
      unfold cV at hrun hen
      by_cases hq : QC k x
      · have hkn : ¬ x.1.e.k = k := hq.1
        have hkb : (x.1.e.k == k) = false := by simpa using hkn
        have hkt : (!(x.1.e.k == k)) = true := by rw [hkb]; rfl
        have HQ := Lib.hid hq
        rw [hq.2] at hrun hen
        rcases (show u = 0 ∨ 1 ≤ u by rcases HI with ⟨h1, _⟩ | ⟨m, _, _, _, _, _, h6, _⟩; exact Or.inl h1; exact Or.inr h6) with hu | hu
        · have HT := Lib.hid (oldI_take HS.out hx hq hp (Or.inl hu) HI)
          subst hu
          clear hq HI hx
          go_wp2_with fail
          have l8 := later_blk_cell (Blk.new w2 88 #[.string ⟨x.1.e.k.toArray⟩, .int .i64 x.1.e.s, .int .i64 x.1.e.u, .int .i64 x.1.e.o, .bool x.1.e.has, .slice x.2.1 x.1.e.v.length x.2.2, .bool x.1.wh, .bool true, .int .i64 x.1.us]) 8 _ rfl
          refine wp_region_later (by kernel_rfl) (by kernel_rfl) ?_
          repeat (go_big_quiet_step (fail))
          refine wpQuiet_nil ?_
          intro w' hw'
          obtain ⟨p, rfl⟩ := hw'
          go_wp2_with fail
          exact HFIN.out _ _ _ ((HAL.out _).trans (p.bel.mono (by simp))) HT.out
        · by_cases hlt : x.1.us < u
          · have HT := Lib.hid (oldI_take HS.out hx hq hp (Or.inr hlt) HI)
            have hu0 : (u == 0) = false := by simpa using (show u ≠ 0 by omega)
            have hd : decide (x.1.us < u) = true := by simpa using hlt
            clear hq HI hx
            go_wp2_with fail
            have l8 := later_blk_cell (Blk.new w2 88 #[.string ⟨x.1.e.k.toArray⟩, .int .i64 x.1.e.s, .int .i64 x.1.e.u, .int .i64 x.1.e.o, .bool x.1.e.has, .slice x.2.1 x.1.e.v.length x.2.2, .bool x.1.wh, .bool true, .int .i64 x.1.us]) 8 _ rfl
            refine wp_region_later (by kernel_rfl) (by kernel_rfl) ?_
            repeat (go_big_quiet_step (fail))
            refine wpQuiet_nil ?_
            intro w' hw'
            obtain ⟨p, rfl⟩ := hw'
            go_wp2_with fail
            exact HFIN.out _ _ _ ((HAL.out _).trans (p.bel.mono (by simp))) HT.out
          · have hge : u ≤ x.1.us := by omega
            have HT := Lib.hid (oldI_keep HS.out hx hu hge HI)
            have hu0 : (u == 0) = false := by simpa using (show u ≠ 0 by omega)
            have hd : decide (x.1.us < u) = false := by simpa using hge
            clear hq HI hx hlt
            go_wp2_with fail
            exact HFIN.out _ _ _ (HAL.out _) HT.out
      · have HT := Lib.hid (oldI_pass HS.out hx hq HI)
        by_cases hk : x.1.e.k = k
        · rw [hk] at hrun hen
          clear hq HI hx
          go_wp2_with fail
          exact HFIN.out _ _ _ (HAL.out _) HT.out
        · have hkb : (x.1.e.k == k) = false := by simpa using hk
          have hkt : (!(x.1.e.k == k)) = true := by rw [hkb]; rfl
          have hcl : x.1.cl = false := by
            cases h : x.1.cl with
            | false => rfl
            | true => exact absurd ⟨hk, h⟩ hq
          rw [hcl] at hrun hen
          clear hq HI hx
          go_wp2_with fail
          exact HFIN.out _ _ _ (HAL.out _) HT.out
end Go.Proofs.YtpebhfjcakllmaaGreat
