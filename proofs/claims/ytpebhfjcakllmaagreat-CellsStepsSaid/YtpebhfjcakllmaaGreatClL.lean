/- ClL: A table of cells, without memory: what is done to it, one thing behind the other; what that keeps: what is not clean is there; what is whole tells all. -/
import Derived.Test.YtpebhfjcakllmaaGreatCls
namespace Go.Proofs.YtpebhfjcakllmaaGreat
open Go.RowKit Mem Be Word Go.Maps
set_option maxRecDepth 10000
set_option maxHeartbeats 1000000
set_option linter.unusedVariables false
/-- What is told of something that is done, and the table then. -/
def doS (S : Cl) (kd : Int) (e : EntP) (t : Int) : Cl × RpP × Bool × Int :=
  if kd = 1 then ((queryS S e.k).1, (queryS S e.k).2.1, false, (queryS S e.k).2.2)
  else if kd = 2 then ((storeS S e).1, rp0, false, (storeS S e).2)
  else if kd = 3 then ((fillS S e t).1, rp0, (fillS S e t).2.1, (fillS S e t).2.2)
  else if kd = 4 then ((cleanS S e.k e.s e.u e.o).1, rp0, (cleanS S e.k e.s e.u e.o).2, 0)
  else if kd = 6 then (forgetS S, rp0, false, 0)
  else ((evictS S e.k).1, rp0, (evictS S e.k).2, 0)
theorem ok_do {S : Cl} {q : Nat} (h : OkC S ∧ LimC S q) (kd : Int) (e : EntP) (t : Int) : OkC (doS S kd e t).1 ∧ LimC (doS S kd e t).1 (q + 1) := by
  unfold doS
  split
  · exact ok_query h _
  split
  · exact ok_store h _
  split
  · exact ok_fill h _ _
  split
  · exact ok_clean h _ _ _ _
  split
  · exact ok_forget h
  · exact ok_evict h _
/-- One tag is no less than another. -/
def GeT (a b : Int × Int × Int) : Prop := b.1 < a.1 ∨ (a.1 = b.1 ∧ (b.2.1 < a.2.1 ∨ (a.2.1 = b.2.1 ∧ b.2.2 ≤ a.2.2)))
def tg (e : EntP) : Int × Int × Int := (e.s, e.u, e.o)
theorem geT_iff (a b c x y z : Int) : 0 ≤ cmpT a b c x y z ↔ GeT (a, b, c) (x, y, z) := by
  unfold cmpT GeT
  rcases cmpI_cases a x with ⟨g, h⟩ | ⟨g, h⟩ | ⟨g, h⟩ <;> rcases cmpI_cases b y with ⟨g', h'⟩ | ⟨g', h'⟩ | ⟨g', h'⟩ <;> rcases cmpI_cases c z with ⟨g'', h''⟩ | ⟨g'', h''⟩ | ⟨g'', h''⟩ <;> rw [h, h', h''] <;> simp <;> omega
theorem gtT_iff (a b c x y z : Int) : 0 < cmpT a b c x y z ↔ ¬ GeT (x, y, z) (a, b, c) := by
  unfold cmpT GeT
  rcases cmpI_cases a x with ⟨g, h⟩ | ⟨g, h⟩ | ⟨g, h⟩ <;> rcases cmpI_cases b y with ⟨g', h'⟩ | ⟨g', h'⟩ | ⟨g', h'⟩ <;> rcases cmpI_cases c z with ⟨g'', h''⟩ | ⟨g'', h''⟩ | ⟨g'', h''⟩ <;> rw [h, h', h''] <;> simp <;> omega
theorem geT_refl (a : Int × Int × Int) : GeT a a := Or.inr ⟨rfl, Or.inr ⟨rfl, Int.le_refl _⟩⟩
theorem geT_trans {a b c : Int × Int × Int} (h : GeT a b) (h' : GeT b c) : GeT a c := by unfold GeT at *; omega
theorem geT_total (a b : Int × Int × Int) : GeT a b ∨ GeT b a := by unfold GeT; omega
theorem geT_of_not {a b : Int × Int × Int} (h : ¬ GeT a b) : GeT b a := (geT_total a b).resolve_left h
theorem geE_iff (a b : EntP) : 0 ≤ cE a b ↔ GeT (tg a) (tg b) := geT_iff _ _ _ _ _ _
theorem gtE_iff (a b : EntP) : 0 < cE a b ↔ ¬ GeT (tg b) (tg a) := gtT_iff _ _ _ _ _ _
/-- What stands in a table once a cell is put. -/
theorem lay_cases (S : Cl) (e : EntP) (wh cl : Bool) (hs : SortT kP S.T) : (layS S e wh cl = (S, 30) ∧ (roomS S e).2 ≠ 0) ∨ ((roomS S e).2 = 0 ∧ layS S e wh cl = (useS (roomS S e).1 ⟨e, wh, cl, 0⟩, 0)) := by
  unfold layS
  by_cases h : (roomS S e).2 = 0
  · rw [if_pos h]; exact Or.inr ⟨h, rfl⟩
  · rw [if_neg h]; exact Or.inl ⟨room_busy hs h, h⟩
/-- What is not clean is there, or a newer one of its key. -/
def KeepD (S S' : Cl) : Prop := ∀ x ∈ S.T, x.cl = false → ∃ y ∈ S'.T, y.e.k = x.e.k ∧ GeT (tg y.e) (tg x.e)
theorem keepD_refl (S : Cl) : KeepD S S := fun x hx _ => ⟨x, hx, rfl, geT_refl _⟩
theorem keepD_put {S S' : Cl} {x y : CP} (hs : SortT kP S.T) (hT : S'.T = putK kP S.T y) (hx : x ∈ S.T) (hk : y.e = x.e) : KeepD S S' := fun z hz _ => by
  rw [hT]
  by_cases e : z.e.k = y.e.k
  · have : z = x := sort_inj hs hz hx (by show z.e.k = x.e.k; rw [e, hk])
    subst this
    exact ⟨y, mem_put.2 (Or.inl rfl), by rw [hk], by rw [hk]; exact geT_refl _⟩
  · exact ⟨z, mem_put.2 (Or.inr ⟨hz, e⟩), rfl, geT_refl _⟩
theorem keepD_lay {S : Cl} {e : EntP} {wh cl : Bool} (ok : OkC S) (hn : ∀ x ∈ S.T, x.e.k = e.k → GeT (tg e) (tg x.e)) : KeepD S (layS S e wh cl).1 := by
  rcases lay_cases S e wh cl ok.srt with ⟨h, _⟩ | ⟨h0, h⟩
  · rw [h]; exact keepD_refl S
  · rw [h]
    intro x hx hc
    have hr : x ∈ (roomS S e).1.T := (evs_keep (room_evs (S.T.length + 1) S e) ok.srt).kept x hx (Or.inl hc)
    by_cases ek : x.e.k = e.k
    · exact ⟨_, mem_put.2 (Or.inl rfl), ek.symm, hn x hx ek⟩
    · exact ⟨x, mem_put.2 (Or.inr ⟨hr, ek⟩), rfl, geT_refl _⟩
theorem none_key {S : Cl} {k : List UInt8} (h : getK kP S.T k = none) {x : CP} (hx : x ∈ S.T) : x.e.k ≠ k := get_none.1 h x hx
theorem one_key {S : Cl} {k : List UInt8} {x y : CP} (hs : SortT kP S.T) (h : getK kP S.T k = some x) (hy : y ∈ S.T) (hk : y.e.k = k) : y = x := sort_inj hs hy (get_some h).1 (hk.trans (get_some h).2.symm)
theorem keep_do {S : Cl} (ok : OkC S) (kd : Int) (e : EntP) (t : Int) : KeepD S (doS S kd e t).1 := by
  unfold doS
  split
  · unfold queryS
    split
    · exact keepD_refl S
    · cases hg : getK kP S.T e.k with
      | none => exact keepD_refl S
      | some x => exact keepD_put ok.srt rfl (get_some hg).1 rfl
  split
  · unfold storeS
    split
    · exact keepD_refl S
    · cases hg : getK kP S.T e.k with
      | none => exact keepD_lay ok fun x hx hk => absurd hk (none_key hg hx)
      | some x =>
        simp only
        split
        · exact keepD_put ok.srt rfl (get_some hg).1 rfl
        · rename_i hc
          refine keepD_lay ok fun y hy hk => ?_
          have := one_key ok.srt hg hy hk
          subst this
          exact geT_of_not fun h => hc ((geE_iff _ _).2 h)
  split
  · unfold fillS
    split
    · exact keepD_refl S
    split
    · exact keepD_refl S
    · cases hg : getK kP S.T e.k with
      | none => exact keepD_lay ok fun x hx hk => absurd hk (none_key hg hx)
      | some x =>
        simp only
        split
        · exact keepD_put ok.srt rfl (get_some hg).1 rfl
        · rename_i hc
          refine keepD_lay ok fun y hy hk => ?_
          have := one_key ok.srt hg hy hk
          subst this
          exact Classical.byContradiction fun h => hc ((gtE_iff _ _).2 h)
  split
  · unfold cleanS
    cases hg : getK kP S.T e.k with
    | none => exact keepD_refl S
    | some x =>
      simp only
      split
      · exact keepD_refl S
      · exact keepD_put ok.srt rfl (get_some hg).1 rfl
  split
  · exact fun x hx _ => ⟨unW x, List.mem_map_of_mem hx, rfl, geT_refl _⟩
  · unfold evictS
    cases hg : getK kP S.T e.k with
    | none => exact keepD_refl S
    | some x =>
      simp only
      split
      · rename_i hc
        intro y hy hyc
        refine ⟨y, mem_del.2 ⟨hy, fun hk => ?_⟩, rfl, geT_refl _⟩
        have := one_key ok.srt hg hy hk
        subst this
        rw [hc] at hyc; cases hyc
      · exact keepD_refl S
theorem lay_busy {S : Cl} {e : EntP} {wh cl : Bool} (ok : OkC S) (h : (layS S e wh cl).2 ≠ 0) : layS S e wh cl = (S, 30) := by
  rcases lay_cases S e wh cl ok.srt with ⟨h1, _⟩ | ⟨_, h1⟩
  · exact h1
  · rw [h1] at h; exact absurd rfl h
/-- What is busy has changed nothing. -/
theorem busy_do {S : Cl} (ok : OkC S) (kd : Int) (e : EntP) (t : Int) (h : (doS S kd e t).2.2.2 = 30) : (doS S kd e t).1 = S := by
  unfold doS at h ⊢
  split
  · rename_i h1
    rw [if_pos h1] at h
    unfold queryS at h ⊢
    split
    · rfl
    · rename_i h2
      simp only [if_neg h2] at h
      cases hg : getK kP S.T e.k with
      | none => rfl
      | some x => rw [hg] at h; cases h
  rename_i h1
  rw [if_neg h1] at h
  split
  · rename_i h2
    rw [if_pos h2] at h
    unfold storeS at h ⊢
    split
    · rfl
    · rename_i h3
      simp only [if_neg h3] at h
      cases hg : getK kP S.T e.k with
      | none =>
        rw [hg] at h
        simp only at h ⊢
        rw [lay_busy ok (by rw [h]; decide)]
      | some x =>
        rw [hg] at h
        simp only at h ⊢
        split
        · rename_i h4; rw [if_pos h4] at h; cases h
        · rename_i h4
          rw [if_neg h4] at h
          rw [lay_busy ok (by rw [h]; decide)]
  rename_i h2
  rw [if_neg h2] at h
  split
  · rename_i h3
    rw [if_pos h3] at h
    unfold fillS at h ⊢
    split
    · rfl
    rename_i h4
    rw [if_neg h4] at h
    split
    · rfl
    · rename_i h5
      rw [if_neg h5] at h
      cases hg : getK kP S.T e.k with
      | none =>
        rw [hg] at h
        simp only [layF] at h ⊢
        rw [lay_busy ok (by rw [h]; decide)]
      | some x =>
        rw [hg] at h
        simp only at h ⊢
        split
        · rename_i h6; rw [if_pos h6] at h; cases h
        · rename_i h6
          rw [if_neg h6] at h
          simp only [layF] at h ⊢
          rw [lay_busy ok (by rw [h]; decide)]
  rename_i h3
  rw [if_neg h3] at h
  split
  · rename_i h4; rw [if_pos h4] at h; cases h
  rename_i h4
  rw [if_neg h4] at h
  split
  · rename_i h5; rw [if_pos h5] at h; cases h
  · rename_i h5; rw [if_neg h5] at h; cases h
/-- Of a key: what is whole tells all. kept is what the store has by then, b the greatest tag that was stored. -/
structure WhI (S : Cl) (k : List UInt8) (kept : EntP) (b : Int × Int × Int) : Prop where
  kk : kept.k = k
  a : ∀ x ∈ S.T, x.e.k = k → x.wh = true → GeT (tg x.e) b
  z : (∀ x ∈ S.T, x.e.k ≠ k) → tokK S k = 0 → b = (0, 0, 0)
  d : GeT (tg kept) b ∨ ∃ x ∈ S.T, x.e.k = k ∧ GeT (tg x.e) b
  f : ∀ x ∈ S.T, x.e.k = k → x.cl = true → GeT (tg kept) (tg x.e)
section
variable {S S' : Cl} {k : List UInt8} {kept : EntP} {b : Int × Int × Int}
theorem tok_inc (ok : OkC S) (j : List UInt8) : (tokK (goneS S j) k = tokK S k ∧ bk S.nb j ≠ bk S.nb k) ∨ tokK (goneS S j) k = tokK S k + 1 := by
  unfold tokK goneS
  simp only
  unfold incT
  rw [List.getD_eq_getElem?_getD, List.getD_eq_getElem?_getD, List.getD_eq_getElem?_getD, List.getElem?_set]
  by_cases e : bk S.nb j = bk S.nb k
  · have := bk_lt ok k
    rw [if_pos e, e, if_pos (by omega)]
    exact Or.inr rfl
  · rw [if_neg e]; exact Or.inl ⟨rfl, e⟩
theorem wh_gone (ok : OkC S) (h : WhI S k kept b) {x : CP} (hx : x ∈ S.T) (hc : x.cl = true) : WhI (goneS S x.e.k) k kept b := by
  have hm : ∀ y ∈ delK kP x.e.k S.T, y ∈ S.T := fun y hy => (mem_del.1 hy).1
  have ht0 := ok.t0 _ (tokK_mem ok k)
  refine ⟨h.kk, fun y hy => h.a y (hm y hy), fun hn hz => ?_, ?_, fun y hy => h.f y (hm y hy)⟩
  · rcases tok_inc (k := k) ok x.e.k with ⟨h1, h2⟩ | h1
    · refine h.z (fun y hy hk => ?_) (by rw [← h1]; exact hz)
      exact hn y (mem_del.2 ⟨hy, fun e => h2 (by rw [← show y.e.k = x.e.k from e, hk])⟩) hk
    · rw [h1] at hz; omega
  · by_cases hk : x.e.k = k
    · rcases h.d with h1 | ⟨y, hy, hyk, h1⟩
      · exact Or.inl h1
      · have : y = x := sort_inj ok.srt hy hx (hyk.trans hk.symm)
        subst this
        exact Or.inl (geT_trans (h.f y hx hk hc) h1)
    · rcases h.d with h1 | ⟨y, hy, hyk, h1⟩
      · exact Or.inl h1
      · exact Or.inr ⟨y, mem_del.2 ⟨hy, fun e => hk (by rw [← show y.e.k = x.e.k from e, hyk])⟩, hyk, h1⟩
theorem wh_evs {j : List UInt8} {S R : Cl} (h : Evs j S R) : OkC S → WhI S k kept b → WhI R k kept b := by
  induction h with
  | refl S => exact fun _ h => h
  | step hx hc hk h ih => exact fun ok hw => ih (ok_gone ok _) (wh_gone ok hw hx hc)
/-- A cell is put: of another key, or it is as it should be. -/
theorem wh_put (h : WhI S k kept b) {y : CP} (hT : S'.T = putK kP S.T y) (ht : S'.tok = S.tok) (hn : S'.nb = S.nb) (hy : y.e.k = k → (y.wh = true → GeT (tg y.e) b) ∧ (GeT (tg kept) b ∨ GeT (tg y.e) b) ∧ (y.cl = true → GeT (tg kept) (tg y.e))) : WhI S' k kept b := by
  have htk : tokK S' k = tokK S k := by unfold tokK; rw [ht, hn]
  refine ⟨h.kk, fun x hx hk => ?_, fun hno hz => ?_, ?_, fun x hx hk => ?_⟩
  · rw [hT] at hx
    rcases mem_put.1 hx with rfl | ⟨hx, _⟩
    · exact (hy hk).1
    · exact h.a x hx hk
  · rw [hT] at hno
    refine h.z (fun x hx hk => ?_) (htk ▸ hz)
    have hyk : y.e.k ≠ k := hno y (mem_put.2 (Or.inl rfl))
    exact hno x (mem_put.2 (Or.inr ⟨hx, fun e => hyk (by rw [← show x.e.k = y.e.k from e, hk])⟩)) hk
  · rw [hT]
    by_cases hk : y.e.k = k
    · rcases (hy hk).2.1 with h1 | h1
      · exact Or.inl h1
      · exact Or.inr ⟨y, mem_put.2 (Or.inl rfl), hk, h1⟩
    · rcases h.d with h1 | ⟨x, hx, hxk, h1⟩
      · exact Or.inl h1
      · exact Or.inr ⟨x, mem_put.2 (Or.inr ⟨hx, fun e => hk (by rw [← show x.e.k = y.e.k from e, hxk])⟩), hxk, h1⟩
  · rw [hT] at hx
    rcases mem_put.1 hx with rfl | ⟨hx, _⟩
    · exact (hy hk).2.2
    · exact h.f x hx hk
/-- What stood in d, of the cell that is there. -/
theorem wh_of (ok : OkC S) (h : WhI S k kept b) {x : CP} (hx : x ∈ S.T) (hk : x.e.k = k) : (GeT (tg kept) b ∨ GeT (tg x.e) b) := by
  rcases h.d with h1 | ⟨y, hy, hyk, h1⟩
  · exact Or.inl h1
  · have : y = x := sort_inj ok.srt hy hx (hyk.trans hk.symm)
    subst this
    exact Or.inr h1
/-- A cell that is there is put, as it is, but for when it was used. -/
theorem wh_same (ok : OkC S) (h : WhI S k kept b) {x y : CP} (hx : x ∈ S.T) (hT : S'.T = putK kP S.T y) (ht : S'.tok = S.tok) (hn : S'.nb = S.nb) (he : y.e = x.e) (hw : y.wh = x.wh) (hc : y.cl = x.cl) : WhI S' k kept b :=
  wh_put h hT ht hn fun hk => by
    rw [he] at hk ⊢
    rw [hw, hc]
    exact ⟨h.a x hx hk, wh_of ok h hx hk, h.f x hx hk⟩
theorem wh_query (ok : OkC S) (h : WhI S k kept b) (j : List UInt8) : WhI (queryS S j).1 k kept b := by
  unfold queryS
  split
  · exact h
  · cases hg : getK kP S.T j with
    | none => exact h
    | some x => exact wh_same ok h (get_some hg).1 rfl rfl rfl rfl rfl rfl
/-- What a query tells whole is no smaller than any that was stored. -/
theorem wh_tells (h : WhI S k kept b) (hr : (queryS S k).2.2 = 0) (hw : (queryS S k).2.1.wh = true) : GeT (tg (queryS S k).2.1.e) b := by
  unfold queryS at hr hw ⊢
  split
  · rename_i h1; rw [if_pos h1] at hr; cases hr
  · rename_i h1
    rw [if_neg h1] at hw
    cases hg : getK kP S.T k with
    | none =>
      rw [hg] at hw
      have hz : tokK S k = 0 := by simpa using hw
      have := h.z (fun x hx => none_key hg hx) hz
      rw [this]
      exact geT_refl _
    | some x =>
      rw [hg] at hw
      exact h.a x (get_some hg).1 (get_some hg).2 hw
theorem wh_evict (ok : OkC S) (h : WhI S k kept b) (j : List UInt8) : WhI (evictS S j).1 k kept b := by
  unfold evictS
  cases hg : getK kP S.T j with
  | none => exact h
  | some x =>
    simp only
    split
    · rename_i hc
      have := wh_gone ok h (get_some hg).1 hc
      rwa [show x.e.k = j from (get_some hg).2] at this
    · exact h
theorem wh_forget (ok : OkC S) (h : WhI S k kept b) : WhI (forgetS S) k kept b := by
  have hm : ∀ x ∈ S.T.map unW, ∃ y ∈ S.T, unW y = x := fun x hx => List.mem_map.1 hx
  refine ⟨h.kk, fun x hx hk hw => ?_, fun hn hz => ?_, ?_, fun x hx hk hc => ?_⟩
  · obtain ⟨y, hy, rfl⟩ := hm x hx; cases hw
  · have h1 := tokK_mem ok k
    have h2 : tokK (forgetS S) k = tokK S k + 1 := by
      have hl := bk_lt ok k
      unfold tokK forgetS
      simp only
      rw [List.getD_eq_getElem?_getD, List.getD_eq_getElem?_getD, List.getElem?_map, List.getElem?_eq_getElem hl]
      rfl
    have := ok.t0 _ h1
    omega
  · rcases h.d with h1 | ⟨y, hy, hyk, h1⟩
    · exact Or.inl h1
    · exact Or.inr ⟨unW y, List.mem_map_of_mem hy, hyk, h1⟩
  · obtain ⟨y, hy, rfl⟩ := hm x hx
    exact h.f y hy hk hc
theorem wh_lay (ok : OkC S) (h : WhI S k kept b) {e : EntP} {wh cl : Bool} (hy : e.k = k → (wh = true → GeT (tg e) b) ∧ (GeT (tg kept) b ∨ GeT (tg e) b) ∧ (cl = true → GeT (tg kept) (tg e))) : WhI (layS S e wh cl).1 k kept b := by
  rcases lay_cases S e wh cl ok.srt with ⟨h1, _⟩ | ⟨h0, h1⟩
  · rw [h1]; exact h
  · rw [h1]
    have hr : WhI (roomS S e).1 k kept b := wh_evs (room_evs (S.T.length + 1) S e) ok h
    exact wh_put hr rfl rfl rfl hy
theorem wh_fill (ok : OkC S) (h : WhI S k kept b) (t : Int) : WhI (fillS S kept t).1 k kept b := by
  unfold fillS
  split
  · exact h
  split
  · exact h
  · cases hg : getK kP S.T kept.k with
    | none =>
      refine wh_lay ok h fun hk => ?_
      have : GeT (tg kept) b := by
        rcases h.d with h1 | ⟨y, hy, hyk, h1⟩
        · exact h1
        · exact absurd (hyk.trans hk.symm) (none_key hg hy)
      exact ⟨fun _ => this, Or.inl this, fun _ => geT_refl _⟩
    | some x =>
      obtain ⟨g1, g2⟩ := get_some hg
      have g2 : x.e.k = kept.k := g2
      have hd := wh_of ok h g1 (g2.trans h.kk)
      simp only
      split
      · rename_i hc
        have hge := geT_of_not ((gtE_iff _ _).1 hc)
        refine wh_put h (y := { x with wh := true, us := S.us + 1 }) rfl rfl rfl fun hk => ?_
        have : GeT (tg x.e) b := by
          rcases hd with h1 | h1
          · exact geT_trans hge h1
          · exact h1
        exact ⟨fun _ => this, Or.inr this, h.f x g1 hk⟩
      · rename_i hc
        have hge : GeT (tg kept) (tg x.e) := Classical.byContradiction fun h => hc ((gtE_iff _ _).2 h)
        refine wh_lay ok h fun hk => ?_
        have : GeT (tg kept) b := by
          rcases hd with h1 | h1
          · exact h1
          · exact geT_trans hge h1
        exact ⟨fun _ => this, Or.inl this, fun _ => geT_refl _⟩
/-- The greater of the greatest tag, and one that was stored. -/
def bestT (k : List UInt8) (e : EntP) (r : Int) (b : Int × Int × Int) : Int × Int × Int := if r = 0 ∧ e.k = k ∧ 0 < cmpT e.s e.u e.o b.1 b.2.1 b.2.2 then tg e else b
theorem wh_more {c : Int × Int × Int} (h : WhI S k kept b) {x : CP} (hx : x ∈ S.T) (hk : x.e.k = k) (hs : SortT kP S.T) (hc : GeT (tg x.e) c) : WhI S k kept c :=
  ⟨h.kk, fun y hy hyk _ => by
    have : y = x := sort_inj hs hy hx (hyk.trans hk.symm)
    subst this
    exact hc, fun hn => absurd hk (hn x hx), Or.inr ⟨x, hx, hk, hc⟩, h.f⟩
theorem wh_store (ok : OkC S) (h : WhI S k kept b) (e : EntP) : WhI (storeS S e).1 k kept (bestT k e (storeS S e).2 b) := by
  have ok' := (ok_store (q := S.us.toNat + 1 + (S.tok.map Int.toNat).sum) ⟨ok, ⟨by have := ok.u0; omega, fun t ht => by
    have h1 : t.toNat ≤ (S.tok.map Int.toNat).sum := by
      have h2 : t.toNat ∈ S.tok.map Int.toNat := List.mem_map_of_mem ht
      generalize S.tok.map Int.toNat = l at h2 ⊢
      induction l with
      | nil => cases h2
      | cons a r ih =>
        rw [List.sum_cons]
        rcases List.mem_cons.1 h2 with rfl | h2
        · omega
        · have := ih h2; omega
    have := ok.t0 t ht; omega⟩⟩ e).1
  have key : WhI (storeS S e).1 k kept b ∧ ((storeS S e).2 = 0 → e.k = k → ∃ x ∈ (storeS S e).1.T, x.e.k = k ∧ GeT (tg x.e) (tg e)) := by
    unfold storeS
    split
    · exact ⟨h, fun h0 => by cases h0⟩
    · rename_i hbad
      have hs0 : okE e ∧ ¬ e.s = 0 := ⟨Decidable.byContradiction fun h1 => hbad (Or.inl h1), fun h1 => hbad (Or.inr h1)⟩
      cases hg : getK kP S.T e.k with
      | none =>
        simp only
        refine ⟨wh_lay ok h fun hk => ?_, fun h0 hk => ?_⟩
        · have hnone : ∀ x ∈ S.T, x.e.k ≠ k := fun x hx => by rw [← hk]; exact none_key hg hx
          refine ⟨fun hw => ?_, ?_, fun hc => by cases hc⟩
          · have hz : tokK S e.k = 0 := by simpa using hw
            rw [h.z hnone (by rw [← hk]; exact hz)]
            have := okE_nums hs0.1
            unfold GeT tg
            simp only
            omega
          · rcases h.d with h1 | ⟨y, hy, hyk, _⟩
            · exact Or.inl h1
            · exact absurd hyk (hnone y hy)
        · rcases lay_cases S e (tokK S e.k == 0) false ok.srt with ⟨h1, _⟩ | ⟨_, h1⟩
          · rw [h1] at h0; cases h0
          · rw [h1]
            exact ⟨_, mem_put.2 (Or.inl rfl), hk, geT_refl _⟩
      | some x =>
        obtain ⟨g1, g2⟩ := get_some hg
        have g2 : x.e.k = e.k := g2
        simp only
        split
        · rename_i hc
          refine ⟨wh_same ok h g1 rfl rfl rfl rfl rfl rfl, fun _ hk => ⟨_, mem_put.2 (Or.inl rfl), g2.trans hk, (geE_iff _ _).1 hc⟩⟩
        · rename_i hc
          have hge : GeT (tg e) (tg x.e) := geT_of_not fun h1 => hc ((geE_iff _ _).2 h1)
          refine ⟨wh_lay ok h fun hk => ?_, fun h0 hk => ?_⟩
          · refine ⟨fun hw => geT_trans hge (h.a x g1 (g2.trans hk) hw), ?_, fun hc => by cases hc⟩
            rcases wh_of ok h g1 (g2.trans hk) with h1 | h1
            · exact Or.inl h1
            · exact Or.inr (geT_trans hge h1)
          · rcases lay_cases S e x.wh false ok.srt with ⟨h1, _⟩ | ⟨_, h1⟩
            · rw [h1] at h0; cases h0
            · rw [h1]
              exact ⟨_, mem_put.2 (Or.inl rfl), hk, geT_refl _⟩
  unfold bestT
  split
  · rename_i hc
    obtain ⟨x, hx, hxk, hge⟩ := key.2 hc.1 hc.2.1
    exact wh_more key.1 hx hxk ok'.srt hge
  · exact key.1
/-- The newer of two. -/
def newerE (a b : EntP) : EntP := if cE a b = -1 then b else a
theorem newerE_ge (a b : EntP) : GeT (tg (newerE a b)) (tg a) ∧ GeT (tg (newerE a b)) (tg b) := by
  unfold newerE
  by_cases h : cE a b = -1
  · rw [if_pos h]
    refine ⟨geT_of_not fun h1 => ?_, geT_refl _⟩
    have := (geE_iff a b).2 h1
    omega
  · rw [if_neg h]
    refine ⟨geT_refl _, (geE_iff a b).1 ?_⟩
    have : cE a b = -1 ∨ cE a b = 0 ∨ cE a b = 1 := cmpT_range _ _ _ _ _ _
    omega
theorem wh_kept (h : WhI S k kept b) {e : EntP} (hk : e.k = k) : WhI S k (newerE kept e) b := by
  have hn := newerE_ge kept e
  refine ⟨?_, h.a, h.z, ?_, fun x hx hxk hc => geT_trans hn.1 (h.f x hx hxk hc)⟩
  · unfold newerE; split
    · exact hk
    · exact h.kk
  · rcases h.d with h1 | h1
    · exact Or.inl (geT_trans hn.1 h1)
    · exact Or.inr h1
/-- A cell is made clean; of the key itself what the store has is no older. -/
theorem wh_clean (ok : OkC S) (h : WhI S k kept b) (j : List UInt8) (s u o : Int) (hj : j = k → ∀ x ∈ S.T, x.e.k = k → GeT (tg kept) (tg x.e)) : WhI (cleanS S j s u o).1 k kept b := by
  unfold cleanS
  cases hg : getK kP S.T j with
  | none => exact h
  | some x =>
    obtain ⟨g1, g2⟩ := get_some hg
    have g2 : x.e.k = j := g2
    simp only
    split
    · exact h
    · refine wh_put h (y := { x with cl := true }) rfl rfl rfl fun hk => ⟨h.a x g1 hk, wh_of (x := x) ok h g1 hk, fun _ => hj (g2.symm.trans hk) x g1 hk⟩
end
end Go.Proofs.YtpebhfjcakllmaaGreat
