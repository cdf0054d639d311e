/- LnZa: What is known of a search's steps while they are made; how they lie. -/
import Derived.Test.YtlecbhnopokmnaaLnY
namespace Go.Proofs.Ytlecbhnopokmnaa
open Go.RowKit Mem
set_option maxRecDepth 100000
set_option maxHeartbeats 4000000
set_option linter.unusedVariables false
set_option linter.unusedSimpArgs false
open Ln
/-- A search under way, and nothing else changed. -/
def IniP (w : World) (gl n : Nat) (A : Option Addr) (c : Nat) (v : Value) (w' : World) : Prop :=
  ∃ gs hb sb eb, v = .pointer (some ⟨gs, 0, none⟩) ∧ StA w' gs hb sb eb n 0 (fun _ => false) (fun _ => 0) (fun _ => 0) (fun _ => 0) (endL n 0) ∧ Below w.heap.size w w' ∧ w.heap.size ≤ gs ∧ w.heap.size ≤ hb ∧ w.heap.size ≤ sb ∧ w.heap.size ≤ eb ∧ gs < w'.heap.size ∧ hb < w'.heap.size ∧ sb < w'.heap.size ∧ eb < w'.heap.size ∧ Blk w' gl 28 #[.slice A n c]
theorem atD_map {l : List DdL} {i : Nat} {r : DdL} (h : l[i]? = some r) : atD (l.map DdL.p) i = r.p := by
  unfold atD
  rw [List.getD_eq_getElem?_getD, List.getElem?_map, h]; rfl
/-- What is known of the first q deeds' steps. -/
structure LpI (l : List DdL) (q must : Nat) (g : Nat → Bool) (v : Nat → Nat) (met : List VaL) : Prop where
  hm : must = mOf (fun i => (atD (l.map DdL.p) i).done) q
  hg : ∀ i, i < q → g i = decide ((atD (l.map DdL.p) i).kind = 1)
  hv : ∀ i, i < q → ∃ y : VaL, met[v i]? = some y ∧ y.va = valD (atD (l.map DdL.p) i)
  nd : (met.map VaL.va).Nodup
  h0 : ∃ y : VaL, met[0]? = some y ∧ y.va = none
  ln : met.length ≤ q + 1
theorem lpI_start (l : List DdL) : LpI l 0 0 (fun _ => false) (fun _ => 0) [⟨false, none, [], 0⟩] :=
  ⟨rfl, fun i hi => by omega, fun i hi => by omega, by simp, ⟨_, rfl, rfl⟩, by simp⟩
theorem lpI_step {l : List DdL} {q must n' : Nat} {g : Nat → Bool} {v : Nat → Nat} {met met' : List VaL} {r : DdL} (h : LpI l q must g v met) (hr : l[q]? = some r)
    (hn : ((∃ y : VaL, met[n']? = some y ∧ y.va = (valL r).va) ∧ met' = met) ∨ (n' = met.length ∧ (∀ y ∈ met, y.va ≠ (valL r).va) ∧ met' = met ++ [valL r])) :
    LpI l (q + 1) (if r.done then ins must q else must) (upd g q (decide (r.kind = 1))) (upd v q n') met' := by
  have ha := atD_map hr
  have hmm : (if r.done then ins must q else must) = mOf (fun i => (atD (l.map DdL.p) i).done) (q + 1) := by
    show _ = if (atD (l.map DdL.p) q).done then _ else _
    rw [ha, h.hm]; rfl
  have hgg : ∀ i, i < q + 1 → upd g q (decide (r.kind = 1)) i = decide ((atD (l.map DdL.p) i).kind = 1) := fun i hi => by
    by_cases e : i = q
    · subst e; rw [upd_same, ha]; rfl
    · rw [upd_ne _ _ e]; exact h.hg i (by omega)
  rcases hn with ⟨⟨y, hy, hyv⟩, rfl⟩ | ⟨rfl, hne, rfl⟩
  · refine ⟨hmm, hgg, fun i hi => ?_, h.nd, h.h0, by have := h.ln; omega⟩
    by_cases e : i = q
    · subst e; rw [upd_same, ha]; exact ⟨y, hy, hyv.trans (valL_va r)⟩
    · rw [upd_ne _ _ e]; exact h.hv i (by omega)
  · refine ⟨hmm, hgg, fun i hi => ?_, ?_, ?_, by rw [List.length_append]; have := h.ln; simp; omega⟩
    · by_cases e : i = q
      · subst e; rw [upd_same, ha]; exact ⟨valL r, by rw [List.getElem?_append_right (Nat.le_refl _), Nat.sub_self]; rfl, valL_va r⟩
      · rw [upd_ne _ _ e]
        obtain ⟨y, h1, h2⟩ := h.hv i (by omega)
        exact ⟨y, by rw [List.getElem?_append_left (List.getElem?_eq_some_iff.1 h1).1]; exact h1, h2⟩
    · rw [List.map_append, List.nodup_append]
      refine ⟨h.nd, by simp, fun a ha b hb => ?_⟩
      simp only [List.map_cons, List.map_nil, List.mem_singleton] at hb
      subst hb
      obtain ⟨y, hy, rfl⟩ := List.mem_map.1 ha
      exact hne y hy
    · obtain ⟨y, h1, h2⟩ := h.h0
      exact ⟨y, by rw [List.getElem?_append_left (List.getElem?_eq_some_iff.1 h1).1]; exact h1, h2⟩
theorem met_start (w : World) (bb : Nat) (hbb : bb ≤ w.heap.size) : MetAt ((w.alloc (.cells #[.bool false, .slice none 0 0] 45)).alloc (.cells #[.slice (some ⟨w.heap.size, 0, none⟩) 1 1] 111)) bb w.heap.size (w.heap.size + 1) [⟨false, none, [], 0⟩] := by
  refine ⟨⟨some ⟨w.heap.size, 0, none⟩, 1, ?_, ?_⟩, fun x hx => ?_, hbb, by omega⟩
  · have h := Blk.new (w.alloc (.cells #[.bool false, .slice none 0 0] 45)) 111 #[.slice (some ⟨w.heap.size, 0, none⟩) 1 1]
    simpa using h
  · exact ⟨rfl, Or.inr ⟨w.heap.size, 1, #[.bool false, .slice none 0 0], rfl, Nat.le_refl _, (Blk.new w 45 #[.bool false, .slice none 0 0]).alloc _, by simp, by unfold maxLen; omega, rfl, rfl⟩⟩
  · obtain rfl := List.mem_singleton.1 hx
    exact Or.inl rfl
theorem endL_at {n q : Nat} (h : q < n) : (endL n q)[q]? = some 0 := by
  unfold endL
  rw [List.getElem?_append_right (by rw [List.length_range]; omega), List.length_range, Nat.sub_self, List.getElem?_replicate, if_pos (by omega)]
theorem farC {w : World} {g o : Nat} {v : Option Value} (h : w.cell? ⟨g, o, none⟩ = v) {b i : Nat} (hne : g ≠ b) (u : Value) : (w.setCell ⟨b, i, none⟩ u).cell? ⟨g, o, none⟩ = v := by
  rw [← h]
  exact World.cell?_of_block (a := ⟨g, o, none⟩) (Below.heap_setCell w ⟨b, i, none⟩ u g hne)
theorem farC4 {w : World} {g o : Nat} {v : Option Value} (h : w.cell? ⟨g, o, none⟩ = v) {b i0 i1 i2 i3 : Nat} (hne : g ≠ b) {u0 u1 u2 u3 : Value} : ((((w.setCell ⟨b, i0, none⟩ u0).setCell ⟨b, i1, none⟩ u1).setCell ⟨b, i2, none⟩ u2).setCell ⟨b, i3, none⟩ u3).cell? ⟨g, o, none⟩ = v :=
  farC (farC (farC (farC h hne _) hne _) hne _) hne _
theorem farC5 {w : World} {g o : Nat} {v : Option Value} (h : w.cell? ⟨g, o, none⟩ = v) {b i0 i1 i2 i3 c i4 : Nat} (hne : g ≠ b) (hne2 : g ≠ c) {u0 u1 u2 u3 u4 : Value} : (((((w.setCell ⟨b, i0, none⟩ u0).setCell ⟨b, i1, none⟩ u1).setCell ⟨b, i2, none⟩ u2).setCell ⟨b, i3, none⟩ u3).setCell ⟨c, i4, none⟩ u4).cell? ⟨g, o, none⟩ = v :=
  farC (farC4 h hne) hne2 _
theorem upd_list {g : Nat → Bool} {v b t : Nat → Nat} {q n' : Nat} {x : Bool} (hb : b q = 0) (ht : t q = 0) (k : Nat) : (if k = q then [Value.bool x, .int .i64 (n' : Int), .int .u32 0, .int .u32 0] else stC g v b t k) = stC (upd g q x) (upd v q n') b t k := by
  unfold stC
  by_cases e : k = q
  · subst e; rw [if_pos rfl, upd_same, upd_same, hb, ht]; rfl
  · rw [if_neg e, upd_ne _ _ e, upd_ne _ _ e]
theorem spC_set4 {f f' : Nat → List Value} (hf : ∀ i, (f i).length = 4) (hf' : ∀ i, (f' i).length = 4) {n q : Nat} (hq : q < n) {u0 u1 u2 u3 : Value} (h : ∀ k, f' k = if k = q then [u0, u1, u2, u3] else f k) :
    ((((spC f n).set (q * 4) u0).set (q * 4 + 1) u1).set (q * 4 + 2) u2).set (q * 4 + 3) u3 = spC f' n := by
  refine spC_ext hf' (by simp [spC_len hf]) fun i j hi hj => ?_
  simp only [List.getElem?_set, List.length_set, spC_len hf]
  rw [h i]
  by_cases e : i = q
  · subst e
    rw [if_pos rfl]
    match j, hj with
    | 0, _ => rw [if_neg (by omega), if_neg (by omega), if_neg (by omega), if_pos (by omega), if_pos (by omega)]; rfl
    | 1, _ => rw [if_neg (by omega), if_neg (by omega), if_pos (by omega), if_pos (by omega)]; rfl
    | 2, _ => rw [if_neg (by omega), if_pos (by omega), if_pos (by omega)]; rfl
    | 3, _ => rw [if_pos (by omega), if_pos (by omega)]; rfl
  · rw [if_neg (by omega), if_neg (by omega), if_neg (by omega), if_neg (by omega), if_neg e]
    exact spC_at hf n i j hi hj
theorem sta_first {w : World} {gs hb sb eb n must q : Nat} {g : Nat → Bool} {v : Nat → Nat} (S : StA w gs hb sb eb n must g v (fun _ => 0) (fun _ => 0) (endL n q)) (hq : q < n) (x y : Bool) (hxy : x = y) (n' : Nat) :
    StA (((((w.setCell ⟨sb, q * 4, none⟩ (.bool x)).setCell ⟨sb, q * 4 + 1, none⟩ (.int .i64 (n' : Int))).setCell ⟨sb, q * 4 + 2, none⟩ (.int .u32 0)).setCell ⟨sb, q * 4 + 3, none⟩ (.int .u32 0)).setCell ⟨eb, q, none⟩ (.int .i64 (q : Int))) gs hb sb eb n must (upd g q y) (upd v q n') (fun _ => 0) (fun _ => 0) (endL n (q + 1)) := by
  subst hxy
  have n1 : gs ≠ sb := S.blk.ne_ S.sp (by decide)
  have n2 : gs ≠ eb := S.blk.ne_ S.ep (by decide)
  have n3 : eb ≠ sb := S.ep.ne_ S.sp (by decide)
  have n4 : hb ≠ sb := fun e => by have h1 := S.mp; rw [e] at h1; have h2 := h1.symm.trans S.sp; injection h2 with h2; cases h2
  have n5 : hb ≠ eb := fun e => by have h1 := S.mp; rw [e] at h1; have h2 := h1.symm.trans S.ep; injection h2 with h2; cases h2
  have hl := stC_len g v (fun _ => 0) (fun _ => 0)
  refine ⟨((((S.blk.far (p := ⟨sb, q * 4, none⟩) n1 _).far (p := ⟨sb, q * 4 + 1, none⟩) n1 _).far (p := ⟨sb, q * 4 + 2, none⟩) n1 _).far (p := ⟨sb, q * 4 + 3, none⟩) n1 _).far (p := ⟨eb, q, none⟩) n2 _, ?_, ?_, ?_⟩
  · have h := ((((S.sp.set_ (q * 4) (.bool x)).set_ (q * 4 + 1) (.int .i64 (n' : Int))).set_ (q * 4 + 2) (.int .u32 0)).set_ (q * 4 + 3) (.int .u32 0)).far (p := ⟨eb, q, none⟩) (fun e => n3 e.symm) (.int .i64 (q : Int))
    simp only [List.setIfInBounds_toArray] at h
    rw [spC_set4 hl (stC_len (upd g q x) (upd v q n') (fun _ => 0) (fun _ => 0)) hq (fun k => (upd_list (g := g) (v := v) rfl rfl k).symm)] at h
    exact h
  · have h := (((((S.ep.far (p := ⟨sb, q * 4, none⟩) n3 (.bool x)).far (p := ⟨sb, q * 4 + 1, none⟩) n3 (.int .i64 (n' : Int))).far (p := ⟨sb, q * 4 + 2, none⟩) n3 (.int .u32 0)).far (p := ⟨sb, q * 4 + 3, none⟩) n3 (.int .u32 0)).set_ q (iN q))
    rw [rowN_set, endL_set hq] at h
    exact h
  · have k : ∀ (W : World) (p : Addr) (u : Value), hb ≠ p.block → (W.setCell p u).heap[hb]? = W.heap[hb]? := fun W p u hne => Below.heap_setCell W p u hb hne
    rw [k _ _ _ n5, k _ _ _ n4, k _ _ _ n4, k _ _ _ n4, k _ _ _ n4]
    exact S.mp
theorem blk_first {w : World} {g sb eb q : Nat} {t : TypeId} {cs : Array Value} (h : Blk w g t cs) (h1 : g ≠ sb) (h2 : g ≠ eb) {i0 i1 i2 i3 : Nat} {u0 u1 u2 u3 u4 : Value} : Blk (((((w.setCell ⟨sb, i0, none⟩ u0).setCell ⟨sb, i1, none⟩ u1).setCell ⟨sb, i2, none⟩ u2).setCell ⟨sb, i3, none⟩ u3).setCell ⟨eb, q, none⟩ u4) g t cs :=
  ((((h.far (p := ⟨sb, i0, none⟩) h1 _).far (p := ⟨sb, i1, none⟩) h1 _).far (p := ⟨sb, i2, none⟩) h1 _).far (p := ⟨sb, i3, none⟩) h1 _).far (p := ⟨eb, q, none⟩) h2 _
theorem MetAt.sets {w w' : World} {bb b0 gm g : Nat} {l : List VaL} (h : MetAt w bb b0 gm l) (hg1 : bb ≤ g) (hg2 : g < b0) (hk : ∀ k, k ≠ g → w'.heap[k]? = w.heap[k]?) (hs : w.heap.size ≤ w'.heap.size) : MetAt w' bb b0 gm l := by
  obtain ⟨⟨A, c, h1, h2⟩, h3, h5, h4⟩ := h
  refine ⟨⟨A, c, (hk gm (by omega)).trans h1, ?_⟩, fun x hx => ?_, h5, h4⟩
  · refine ⟨h2.1, ?_⟩
    rcases h2.2 with hn | ⟨g', cap, cur, e1, e2, e3, e4⟩
    · exact Or.inl hn
    · exact Or.inr ⟨g', cap, cur, e1, e2, (hk g' (by omega)).trans e3, e4⟩
  · rcases h3 x hx with h | ⟨b, o, e1, e2, e3⟩
    · exact Or.inl h
    · exact Or.inr ⟨b, o, e1, e2, fun i hi => (World.cell?_of_block (a := ⟨b, o + i, none⟩) (hk b (by omega))).trans (e3 i hi)⟩
theorem met_must {w : World} {bb b0 gm g i : Nat} {l : List VaL} (h : MetAt w bb b0 gm l) (hg1 : bb ≤ g) (hg2 : g < b0) (u : Value) : MetAt (w.setCell ⟨g, i, none⟩ u) bb b0 gm l :=
  h.sets hg1 hg2 (fun k hk => Below.heap_setCell w ⟨g, i, none⟩ u k hk) (by simp)
theorem met_first {w : World} {bb b0 gm sb eb i0 i1 i2 i3 i4 : Nat} {l : List VaL} (h : MetAt w bb b0 gm l) (h1 : bb ≤ sb) (h2 : bb ≤ eb) (h3 : sb < b0) (h4 : eb < b0) {u0 u1 u2 u3 u4 : Value} : MetAt (((((w.setCell ⟨sb, i0, none⟩ u0).setCell ⟨sb, i1, none⟩ u1).setCell ⟨sb, i2, none⟩ u2).setCell ⟨sb, i3, none⟩ u3).setCell ⟨eb, i4, none⟩ u4) bb b0 gm l :=
  met_must (met_must (met_must (met_must (met_must h h1 h3 _) h1 h3 _) h1 h3 _) h1 h3 _) h2 h4 _
theorem sta_must {w : World} {gs hb sb eb n must : Nat} {g : Nat → Bool} {v b t : Nat → Nat} {bl : List Nat} (S : StA w gs hb sb eb n must g v b t bl) (m' : Nat) : StA (w.setCell ⟨gs, 2, none⟩ (.int .u32 (m' : Int))) gs hb sb eb n m' g v b t bl :=
  ⟨S.blk.set_ 2 _, S.sp.far (p := ⟨gs, 2, none⟩) (S.sp.ne_ S.blk (by decide)) _, S.ep.far (p := ⟨gs, 2, none⟩) (S.ep.ne_ S.blk (by decide)) _,
   (Below.heap_setCell w ⟨gs, 2, none⟩ _ hb (fun e => by have h1 := S.mp; rw [show hb = gs from e] at h1; have h2 := h1.symm.trans S.blk; injection h2 with h2; cases h2)).trans S.mp⟩
theorem StA.drewN {w : World} {gs hb sb eb n must : Nat} {g : Nat → Bool} {v b t : Nat → Nat} {bl : List Nat} (S : StA w gs hb sb eb n must g v b t bl) (k : Nat) : StA (w.drewN k) gs hb sb eb n must g v b t bl := ⟨S.blk.drewN k, S.sp.drewN k, S.ep.drewN k, S.mp⟩
/-- Which ended before i began; which read what i reads or leaves. -/
def pB (L : List DeedP) (i j : Nat) : Bool := decide (j ≠ i) && decide ((atD L j).till < (atD L i).fro)
def pT (g : Nat → Bool) (v : Nat → Nat) (i j : Nat) : Bool := g j && decide (v j = v i)
/-- The sets while the first i are made. -/
def bI (L : List DeedP) (n i : Nat) : Nat → Nat := fun k => if k < i then mOf (pB L k) n else 0
def tI (g : Nat → Bool) (v : Nat → Nat) (n i : Nat) : Nat → Nat := fun k => if k < i then mOf (pT g v k) n else 0
theorem bI_zero (L : List DeedP) (n : Nat) : bI L n 0 = fun _ => 0 := by funext k; unfold bI; rw [if_neg (by omega)]
theorem tI_zero (g : Nat → Bool) (v : Nat → Nat) (n : Nat) : tI g v n 0 = fun _ => 0 := by funext k; unfold tI; rw [if_neg (by omega)]
theorem bI_start (L : List DeedP) (n i : Nat) : upd (bI L n i) i (mOf (pB L i) 0) = bI L n i := by
  funext k
  by_cases e : k = i
  · subst e; rw [upd_same]; unfold bI mOf; rw [if_neg (by omega)]
  · rw [upd_ne _ _ e]
theorem tI_start (g : Nat → Bool) (v : Nat → Nat) (n i : Nat) : upd (tI g v n i) i (mOf (pT g v i) 0) = tI g v n i := by
  funext k
  by_cases e : k = i
  · subst e; rw [upd_same]; unfold tI mOf; rw [if_neg (by omega)]
  · rw [upd_ne _ _ e]
theorem bI_end (L : List DeedP) (n i : Nat) : upd (bI L n i) i (mOf (pB L i) n) = bI L n (i + 1) := by
  funext k
  by_cases e : k = i
  · subst e; rw [upd_same]; unfold bI; rw [if_pos (by omega)]
  · rw [upd_ne _ _ e]
    unfold bI
    by_cases h : k < i
    · rw [if_pos h, if_pos (by omega)]
    · rw [if_neg h, if_neg (by omega)]
theorem tI_end (g : Nat → Bool) (v : Nat → Nat) (n i : Nat) : upd (tI g v n i) i (mOf (pT g v i) n) = tI g v n (i + 1) := by
  funext k
  by_cases e : k = i
  · subst e; rw [upd_same]; unfold tI; rw [if_pos (by omega)]
  · rw [upd_ne _ _ e]
    unfold tI
    by_cases h : k < i
    · rw [if_pos h, if_pos (by omega)]
    · rw [if_neg h, if_neg (by omega)]
theorem upd_upd {α : Type} (f : Nat → α) (i : Nat) (x y : α) : upd (upd f i x) i y = upd f i y := by
  funext k
  by_cases e : k = i
  · subst e; rw [upd_same, upd_same]
  · rw [upd_ne _ _ e, upd_ne _ _ e, upd_ne _ _ e]
/-- One of a step's sets is stored. -/
theorem sta_bef {w : World} {gs hb sb eb n must i : Nat} {g : Nat → Bool} {v b t : Nat → Nat} {bl : List Nat} (S : StA w gs hb sb eb n must g v b t bl) (hi : i < n) (x : Nat) : StA (w.setCell ⟨sb, i * 4 + 2, none⟩ (.int .u32 (x : Int))) gs hb sb eb n must g v (upd b i x) t bl := by
  refine ⟨S.blk.far (p := ⟨sb, i * 4 + 2, none⟩) (S.blk.ne_ S.sp (by decide)) _, ?_, S.ep.far (p := ⟨sb, i * 4 + 2, none⟩) (S.ep.ne_ S.sp (by decide)) _, ?_⟩
  · have h := S.sp.set_ (i * 4 + 2) (.int .u32 (x : Int))
    rw [List.setIfInBounds_toArray, spC_set (stC_len g v b t) n i 2 _ hi (by omega)] at h
    have e : (fun k => if k = i then (stC g v b t i).set 2 (.int .u32 (x : Int)) else stC g v b t k) = stC g v (upd b i x) t := by
      funext k
      by_cases e : k = i
      · subst e; rw [if_pos rfl]; unfold stC; rw [upd_same]; rfl
      · rw [if_neg e]; unfold stC; rw [upd_ne _ _ e]
    rw [e] at h
    exact h
  · exact (Below.heap_setCell w ⟨sb, i * 4 + 2, none⟩ _ hb (fun e => by have h1 := S.mp; rw [show hb = sb from e] at h1; have h2 := h1.symm.trans S.sp; injection h2 with h2; cases h2)).trans S.mp
theorem sta_gts {w : World} {gs hb sb eb n must i : Nat} {g : Nat → Bool} {v b t : Nat → Nat} {bl : List Nat} (S : StA w gs hb sb eb n must g v b t bl) (hi : i < n) (x : Nat) : StA (w.setCell ⟨sb, i * 4 + 3, none⟩ (.int .u32 (x : Int))) gs hb sb eb n must g v b (upd t i x) bl := by
  refine ⟨S.blk.far (p := ⟨sb, i * 4 + 3, none⟩) (S.blk.ne_ S.sp (by decide)) _, ?_, S.ep.far (p := ⟨sb, i * 4 + 3, none⟩) (S.ep.ne_ S.sp (by decide)) _, ?_⟩
  · have h := S.sp.set_ (i * 4 + 3) (.int .u32 (x : Int))
    rw [List.setIfInBounds_toArray, spC_set (stC_len g v b t) n i 3 _ hi (by omega)] at h
    have e : (fun k => if k = i then (stC g v b t i).set 3 (.int .u32 (x : Int)) else stC g v b t k) = stC g v b (upd t i x) := by
      funext k
      by_cases e : k = i
      · subst e; rw [if_pos rfl]; unfold stC; rw [upd_same]; rfl
      · rw [if_neg e]; unfold stC; rw [upd_ne _ _ e]
    rw [e] at h
    exact h
  · exact (Below.heap_setCell w ⟨sb, i * 4 + 3, none⟩ _ hb (fun e => by have h1 := S.mp; rw [show hb = sb from e] at h1; have h2 := h1.symm.trans S.sp; injection h2 with h2; cases h2)).trans S.mp
theorem heap4 (w : World) (p q r s : Obj) : ((((w.alloc p).alloc q).alloc r).alloc s).drew.heap[w.heap.size]? = some p ∧ ((((w.alloc p).alloc q).alloc r).alloc s).drew.heap[w.heap.size + 1]? = some q ∧ ((((w.alloc p).alloc q).alloc r).alloc s).drew.heap[w.heap.size + 1 + 1]? = some r ∧ ((((w.alloc p).alloc q).alloc r).alloc s).drew.heap[w.heap.size + 1 + 1 + 1]? = some s ∧ Below w.heap.size w ((((w.alloc p).alloc q).alloc r).alloc s).drew ∧ ((((w.alloc p).alloc q).alloc r).alloc s).drew.heap.size = w.heap.size + 4 := by
  have s1 : (w.alloc p).heap.size = w.heap.size + 1 := by simp
  have s2 : ((w.alloc p).alloc q).heap.size = w.heap.size + 1 + 1 := by simp
  have s3 : (((w.alloc p).alloc q).alloc r).heap.size = w.heap.size + 1 + 1 + 1 := by simp
  have a1 := heap_alloc_new w p
  have a2 := heap_alloc_new (w.alloc p) q
  have a3 := heap_alloc_new ((w.alloc p).alloc q) r
  have a4 := heap_alloc_new (((w.alloc p).alloc q).alloc r) s
  rw [s1] at a2
  rw [s2] at a3
  rw [s3] at a4
  have o2 := fun k (h : k < w.heap.size + 1) => Below.heap_alloc (w.alloc p) q k (by rw [s1]; exact h)
  have o3 := fun k (h : k < w.heap.size + 1 + 1) => Below.heap_alloc ((w.alloc p).alloc q) r k (by rw [s2]; exact h)
  have o4 := fun k (h : k < w.heap.size + 1 + 1 + 1) => Below.heap_alloc (((w.alloc p).alloc q).alloc r) s k (by rw [s3]; exact h)
  refine ⟨(o4 _ (by omega)).trans ((o3 _ (by omega)).trans ((o2 _ (by omega)).trans a1)), (o4 _ (by omega)).trans ((o3 _ (by omega)).trans a2), (o4 _ (by omega)).trans a3, a4, ?_, by show (((((w.alloc p).alloc q).alloc r).alloc s)).heap.size = _; simp⟩
  exact (((((Below.refl _ _).alloc (Nat.le_refl _) _).alloc (by simp) _).alloc (by simp; omega) _).alloc (by simp; omega) _).drew
/-- A map that was just made is one of states from which there is no way. -/
theorem hop_of {E : Env} {w : World} {hb : Nat} (h : w.heap[hb]? = some (.map #[] 0)) : HopM E w hb := by
  obtain ⟨es, clock, h1, F, h3, h4⟩ := World.ownsMap_made (H := Unit) w Try.prog 85 Go.unitElem
  have h2 : some (Obj.map es clock) = some (Obj.map #[] 0) := h1.symm.trans (heap_alloc_new w (.map #[] 0))
  simp only [Option.some.injEq, Obj.map.injEq] at h2
  obtain ⟨rfl, rfl⟩ := h2
  exact ⟨[], ⟨#[], 0, h, F, by simp, rfl⟩, List.Pairwise.nil, fun p hp => by cases hp⟩
theorem so_end {l : List DdL} {n must : Nat} {g : Nat → Bool} {v : Nat → Nat} {met : List VaL} (h : LpI l n must g v met) (hn : l.length = n) (h20 : n ≤ 20) :
    EnvOf (l.map DdL.p) ⟨n, g, v, bI (l.map DdL.p) n n, must⟩ ∧ OkE ⟨n, g, v, bI (l.map DdL.p) n n, must⟩ (tI g v n n) ∧ OkB ⟨n, g, v, bI (l.map DdL.p) n n, must⟩ (ordS (fun k => (atD (l.map DdL.p) k).till) n) := by
  have hl : (l.map DdL.p).length = n := by rw [List.length_map]; exact hn
  have hbB : ∀ i, i < n → ∀ j, (bI (l.map DdL.p) n n i).testBit j = true ↔ j < n ∧ j ≠ i ∧ (atD (l.map DdL.p) j).till < (atD (l.map DdL.p) i).fro := fun i hi j => by
    unfold bI
    rw [if_pos hi, mOf_bit]
    unfold pB
    simp
  refine ⟨⟨hl.symm, fun i hi => h.hg i (by omega), fun j => ?_, fun i hi j => ?_, met.map VaL.va, h.nd, ?_, fun i hi => ?_⟩, ⟨h20, ?_, fun i hi => ?_, fun i hi => ?_, fun i hi => ?_, fun i hi j => ?_⟩, ⟨fun i hi => ?_, fun k x hx => ?_, fun k1 k2 i1 i2 hk e1 e2 j hj hne => ?_⟩⟩
  · show must.testBit j = true ↔ _
    rw [h.hm, mOf_bit, hl]
  · rw [hl] at hi ⊢
    exact hbB i hi j
  · obtain ⟨y, h1, h2⟩ := h.h0
    rw [List.getElem?_map, h1, ← h2]; rfl
  · obtain ⟨y, h1, h2⟩ := h.hv i (by omega)
    show (met.map VaL.va)[v i]? = _
    rw [List.getElem?_map, h1, ← h2]; rfl
  · show must < 1048576
    rw [h.hm]; exact mOf_lt _ _ 20 (by omega)
  · show bI _ n n i < 1048576
    unfold bI
    rw [if_pos hi]; exact mOf_lt _ _ 20 (by omega)
  · show tI _ _ n n i < 1048576
    unfold tI
    rw [if_pos hi]; exact mOf_lt _ _ 20 (by omega)
  · obtain ⟨y, h1, h2⟩ := h.hv i hi
    have := (List.getElem?_eq_some_iff.1 h1).1
    have := h.ln
    show v i ≤ 20
    omega
  · show (tI g v n n i).testBit j = true ↔ j < n ∧ g j = true ∧ v j = v i
    unfold tI
    rw [if_pos hi, mOf_bit]
    unfold pT
    simp
  · obtain ⟨k, hk, e⟩ := List.mem_iff_getElem.1 (ord_has (fun k => (atD (l.map DdL.p) k).till) n i hi)
    exact ⟨k, by rw [ordS_len] at hk; exact hk, by rw [List.getElem?_eq_getElem hk, e]⟩
  · exact ordS_mem _ _ _ (List.mem_of_getElem? hx)
  · have l1 := (List.getElem?_eq_some_iff.1 e1).1
    have l2 := (List.getElem?_eq_some_iff.1 e2).1
    have hs := List.pairwise_iff_getElem.1 (ord_asc (fun k => (atD (l.map DdL.p) k).till) n) k1 k2 l1 l2 hk
    rw [(List.getElem?_eq_some_iff.1 e1).2, (List.getElem?_eq_some_iff.1 e2).2] at hs
    have hi1 : i1 < n := ordS_mem _ _ _ (List.mem_of_getElem? e1)
    rcases Nat.lt_or_ge j n with hjn | hjn
    · obtain ⟨x1, x2, x3⟩ := (hbB j hjn i2).1 hj
      refine (hbB j hjn i1).2 ⟨hi1, fun e => hne e.symm, ?_⟩
      have hs' : (atD (l.map DdL.p) i1).till ≤ (atD (l.map DdL.p) i2).till := hs
      omega
    · have h0 : bI (l.map DdL.p) n n j = 0 := by unfold bI; rw [if_neg (by omega)]
      have : (bI (l.map DdL.p) n n j).testBit i2 = true := hj
      rw [h0, Nat.zero_testBit] at this; cases this
theorem StA.mne {w : World} {gs hb sb eb n must : Nat} {g : Nat → Bool} {v b t : Nat → Nat} {bl : List Nat} (S : StA w gs hb sb eb n must g v b t bl) : hb ≠ eb := fun e => by
  have h1 := S.mp
  rw [e] at h1
  have h2 := h1.symm.trans S.ep
  injection h2 with h2
  cases h2
theorem so_at {w w' : World} {gs hb sb eb n must : Nat} {g : Nat → Bool} {v b t : Nat → Nat} {bl : List Nat} {sc : Nat → Int} (S : StA w gs hb sb eb n must g v b t bl) (he : Blk w' eb 3 (rowN15 (ordS sc n))) (hg : w.grownBy w' (some eb)) :
    SchAt w' gs hb sb n eb n ⟨n, g, v, b, must⟩ t (ordS sc n) := by
  have hgs := S.blk.grown hg (fun e => S.blk.ne_ S.ep (by decide) (by injection e))
  have hsb := S.sp.grown hg (fun e => S.sp.ne_ S.ep (by decide) (by injection e))
  have hcell : ∀ i, i < n → _ := fun i hi => (show StA w' gs hb sb eb n must g v b t (ordS sc n) from ⟨hgs, hsb, he, (hg.block hb (Array.getElem?_eq_some_iff.1 S.mp).1 (fun e => S.mne (by injection e))).trans S.mp⟩).cell i hi
  have hmp : w'.heap[hb]? = some (.map #[] 0) := (hg.block hb (Array.getElem?_eq_some_iff.1 S.mp).1 (fun e => S.mne (by injection e))).trans S.mp
  refine ⟨hgs, hcell, fun k hk => ?_, ?_, ?_, ?_, hgs.lt, hsb.lt, he.lt⟩
  · have hk' : k < (ordS sc n).length := by rw [ordS_len]; exact hk
    exact ⟨(ordS sc n)[k], List.getElem?_eq_getElem hk', (he.cell k).trans (rowN_get (List.getElem?_eq_getElem hk'))⟩
  · intro e; rw [← e] at hmp; have h2 := hmp.symm.trans hgs; injection h2 with h2; cases h2
  · intro e; rw [← e] at hmp; have h2 := hmp.symm.trans hsb; injection h2 with h2; cases h2
  · intro e; rw [← e] at hmp; have h2 := hmp.symm.trans he; injection h2 with h2; cases h2
/-- A search of deeds was made. -/
def SoP (l : List DdL) (w : World) (e : Ending) (w' : World) : Prop :=
  ∃ gs hb sb c1 eb c2 E gt be, e = .returned (.pointer (some ⟨gs, 0, none⟩)) ∧ SchAt w' gs hb sb c1 eb c2 E gt be ∧ OkE E gt ∧ OkB E be ∧ EnvOf (l.map DdL.p) E ∧ HopM E w' hb ∧ Below w.heap.size w w' ∧ w.heap.size ≤ hb
end Go.Proofs.Ytlecbhnopokmnaa
