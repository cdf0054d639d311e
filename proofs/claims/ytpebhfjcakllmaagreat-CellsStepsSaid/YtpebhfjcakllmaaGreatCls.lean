/- Cls: A table of cells, without memory: what each call does to it and tells; what always holds of it. -/
import Derived.Test.YtpebhfjcakllmaaGreatCel
import Derived.Test.YtpebhfjcakllmaaGreatHsh
namespace Go.Proofs.YtpebhfjcakllmaaGreat
open Go.RowKit Mem Be Word Go.Maps
set_option maxRecDepth 10000
set_option maxHeartbeats 1000000
set_option linter.unusedVariables false
/-- A table: its room, its cells by rising keys, the tokens, how often cells were used. -/
structure Cl where
  rc : Int
  rb : Int
  nb : Nat
  fr : Bool
  T : List CP
  tok : List Int
  us : Int
def sizE (e : EntP) : Nat := e.k.length + e.v.length
def sumC (T : List CP) : Nat := (T.map fun x => sizE x.e).sum
def bk (n : Nat) (k : List UInt8) : Nat := keyN k % n
def tokK (S : Cl) (k : List UInt8) : Int := S.tok.getD (bk S.nb k) 0
def incT (l : List Int) (i : Nat) : List Int := l.set i (l.getD i 0 + 1)
instance okEdec (e : EntP) : Decidable (okE e) := by unfold okE; infer_instance
def cE (a b : EntP) : Int := cmpT a.s a.u a.o b.s b.u b.o
def useS (S : Cl) (x : CP) : Cl := { S with T := putK kP S.T { x with us := S.us + 1 }, us := S.us + 1 }
def goneS (S : Cl) (k : List UInt8) : Cl := { S with T := delK kP k S.T, tok := incT S.tok (bk S.nb k) }
def fitsS (S : Cl) (L : List CP) (e : EntP) : Prop := (L.length : Int) < S.rc ∧ (sumC L : Int) + (sizE e : Int) ≤ S.rb
instance fitsDec (S : Cl) (L : List CP) (e : EntP) : Decidable (fitsS S L e) := by unfold fitsS; infer_instance
def stayC (T : List CP) (k : List UInt8) : List CP := (delK kP k T).filter fun x => !x.cl
def cleanC (T : List CP) (k : List UInt8) : List CP := (delK kP k T).filter fun x => x.cl
def oldS (T : List CP) (k : List UInt8) : Option CP := (cleanC T k).find? fun x => (cleanC T k).all fun y => decide (x.us ≤ y.us)
def roomF : Nat → Cl → EntP → Cl × Int
  | 0, S, _ => (S, 30)
  | n + 1, S, e => if fitsS S (delK kP e.k S.T) e then (S, 0) else if fitsS S (stayC S.T e.k) e then
    match oldS S.T e.k with
    | none => (S, 30)
    | some x => roomF n (goneS S x.e.k) e
    else (S, 30)
def roomS (S : Cl) (e : EntP) : Cl × Int := roomF (S.T.length + 1) S e
/-- What a reply tells: an entry, is it whole, the token. -/
structure RpP where
  e : EntP
  wh : Bool
  tok : Int
def rp0 : RpP := ⟨entN [], false, 0⟩
def queryS (S : Cl) (k : List UInt8) : Cl × RpP × Int :=
  if k = [] ∨ 250 < k.length then (S, rp0, 2) else
  match getK kP S.T k with
  | none => (S, ⟨entN k, tokK S k == 0, tokK S k⟩, 0)
  | some x => (useS S x, ⟨x.e, x.wh, tokK S k⟩, 0)
def layS (S : Cl) (e : EntP) (wh cl : Bool) : Cl × Int := if (roomS S e).2 = 0 then (useS (roomS S e).1 ⟨e, wh, cl, 0⟩, 0) else roomS S e
def storeS (S : Cl) (e : EntP) : Cl × Int :=
  if ¬ okE e ∨ e.s = 0 then (S, 2) else
  match getK kP S.T e.k with
  | none => layS S e (tokK S e.k == 0) false
  | some x => if 0 ≤ cE x.e e then (useS S x, 0) else layS S e x.wh false
def layF (S : Cl) (e : EntP) : Cl × Bool × Int := ((layS S e true true).1, (layS S e true true).2 == 0, (layS S e true true).2)
def fillS (S : Cl) (e : EntP) (t : Int) : Cl × Bool × Int :=
  if ¬ okE e then (S, false, 2) else if t ≠ tokK S e.k then (S, false, 0) else
  match getK kP S.T e.k with
  | none => layF S e
  | some x => if 0 < cE x.e e then (useS S { x with wh := true }, true, 0) else layF S e
def cleanS (S : Cl) (k : List UInt8) (s u o : Int) : Cl × Bool :=
  match getK kP S.T k with
  | none => (S, false)
  | some x => if 0 < cmpT x.e.s x.e.u x.e.o s u o then (S, false) else ({ S with T := putK kP S.T { x with cl := true } }, true)
def evictS (S : Cl) (k : List UInt8) : Cl × Bool :=
  match getK kP S.T k with
  | none => (S, false)
  | some x => if x.cl = true then (goneS S k, true) else (S, false)
def unW (x : CP) : CP := { x with wh := false }
def forgetS (S : Cl) : Cl := { S with T := S.T.map unW, tok := S.tok.map (· + 1) }
/-- What always holds. -/
structure OkC (S : Cl) : Prop where
  srt : SortT kP S.T
  ok : ∀ x ∈ S.T, okE x.e
  pos : ∀ x ∈ S.T, 1 ≤ x.us ∧ x.us ≤ S.us
  inj : ∀ x ∈ S.T, ∀ y ∈ S.T, x.us = y.us → x = y
  rc : 1 ≤ S.rc ∧ S.rc ≤ 4096
  rb : 1 ≤ S.rb ∧ S.rb ≤ 4194304
  nb : 1 ≤ S.nb ∧ S.nb ≤ 256
  tl : S.tok.length = S.nb
  len : (S.T.length : Int) ≤ S.rc
  sum : (sumC S.T : Int) ≤ S.rb
  u0 : 0 ≤ S.us
  t0 : ∀ t ∈ S.tok, 0 ≤ t
/-- No number is above what q things that were done can make it. -/
def LimC (S : Cl) (q : Nat) : Prop := S.us ≤ q ∧ ∀ t ∈ S.tok, t ≤ 5000 * q + 1
section
variable {S : Cl} {e : EntP} {k : List UInt8} {x : CP}
theorem bk_lt (h : OkC S) (k : List UInt8) : bk S.nb k < S.tok.length := by rw [h.tl]; exact Nat.mod_lt _ (by have := h.nb; omega)
theorem tokK_mem (h : OkC S) (k : List UInt8) : tokK S k ∈ S.tok := by
  unfold tokK
  rw [List.getD_eq_getElem?_getD, List.getElem?_eq_getElem (bk_lt h k)]
  exact List.getElem_mem _
theorem incT_len (l : List Int) (i : Nat) : (incT l i).length = l.length := by unfold incT; simp
theorem incT_mem {l : List Int} {i : Nat} {t : Int} (h : t ∈ incT l i) : t ∈ l ∨ (i < l.length ∧ t = l.getD i 0 + 1) := by
  unfold incT at h
  rcases List.mem_or_eq_of_mem_set h with h1 | h1
  · exact Or.inl h1
  · by_cases hi : i < l.length
    · exact Or.inr ⟨hi, h1⟩
    · rw [List.set_eq_of_length_le (by omega)] at h; exact Or.inl h
theorem getD_mem {l : List Int} {i : Nat} (h : i < l.length) : l.getD i 0 ∈ l := by
  rw [List.getD_eq_getElem?_getD, List.getElem?_eq_getElem h]; exact List.getElem_mem _
theorem sumC_app (a b : List CP) : sumC (a ++ b) = sumC a + sumC b := by unfold sumC; rw [List.map_append, List.sum_append]
theorem sumC_cons (x : CP) (b : List CP) : sumC (x :: b) = sizE x.e + sumC b := rfl
theorem sumC_ins (x : CP) : ∀ T : List CP, sumC (insK kP x T) = sizE x.e + sumC T
  | [] => rfl
  | y :: r => by
    unfold insK
    split
    · rfl
    · rw [sumC_cons, sumC_ins x r, sumC_cons]; omega
theorem sumC_put (x : CP) (T : List CP) : sumC (putK kP T x) = sizE x.e + sumC (delK kP x.e.k T) := by unfold putK; rw [sumC_ins]
theorem len_put (x : CP) (T : List CP) : (putK kP T x).length = (delK kP x.e.k T).length + 1 := by unfold putK; rw [ins_len]
theorem sumC_filter (p : CP → Bool) (T : List CP) : sumC (T.filter p) ≤ sumC T := by
  induction T with
  | nil => exact Nat.le_refl _
  | cons y r ih =>
    rw [List.filter_cons]
    split
    · rw [sumC_cons, sumC_cons]; omega
    · rw [sumC_cons]; omega
theorem del_le (k : List UInt8) (T : List CP) : (delK kP k T).length ≤ T.length ∧ sumC (delK kP k T) ≤ sumC T := ⟨List.length_filter_le _ _, sumC_filter _ _⟩
/-- What stands in a table, and what is left when it is taken off. -/
theorem del_cons {T : List CP} (hs : SortT kP T) (hx : x ∈ T) : T.length = (delK kP x.e.k T).length + 1 ∧ sumC T = sizE x.e + sumC (delK kP x.e.k T) := by
  induction T with
  | nil => cases hx
  | cons y r ih =>
    obtain ⟨h1, h2⟩ := List.pairwise_cons.1 hs
    by_cases hy : y.e.k = x.e.k
    · have hxy : x = y := sort_inj hs hx (by simp) hy.symm
      subst hxy
      have hr : delK kP x.e.k r = r := del_of_none fun z hz => fun e => bb_ne (h1 z hz) e.symm
      have : delK kP x.e.k (x :: r) = r := by
        unfold delK at hr ⊢
        rw [List.filter_cons, if_neg (by simp)]; exact hr
      rw [this]
      exact ⟨rfl, rfl⟩
    · have hxr : x ∈ r := by
        rcases List.mem_cons.1 hx with h | h
        · exact absurd (congrArg (fun z => z.e.k) h.symm) hy
        · exact h
      have : delK kP x.e.k (y :: r) = y :: delK kP x.e.k r := by
        unfold delK
        rw [List.filter_cons, if_pos (by simpa using hy)]
      obtain ⟨i1, i2⟩ := ih h2 hxr
      rw [this, List.length_cons, List.length_cons, sumC_cons, sumC_cons]
      exact ⟨by omega, by omega⟩
theorem get_delC {T : List CP} {k k' : List UInt8} : getK kP (delK kP k T) k' = if k = k' then none else getK kP T k' := get_del
theorem sizE_le (h : okE e) : sizE e ≤ 60250 ∧ e.k.length ≤ 250 ∧ e.v.length ≤ 60000 ∧ 0 < e.k.length := by
  have := rightE_yes h
  unfold sizE; omega
theorem mem_stay {T : List CP} {y : CP} : y ∈ stayC T k ↔ y ∈ T ∧ y.e.k ≠ k ∧ y.cl = false := by
  unfold stayC
  rw [List.mem_filter, mem_del]
  simp [and_assoc]
theorem mem_clean {T : List CP} {y : CP} : y ∈ cleanC T k ↔ y ∈ T ∧ y.e.k ≠ k ∧ y.cl = true := by
  unfold cleanC
  rw [List.mem_filter, mem_del]
  simp [and_assoc]
theorem old_some {T : List CP} (h : oldS T k = some x) : x ∈ T ∧ x.e.k ≠ k ∧ x.cl = true ∧ ∀ y ∈ T, y.e.k ≠ k → y.cl = true → x.us ≤ y.us := by
  unfold oldS at h
  have h1 := List.find?_some h
  obtain ⟨h2, h3, h4⟩ := mem_clean.1 (List.mem_of_find?_eq_some h)
  refine ⟨h2, h3, h4, fun y y1 y2 y3 => ?_⟩
  have := List.all_eq_true.1 h1 y (mem_clean.2 ⟨y1, y2, y3⟩)
  simpa using this
theorem min_any : ∀ L : List CP, L ≠ [] → ∃ x ∈ L, ∀ y ∈ L, x.us ≤ y.us
  | [], h => absurd rfl h
  | [a], _ => ⟨a, by simp, fun y hy => by simp at hy; subst hy; omega⟩
  | a :: b :: r, _ => by
    obtain ⟨x, hx, hm⟩ := min_any (b :: r) (by simp)
    by_cases h : a.us ≤ x.us
    · exact ⟨a, by simp, fun y hy => by
        rcases List.mem_cons.1 hy with rfl | hy
        · exact Int.le_refl _
        · exact Int.le_trans h (hm y hy)⟩
    · exact ⟨x, by simp [hx], fun y hy => by
        rcases List.mem_cons.1 hy with rfl | hy
        · omega
        · exact hm y hy⟩
theorem old_any {T : List CP} {y : CP} (h1 : y ∈ T) (h2 : y.e.k ≠ k) (h3 : y.cl = true) : ∃ x, oldS T k = some x := by
  obtain ⟨x, hx, hm⟩ := min_any (cleanC T k) (fun e => by have := mem_clean.2 ⟨h1, h2, h3⟩; rw [e] at this; cases this)
  have : (oldS T k).isSome = true := by
    unfold oldS
    rw [List.find?_isSome]
    exact ⟨x, hx, List.all_eq_true.2 fun y hy => by simpa using hm y hy⟩
  exact Option.isSome_iff_exists.1 this
theorem old_is {T : List CP} (hi : ∀ x ∈ T, ∀ y ∈ T, x.us = y.us → x = y) (h1 : x ∈ T) (h2 : x.e.k ≠ k) (h3 : x.cl = true) (h4 : ∀ y ∈ T, y.e.k ≠ k → y.cl = true → x.us ≤ y.us) : oldS T k = some x := by
  obtain ⟨z, hz⟩ := old_any h1 h2 h3
  obtain ⟨z1, z2, z3, z4⟩ := old_some hz
  have e1 := h4 z z1 z2 z3
  have e2 := z4 x h1 h2 h3
  rw [hz, hi z z1 x h1 (by omega)]
theorem stay_all {T : List CP} (h : cleanC T k = []) : stayC T k = delK kP k T := by
  unfold stayC
  unfold cleanC at h
  refine List.filter_eq_self.2 fun y hy => ?_
  have := List.filter_eq_nil_iff.1 h y hy
  simpa using this
theorem stay_gone {T : List CP} (hs : SortT kP T) (hx : x ∈ T) (hc : x.cl = true) : stayC (delK kP x.e.k T) k = stayC T k := by
  unfold stayC delK
  rw [List.filter_filter, List.filter_filter, List.filter_filter]
  refine List.filter_congr fun y hy => ?_
  by_cases e : y.e.k = x.e.k
  · have : y = x := sort_inj hs hy hx e
    subst this
    simp [hc]
  · simp [e]
theorem fits_gone {L : List CP} : fitsS (goneS S k) L e ↔ fitsS S L e := Iff.rfl
end
theorem room_fits : ∀ (n : Nat) (S : Cl) (e : EntP), SortT kP S.T → fitsS S (stayC S.T e.k) e → S.T.length < n → (roomF n S e).2 = 0
  | 0, S, e, _, _, h => by omega
  | n + 1, S, e, hs, hf, hn => by
    unfold roomF
    split
    · rfl
    · rename_i hno
      have hne : cleanC S.T e.k ≠ [] := fun h => hno (by rw [← stay_all h]; exact hf)
      obtain ⟨y, hy⟩ := List.exists_mem_of_ne_nil _ hne
      obtain ⟨y1, y2, y3⟩ := mem_clean.1 hy
      obtain ⟨x, hx⟩ := old_any y1 y2 y3
      obtain ⟨x1, x2, x3, _⟩ := old_some hx
      rw [hx]
      have hd := (del_cons hs x1).1
      exact room_fits n (goneS S x.e.k) e (del_sort hs) (by rw [fits_gone]; show fitsS S (stayC (delK kP x.e.k S.T) e.k) e; rw [stay_gone hs x1 x3]; exact hf) (by show (delK kP x.e.k S.T).length < n; omega)
/-- What is busy has changed nothing. -/
theorem room_busy {S : Cl} {e : EntP} (hs : SortT kP S.T) (h : (roomS S e).2 ≠ 0) : roomS S e = (S, 30) := by
  unfold roomS at h ⊢
  by_cases hf : fitsS S (stayC S.T e.k) e
  · exact absurd (room_fits _ S e hs hf (Nat.lt_succ_self _)) h
  · unfold roomF at h ⊢
    split
    · rename_i h1; rw [if_pos h1] at h; exact absurd rfl h
    · rfl
/-- Cells that are clean, of other keys, were evicted. -/
inductive Evs (k : List UInt8) : Cl → Cl → Prop
  | refl (S : Cl) : Evs k S S
  | step {S R : Cl} {x : CP} (hx : x ∈ S.T) (hc : x.cl = true) (hk : x.e.k ≠ k) (h : Evs k (goneS S x.e.k) R) : Evs k S R
theorem room_evs : ∀ (n : Nat) (S : Cl) (e : EntP), Evs e.k S (roomF n S e).1
  | 0, S, e => .refl S
  | n + 1, S, e => by
    unfold roomF
    split
    · exact .refl S
    · split
      · cases h : oldS S.T e.k with
        | none => exact .refl S
        | some x =>
          obtain ⟨x1, x2, x3, _⟩ := old_some h
          exact .step x1 x3 x2 (room_evs n (goneS S x.e.k) e)
      · exact .refl S
theorem room_has : ∀ (n : Nat) (S : Cl) (e : EntP), (roomF n S e).2 = 0 → fitsS (roomF n S e).1 (delK kP e.k (roomF n S e).1.T) e
  | 0, S, e, h => by unfold roomF at h; cases h
  | n + 1, S, e, h => by
    unfold roomF at h ⊢
    split
    · rename_i hf; exact hf
    · rename_i hf
      rw [if_neg hf] at h
      split
      · rename_i h2
        rw [if_pos h2] at h
        cases h3 : oldS S.T e.k with
        | none => rw [h3] at h; cases h
        | some x => rw [h3] at h; exact room_has n _ e h
      · rename_i h2; rw [if_neg h2] at h; cases h
/-- What evictions keep. -/
structure EvK (k : List UInt8) (S R : Cl) : Prop where
  rc : R.rc = S.rc
  rb : R.rb = S.rb
  nb : R.nb = S.nb
  fr : R.fr = S.fr
  us : R.us = S.us
  sub : R.T.Sublist S.T
  kept : ∀ y ∈ S.T, y.cl = false ∨ y.e.k = k → y ∈ R.T
  tl : R.tok.length = S.tok.length
theorem evs_keep {k : List UInt8} {S R : Cl} (h : Evs k S R) : SortT kP S.T → EvK k S R := by
  induction h with
  | refl S => exact fun _ => ⟨rfl, rfl, rfl, rfl, rfl, List.Sublist.refl _, fun y hy _ => hy, rfl⟩
  | @step S R x hx hc hk h ih =>
    intro hs
    have ih := ih (del_sort hs)
    refine ⟨ih.rc, ih.rb, ih.nb, ih.fr, ih.us, ih.sub.trans List.filter_sublist, fun y hy hh => ih.kept y (mem_del.2 ⟨hy, fun e => ?_⟩) hh, ih.tl.trans (incT_len _ _)⟩
    have : y = x := sort_inj hs hy hx e
    subst this
    rcases hh with hh | hh
    · rw [hc] at hh; cases hh
    · exact hk hh
theorem ok_gone {S : Cl} (h : OkC S) (k : List UInt8) : OkC (goneS S k) := by
  have hm : ∀ x ∈ delK kP k S.T, x ∈ S.T := fun x hx => (mem_del.1 hx).1
  have hd := del_le k S.T
  have h1 := h.len
  have h2 := h.sum
  refine ⟨del_sort h.srt, fun x hx => h.ok x (hm x hx), fun x hx => h.pos x (hm x hx), fun x hx y hy => h.inj x (hm x hx) y (hm y hy), h.rc, h.rb, h.nb, (incT_len _ _).trans h.tl, ?_, ?_, h.u0, fun t ht => ?_⟩
  · show ((delK kP k S.T).length : Int) ≤ S.rc; omega
  · show (sumC (delK kP k S.T) : Int) ≤ S.rb; omega
  · rcases incT_mem ht with h3 | ⟨h3, rfl⟩
    · exact h.t0 t h3
    · have := h.t0 _ (getD_mem h3); omega
theorem ok_evs {k : List UInt8} {S R : Cl} (h : Evs k S R) : OkC S → OkC R := by
  induction h with
  | refl S => exact id
  | step hx hc hk h ih => exact fun ho => ih (ok_gone ho _)
theorem lim_evs {k : List UInt8} {S R : Cl} (h : Evs k S R) : SortT kP S.T → R.T.length ≤ S.T.length ∧ ∀ M : Int, (∀ t ∈ S.tok, t ≤ M) → ∀ t ∈ R.tok, t ≤ M + (S.T.length : Int) - (R.T.length : Int) := by
  induction h with
  | refl S => exact fun _ => ⟨Nat.le_refl _, fun M hM t ht => by have := hM t ht; omega⟩
  | @step S R x hx hc hk h ih =>
    intro hs
    obtain ⟨ih1, ih2⟩ := ih (del_sort hs)
    have hd := (del_cons hs hx).1
    change R.T.length ≤ (delK kP x.e.k S.T).length at ih1
    refine ⟨by omega, fun M hM t ht => ?_⟩
    have := ih2 (M + 1) (fun t ht => by
      rcases incT_mem ht with h3 | ⟨h3, rfl⟩
      · have := hM t h3; omega
      · have := hM _ (getD_mem h3); omega) t ht
    change t ≤ M + 1 + ((delK kP x.e.k S.T).length : Int) - (R.T.length : Int) at this
    omega
theorem ok_use {S : Cl} {x : CP} (h : OkC S) (hx : okE x.e) (h1 : ((delK kP x.e.k S.T).length : Int) + 1 ≤ S.rc) (h2 : (sumC (delK kP x.e.k S.T) : Int) + sizE x.e ≤ S.rb) : OkC (useS S x) := by
  have hm : ∀ y ∈ putK kP S.T { x with us := S.us + 1 }, y = { x with us := S.us + 1 } ∨ (y ∈ S.T ∧ y.us ≤ S.us) := fun y hy => by
    rcases mem_put_of hy with h3 | h3
    · exact Or.inl h3
    · exact Or.inr ⟨h3, (h.pos y h3).2⟩
  have hu := h.u0
  refine ⟨put_sort h.srt, fun y hy => ?_, fun y hy => ?_, fun y hy z hz e => ?_, h.rc, h.rb, h.nb, h.tl, ?_, ?_, by show 0 ≤ S.us + 1; omega, h.t0⟩
  · rcases hm y hy with rfl | ⟨h3, _⟩
    · exact hx
    · exact h.ok y h3
  · show 1 ≤ y.us ∧ y.us ≤ S.us + 1
    rcases hm y hy with rfl | ⟨h3, _⟩
    · simp only; omega
    · have := h.pos y h3; omega
  · rcases hm y hy with rfl | ⟨h3, h4⟩ <;> rcases hm z hz with rfl | ⟨h5, h6⟩
    · rfl
    · simp only at e; omega
    · simp only at e; omega
    · exact h.inj y h3 z h5 e
  · show ((putK kP S.T { x with us := S.us + 1 }).length : Int) ≤ S.rc
    rw [len_put]; simp only; omega
  · show (sumC (putK kP S.T { x with us := S.us + 1 }) : Int) ≤ S.rb
    rw [sumC_put]; simp only; omega
/-- A cell that is there is used, with its entry as it is. -/
theorem ok_used {S : Cl} {x y : CP} (h : OkC S) (hy : y ∈ S.T) (he : x.e = y.e) : OkC (useS S x) := by
  obtain ⟨d1, d2⟩ := del_cons h.srt hy
  have h1 := h.len
  have h2 := h.sum
  rw [← he] at d1 d2
  exact ok_use h (by rw [he]; exact h.ok y hy) (by omega) (by omega)
theorem ok_lay {S : Cl} {e : EntP} (h : OkC S) (he : okE e) (wh cl : Bool) : OkC (layS S e wh cl).1 := by
  have hr : OkC (roomS S e).1 := ok_evs (room_evs _ _ _) h
  unfold layS
  split
  · rename_i h0
    have := room_has _ _ _ h0
    obtain ⟨h1, h2⟩ := this
    exact ok_use hr he (by show ((delK kP e.k _).length : Int) + 1 ≤ _; have : (roomF (S.T.length + 1) S e) = roomS S e := rfl; rw [this] at h1; omega) h2
  · exact hr
theorem lim_q {S : Cl} {q : Nat} (h : LimC S q) : LimC S (q + 1) := ⟨by have := h.1; omega, fun t ht => by have := h.2 t ht; omega⟩
theorem lim_use {S : Cl} {q : Nat} (h : LimC S q) (x : CP) : LimC (useS S x) (q + 1) := ⟨by have := h.1; show S.us + 1 ≤ _; omega, fun t ht => by have := h.2 t ht; omega⟩
theorem lim_lay {S : Cl} {q : Nat} {e : EntP} (ok : OkC S) (h : LimC S q) (wh cl : Bool) : LimC (layS S e wh cl).1 (q + 1) := by
  have hv := room_evs (S.T.length + 1) S e
  have hk := evs_keep hv ok.srt
  have hl := (lim_evs hv ok.srt).2 _ h.2
  have h1 := ok.len
  have h2 := ok.rc
  have hu : (roomS S e).1.us = S.us := hk.us
  have ht : ∀ t ∈ (roomS S e).1.tok, t ≤ 5000 * ((q + 1 : Nat) : Int) + 1 := fun t ht => by
    have := hl t ht
    omega
  unfold layS
  split
  · refine ⟨?_, ht⟩
    show (roomS S e).1.us + 1 ≤ _
    rw [hu]
    have := h.1; omega
  · exact ⟨by rw [hu]; have := h.1; omega, ht⟩
theorem lim_gone {S : Cl} {q : Nat} (h : LimC S q) (k : List UInt8) : LimC (goneS S k) (q + 1) := ⟨by have := h.1; show S.us ≤ _; omega, fun t ht => by
  rcases incT_mem ht with h3 | ⟨h3, rfl⟩
  · have := h.2 t h3; omega
  · have := h.2 _ (getD_mem h3); omega⟩
theorem ok_flag {S : Cl} {x y : CP} (h : OkC S) (hy : y ∈ S.T) (he : x.e = y.e) (hu : x.us = y.us) : OkC { S with T := putK kP S.T x } := by
  obtain ⟨d1, d2⟩ := del_cons h.srt hy
  have h1 := h.len
  have h2 := h.sum
  rw [← he] at d1 d2
  have hm : ∀ z ∈ putK kP S.T x, z = x ∨ (z ∈ S.T ∧ z.e.k ≠ y.e.k) := fun z hz => by
    rcases mem_put.1 hz with h3 | ⟨h3, h4⟩
    · exact Or.inl h3
    · exact Or.inr ⟨h3, by rw [← he]; exact h4⟩
  refine ⟨put_sort h.srt, fun z hz => ?_, fun z hz => ?_, fun z hz z' hz' e => ?_, h.rc, h.rb, h.nb, h.tl, ?_, ?_, h.u0, h.t0⟩
  · rcases hm z hz with rfl | ⟨h3, _⟩
    · rw [he]; exact h.ok y hy
    · exact h.ok z h3
  · rcases hm z hz with rfl | ⟨h3, _⟩
    · rw [hu]; exact h.pos y hy
    · exact h.pos z h3
  · rcases hm z hz with rfl | ⟨h3, h4⟩ <;> rcases hm z' hz' with rfl | ⟨h5, h6⟩
    · rfl
    · exact absurd (congrArg (fun c => c.e.k) (h.inj y hy z' h5 (by rw [← hu]; exact e))).symm h6
    · exact absurd (congrArg (fun c => c.e.k) (h.inj z h3 y hy (by rw [← hu]; exact e))) h4
    · exact h.inj z h3 z' h5 e
  · show ((putK kP S.T x).length : Int) ≤ S.rc
    rw [len_put]; omega
  · show (sumC (putK kP S.T x) : Int) ≤ S.rb
    rw [sumC_put]; omega
theorem ok_query {S : Cl} {q : Nat} (h : OkC S ∧ LimC S q) (k : List UInt8) : OkC (queryS S k).1 ∧ LimC (queryS S k).1 (q + 1) := by
  unfold queryS
  split
  · exact ⟨h.1, lim_q h.2⟩
  · cases hg : getK kP S.T k with
    | none => exact ⟨h.1, lim_q h.2⟩
    | some x => exact ⟨ok_used h.1 (get_some hg).1 rfl, lim_use h.2 x⟩
theorem ok_store {S : Cl} {q : Nat} (h : OkC S ∧ LimC S q) (e : EntP) : OkC (storeS S e).1 ∧ LimC (storeS S e).1 (q + 1) := by
  unfold storeS
  split
  · exact ⟨h.1, lim_q h.2⟩
  · rename_i hn
    have he : okE e := Decidable.byContradiction fun h1 => hn (Or.inl h1)
    cases hg : getK kP S.T e.k with
    | none => exact ⟨ok_lay h.1 he _ _, lim_lay h.1 h.2 _ _⟩
    | some x =>
      simp only
      split
      · exact ⟨ok_used h.1 (get_some hg).1 rfl, lim_use h.2 x⟩
      · exact ⟨ok_lay h.1 he _ _, lim_lay h.1 h.2 _ _⟩
theorem ok_fill {S : Cl} {q : Nat} (h : OkC S ∧ LimC S q) (e : EntP) (t : Int) : OkC (fillS S e t).1 ∧ LimC (fillS S e t).1 (q + 1) := by
  unfold fillS
  split
  · exact ⟨h.1, lim_q h.2⟩
  · rename_i hn
    have he : okE e := Decidable.byContradiction fun h1 => hn h1
    split
    · exact ⟨h.1, lim_q h.2⟩
    · cases hg : getK kP S.T e.k with
      | none => exact ⟨ok_lay h.1 he _ _, lim_lay h.1 h.2 _ _⟩
      | some x =>
        simp only
        split
        · exact ⟨ok_used h.1 (get_some hg).1 rfl, lim_use h.2 _⟩
        · exact ⟨ok_lay h.1 he _ _, lim_lay h.1 h.2 _ _⟩
theorem ok_clean {S : Cl} {q : Nat} (h : OkC S ∧ LimC S q) (k : List UInt8) (s u o : Int) : OkC (cleanS S k s u o).1 ∧ LimC (cleanS S k s u o).1 (q + 1) := by
  unfold cleanS
  cases hg : getK kP S.T k with
  | none => exact ⟨h.1, lim_q h.2⟩
  | some x =>
    simp only
    split
    · exact ⟨h.1, lim_q h.2⟩
    · exact ⟨ok_flag h.1 (get_some hg).1 rfl rfl, ⟨(lim_q h.2).1, (lim_q h.2).2⟩⟩
theorem ok_evict {S : Cl} {q : Nat} (h : OkC S ∧ LimC S q) (k : List UInt8) : OkC (evictS S k).1 ∧ LimC (evictS S k).1 (q + 1) := by
  unfold evictS
  cases hg : getK kP S.T k with
  | none => exact ⟨h.1, lim_q h.2⟩
  | some x =>
    simp only
    split
    · exact ⟨ok_gone h.1 k, lim_gone h.2 k⟩
    · exact ⟨h.1, lim_q h.2⟩
theorem sumC_unW (T : List CP) : sumC (T.map unW) = sumC T := by unfold sumC; rw [List.map_map]; rfl
theorem ok_forget {S : Cl} {q : Nat} (h : OkC S ∧ LimC S q) : OkC (forgetS S) ∧ LimC (forgetS S) (q + 1) := by
  obtain ⟨ok, hl⟩ := h
  have hm : ∀ x ∈ S.T.map unW, ∃ y ∈ S.T, x = unW y := fun x hx => by obtain ⟨y, hy, e⟩ := List.mem_map.1 hx; exact ⟨y, hy, e.symm⟩
  refine ⟨⟨(sort_map (f := unW) (key := kP) (key' := kP) fun x => rfl).1 ok.srt, fun x hx => ?_, fun x hx => ?_, fun x hx y hy e => ?_, ok.rc, ok.rb, ok.nb, (List.length_map _).trans ok.tl, ?_, ?_, ok.u0, fun t ht => ?_⟩, ⟨?_, fun t ht => ?_⟩⟩
  · obtain ⟨y, hy, rfl⟩ := hm x hx; exact ok.ok y hy
  · obtain ⟨y, hy, rfl⟩ := hm x hx; exact ok.pos y hy
  · obtain ⟨x', hx', rfl⟩ := hm x hx
    obtain ⟨y', hy', rfl⟩ := hm y hy
    rw [ok.inj x' hx' y' hy' e]
  · show ((S.T.map unW).length : Int) ≤ S.rc; rw [List.length_map]; exact ok.len
  · show (sumC (S.T.map unW) : Int) ≤ S.rb; rw [sumC_unW]; exact ok.sum
  · obtain ⟨u, hu, rfl⟩ := List.mem_map.1 ht
    have := ok.t0 u hu
    omega
  · have := hl.1; show S.us ≤ _; omega
  · obtain ⟨u, hu, rfl⟩ := List.mem_map.1 ht
    have := hl.2 u hu
    omega
end Go.Proofs.YtpebhfjcakllmaaGreat
