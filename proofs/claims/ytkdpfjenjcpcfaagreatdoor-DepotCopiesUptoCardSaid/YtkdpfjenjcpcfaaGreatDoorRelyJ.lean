/- RelyJ: A region that draws its order, whatever its operations make AND STORE: each operation is asked alone, of any set of operations done before, under one invariant J of what is done, of the values, and of the world. No dump is imported here. -/
import Derived.Test.YtkdpfjenjcpcfaaGreatDoorRely
namespace Go.Proofs.YtkdpfjenjcpcfaaGreatDoor
open Go.RowKit Mem
namespace RelyJ
open Rely
def up {α : Type} (f : Nat → α) (i : Nat) (v : α) : Nat → α := fun k => if k = i then v else f k
@[simp] theorem up_same {α : Type} (f : Nat → α) (i : Nat) (v : α) : up f i v i = v := if_pos rfl
theorem up_ne {α : Type} (f : Nat → α) {i k : Nat} (v : α) (h : k ≠ i) : up f i v k = f k := if_neg h
def valOf (o : Oper) (v : Value) : Value := match o.dst with | some _ => v | none => undef
def Step1 (P : Program) (ops : Array Oper) (a : Act) (J : (Nat → Bool) → (Nat → Value) → World → Prop) (o : Oper) (r : List (Nat × Tmp)) (i : Nat) : Prop :=
  ∀ (S : Nat → Bool) (vs : Nat → Value) (w' : World), S i = false → (∀ e ∈ o.after, Region.binds .any e = true → S e.on = true) → J S vs w' →
    if Region.wanted o (yielded ops (sel a vs r).tmps) = true then gives P o (sel a vs r) w' (fun v w'' => J (up S i true) (up vs i (valOf o v)) w'') else J (up S i true) (up vs i (valOf o undef)) w'
def StepsZ (P : Program) (ops : Array Oper) (a : Act) (J : (Nat → Bool) → (Nat → Value) → World → Prop) : List Oper → List (List (Nat × Tmp)) → Nat → Prop
  | o :: os, r :: R, i => Step1 P ops a J o r i ∧ StepsZ P ops a J os R (i + 1)
  | _, _, _ => True
theorem stepsZ_cons {P : Program} {ops : Array Oper} {a : Act} {J : (Nat → Bool) → (Nat → Value) → World → Prop} {o : Oper} {os : List Oper} {r : List (Nat × Tmp)} {R : List (List (Nat × Tmp))} {i : Nat}
    (h1 : Step1 P ops a J o r i) (h2 : StepsZ P ops a J os R (i + 1)) : StepsZ P ops a J (o :: os) (r :: R) i := ⟨h1, h2⟩
theorem stepsZ_nil {P : Program} {ops : Array Oper} {a : Act} {J : (Nat → Bool) → (Nat → Value) → World → Prop} {i : Nat} : StepsZ P ops a J [] [] i := trivial
theorem StepsZ.at_ {P : Program} {ops : Array Oper} {a : Act} {J : (Nat → Bool) → (Nat → Value) → World → Prop} : ∀ {os : List Oper} {R : List (List (Nat × Tmp))} {i : Nat}, StepsZ P ops a J os R i → ∀ (j : Nat) (o : Oper) (r : List (Nat × Tmp)), os[j]? = some o → R[j]? = some r → Step1 P ops a J o r (i + j)
  | [], _, _, _, j, _, _, h, _ => by simp at h
  | _ :: _, [], _, _, j, _, _, _, h => by simp at h
  | q :: os, s :: R, i, hs, 0, o, r, h, h' => by
    simp only [List.getElem?_cons_zero, Option.some.injEq] at h h'
    subst h; subst h'
    exact hs.1
  | q :: os, s :: R, i, hs, j + 1, o, r, h, h' => by
    simp only [List.getElem?_cons_succ] at h h'
    have := StepsZ.at_ hs.2 j o r h h'
    rw [show i + 1 + j = i + (j + 1) by omega] at this
    exact this
def sOf (listed : Array Bool) : Nat → Bool := fun k => listed.getD k false
structure InvJ (ops : Array Oper) (a : Act) (J : (Nat → Bool) → (Nat → Value) → World → Prop) (listed : Array Bool) (a' : Act) (w' : World) : Prop where
  inv : J (sOf listed) (valAt ops a') w'
  size : a'.tmps.size = a.tmps.size
  defers : a'.defers = a.defers
  rest : ∀ t, (∀ k o, listed.getD k false = true → ops[k]? = some o → o.dst ≠ some t) → a'.tmps[t]? = a.tmps[t]?
  closed : ∀ k o, listed.getD k false = true → ops[k]? = some o → ∀ e ∈ o.after, Region.binds .any e = true → listed.getD e.on false = true
theorem sOf_set {listed : Array Bool} {i : Nat} (h : i < listed.size) : sOf (listed.setIfInBounds i true) = up (sOf listed) i true := by
  funext k
  unfold sOf up
  by_cases hk : k = i
  · subst hk
    rw [if_pos rfl, Array.getD_eq_getD_getElem?, Array.getElem?_setIfInBounds, if_pos rfl, if_pos h]; rfl
  · rw [if_neg hk, getD_set_ne false (fun e => hk e.symm)]
section
variable {P : Program} {ops : Array Oper} {a : Act} {J : (Nat → Bool) → (Nat → Value) → World → Prop}
theorem val_put (hok : Ok ops) {i : Nat} {o : Oper} (ho : ops[i]? = some o) {a' : Act} {v : Value} (hd : ∀ d, o.dst = some d → d < a'.tmps.size) : valAt ops (a'.put o.dst v) = up (valAt ops a') i (valOf o v) := by
  funext k
  unfold up
  by_cases hk : k = i
  · subst hk
    rw [if_pos rfl]
    unfold valAt valOf
    rw [ho]
    simp only [Option.bind_some]
    cases hdd : o.dst with
    | none => rfl
    | some d =>
      simp only [Act.put]
      rw [Array.getD_eq_getD_getElem?, Array.getElem?_setIfInBounds, if_pos rfl, if_pos (hd d hdd)]; rfl
  · rw [if_neg hk]
    unfold valAt
    cases hb : (ops[k]?).bind (·.dst) with
    | none => rfl
    | some d' =>
      simp only
      obtain ⟨ok, h1, h2⟩ := Option.bind_eq_some_iff.1 hb
      cases hdd : o.dst with
      | none => rfl
      | some d =>
        simp only [Act.put]
        have hne : d ≠ d' := fun e => by
          subst e
          exact hok.apart i k o ok d ho h1 h2 (fun e => hk e.symm) hdd
        rw [Array.getD_eq_getD_getElem?, Array.getD_eq_getD_getElem?, Array.getElem?_setIfInBounds, if_neg hne]
theorem val_there {a' : Act} {k : Nat} {o : Oper} {d : Tmp} (ho : ops[k]? = some o) (hd : o.dst = some d) (hlt : d < a'.tmps.size) : a'.tmps[d]? = some (valAt ops a' k) := by
  have h1 := Array.getElem?_eq_getElem hlt
  rw [h1]
  exact congrArg some (valAt_eq ho hd h1).symm
theorem step_invJ (hok : Ok ops) (hdst : ∀ k d, (k, d) ∈ writesOf ops → d < a.tmps.size)
    (hs : ∀ i o, ops[i]? = some o → Step1 P ops a J o (readsOf ops i) i)
    {Q : Exit → Act → World → Prop} {listed : Array Bool} {a' : Act} {w' : World} (hI : InvJ ops a J listed a' w') {i : Nat} (hi : i ∈ Region.ready .any ops listed)
    {K : Act → World → Prop} (hK : ∀ a2 w2, InvJ ops a J (listed.setIfInBounds i true) a2 w2 → K a2 w2) (hsz : listed.size = ops.size) : wpOp P ops Q i K a' w' := by
  obtain ⟨hun, o, ho, hall⟩ := mem_ready.1 hi
  have hil : i < listed.size := by rw [hsz]; exact lt_of_some ho
  have hnot : listed.getD i false = false := by
    rw [Array.getD_eq_getD_getElem?, Array.getElem?_eq_getElem hil] at hun ⊢
    simpa using hun
  have hsel := fun cs b => Region.noSelect_spec hok.noSel i o cs b ho
  have hread : ∀ p ∈ readsOf ops i, a'.tmps[p.2]? = some (valAt ops a' p.1) := by
    rintro ⟨k, d⟩ hp
    obtain ⟨ok, h1, h2, _⟩ := (mem_reads ho).1 hp
    exact val_there h1 h2 (by rw [hI.size]; exact hdst k d (mem_writes.2 ⟨ok, h1, h2⟩))
  have hagree : ∀ t ∈ o.looksAt ops, (sel a (valAt ops a') (readsOf ops i)).tmps[t]? = a'.tmps[t]? := by
    intro t ht
    by_cases hex : ∃ k, (k, t) ∈ readsOf ops i
    · obtain ⟨k, hk⟩ := hex
      obtain ⟨ok, h1, h2, _⟩ := (mem_reads ho).1 hk
      rw [hread _ hk]
      refine sel_at a _ _ k t hk ?_ (hdst k t (mem_writes.2 ⟨ok, h1, h2⟩))
      rintro ⟨k1, d1⟩ hp1 ⟨k2, d2⟩ hp2 e
      obtain ⟨o1, g1, g2, _⟩ := (mem_reads ho).1 hp1
      obtain ⟨o2, g3, g4, _⟩ := (mem_reads ho).1 hp2
      simp only at e ⊢
      subst e
      by_cases hne : k1 = k2
      · exact hne
      · exact absurd g2 (hok.apart k1 k2 o1 o2 d1 g1 g3 g4 hne)
    · rw [sel_far a _ _ t (fun p hp e => hex ⟨p.1, by rw [← e]; exact hp⟩)]
      refine (hI.rest t fun k ok hkl hok' hd => ?_).symm
      rcases hok.read i k o ok t ho hok' hd ht with h | ⟨e, he, hb, rfl⟩
      · exact hex ⟨k, (mem_reads ho).2 ⟨ok, hok', hd, ht, h⟩⟩
      · have := hI.closed k ok hkl hok' e he hb
        rw [hnot] at this; cases this
  obtain ⟨hex, hwt⟩ := same_of o hsel hagree
  have hst := hs i o ho (sOf listed) (valAt ops a') w' hnot (fun e he hb => hall e he hb) hI.inv
  rw [hwt] at hst
  have next : ∀ v w2, J (up (sOf listed) i true) (up (valAt ops a') i (valOf o v)) w2 → InvJ ops a J (listed.setIfInBounds i true) (a'.put o.dst v) w2 := by
    intro v w2 hv
    have hput : ∀ t, o.dst ≠ some t → (a'.put o.dst v).tmps[t]? = a'.tmps[t]? := by
      intro t ht
      cases hd : o.dst with
      | none => rfl
      | some d =>
        simp only [Act.put]
        rw [Array.getElem?_setIfInBounds, if_neg (fun e => ht (by rw [hd, e]))]
    refine ⟨?_, ?_, ?_, ?_, ?_⟩
    · rw [sOf_set hil, val_put hok ho (fun d hd => by rw [hI.size]; exact hdst i d (mem_writes.2 ⟨o, ho, hd⟩))]
      exact hv
    · cases hd : o.dst with
      | none => exact hI.size
      | some d => simp only [Act.put]; rw [Array.size_setIfInBounds]; exact hI.size
    · cases o.dst <;> exact hI.defers
    · intro t ht
      rw [hput t (ht i o (by
        rw [Array.getD_eq_getD_getElem?, Array.getElem?_setIfInBounds, if_pos rfl, if_pos hil]; rfl) ho)]
      exact hI.rest t fun k ok hk hok' => ht k ok (getD_set_mono hk) hok'
    · intro k ok hk hok' e he hb
      rcases getD_set hk with rfl | hk
      · rw [ho] at hok'
        injection hok' with hok'
        subst hok'
        exact getD_set_mono (hall e he hb)
      · exact getD_set_mono (hI.closed k ok hk hok' e he hb)
  unfold wpOp
  rw [ho]
  simp only
  split
  · rename_i hw
    simp only [hw, if_true] at hst
    exact Or.inl (wp_of_gives (gives_congr hex hst) fun v w2 h => hK _ _ (next v w2 h))
  · rename_i hw
    simp only [hw] at hst
    exact hK _ _ (next undef w' hst)
theorem any_of_invJ (hok : Ok ops) (hdst : ∀ k d, (k, d) ∈ writesOf ops → d < a.tmps.size)
    (hs : ∀ i o, ops[i]? = some o → Step1 P ops a J o (readsOf ops i) i) {Q : Exit → Act → World → Prop}
    (hQ : ∀ (S : Nat → Bool) (vs : Nat → Value) (w' : World), (∀ k, k < ops.size → S k = true) → J S vs w' → Q .normal (sel a vs (writesOf ops)) w') :
    ∀ (fuel : Nat) (listed : Array Bool) (a' : Act) (w' : World), listed.size = ops.size → left ops listed ≤ fuel → InvJ ops a J listed a' w' → wpAny P .any ops Q fuel listed a' w' := by
  have fin : ∀ (listed : Array Bool) (a' : Act) (w' : World), listed.size = ops.size → InvJ ops a J listed a' w' → Region.ready .any ops listed = [] → Q .normal a' w' := by
    intro listed a' w' hsz hI hr
    have hall := fun k h => all_listed hok hsz hr (k + 1) k (by omega) h
    have hw : ∀ p ∈ writesOf ops, a'.tmps[p.2]? = some (valAt ops a' p.1) := by
      rintro ⟨k, d⟩ hp
      obtain ⟨o, h1, h2⟩ := mem_writes.1 hp
      exact val_there h1 h2 (by rw [hI.size]; exact hdst k d hp)
    have e : a' = sel a (valAt ops a') (writesOf ops) := by
      obtain ⟨z1, z2⟩ := sel_size a (valAt ops a') (writesOf ops)
      have ht : a'.tmps = (sel a (valAt ops a') (writesOf ops)).tmps := by
        apply Array.ext_getElem?
        intro t
        by_cases hex : ∃ k, (k, t) ∈ writesOf ops
        · obtain ⟨k, hk⟩ := hex
          rw [hw _ hk]
          refine (sel_at a _ _ k t hk ?_ (hdst k t hk)).symm
          rintro ⟨k1, d1⟩ hp1 ⟨k2, d2⟩ hp2 e
          obtain ⟨o1, g1, g2⟩ := mem_writes.1 hp1
          obtain ⟨o2, g3, g4⟩ := mem_writes.1 hp2
          simp only at e ⊢
          subst e
          by_cases hne : k1 = k2
          · exact hne
          · exact absurd g2 (hok.apart k1 k2 o1 o2 d1 g1 g3 g4 hne)
        · rw [sel_far a _ _ t (fun p hp e => hex ⟨p.1, by rw [← e]; exact hp⟩)]
          exact hI.rest t fun k o _ ho hd => hex ⟨k, mem_writes.2 ⟨o, ho, hd⟩⟩
      have hdf : a'.defers = (sel a (valAt ops a') (writesOf ops)).defers := hI.defers.trans z2.symm
      cases a'
      cases hse : sel a (valAt ops _) (writesOf ops)
      rw [hse] at ht hdf
      simp only at ht hdf
      rw [ht, hdf]
    rw [e]
    exact hQ (sOf listed) _ _ (fun k hk => hall k hk) hI.inv
  intro fuel
  induction fuel with
  | zero =>
    intro listed a' w' hsz hf hI
    have hr : Region.ready .any ops listed = [] := by
      cases hq : Region.ready .any ops listed with
      | nil => rfl
      | cons i r =>
        have := left_lt hsz (i := i) (by rw [hq]; simp)
        omega
    exact ⟨hr, fin listed a' w' hsz hI hr⟩
  | succ fuel ih =>
    intro listed a' w' hsz hf hI
    refine ⟨fun hr => fin listed a' w' hsz hI hr, fun i hi => ?_⟩
    refine step_invJ hok hdst hs hI hi (fun a2 w2 h2 => ih _ a2 w2 (by rw [Array.size_setIfInBounds]; exact hsz) ?_ h2) hsz
    have := left_lt hsz hi
    omega
end
/-- THE RULE: R, D: as Rely's (wip/tools/reads.py prints them). -/
theorem wp_region_byJ {P : Program} {id : Nat} {Q : Exit → Act → World → Prop} {a : Act} {w : World} {os : List Oper} (R : List (List (Nat × Tmp))) (D : List (Nat × Tmp)) (J : (Nat → Bool) → (Nat → Value) → World → Prop)
    (hm : P.follows .mixedOrders = true) (hok : okB os.toArray = true) (hl : (List.range os.length).map (readsOf os.toArray) = R) (hD : writesOf os.toArray = D) (hdst : D.all (fun p => decide (p.2 < a.tmps.size)) = true)
    (h0 : ∀ vs, J (fun _ => false) vs w.drew) (hs : StepsZ P os.toArray a J os R 0)
    (hQ : ∀ (S : Nat → Bool) (vs : Nat → Value) (w' : World), (∀ k, k < os.length → S k = true) → J S vs w' → Q .normal (sel a vs D) w') : (Code.region id os.toArray true).wp P Q a w := by
  subst hD
  refine wp_region_any hm (any_of_invJ (ok_of hok) ?_ ?_ (fun S vs w' h => hQ S vs w' (fun k hk => h k (by simpa using hk))) _ _ _ _ (by simp) (left_le _ _) ⟨?_, rfl, rfl, ?_, ?_⟩)
  · intro k d hkd
    have := List.all_eq_true.1 hdst _ hkd
    simpa using this
  · intro i o ho
    have hi : i < os.length := by simpa using lt_of_some ho
    have h1 : os[i]? = some o := by simpa using ho
    have h2 : R[i]? = some (readsOf os.toArray i) := by rw [← hl, List.getElem?_map, List.getElem?_range hi]; rfl
    have := hs.at_ i o _ h1 h2
    rwa [Nat.zero_add] at this
  · have e : sOf (Array.replicate os.toArray.size false) = fun _ => false := by
      funext k
      have := none_listed os.toArray.size k
      unfold sOf
      cases h : (Array.replicate os.toArray.size false).getD k false
      · rfl
      · exact absurd h this
    rw [e]; exact h0 _
  · exact fun t _ => rfl
  · exact fun k o hk => absurd hk (none_listed _ k)
theorem gives_mono {P : Program} {o : Oper} {a : Act} {w : World} {R R' : Value → World → Prop} (h : gives P o a w R') (hk : ∀ v w', R' v w' → R v w') : gives P o a w R := by
  unfold gives at *
  generalize (execOp a.eval o).run P w = r at *
  cases r with
  | ok n w' =>
    cases n <;> simp only [GivesR] at h ⊢
    case value v => exact hk _ _ h
    case skip => exact hk _ _ h
    case enter f args => exact h.mono fun e w'' ⟨v, he, hr⟩ => ⟨v, he, hk _ _ hr⟩
  | halt x w' => simp only [GivesR] at h
end RelyJ
end Go.Proofs.YtkdpfjenjcpcfaaGreatDoor
