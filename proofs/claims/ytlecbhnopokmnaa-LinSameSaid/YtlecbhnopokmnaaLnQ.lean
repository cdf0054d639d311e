/- LnQ: Pure: deeds, what an order of them is, and that there is one just if there is a way. -/
import Derived.Test.YtlecbhnopokmnaaLnP
namespace Go.Proofs.Ytlecbhnopokmnaa.Ln
set_option maxRecDepth 10000
set_option linter.unusedVariables false
/-- A deed: what; which bytes; from when, till when; was it answered; what was read. -/
structure DeedP where
  kind : Int
  b : List UInt8
  fro : Int
  till : Int
  done : Bool
  has : Bool
  vb : List UInt8
abbrev Va := Option (List UInt8)
def normV (has : Bool) (b : List UInt8) : Va := if has then some b else none
def valD (d : DeedP) : Va := if d.kind = 1 then normV d.has d.vb else if d.kind = 2 then some d.b else none
def knownK (k : Int) : Bool := decide (k = 1 ∨ k = 2 ∨ k = 3)
def noD : DeedP := ⟨0, [], 0, 0, false, false, []⟩
def atD (l : List DeedP) (i : Nat) : DeedP := l.getD i noD
/-- What a search is of: of these deeds. -/
structure EnvOf (l : List DeedP) (E : Env) : Prop where
  n : E.n = l.length
  get : ∀ i, i < l.length → E.get i = decide ((atD l i).kind = 1)
  must : ∀ j, E.must.testBit j = true ↔ j < l.length ∧ (atD l j).done = true
  bef : ∀ i, i < l.length → ∀ j, (E.bef i).testBit j = true ↔ j < l.length ∧ j ≠ i ∧ (atD l j).till < (atD l i).fro
  val : ∃ met : List Va, met.Nodup ∧ met[0]? = some none ∧ ∀ i, i < l.length → met[E.val i]? = some (valD (atD l i))
/-- Deeds one behind the other: those that there are then, the latest begin; or one may not be. -/
def runO (l : List DeedP) : List Int → Nat → Int → Va → Option (Nat × Int)
  | [], d, L, _ => some (d, L)
  | i :: r, d, L, v =>
    if i < 0 ∨ (l.length : Int) ≤ i ∨ d.testBit i.toNat = true ∨ (atD l i.toNat).till < L ∨ ((atD l i.toNat).kind = 1 ∧ valD (atD l i.toNat) ≠ v) then none
    else runO l r (ins d i.toNat) (max L (atD l i.toNat).fro) (valD (atD l i.toNat))
def endO (l : List DeedP) (D : Nat) (L : Int) : Bool := (List.range l.length).all fun i => D.testBit i || (!(atD l i).done && decide (L ≤ (atD l i).till))
def minI : Int := -9223372036854775808
def holdsP (l : List DeedP) (order : List Int) : Bool :=
  l.all (fun d => knownK d.kind) && match runO l order 0 minI none with
    | some r => endO l r.1 r.2
    | none => false
theorem endO_iff {l : List DeedP} {D : Nat} {L : Int} : endO l D L = true ↔ ∀ i, i < l.length → D.testBit i = true ∨ ((atD l i).done = false ∧ L ≤ (atD l i).till) := by
  unfold endO
  rw [List.all_eq_true]
  constructor
  · intro h i hi
    have := h i (List.mem_range.2 hi)
    simpa using this
  · intro h i hi
    have := h i (List.mem_range.1 hi)
    simpa using this
theorem nodup_at {met : List Va} (hn : met.Nodup) {i j : Nat} {x : Va} (hi : met[i]? = some x) (hj : met[j]? = some x) : i = j := by
  have h1 : i < met.length := (List.getElem?_eq_some_iff.1 hi).1
  have h2 : j < met.length := (List.getElem?_eq_some_iff.1 hj).1
  have hp := List.pairwise_iff_getElem.1 hn
  have e1 : met[i] = x := (List.getElem?_eq_some_iff.1 hi).2
  have e2 : met[j] = x := (List.getElem?_eq_some_iff.1 hj).2
  rcases Nat.lt_trichotomy i j with h | h | h
  · exact absurd (e1.trans e2.symm) (hp i j h1 h2 h)
  · exact h
  · exact absurd (e2.trans e1.symm) (hp j i h2 h1 h)
theorem path_sound {l : List DeedP} {E : Env} (hE : EnvOf l E) {met : List Va} (hn : met.Nodup) (hmet : ∀ i, i < l.length → met[E.val i]? = some (valD (atD l i))) :
    ∀ (r : List Nat) (d : Nat) (m : Nat) (L : Int) (now : Va), Path E d (m : Int) r → met[m]? = some now → (∀ j, j < l.length → d.testBit j = false → L ≤ (atD l j).till) →
      ∃ D L', runO l (r.map Int.ofNat) d L now = some (D, L') ∧ endO l D L' = true
  | [], d, m, L, now, hp, hm, hL => by
    refine ⟨d, L, rfl, endO_iff.2 fun i hi => ?_⟩
    cases hb : d.testBit i with
    | true => exact Or.inl rfl
    | false =>
      refine Or.inr ⟨?_, hL i hi hb⟩
      cases hd : (atD l i).done with
      | false => rfl
      | true =>
        have := (show Sub E.must d from hp) i ((hE.must i).2 ⟨hi, hd⟩)
        rw [hb] at this; cases this
  | i :: r, d, m, L, now, hp, hm, hL => by
    obtain ⟨⟨hin, hid, hbef, hget⟩, hp2⟩ := hp
    have hi : i < l.length := by rw [← hE.n]; exact hin
    have hv : ¬ ((atD l i).kind = 1 ∧ valD (atD l i) ≠ now) := by
      rintro ⟨hk, hne⟩
      have h1 := hget (by rw [hE.get i hi]; exact decide_eq_true hk)
      have h2 : E.val i = m := by omega
      have h3 := hmet i hi
      rw [h2, hm] at h3
      exact hne (by injection h3 with h; exact h.symm)
    have hcond : ¬ ((i : Int) < 0 ∨ (l.length : Int) ≤ (i : Int) ∨ d.testBit (i : Int).toNat = true ∨ (atD l (i : Int).toNat).till < L ∨ ((atD l (i : Int).toNat).kind = 1 ∧ valD (atD l (i : Int).toNat) ≠ now)) := by
      rw [Int.toNat_natCast]
      rintro (h | h | h | h | h)
      · omega
      · omega
      · rw [hid] at h; cases h
      · have := hL i hi hid; omega
      · exact hv h
    obtain ⟨D, L', h1, h2⟩ := path_sound hE hn hmet r (ins d i) (E.val i) (max L (atD l i).fro) (valD (atD l i)) hp2 (hmet i hi) (fun j hj hdj => by
      have hij : i ≠ j := fun h => by subst h; rw [ins_same] at hdj; cases hdj
      rw [ins_ne hij] at hdj
      have h1 := hL j hj hdj
      have h2 : ¬ (atD l j).till < (atD l i).fro := fun h => by
        have := hbef j ((hE.bef i hi j).2 ⟨hj, fun e => hij e.symm, h⟩)
        rw [hdj] at this; cases this
      omega)
    refine ⟨D, L', ?_, h2⟩
    rw [List.map_cons, runO, show Int.ofNat i = (i : Int) from rfl, if_neg hcond, Int.toNat_natCast]
    exact h1
theorem run_later {l : List DeedP} : ∀ (r : List Int) (d : Nat) (L : Int) (v : Va) (D : Nat) (L' : Int), runO l r d L v = some (D, L') → L ≤ L' ∧ (∀ j, d.testBit j = true → D.testBit j = true) ∧ ∀ j, D.testBit j = true → d.testBit j = false → L ≤ (atD l j).till
  | [], d, L, v, D, L', h => by
    simp only [runO, Option.some.injEq, Prod.mk.injEq] at h
    obtain ⟨rfl, rfl⟩ := h
    exact ⟨Int.le_refl _, fun _ h => h, fun j h1 h2 => by rw [h1] at h2; cases h2⟩
  | i :: r, d, L, v, D, L', h => by
    rw [runO] at h
    split at h
    · cases h
    rename_i hc
    obtain ⟨h1, h2, h3⟩ := run_later r _ _ _ _ _ h
    refine ⟨by omega, fun j hj => h2 j (ins_old hj), fun j hD hd => ?_⟩
    by_cases e : i.toNat = j
    · subst e
      simp only [not_or] at hc
      have := hc.2.2.2.1
      omega
    · have := h3 j hD (by rw [ins_ne e]; exact hd)
      omega
theorem run_poss {l : List DeedP} {E : Env} (hE : EnvOf l E) {met : List Va} (hn : met.Nodup) (hmet : ∀ i, i < l.length → met[E.val i]? = some (valD (atD l i))) :
    ∀ (r : List Int) (d : Nat) (m : Nat) (L : Int) (now : Va) (D : Nat) (L' : Int), runO l r d L now = some (D, L') → endO l D L' = true → met[m]? = some now → (∀ i, i < l.length → d.testBit i = true → (atD l i).fro ≤ L) → Poss E d (m : Int)
  | [], d, m, L, now, D, L', h, he, hm, hL => by
    simp only [runO, Option.some.injEq, Prod.mk.injEq] at h
    obtain ⟨rfl, rfl⟩ := h
    refine .fin fun j hj => ?_
    obtain ⟨h1, h2⟩ := (hE.must j).1 hj
    rcases endO_iff.1 he j h1 with h | h
    · exact h
    · rw [h2] at h; exact absurd h.1 (by decide)
  | i :: r, d, m, L, now, D, L', h, he, hm, hL => by
    rw [runO] at h
    split at h
    · cases h
    rename_i hc
    simp only [not_or] at hc
    obtain ⟨c1, c2, c3, c4, c5⟩ := hc
    have hi : i.toNat < l.length := by omega
    have hid : d.testBit i.toNat = false := by simpa using c3
    obtain ⟨r1, r2, r3⟩ := run_later r _ _ _ _ _ h
    refine .step i.toNat ⟨by rw [hE.n]; exact hi, hid, fun j hj => ?_, fun hg => ?_⟩ (run_poss hE hn hmet r _ _ _ _ _ _ h he (hmet _ hi) fun j hj hb => ?_)
    · obtain ⟨j1, j2, j3⟩ := (hE.bef _ hi j).1 hj
      cases hb : d.testBit j with
      | true => rfl
      | false =>
        have hbi : (ins d i.toNat).testBit j = false := by rw [ins_ne (fun e => j2 e.symm)]; exact hb
        rcases endO_iff.1 he j j1 with hD | ⟨_, hD⟩
        · have := r3 j hD hbi; omega
        · omega
    · have hk : (atD l i.toNat).kind = 1 := by rw [hE.get _ hi] at hg; exact of_decide_eq_true hg
      have hv : valD (atD l i.toNat) = now := Classical.byContradiction fun hne => c5 ⟨hk, hne⟩
      have := hmet _ hi
      rw [hv] at this
      have := nodup_at hn this hm
      omega
    · rw [ins_bit] at hb
      by_cases e : i.toNat = j
      · subst e; omega
      · rw [decide_eq_false e, Bool.or_false] at hb
        have := hL j hj hb
        omega
theorem holds_of_path {l : List DeedP} {E : Env} (hE : EnvOf l E) (hk : l.all (fun d => knownK d.kind) = true) (hw : ∀ j, j < l.length → minI ≤ (atD l j).till) {r : List Nat} (h : Path E 0 0 r) : holdsP l (r.map Int.ofNat) = true := by
  obtain ⟨met, m1, m2, m3⟩ := hE.val
  obtain ⟨D, L', h1, h2⟩ := path_sound hE m1 m3 r 0 0 minI none h m2 (fun j hj _ => hw j hj)
  unfold holdsP
  rw [hk, h1]; exact h2
theorem poss_of_holds {l : List DeedP} {E : Env} (hE : EnvOf l E) {r : List Int} (h : holdsP l r = true) : Poss E 0 0 := by
  obtain ⟨met, m1, m2, m3⟩ := hE.val
  unfold holdsP at h
  rw [Bool.and_eq_true] at h
  obtain ⟨_, h⟩ := h
  cases hr : runO l r 0 minI none with
  | none => rw [hr] at h; cases h
  | some p =>
    rw [hr] at h
    exact run_poss hE m1 m3 r 0 0 minI none p.1 p.2 hr h m2 (fun i _ hb => by rw [Nat.zero_testBit] at hb; cases hb)
theorem poss_path {E : Env} : ∀ {d : Nat} {v : Int}, Poss E d v → ∃ r, Path E d v r := by
  intro d v h
  induction h with
  | fin hm => exact ⟨[], hm⟩
  | step i hi _ ih => obtain ⟨r, hr⟩ := ih; exact ⟨i :: r, hi, hr⟩
end Go.Proofs.Ytlecbhnopokmnaa.Ln
