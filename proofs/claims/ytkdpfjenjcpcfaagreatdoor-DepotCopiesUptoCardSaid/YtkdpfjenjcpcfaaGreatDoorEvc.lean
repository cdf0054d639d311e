/- Evc: Entries in memory; rows of them (laid by themselves out of Tb8 and SameAll8 in round 12). -/
import Derived.Test.YtkdpfjenjcpcfaaGreatDoorAppS
import Derived.Test.YtkdpfjenjcpcfaaGreatDoorRows
import Derived.Test.YtkdpfjenjcpcfaaGreatDoorTg
import Derived.Test.YtkdpfjenjcpcfaaGreatDoorDk
namespace Go.Proofs.YtkdpfjenjcpcfaaGreatDoor
open Go.RowKit Mem Be
set_option maxRecDepth 10000
set_option maxHeartbeats 2000000
set_option linter.unusedVariables false
/-- An entry in memory: what it says, where its bytes lie, with how much room. -/
abbrev EV := EntP × Option Addr × Nat
def evV (x : EV) : Value := entV ⟨x.1.k.toArray⟩ x.1.s x.1.u x.1.o x.1.has x.2.1 x.1.v.length x.2.2
/-- That of a key to which nothing was written. -/
def entN (k : List UInt8) : EntP := ⟨k, 0, 0, 0, false, []⟩
def evN (k : List UInt8) : EV := (entN k, none, 0)
/- Entries. -/
def entC (x : EV) : List Value := [.string ⟨x.1.k.toArray⟩, .int .i64 x.1.s, .int .i64 x.1.u, .int .i64 x.1.o, .bool x.1.has, .slice x.2.1 x.1.v.length x.2.2]
abbrev entsC (l : List EV) : List Value := l.flatMap entC
theorem entsC_len (l : List EV) : (entsC l).length = l.length * 6 := by
  induction l with
  | nil => rfl
  | cons p l ih => simp only [entsC, List.flatMap_cons, List.length_append, entC, List.length_cons, List.length_nil]; have := ih; unfold entsC at this; omega
theorem entsC_app (a b : List EV) : entsC (a ++ b) = entsC a ++ entsC b := List.flatMap_append
theorem entsC_one (l : List EV) : ∀ u ∈ entsC l, u.oneCell' = true := by
  intro u hu
  obtain ⟨x, _, hx⟩ := List.mem_flatMap.1 hu
  simp only [entC, List.mem_cons, List.not_mem_nil, or_false] at hx
  rcases hx with rfl | rfl | rfl | rfl | rfl | rfl <;> rfl
theorem entsC_at (l : List EV) (i : Nat) (h : i < l.length) (j : Nat) (hj : j < 6) : (entsC l)[i * 6 + j]? = (entC l[i])[j]? := by
  induction l generalizing i with
  | nil => simp at h
  | cons p l ih =>
    have hc : entsC (p :: l) = entC p ++ entsC l := rfl
    rw [hc]
    have hl : (entC p).length = 6 := rfl
    rcases i with _ | i
    · rw [List.getElem?_append_left (by omega), Nat.zero_mul, Nat.zero_add]; rfl
    · rw [List.getElem?_append_right (by omega), hl, show (i + 1) * 6 + j - 6 = i * 6 + j by omega, ih i (by simpa using h)]
      rfl
theorem ents_open {w : World} {B : Nat} {A : Option Addr} {l : List EV} (h : Row w B A (entsC l)) (hn : 0 < l.length) :
    ∃ b o, A = some ⟨b, o, none⟩ ∧ b < B ∧ ∀ i (hi : i < l.length), w.cell? ⟨b, o + i * 6, none⟩ = some (.string ⟨l[i].1.k.toArray⟩) ∧ w.cell? ⟨b, o + i * 6 + 1, none⟩ = some (.int .i64 l[i].1.s) ∧ w.cell? ⟨b, o + i * 6 + 2, none⟩ = some (.int .i64 l[i].1.u) ∧
      w.cell? ⟨b, o + i * 6 + 3, none⟩ = some (.int .i64 l[i].1.o) ∧ w.cell? ⟨b, o + i * 6 + 4, none⟩ = some (.bool l[i].1.has) ∧ w.cell? ⟨b, o + i * 6 + 5, none⟩ = some (.slice l[i].2.1 l[i].1.v.length l[i].2.2) := by
  obtain ⟨b, o, hA, hb, hc⟩ := h.open_ (by rw [entsC_len]; omega)
  refine ⟨b, o, hA, hb, fun i hi => ?_⟩
  have key : ∀ j, j < 6 → w.cell? ⟨b, o + i * 6 + j, none⟩ = (entC l[i])[j]? := fun j hj => by
    have hlt : i * 6 + j < (entsC l).length := by rw [entsC_len]; omega
    rw [show o + i * 6 + j = o + (i * 6 + j) by omega, hc (i * 6 + j) hlt, ← entsC_at l i hi j hj, List.getElem?_eq_getElem hlt]
  exact ⟨key 0 (by omega), key 1 (by omega), key 2 (by omega), key 3 (by omega), key 4 (by omega), key 5 (by omega)⟩
/-- Each entry's bytes are in memory of their own, made since B. -/
def OwnE (w : World) (B : Nat) (x : EV) : Prop := w.ownsRow B 5 1 (.slice x.2.1 x.1.v.length x.2.2) x.1.v.length (x.1.v.map byteV)
def EntsO (w : World) (B : Nat) (l : List EV) : Prop := ∀ x ∈ l, OwnE w B x
theorem entsO_nil (w : World) (B : Nat) : EntsO w B [] := fun x h => by cases h
theorem entsO_below {w w' : World} {B : Nat} {l : List EV} (h : EntsO w B l) (hb : Below w.heap.size w w') : EntsO w' B l := fun x hx => ownLater (h x hx) hb
theorem entsO_app {w : World} {B : Nat} {a b : List EV} (h : EntsO w B a) (h' : EntsO w B b) : EntsO w B (a ++ b) := fun x hx => by
  rcases List.mem_append.1 hx with hx | hx
  · exact h x hx
  · exact h' x hx
theorem entsO_one {w : World} {B : Nat} {x : EV} (h : OwnE w B x) : EntsO w B [x] := fun y hy => by
  have : y = x := by simpa using hy
  subst this; exact h
theorem own_ne_grown {w w' : World} {B B' s n m c m' c' : Nat} {e e' : TypeId} {A A' : Option Addr} {xs xs' : List Value} {k : Nat} (h : w.ownsRow B e 1 (.slice A m c) k xs) (ho : w.ownsRow B' e' s (.slice A' m' c') n xs') (hne : e ≠ e') (hg : w.grownBy w' (Value.slice A' m' c').ownBlock) : w'.ownsRow B e 1 (.slice A m c) k xs := by
  refine ownKeep h fun a ha => hg.block _ (ownIn h ha).2.1 fun e1 => ?_
  cases A' with
  | none => cases e1
  | some a' =>
    have e2 : a.block = a'.block := by simpa [Value.ownBlock] using e1
    obtain ⟨_, _, cur, h1⟩ := ownIn h ha
    obtain ⟨_, _, cur', h2⟩ := ownIn ho rfl
    rw [e2, h2] at h1
    injection h1 with h1
    injection h1 with _ h1
    exact hne h1.symm
theorem entsO_grown {w w' : World} {B B' s n m c : Nat} {e' : TypeId} {A : Option Addr} {l : List EV} {xs : List Value} (h : EntsO w B l) (ho : w.ownsRow B' e' s (.slice A m c) n xs) (hne : 5 ≠ e') (hg : w.grownBy w' (Value.slice A m c).ownBlock) : EntsO w' B l :=
  fun x hx => own_ne_grown (h x hx) ho hne hg
theorem entsO_base {w : World} {B B' : Nat} {l : List EV} (h : EntsO w B l) (hB : B' ≤ B) : EntsO w B' l := fun x hx => ownBase (h x hx) hB
theorem ownE_val {w : World} {B : Nat} {x : EV} (h : OwnE w B x) (hl : x.1.v.length ≤ 1073741824) : ValOk w x.1.has x.2.1 x.1.v x.2.2 := ⟨Row.of_own h, by omega, (own_cap h).1⟩
theorem info_ent : (Tryz.prog.info? 46).map (fun i => (i.zero, i.size, i.bytes)) = some (some (evV (evN [])), 6, 72) := by kernel_rfl
theorem ent_lit {w : World} {x : EV} {g : Nat} (h : Blk w g 46 ⟨entC x⟩) {B : Nat} (hB : g < B) : Row w B (some ⟨g, 0, none⟩) (entsC [x]) := by
  refine Or.inr ⟨g, 0, rfl, hB, fun j hj => ?_⟩
  have e : entsC [x] = entC x := by simp [entsC]
  have h1 := h.cell (0 + j)
  rw [h1]
  have hj2 : j < (entC x).length := by rw [← e]; exact hj
  rw [Nat.zero_add]
  rw [List.getElem_of_eq e hj]
  show (⟨entC x⟩ : Array Value)[j]? = _
  rw [List.getElem?_toArray, List.getElem?_eq_getElem hj2]
/-- Entries in new memory: copies of a table's, in its order. -/
def EntsP (l : List EntP) (w : World) (e : Ending) (w' : World) : Prop :=
  ∃ (us : List EV) (A : Option Addr) (c : Nat), us.map Prod.fst = l ∧ e = .returned (.slice A us.length c) ∧ w'.ownsRow w.heap.size 46 6 (.slice A us.length c) us.length (entsC us) ∧ EntsO w' w.heap.size us ∧ Below w.heap.size w w'
/-- Entries that lie in a row, each with its value. -/
structure EnV (w : World) (A : Option Addr) (us : List EV) : Prop where
  row : Row w w.heap.size A (entsC us)
  val : ∀ x ∈ us, ValOk w x.1.has x.2.1 x.1.v x.2.2
theorem EnV.below {w w' : World} {A : Option Addr} {us : List EV} (h : EnV w A us) (hb : Below w.heap.size w w') : EnV w' A us := ⟨(h.row.below hb).more hb.size, fun x hx => (h.val x hx).below hb⟩
theorem enV_of {w : World} {B B' n c : Nat} {A : Option Addr} {us : List EV} (ho : w.ownsRow B 46 6 (.slice A n c) n (entsC us)) (he : EntsO w B' us) (hl : ∀ x ∈ us, x.1.v.length ≤ 60000) : EnV w A us :=
  ⟨ownRow ho, fun x hx => ownE_val (he x hx) (by have := hl x hx; omega)⟩
end Go.Proofs.YtkdpfjenjcpcfaaGreatDoor
