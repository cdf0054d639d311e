/- What was acknowledged lasts: what holds of a store, whatever is done. -/
import Derived.Test.YtkleecaghgpndaaGreatLaw8
namespace Go.Proofs.YtkleecaghgpndaaGreat
open Go.RowKit Go.ChangeShapes Mem Be Word Frm Go.Maps
set_option maxRecDepth 10000
set_option maxHeartbeats 2000000
set_option linter.unusedVariables false
theorem StAt.short {w : World} {F : Nat → Prop} {g q : Nat} {S : St8} (h : StAt w F g S q) : Short S.rs := by
  obtain ⟨h0, FL, FS, lm, fm, TL, TF, A, c, h1, h2, hfl, h⟩ := h
  exact h.lg.short
/-- The entry is no older than the ack's tag. -/
def TagLe (a : AckP) (x : EntP) : Prop := a.s < x.s ∨ (x.s = a.s ∧ (a.u < x.u ∨ (x.u = a.u ∧ a.o ≤ x.o)))
theorem TagLe.trans {a : AckP} {x y : EntP} (h : TagLe a x) (h' : GeE y x) : TagLe a y := by unfold TagLe GeE at *; omega
theorem TagLe.ge {a : AckP} {x : EntP} (h : TagLe a x) : 0 ≤ cmpT x.s x.u x.o a.s a.u a.o := (cmpE_ge x ⟨[], a.s, a.u, a.o, false, []⟩).2 (by unfold TagLe at h; exact h)
structure InvA (S : St8) (told : List AckP) (P : EntP → Prop) : Prop where
  all : ∀ p T, S.m ≤ p → p ≤ S.rs.length → recS (S.rs.take p) = some T → (∀ e ∈ T, P e) ∧ ∀ a ∈ told, TagLe a (ofT T a.k)
  acks : ∀ a ∈ S.acks, TagLe a (ofT S.N a.k)
theorem invA_st0 (P : EntP → Prop) : InvA st0 [] P := ⟨fun p T _ hp hT => by
  have hp0 : p = 0 := by simpa [st0] using hp
  subst hp0
  have e : T = [] := by
    have : recS (st0.rs.take 0) = some [] := rfl
    rw [this] at hT; injection hT with hT; exact hT.symm
  subst e
  exact ⟨(fun e h => by cases h), (fun a h => by cases h)⟩, (fun a h => by cases h)⟩
theorem InvA.lasts {S : St8} {told : List AckP} {P : EntP → Prop} (h : InvA S told P) (ok : Ok8 S) : (∀ e ∈ S.L, P e) ∧ ∀ a ∈ told, TagLe a (ofT S.L a.k) := h.all S.m S.L (Nat.le_refl _) ok.le ok.lasts
theorem InvA.newer {S : St8} {told : List AckP} {P : EntP → Prop} (h : InvA S told P) (ok : Ok8 S) : (∀ e ∈ S.N, P e) ∧ ∀ a ∈ told, TagLe a (ofT S.N a.k) :=
  h.all S.rs.length S.N ok.le (Nat.le_refl _) (by rw [List.take_length]; exact ok.newer)
theorem InvA.more {S : St8} {told : List AckP} {P P' : EntP → Prop} (h : InvA S told P) (hp : ∀ e, P e → P' e) : InvA S told P' := ⟨fun p T h1 h2 h3 => ⟨fun e he => hp e ((h.all p T h1 h2 h3).1 e he), (h.all p T h1 h2 h3).2⟩, h.acks⟩
theorem invA_put {S : St8} {told : List AckP} {P : EntP → Prop} (h : InvA S told P) (ok : Ok8 S) (e : EntP) (who : Int) : InvA (putS S e who).1 told (fun x => P x ∨ x = e) := by
  have hm := h.more (P' := fun x => P x ∨ x = e) fun x hx => Or.inl hx
  unfold putS
  split
  · rename_i hmay
    split
    · rename_i hgt
      split
      · unfold writeS
        split
        · have hge := geE_of hgt
          have hstep : ∀ a : AckP, TagLe a (ofT S.N a.k) → TagLe a (ofT (putK kE S.N e) a.k) := fun a ha => by
            rw [ofT_put]
            split
            · rename_i hk
              rw [hk] at hge
              exact ha.trans hge
            · exact ha
          refine ⟨fun p T h1 h2 h3 => ?_, fun a ha => ?_⟩
          · change S.m ≤ p at h1
            change p ≤ (S.rs ++ [(1, putE e)]).length at h2
            change recS ((S.rs ++ [(1, putE e)]).take p) = some T at h3
            by_cases hp : p ≤ S.rs.length
            · rw [List.take_append_of_le_length hp] at h3
              exact hm.all p T h1 hp h3
            · have hp2 : p = (S.rs ++ [(1, putE e)]).length := by simp at h2 ⊢; omega
              rw [hp2, List.take_length, recS_snoc ok.newer hmay.1 hmay.2.1] at h3
              injection h3 with h3
              have hl : layT S.N e = putK kE S.N e := if_neg (by omega)
              rw [hl] at h3
              subst h3
              refine ⟨fun x hx => ?_, fun a ha => hstep a ((h.newer ok).2 a ha)⟩
              rcases mem_put_of hx with rfl | hx
              · exact Or.inr rfl
              · exact Or.inl ((h.newer ok).1 x hx)
          · show TagLe a (ofT (putK kE S.N e) a.k)
            have ha' : a ∈ S.acks ++ [ackOf e who] := ha
            rcases List.mem_append.1 ha' with ha | ha
            · exact hstep a (h.acks a ha)
            · obtain rfl : a = ackOf e who := by simpa using ha
              rw [ofT_put, if_pos (show e.k = (ackOf e who).k from rfl)]
              exact Or.inr ⟨rfl, Or.inr ⟨rfl, Int.le_refl _⟩⟩
        · rename_i hw h0; exact absurd hw (by unfold writeS; rw [if_neg h0]; show ¬ (3 : Int) = 0; decide)
      · exact hm
    · rename_i hgt
      refine ⟨hm.all, fun a ha => ?_⟩
      have ha' : a ∈ S.acks ++ [ackOf e who] := ha
      show TagLe a (ofT S.N a.k)
      rcases List.mem_append.1 ha' with ha | ha
      · exact h.acks a ha
      · obtain rfl : a = ackOf e who := by simpa using ha
        have := (cmpE_le e (ofT S.N e.k)).1 (by omega)
        show TagLe (ackOf e who) (ofT S.N e.k)
        show e.s < (ofT S.N e.k).s ∨ ((ofT S.N e.k).s = e.s ∧ (e.u < (ofT S.N e.k).u ∨ ((ofT S.N e.k).u = e.u ∧ e.o ≤ (ofT S.N e.k).o)))
        omega
  · exact hm
theorem invA_step {S : St8} {told : List AckP} {P : EntP → Prop} (h : InvA S told P) (ok : Ok8 S) (sh : Short S.rs) (d : D8) : InvA (d8S S d).1 (told ++ (d8S S d).2.1) (fun x => P x ∨ (d.kind = 1 ∧ x = d.e.1)) := by
  have hm := h.more (P' := fun x => P x ∨ (d.kind = 1 ∧ x = d.e.1)) fun x hx => Or.inl hx
  unfold d8S
  split
  · rename_i h1
    simp only [List.append_nil]
    exact (invA_put h ok d.e.1 d.who).more fun x hx => by rcases hx with hx | hx; exact Or.inl hx; exact Or.inr ⟨h1, hx⟩
  split
  · refine ⟨fun p T h1 h2 h3 => ?_, fun a ha => by cases ha⟩
    change S.rs.length ≤ p at h1
    change p ≤ S.rs.length at h2
    change recS (S.rs.take p) = some T at h3
    obtain rfl : p = S.rs.length := by omega
    rw [List.take_length, ok.newer] at h3
    injection h3 with h3
    subst h3
    refine ⟨(hm.newer ok).1, fun a ha => ?_⟩
    rcases List.mem_append.1 ha with ha | ha
    · exact (h.newer ok).2 a ha
    · exact h.acks a ha
  split
  · simp only [List.append_nil]
    unfold compS
    split
    · exact hm
    · refine ⟨fun p T h1 h2 h3 => ?_, hm.acks⟩
      change 1 ≤ p at h1
      change p ≤ 1 at h2
      change recS (List.take p [(0, rowsT S.N)]) = some T at h3
      obtain rfl : p = 1 := by omega
      have h4 : recS (List.take 1 [((0 : UInt8), rowsT S.N)]) = some S.N := recS_one ok.nOk
      rw [h4] at h3
      injection h3 with h3
      subst h3
      exact hm.newer ok
  split
  · simp only [List.append_nil]
    exact hm
  · simp only [List.append_nil]
    obtain ⟨p0, h1, h2, h3⟩ := crash_take S.rs S.m d.kept.toNat sh ok.le
    have hr : crashR S d.kept.toNat = S.rs.take p0 := h3
    refine ⟨fun p T g1 g2 g3 => ?_, fun a ha => by cases ha⟩
    change (crashR S d.kept.toNat).length ≤ p at g1
    change p ≤ (crashR S d.kept.toNat).length at g2
    change recS ((crashR S d.kept.toNat).take p) = some T at g3
    obtain rfl : p = (crashR S d.kept.toNat).length := by omega
    rw [List.take_length, hr] at g3
    exact hm.all p0 T h1 h2 g3
end Go.Proofs.YtkleecaghgpndaaGreat
