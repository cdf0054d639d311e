/- SvW: What a server's tables hold, by what was done to it (the weights are those of Twice8); compacted it is what it was. -/
import Derived.Test.YtkdpfjenjcpcfaaGreatDoorSZ4
import Derived.Test.YtkdpfjenjcpcfaaGreatDoorXZ
namespace Go.Proofs.YtkdpfjenjcpcfaaGreatDoor
open Go.RowKit Go.ChangeShapes Mem Be Word Frm Go.Maps Rg
set_option maxRecDepth 100000
set_option maxHeartbeats 1000000
set_option linter.unusedVariables false
def wE (e : EntP) : Nat := e.k.length + e.v.length + 60
def wT : List EntP → Nat
  | [] => 0
  | e :: T => wE e + wT T
theorem wT_ins (x : EntP) : ∀ T : List EntP, wT (insK kE x T) = wE x + wT T
  | [] => rfl
  | y :: T => by
    have ih := wT_ins x T
    unfold insK
    split
    · rfl
    · simp only [wT]; omega
theorem wT_del (k : List UInt8) : ∀ T : List EntP, wT (delK kE k T) ≤ wT T
  | [] => Nat.le_refl _
  | y :: T => by
    have ih := wT_del k T
    unfold delK at ih ⊢
    rw [List.filter_cons]
    split
    · simp only [wT]; omega
    · simp only [wT]; omega
theorem wT_put (T : List EntP) (e : EntP) : wT (putK kE T e) ≤ wE e + wT T := by
  unfold putK
  rw [wT_ins]
  have := wT_del (kE e) T
  omega
theorem rows_wT : ∀ T : List EntP, (rowsT T).length ≤ wT T
  | [] => Nat.le_refl _
  | e :: T => by
    have ih := rows_wT T
    have h1 := entB_le e.k e.s e.u e.o e.has e.v
    have h2 := numB_le ((putE e).length : Int)
    have h3 : rowsT (e :: T) = rowB (putE e) ++ rowsT T := rfl
    have h4 : (putE e).length ≤ e.k.length + e.v.length + 46 := h1
    rw [h3, List.length_append]
    unfold rowB
    rw [List.length_append]
    simp only [wT, wE]
    omega
/-- What the tables that may come back hold. -/
def InvW (S : St8) (b : Nat) : Prop := ∀ p T, S.m ≤ p → p ≤ S.rs.length → recS (S.rs.take p) = some T → wT T ≤ b
theorem InvW.newer {S : St8} {b : Nat} (h : InvW S b) (ok : Ok8 S) : wT S.N ≤ b := h S.rs.length S.N ok.le (Nat.le_refl _) (by rw [List.take_length]; exact ok.newer)
theorem InvW.more {S : St8} {b b' : Nat} (h : InvW S b) (hb : b ≤ b') : InvW S b' := fun p T h1 h2 h3 => Nat.le_trans (h p T h1 h2 h3) hb
theorem invW_st0 : InvW st0 0 := fun p T _ hp hT => by
  have hp0 : p = 0 := by simpa [st0] using hp
  subst hp0
  have e : T = [] := by
    have : recS (st0.rs.take 0) = some [] := rfl
    rw [this] at hT; injection hT with hT; exact hT.symm
  subst e
  exact Nat.le_refl _
theorem invW_put {S : St8} {b : Nat} (h : InvW S b) (ok : Ok8 S) (e : EntP) (who : Int) : InvW (putS S e who).1 (b + wE e) := by
  have hm := h.more (Nat.le_add_right b (wE e))
  unfold putS
  split
  · rename_i hmay
    split
    · rename_i hgt
      split
      · unfold writeS
        split
        · intro p T h1 h2 h3
          change S.m ≤ p at h1
          change p ≤ (S.rs ++ [(1, putE e)]).length at h2
          change recS ((S.rs ++ [(1, putE e)]).take p) = some T at h3
          by_cases hp : p ≤ S.rs.length
          · rw [List.take_append_of_le_length hp] at h3
            exact hm p T h1 hp h3
          · have hp2 : p = (S.rs ++ [(1, putE e)]).length := by simp at h2 ⊢; omega
            rw [hp2, List.take_length, recS_snoc ok.newer hmay.1 hmay.2.1] at h3
            injection h3 with h3
            have hl : layT S.N e = putK kE S.N e := if_neg (by omega)
            rw [hl] at h3
            subst h3
            have h4 := wT_put S.N e
            have h5 := h.newer ok
            omega
        · rename_i hw h0; exact absurd hw (by unfold writeS; rw [if_neg h0]; show ¬ (3 : Int) = 0; decide)
      · exact hm
    · exact hm
  · exact hm
theorem invW_tick {S : St8} {b : Nat} (h : InvW S b) (ok : Ok8 S) : InvW (tickS S) b := by
  intro p T h1 h2 h3
  change S.rs.length ≤ p at h1
  change p ≤ S.rs.length at h2
  change recS (S.rs.take p) = some T at h3
  exact h p T (Nat.le_trans ok.le h1) h2 h3
theorem invW_comp {S : St8} {b : Nat} (h : InvW S b) (ok : Ok8 S) : InvW (compS S).1 b := by
  unfold compS
  split
  · exact h
  · intro p T h1 h2 h3
    change 1 ≤ p at h1
    change p ≤ 1 at h2
    change recS (List.take p [(0, rowsT S.N)]) = some T at h3
    obtain rfl : p = 1 := by omega
    have h4 : recS (List.take 1 [((0 : UInt8), rowsT S.N)]) = some S.N := recS_one ok.nOk
    rw [h4] at h3
    injection h3 with h3
    subst h3
    exact h.newer ok
theorem invW_crash {S : St8} {b : Nat} (k : Nat) (h : InvW S b) (ok : Ok8 S) (sh : Short S.rs) : InvW (crash8S S k) b := by
  obtain ⟨p0, h1, h2, h3⟩ := crash_take S.rs S.m k sh ok.le
  have hr : crashR S k = S.rs.take p0 := h3
  intro p T g1 g2 g3
  change (crashR S k).length ≤ p at g1
  change p ≤ (crashR S k).length at g2
  change recS ((crashR S k).take p) = some T at g3
  obtain rfl : p = (crashR S k).length := by omega
  rw [List.take_length, hr] at g3
  exact h p0 T h1 h2 g3
theorem invW_op {S : St8} {ps : Ps14} {b : Nat} (h : InvW S b) (ok : Ok8 S) (sh : Short S.rs) (kind : Int) (m : MsgP) (kept : Int) : InvW (opS S ps kind m kept).S (b + wE m.e) := by
  have hm := h.more (Nat.le_add_right b (wE m.e))
  unfold opS
  split
  · unfold handS
    split
    · exact invW_put h ok m.e m.fr
    · exact hm
  split
  · exact invW_tick hm ok
  split
  · exact invW_comp hm ok
  split
  · exact hm
  · exact invW_crash _ hm ok sh
theorem invW_round14 {rs : List O14} {S : St8} {ps : Ps14} {k : Nat} (hk : k < rs.length) (h : InvW S (3 * lenO (rs.take k))) (ok : Ok8 S) (sh : Short S.rs) : InvW (opS S ps rs[k].kind (mP rs[k].m) rs[k].kept).S (3 * lenO (rs.take (k + 1))) :=
  (invW_op h ok sh _ _ _).more (by
    rw [lenO_take hk]
    have : wE (mP rs[k].m).e = rs[k].m.e.1.k.length + rs[k].m.e.1.v.length + 60 := rfl
    unfold lM
    omega)
/-- What is small is compacted. -/
theorem comp_ok {S : St8} {b : Nat} (h : InvW S b) (ok : Ok8 S) (hb : b ≤ 65536) : compS S = (⟨[(0, rowsT S.N)], 1, S.N, S.N, S.acks⟩, 0) := by
  have h1 := h.newer ok
  have h2 := rows_wT S.N
  unfold compS
  rw [if_neg (by omega)]
theorem crash_comp {S : St8} (ok : Ok8 S) (sh : Short [((0 : UInt8), rowsT S.N)]) : (crash8S ⟨[(0, rowsT S.N)], 1, S.N, S.N, S.acks⟩ 0).L = S.N := by
  rw [crash0 (ok8_comp ok) sh]
end Go.Proofs.YtkdpfjenjcpcfaaGreatDoor
