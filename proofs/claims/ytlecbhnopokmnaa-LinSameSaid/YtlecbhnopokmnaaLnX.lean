/- LnX: Deeds as they lie; what one reads or leaves; whether any is of no kind that there is. -/
import Derived.Test.YtlecbhnopokmnaaLnW
import Derived.Deep.QuietTactic
namespace Go.Proofs.Ytlecbhnopokmnaa
open Go.RowKit Mem
set_option maxRecDepth 100000
set_option maxHeartbeats 2000000
set_option linter.unusedVariables false
set_option linter.unusedSimpArgs false
open Ln
/-- A deed as it lies. -/
structure DdL where
  kind : Int
  A : Option Addr
  b : List UInt8
  c : Nat
  fro : Int
  till : Int
  done : Bool
  has : Bool
  A2 : Option Addr
  vb : List UInt8
  c2 : Nat
def DdL.p (r : DdL) : DeedP := ⟨r.kind, r.b, r.fro, r.till, r.done, r.has, r.vb⟩
abbrev DdL.v (r : DdL) : Value := .agg #[.int .i64 r.kind, .slice r.A r.b.length r.c, .int .i64 r.fro, .int .i64 r.till, .bool r.done, .bool r.has, .slice r.A2 r.vb.length r.c2]
def ddC (r : DdL) : List Value := [.int .i64 r.kind, .slice r.A r.b.length r.c, .int .i64 r.fro, .int .i64 r.till, .bool r.done, .bool r.has, .slice r.A2 r.vb.length r.c2]
abbrev ddsC (l : List DdL) : List Value := l.flatMap ddC
theorem ddsC_len (rs : List DdL) : (ddsC rs).length = rs.length * 7 := by
  induction rs with
  | nil => rfl
  | cons p rs ih => simp only [ddsC, List.flatMap_cons, List.length_append, ddC, List.length_cons, List.length_nil]; have := ih; unfold ddsC at this; omega
theorem ddsC_at (rs : List DdL) (i : Nat) (h : i < rs.length) (j : Nat) (hj : j < 7) : (ddsC rs)[i * 7 + j]? = (ddC rs[i])[j]? := by
  induction rs generalizing i with
  | nil => simp at h
  | cons p rs ih =>
    have hc : ddsC (p :: rs) = ddC p ++ ddsC rs := rfl
    rw [hc]
    have hl : (ddC p).length = 7 := rfl
    rcases i with _ | i
    · rw [List.getElem?_append_left (by omega), Nat.zero_mul, Nat.zero_add]; rfl
    · rw [List.getElem?_append_right (by omega), hl, show (i + 1) * 7 + j - 7 = i * 7 + j by omega, ih i (by simpa using h)]
      rfl
/-- The cells of a deed at o of block b. -/
def DdAt (w : World) (b o : Nat) (r : DdL) : Prop :=
  w.cell? ⟨b, o, none⟩ = some (.int .i64 r.kind) ∧ w.cell? ⟨b, o + 1, none⟩ = some (.slice r.A r.b.length r.c) ∧ w.cell? ⟨b, o + 2, none⟩ = some (.int .i64 r.fro) ∧ w.cell? ⟨b, o + 3, none⟩ = some (.int .i64 r.till) ∧ w.cell? ⟨b, o + 4, none⟩ = some (.bool r.done) ∧ w.cell? ⟨b, o + 5, none⟩ = some (.bool r.has) ∧ w.cell? ⟨b, o + 6, none⟩ = some (.slice r.A2 r.vb.length r.c2)
theorem DdAt.keep {w w' : World} {b o : Nat} {r : DdL} (h : DdAt w b o r) (hb : w'.heap[b]? = w.heap[b]?) : DdAt w' b o r := by
  have k : ∀ j, w'.cell? ⟨b, j, none⟩ = w.cell? ⟨b, j, none⟩ := fun j => World.cell?_of_block (a := ⟨b, j, none⟩) hb
  unfold DdAt
  simp only [k]
  exact h
theorem dds_open {w : World} {B : Nat} {A : Option Addr} {rs : List DdL} (h : Row w B A (ddsC rs)) (hn : 0 < rs.length) :
    ∃ b o, A = some ⟨b, o, none⟩ ∧ b < B ∧ ∀ i (hi : i < rs.length), DdAt w b (o + i * 7) rs[i] := by
  obtain ⟨b, o, hA, hb, hc⟩ := h.open_ (by rw [ddsC_len]; omega)
  refine ⟨b, o, hA, hb, fun i hi => ?_⟩
  have key : ∀ j, j < 7 → w.cell? ⟨b, o + i * 7 + j, none⟩ = (ddC rs[i])[j]? := fun j hj => by
    have hlt : i * 7 + j < (ddsC rs).length := by rw [ddsC_len]; omega
    rw [show o + i * 7 + j = o + (i * 7 + j) by omega, hc (i * 7 + j) hlt, ← ddsC_at rs i hi j hj, List.getElem?_eq_getElem hlt]
  exact ⟨key 0 (by omega), key 1 (by omega), key 2 (by omega), key 3 (by omega), key 4 (by omega), key 5 (by omega), key 6 (by omega)⟩
/-- Their bytes lie below B. -/
def Dds_ (w : World) (B : Nat) (l : List DdL) : Prop := ∀ r ∈ l, Row w B r.A (r.b.map byteV) ∧ Row w B r.A2 (r.vb.map byteV)
theorem Dds_.below {w w' : World} {B : Nat} {l : List DdL} (h : Dds_ w B l) (hb : Below B w w') : Dds_ w' B l := fun r hr => ⟨(h r hr).1.below hb, (h r hr).2.below hb⟩
theorem Dds_.more {w : World} {B B' : Nat} {l : List DdL} (h : Dds_ w B l) (hb : B ≤ B') : Dds_ w B' l := fun r hr => ⟨(h r hr).1.more hb, (h r hr).2.more hb⟩
/-- What it reads or leaves, as it lies. -/
def valL (r : DdL) : VaL := if r.kind = 1 then ⟨r.has, r.A2, r.vb, r.c2⟩ else if r.kind = 2 then ⟨true, r.A, r.b, r.c⟩ else ⟨false, none, [], 0⟩
theorem valL_va (r : DdL) : (valL r).va = valD r.p := by
  unfold valL valD VaL.va DdL.p
  by_cases h1 : r.kind = 1
  · simp [h1]
  · by_cases h2 : r.kind = 2
    · simp [h2, normV]
    · simp [h1, h2, normV]
theorem valL_row {w : World} {B : Nat} {r : DdL} (h : Row w B r.A (r.b.map byteV) ∧ Row w B r.A2 (r.vb.map byteV)) : Row w B (valL r).A ((valL r).b.map byteV) := by
  unfold valL
  split
  · exact h.2
  · split
    · exact h.1
    · exact Or.inl rfl
theorem value_any (r : DdL) (w : World) : Calls Try.prog 47 #[r.v] w fun e w' => e = .returned (valL r).v ∧ Below w.heap.size w w' := by
  obtain ⟨kind, A, b, c, fro, till, done, has, A2, vb, c2⟩ := r
  by_cases h1 : kind = 1
  · subst h1
    have e : (valL ⟨1, A, b, c, fro, till, done, has, A2, vb, c2⟩).v = .agg #[.bool has, .slice A2 vb.length c2] := rfl
    rw [e]; clear e
    go_enter Try.func47, Try.ntmps47
    go_wp2
    exact bodyPost_ret (v := .agg #[.bool has, .slice A2 vb.length c2]) (by simp [results, Try.results47, go_sem]) rfl ⟨rfl, ((Below.refl _ _).alloc (Nat.le_refl _) _).alloc (by simp) _⟩
  · by_cases h2 : kind = 2
    · subst h2
      have e : (valL ⟨2, A, b, c, fro, till, done, has, A2, vb, c2⟩).v = .agg #[.bool true, .slice A b.length c] := rfl
      rw [e]; clear e h1
      go_enter Try.func47, Try.ntmps47
      go_wp2
      exact bodyPost_ret (v := .agg #[.bool true, .slice A b.length c]) (by simp [results, Try.results47, go_sem]) rfl ⟨rfl, ((Below.refl _ _).alloc (Nat.le_refl _) _).alloc (by simp) _⟩
    · have e : (valL ⟨kind, A, b, c, fro, till, done, has, A2, vb, c2⟩).v = .agg #[.bool false, .slice none 0 0] := by unfold valL; rw [if_neg h1, if_neg h2]; rfl
      rw [e]; clear e
      have q1 : (kind == 1) = false := by simpa using h1
      have q2 : (kind == 2) = false := by simpa using h2
      go_enter Try.func47, Try.ntmps47
      go_wp2
      exact bodyPost_ret (v := .agg #[.bool false, .slice none 0 0]) (by simp [results, Try.results47, go_sem]) rfl ⟨rfl, ((Below.refl _ _).alloc (Nat.le_refl _) _).alloc (by simp) _⟩
theorem known_k (k : Int) (w : World) : Calls Try.prog 58 #[.int .i64 k] w fun e w' => e = .returned (.bool (knownK k)) ∧ w = w' := by
  by_cases h1 : k = 1
  · subst h1
    go_enter Try.func58, Try.ntmps58
    go_wp2
    go_ret
    exact ⟨rfl, rfl⟩
  · by_cases h2 : k = 2
    · subst h2
      go_enter Try.func58, Try.ntmps58
      go_wp2
      go_ret
      exact ⟨rfl, rfl⟩
    · by_cases h3 : k = 3
      · subst h3
        go_enter Try.func58, Try.ntmps58
        go_wp2
        go_ret
        exact ⟨rfl, rfl⟩
      · have e : knownK k = false := by unfold knownK; simp [h1, h2, h3]
        rw [e]; clear e
        have q1 : (k == 1) = false := by simpa using h1
        have q2 : (k == 2) = false := by simpa using h2
        have q3 : (k == 3) = false := by simpa using h3
        go_enter Try.func58, Try.ntmps58
        go_wp2
        go_ret
        exact ⟨rfl, rfl⟩
theorem strange_any (r : DdL) (w : World) : Calls Try.prog 41 #[r.v] w fun e w' => e = .returned (.bool (!knownK r.kind)) ∧ Below w.heap.size w w' := by
  obtain ⟨kind, A, b, c, fro, till, done, has, A2, vb, c2⟩ := r
  have HB := Lib.hid ((Below.refl w.heap.size w).alloc (Nat.le_refl _) (.cells #[.int .i64 kind, .slice A b.length c, .int .i64 fro, .int .i64 till, .bool done, .bool has, .slice A2 vb.length c2] 47))
  go_enter Try.func41, Try.ntmps41
  go_wp2_with (go_at_call 58; refine (known_k _ _).mono ?_; rintro e w2 ⟨rfl, rfl⟩)
  go_ret
  exact ⟨rfl, HB.out⟩
/-- Is any of them strange? The first one's place, or -1. -/
def IdkP (l : List DdL) (w : World) (e : Ending) (w' : World) : Prop :=
  ∃ b : Bool, l.all (fun r => knownK r.kind) = b ∧ (∃ i : Int, e = .returned (.int .i64 i) ∧ decide (0 ≤ i) = !b) ∧ Below w.heap.size w w'
theorem idk_any (l : List DdL) (hl : l.length ≤ 1000000) (B c : Nat) (A : Option Addr) (w : World) (hr : Row w B A (ddsC l)) (hB : B ≤ w.heap.size) :
    Calls Try.prog 57 #[.slice A l.length c, .func (.func 41) #[] #[]] w (IdkP l w) := by
  have HNO : Hid (∀ W : World, (∀ y ∈ l, knownK y.kind = true) → Below w.heap.size w W → IdkP l w (.returned (.int .i64 (-1))) W) := Lib.hid fun W h hb => ⟨true, List.all_eq_true.2 h, ⟨-1, rfl, rfl⟩, hb⟩
  have HYES : Hid (∀ (W : World) (i : Nat) (y : DdL), l[i]? = some y → knownK y.kind = false → Below w.heap.size w W → IdkP l w (.returned (.int .i64 (i : Int))) W) := Lib.hid fun W i y h1 h2 hb => ⟨false, (by
    rw [Bool.eq_false_iff]
    intro h
    have := List.all_eq_true.1 h y (List.mem_of_getElem? h1)
    rw [h2] at this
    exact absurd this (by decide)), ⟨i, rfl, by simp⟩, hb⟩
  obtain ⟨Q, hQ⟩ : ∃ Q, IdkP l w = Q := ⟨_, rfl⟩
  rw [hQ] at HNO HYES ⊢
  have HR := Lib.hid hr
  have HBB := Lib.hid hB
  obtain ⟨n, hn⟩ : ∃ n, l.length = n := ⟨_, rfl⟩
  have HN := Lib.hid hn
  rw [hn] at hl ⊢
  have HL := Lib.hid hl
  have hn2 : (n : Int) ≤ 1000000 := by omega
  clear hr hB hQ hn hl
  go_enter Try.func57, Try.ntmps57
  go_wp2
  go_loopw [8] (fun iv wr => ∃ q : Nat, q ≤ n ∧ iv = .int .i64 (q : Int) ∧ Hid (∀ (i : Nat) (y : DdL), i < q → l[i]? = some y → knownK y.kind = true) ∧ Hid (Below w.heap.size w wr)) (fun iv _ => n - (intOf iv).toNat)
  case atStart => exact ⟨0, by omega, rfl, Lib.hid (fun i y hi => by omega), Lib.hid (Below.refl _ _)⟩
  case round =>
    obtain ⟨q, hq, rfl, HF, HB⟩ := hrel
    have hq0 : (0 : Int) ≤ (q : Int) := by omega
    by_cases hlt : q < n
    · have hlt2 : (q : Int) < (n : Int) := by omega
      have hql : q < l.length := by rw [HN.out]; exact hlt
      obtain ⟨b, o, hA, hbB, hcl⟩ := dds_open HR.out (by omega)
      have hbw : b < w.heap.size := Nat.lt_of_lt_of_le hbB HBB.out
      obtain ⟨e0, e1, e2, e3, e4, e5, e6⟩ := (hcl q hql).keep (HB.out.block b hbw)
      have HY0 : Hid (l[q]? = some l[q]) := Lib.hid (List.getElem?_eq_getElem hql)
      obtain ⟨y, hy⟩ : ∃ y, l[q] = y := ⟨_, rfl⟩
      rw [hy] at e0 e1 e2 e3 e4 e5 e6 HY0
      subst hA
      clear hy hcl hbB hbw hql
      obtain ⟨kind, A, yb, yc, fro, till, done, has, A2, vb, c2⟩ := y
      simp only at e0 e1 e2 e3 e4 e5 e6
      obtain ⟨b1, hb1⟩ : ∃ b1, knownK kind = b1 := ⟨_, rfl⟩
      have HB1 := Lib.hid hb1
      clear hb1
      go_wp2_with fail
      refine (strange_any ⟨kind, A, yb, yc, fro, till, done, has, A2, vb, c2⟩ wr).mono ?_
      rintro e w3 ⟨he, hb3⟩
      simp only [HB1.out] at he
      subst he
      have HB3 := Lib.hid (HB.out.trans (hb3.mono HB.out.size))
      clear hb3 e0 e1 e2 e3 e4 e5 e6
      cases b1
      · go_wp2
        exact HYES.out _ q _ HY0.out HB1.out HB3.out
      · go_wp2
        go_roundw
        case rel => exact ⟨q + 1, by omega, by go_num, Lib.hid (fun i z hi hz => by
          rcases Nat.lt_or_ge i q with h | h
          · exact HF.out i z h hz
          · have : i = q := by omega
            subst this
            rw [HY0.out] at hz
            injection hz with hz
            subst hz
            exact HB1.out), HB3⟩
        case measure => simp [intOf]; omega
    · obtain rfl : q = n := by omega
      go_wp2
      exact HNO.out _ (fun y hy => by
        obtain ⟨i, hi, e⟩ := List.mem_iff_getElem.1 hy
        exact HF.out i y (by rw [← HN.out]; exact hi) (by rw [← e]; exact List.getElem?_eq_getElem hi)) HB.out
theorem contains_any (l : List DdL) (hl : l.length ≤ 1000000) (B c : Nat) (A : Option Addr) (w : World) (hr : Row w B A (ddsC l)) (hB : B ≤ w.heap.size) (b : Bool) (hb : Hid (l.all (fun r => knownK r.kind) = b)) :
    Calls Try.prog 40 #[.slice A l.length c, .func (.func 41) #[] #[]] w (IsB18 (!b) w) := by
  have HC := Lib.hid (idk_any l hl B c A w hr hB)
  clear hr hB hl
  go_enter Try.func40, Try.ntmps40
  go_wp2_with fail
  refine (HC.out).mono ?_
  rintro e w2 ⟨b2, h1, ⟨i, rfl, h2⟩, h3⟩
  obtain rfl : b2 = b := h1.symm.trans hb.out
  have HB := Lib.hid h3
  have HI := Lib.hid h2
  clear h1 h2 h3
  go_wp2
  go_ret
  exact ⟨by rw [← HI.out]; rfl, HB.out⟩
end Go.Proofs.Ytlecbhnopokmnaa
