/- Something that is done to a log, by the statements' own call. -/
import Derived.Test.YtkagfjjocmjeoaaLast
import Derived.Test.YtkagfjjocmjeoaaDos7
namespace Go.Proofs.Ytkagfjjocmjeoaa
open Go.RowKit Mem Be Word Frm
set_option maxRecDepth 10000
set_option maxHeartbeats 2000000
set_option linter.unusedVariables false
def firstB : List RowV → List UInt8
  | [] => []
  | r :: _ => r.2.1
/-- What a crash that keeps k bytes of the tail leaves. -/
def crashS (rs : List Rc) (m k : Nat) : List Rc := (scanS (allB (rs.take m) ++ (allB (rs.drop m)).take k)).1
/-- A log behind something that is done to it, and what is told. -/
def gS (rs : List Rc) (m : Nat) (d : DoG) : List Rc × Nat × Int :=
  if d.kind = 1 then (if d.of_ = 0 then (rs, m, 2) else ((addS rs d.of_ (bytesR d.rows)).1, m, (addS rs d.of_ (bytesR d.rows)).2))
  else if d.kind = 2 then (rs, rs.length, 0)
  else if d.kind = 3 then snapS rs m (firstB d.rows)
  else if d.kept < 0 then (rs, m, 2) else (crashS rs m d.kept.toNat, (crashS rs m d.kept.toNat).length, 0)
def DoneG (F : Nat → Prop) (s : List Rc × Nat × Int) (q : Nat) (w : World) (e : Ending) (w' : World) : Prop :=
  ∃ g F' q', e = .returned (.tuple #[.pointer (some ⟨g, 0, none⟩), .int .i64 s.2.2]) ∧ (∀ k, F' k → F k ∨ w.heap.size ≤ k) ∧ LgAt w' F' g s.1 s.2.1 q' ∧ q' ≤ q + 1 ∧ Touch F w w'
theorem doneG_to {F : Nat → Prop} {g q q' m : Nat} {rs : List Rc} {v : Int} {w w1 w2 : World} {e : Ending} (hb : Below w.heap.size w w1) (hq : q' ≤ q + 1) (h : LgTo (.int .i64 v) F g rs m q' w1 e w2) :
    e = .returned (.int .i64 v) ∧ DoneG F (rs, m, v) q w (.returned (.tuple #[.pointer (some ⟨g, 0, none⟩), .int .i64 v])) w2 := by
  obtain ⟨rfl, F', h1, h2, h3⟩ := h
  exact ⟨rfl, g, F', q', rfl, fun k hk => by rcases h1 k hk with h | h; exact Or.inl h; exact Or.inr (Nat.le_trans hb.size h), h2, hq, (Touch.ofBelow hb).trans h3 (fun k hk => Or.inl hk)⟩
theorem doneG_stay {F : Nat → Prop} {g q m : Nat} {rs : List Rc} {v : Int} {w w1 : World} (h : LgAt w F g rs m q) (hb : Below w.heap.size w w1) : DoneG F (rs, m, v) q w (.returned (.tuple #[.pointer (some ⟨g, 0, none⟩), .int .i64 v])) w1 :=
  ⟨g, F, q, rfl, fun k hk => Or.inl hk, h.below hb, by omega, Touch.ofBelow hb⟩
theorem done7_any (F : Nat → Prop) (g m q : Nat) (rs : List Rc) (d : DoG) (w : World) (hq : q ≤ 4611686018427387904) (h : LgAt w F g rs m q) (hok : DoGOk w w.heap.size d) (hnl : d.rows.length ≤ 5864062014805)
    (hr : RowN F w d.at_ (d.rows.map rowV)) (hrs : ∀ r ∈ d.rows, RowN F w r.1 (r.2.1.map byteV)) :
    Calls Try.prog 13 #[.pointer (some ⟨g, 0, none⟩), .agg #[.int .i64 d.kind, .int .u8 (d.of_.toNat : Int), .slice d.at_ d.rows.length d.room, .int .i64 d.kept]] w (DoneG F (gS rs m d) q w) := by
  have hxl : ∀ r ∈ d.rows, r.2.1.length ≤ maxLen := fun r hm => by have h1 := (hok.rows r hm).2.1; have h2 := (hok.rows r hm).2.2; omega
  obtain ⟨kd, of_, A, rows, c, kp⟩ := d
  simp only at hok hnl hr hrs hxl ⊢
  have hb : Below w.heap.size w (w.alloc (.cells #[.int .i64 kd, .int .u8 (of_.toNat : Int), .slice A rows.length c, .int .i64 kp] 38)) := (Below.refl _ _).alloc (Nat.le_refl _) _
  have HB := Lib.hid hb
  have HA := Lib.hid h
  have HL := Lib.hid (h.below hb)
  have HR := Lib.hid (hr.touch (Touch.ofBelow (F := F) hb))
  have HRS : Hid (∀ r ∈ rows, RowN F (w.alloc (.cells #[.int .i64 kd, .int .u8 (of_.toNat : Int), .slice A rows.length c, .int .i64 kp] 38)) r.1 (r.2.1.map byteV)) := Lib.hid fun r hm => (hrs r hm).touch (Touch.ofBelow (F := F) hb)
  have HX := Lib.hid hxl
  have HQ := Lib.hid hq
  have HN := Lib.hid hnl
  have hrl : (rows.length : Int) ≤ 5864062014805 := by omega
  have hrl0 : (0 : Int) ≤ (rows.length : Int) := by omega
  obtain ⟨S, hS⟩ : ∃ S, gS rs m ⟨kd, of_, A, rows, c, kp⟩ = S := ⟨_, rfl⟩
  rw [hS]
  unfold gS at hS
  simp only at hS
  clear hb h hr hrs hxl hq hnl hok
  by_cases h1 : kd = 1
  · rw [if_pos h1] at hS
    subst h1
    by_cases h0 : of_ = 0
    · rw [if_pos h0] at hS
      subst h0
      have HS := Lib.hid hS
      have HC := Lib.hid (append7_zero g (.slice A rows.length c))
      clear hS
      go_enter Try.func13, Try.ntmps13
      go_wp2_with fail
      refine (HC.out _).mono ?_
      rintro e w2 ⟨rfl, rfl⟩
      go_wp2
      go_ret2
      rw [← HS.out]
      exact doneG_stay HA.out HB.out
    · rw [if_neg h0] at hS
      have HC := Lib.hid (append7_any F g m q rows.length c of_ h0 rs A rows rfl HN.out HX.out _ HL.out HR.out HRS.out)
      have HS := Lib.hid hS
      obtain ⟨U, hU⟩ : ∃ U, addS rs of_ (bytesR rows) = U := ⟨_, rfl⟩
      rw [hU] at HC HS
      clear hS hU h0
      go_enter Try.func13, Try.ntmps13
      go_wp2_with fail
      refine HC.out.mono ?_
      intro e w2 hx
      have hx2 := doneG_to (q := q) HB.out (by omega) hx
      obtain ⟨rfl, hx3⟩ := hx2
      have HX3 := Lib.hid hx3
      clear hx hx3 HC
      go_wp2
      go_ret2
      rw [← HS.out]
      exact HX3.out
  rw [if_neg h1] at hS
  by_cases h2 : kd = 2
  · rw [if_pos h2] at hS
    subst h2
    have HS := Lib.hid hS
    have HC := Lib.hid (sync7_any F g m q rs HQ.out _ HL.out)
    have HU := Lib.hid (upN_le (allB (rs.drop m)) q)
    obtain ⟨q2, hq2⟩ : ∃ q2, upN (allB (rs.drop m)) q = q2 := ⟨_, rfl⟩
    rw [hq2] at HC HU
    clear hS h1 hq2
    go_enter Try.func13, Try.ntmps13
    go_wp2_with fail
    refine HC.out.mono ?_
    intro e w2 hx
    have hx2 := doneG_to (q := q) HB.out HU.out hx
    obtain ⟨rfl, hx3⟩ := hx2
    have HX3 := Lib.hid hx3
    clear hx hx3 HC
    go_wp2
    go_ret2
    rw [← HS.out]
    exact HX3.out
  rw [if_neg h2] at hS
  by_cases h3 : kd = 3
  · rw [if_pos h3] at hS
    subst h3
    have fin : ∀ b : List UInt8, firstB rows = b → ∀ e w2, LgTo (.int .i64 (snapS rs m b).2.2) F g (snapS rs m b).1 (snapS rs m b).2.1 q (w.alloc (.cells #[.int .i64 3, .int .u8 (of_.toNat : Int), .slice A rows.length c, .int .i64 kp] 38)) e w2 →
        e = .returned (.int .i64 S.2.2) ∧ DoneG F S q w (.returned (.tuple #[.pointer (some ⟨g, 0, none⟩), .int .i64 S.2.2])) w2 := fun b hfb e w2 hx => by
      rw [← hfb, hS] at hx
      exact doneG_to HB.out (by omega) hx
    have HF := Lib.hid fin
    cases rows with
    | nil =>
      have HC := Lib.hid (snap7_any F g m q 0 0 rs none [] rfl _ HL.out (Or.inl rfl))
      have HF2 := Lib.hid (HF.out [] rfl)
      obtain ⟨U, hU⟩ : ∃ U, snapS rs m [] = U := ⟨_, rfl⟩
      rw [hU] at HC HF2
      clear hS h1 h2 hU fin HF
      simp only [List.length_nil] at HC HF2 hrl hrl0 ⊢
      go_enter Try.func13, Try.ntmps13
      go_wp2_with fail
      refine HC.out.mono ?_
      intro e w2 hx
      have hx2 := HF2.out e w2 hx
      obtain ⟨rfl, _⟩ := hx
      obtain ⟨he2, hx3⟩ := hx2
      have HX3 := Lib.hid hx3
      have HE := Lib.hid he2
      clear hx3 HC he2 HF2
      go_wp2
      go_ret2
      have h9 := HE.out
      injection h9 with h9
      rw [h9]
      exact HX3.out
    | cons r rows =>
      have hrp : (0 : Int) < ((r :: rows).length : Int) := by rw [List.length_cons]; omega
      have hrow := HR.out
      rcases hrow with h | ⟨b, o, rfl, hbf, hbl, hcc⟩
      · simp at h
      have hc0 := hcc 0 (by simp)
      rw [Nat.add_zero] at hc0
      obtain ⟨A1, y, c1⟩ := r
      have hc0' : (w.alloc (.cells #[.int .i64 3, .int .u8 (of_.toNat : Int), .slice (some ⟨b, o, none⟩) ((A1, y, c1) :: rows).length c, .int .i64 kp] 38)).cell? ⟨b, o, none⟩ = some (.slice A1 y.length c1) := hc0
      have HC := Lib.hid (snap7_any F g m q y.length c1 rs A1 y rfl _ HL.out (HRS.out (A1, y, c1) (by simp)))
      have HF2 := Lib.hid (HF.out y rfl)
      obtain ⟨U, hU⟩ : ∃ U, snapS rs m y = U := ⟨_, rfl⟩
      rw [hU] at HC HF2
      obtain ⟨N, hN⟩ : ∃ N, ((A1, y, c1) :: rows).length = N := ⟨_, rfl⟩
      rw [hN] at HC HF2 hc0' hrl hrl0 hrp HB HL HR HRS ⊢
      clear hS h1 h2 hU fin HF hc0 hcc hN
      go_enter Try.func13, Try.ntmps13
      go_wp2_with fail
      refine HC.out.mono ?_
      intro e w2 hx
      have hx2 := HF2.out e w2 hx
      obtain ⟨rfl, _⟩ := hx
      obtain ⟨he2, hx3⟩ := hx2
      have HX3 := Lib.hid hx3
      have HE := Lib.hid he2
      clear hx3 HC he2 HF2
      go_wp2
      go_ret2
      have h9 := HE.out
      injection h9 with h9
      rw [h9]
      exact HX3.out
  rw [if_neg h3] at hS
  by_cases h4 : kp < 0
  · rw [if_pos h4] at hS
    have HS := Lib.hid hS
    have HC := Lib.hid (crash7_neg F g m q kp h4 rs _ HL.out)
    clear hS h4
    go_enter Try.func13, Try.ntmps13
    go_wp2_with fail
    refine HC.out.mono ?_
    rintro e w2 ⟨rfl, hb⟩
    have HB2 := Lib.hid (HB.out.trans (hb.mono HB.out.size))
    clear hb HC
    go_wp2
    go_ret2
    rw [← HS.out]
    exact doneG_stay HA.out HB2.out
  · rw [if_neg h4] at hS
    obtain ⟨p, rfl⟩ : ∃ p : Nat, kp = (p : Int) := ⟨kp.toNat, by omega⟩
    rw [Int.toNat_natCast] at hS
    have HS := Lib.hid hS
    have HC := Lib.hid (crash7_any F g m q p rs _ HL.out _ rfl)
    unfold crashS at HS
    obtain ⟨U, hU⟩ : ∃ U, (scanS (allB (rs.take m) ++ (allB (rs.drop m)).take p)).1 = U := ⟨_, rfl⟩
    rw [hU] at HC HS
    clear hS h4 hU
    go_enter Try.func13, Try.ntmps13
    go_wp2_with fail
    refine HC.out.mono ?_
    rintro e w2 ⟨g2, F2, rfl, hf, hl, hb⟩
    have HX2 : Hid (DoneG F (U, U.length, 0) q w (.returned (.tuple #[.pointer (some ⟨g2, 0, none⟩), .int .i64 0])) w2) := Lib.hid
      ⟨g2, F2, q, rfl, fun k hk => Or.inr (Nat.le_trans HB.out.size (hf k hk)), hl, by omega, (Touch.ofBelow HB.out).thenBelow hb⟩
    clear hf hl hb HC
    go_wp2
    go_ret2
    rw [← HS.out]
    exact HX2.out
def SomeI (w : World) (e : Ending) (w' : World) : Prop := (∃ n : Int, e = .returned (.int .i64 n)) ∧ w = w'
end Go.Proofs.Ytkagfjjocmjeoaa
