/- BtH: What a node's times are when it is heard of once more; what the chapter's example fixes is true. -/
import Derived.Test.YtkfapcigfgfeaaaBtG
namespace Go.Proofs.Ytkfapcigfgfeaaa
open Go.RowKit Flo Mem
set_option maxRecDepth 100000
set_option maxHeartbeats 1000000
set_option linter.unusedVariables false
theorem next_word {xs : List Int} {t : Int} (hw : ∀ x ∈ xs, Word x) (ht : Word t) : ∀ x ∈ nextX xs t, Word x := by
  intro x hx
  unfold nextX at hx
  rcases List.mem_append.1 hx with h | h
  · split at h
    · exact hw x (List.mem_of_mem_drop h)
    · exact hw x h
  · rw [List.mem_singleton.1 h]; exact ht
theorem next_len {xs : List Int} {t : Int} (h : xs.length ≤ 16) : (nextX xs t).length ≤ 16 := by
  unfold nextX
  rw [List.length_append, List.length_singleton]
  split
  · simp; omega
  · omega
theorem next_ok {last now : Int} {xs : List Int} (ok : OkB last xs) (h : last ≤ now) (h2 : now ≤ 1099511627775) : OkB now (nextX xs (tmZ (now - last))) := by
  obtain ⟨h0, h1, h3, h4⟩ := ok
  refine ⟨by omega, h2, next_len h3, fun x hx => ?_⟩
  unfold nextX at hx
  rcases List.mem_append.1 hx with hm | hm
  · split at hm
    · exact h4 x (List.mem_of_mem_drop hm)
    · exact h4 x hm
  · rw [List.mem_singleton.1 hm]
    exact (tm_facts (d := now - last) (by omega) (by omega)).2.2.1
theorem row_up15 {w : World} {A : Option Addr} {xs : List Value} (h : Row w w.heap.size A xs) (o : Obj) : Row (w.alloc o) (w.alloc o).heap.size A xs := (h.alloc (Nat.le_refl _) o).more (by rw [World.size_alloc]; omega)
theorem own_le {w : World} {b n c : Nat} {ys : List Int} {A : Option Addr} (h : OwnF b ys (.slice A n c) w) : n ≤ c := (own_cap h).1
theorem eq_float {a b : Int} (ha : Word a) (hb : Word b) (h1 : kindZ a ≠ 3) (h2 : kindZ b ≠ 3) (h : a = b) : (FloatKind.f64.format.order (fnat a) (fnat b) == some .eq) = true := by
  subst h; exact self_num ha h1
/-- The example's times. -/
theorem ex_1 : nextX [] (tmZ (2 - 0)) = [4611686018427387904] := by decide +kernel
theorem ex_2 : nextX [4611686018427387904] (tmZ (6 - 2)) = [4611686018427387904, 4616189618054758400] := by decide +kernel
theorem ex_us : usZ [4611686018427387904, 4616189618054758400] = 4613937818241073152 := by decide +kernel
theorem ex_sc : scZ [4611686018427387904, 4616189618054758400] (12 - 6) = 4611686018427387904 := by decide +kernel
theorem ex_r0 : rgtE 0 [] 2 = 0 := by decide +kernel
theorem ex_r1 : rgtE 2 [4611686018427387904] 6 = 0 := by decide +kernel
theorem ex_r2 : rgtE 6 [4611686018427387904, 4616189618054758400] 12 = 0 := by decide +kernel
theorem ex_eq3 : (FloatKind.f64.format.order 4613937818241073152 4613937818241073152 == some .eq) = true := by decide +kernel
theorem ex_eq2 : (FloatKind.f64.format.order 4611686018427387904 4611686018427387904 == some .eq) = true := by decide +kernel
theorem known15_any (w : World) : Calls Try.prog 9 #[] w (Ret (.bool true) w) := by
  have HNEW : Hid (∀ W, Calls Try.prog 26 #[.int .i64 0] W (Ret (.tuple #[.agg #[.int .i64 0, .slice none 0 0], .int .i64 0]) W)) := Lib.hid fun W => by have := new_any15 0 W; rw [if_pos ⟨by decide, by decide⟩, if_pos ⟨by decide, by decide⟩] at this; exact this
  obtain ⟨y1, hy1⟩ : ∃ y1, y1 = nextX [] (tmZ (2 - 0)) := ⟨_, rfl⟩
  obtain ⟨y2, hy2⟩ : ∃ y2, y2 = nextX y1 (tmZ (6 - 2)) := ⟨_, rfl⟩
  have e1 : y1 = [4611686018427387904] := hy1.trans ex_1
  have e2 : y2 = [4611686018427387904, 4616189618054758400] := by rw [hy2, e1]; exact ex_2
  have W1 : Hid (∀ x ∈ y1, Word x) := Lib.hid (by rw [hy1]; exact next_word (fun x hx => by cases hx) (tm_facts (d := 2 - 0) (by decide) (by decide)).1)
  have W2 : Hid (∀ x ∈ y2, Word x) := Lib.hid (by rw [hy2]; exact next_word W1.out (tm_facts (d := 6 - 2) (by decide) (by decide)).1)
  have R1 : Hid (rgtE 2 y1 6 = 0) := Lib.hid (by rw [e1]; exact ex_r1)
  have R2 : Hid (rgtE 6 y2 12 = 0) := Lib.hid (by rw [e2]; exact ex_r2)
  have OK2 : Hid (OkB 6 y2) := Lib.hid (by rcases rgt_cases 6 y2 12 with h | h; exact h.2.1; have := R2.out; omega)
  have L1 : Hid (y1.length ≤ 200) := Lib.hid (by rw [e1]; decide)
  have L2 : Hid (y2.length ≤ 200) := Lib.hid (by rw [e2]; decide)
  have US : Hid (fnat (usZ y2) = 4613937818241073152) := Lib.hid (by rw [e2, ex_us]; rfl)
  have SC : Hid (fnat (scZ y2 (12 - 6)) = 4611686018427387904) := Lib.hid (by rw [e2, ex_sc]; rfl)
  have HH1 : Hid (∀ W, Calls Try.prog 22 #[.agg (bC 0 none 0 0), .int .i64 2] W (HrdP 2 y1 W)) := Lib.hid fun W => by rw [hy1]; exact heard_ok 0 [] 0 0 none rfl (by simp) (by simp) (fun x hx => by cases hx) 2 ex_r0 W (Row.nil _ _ _)
  have HH2 : Hid (∀ W A n c, n = y1.length → y1.length ≤ c → Row W W.heap.size A (y1.map fv) → Calls Try.prog 22 #[.agg (bC 2 A n c), .int .i64 6] W (HrdP 6 y2 W)) := Lib.hid fun W A n c hn hc h => by rw [hy2]; exact heard_ok 2 y1 n c A hn L1.out hc W1.out 6 R1.out W h
  have HUS : Hid (∀ W A n c, n = y2.length → Row W W.heap.size A (y2.map fv) → Calls Try.prog 11 #[.agg (bC 6 A n c)] W (Ret (.tuple #[.float .f64 4613937818241073152, .int .i64 0]) W)) := Lib.hid fun W A n c hn h => by have := usual_ok 6 y2 n c A hn L2.out W2.out OK2.out W h; rw [US.out] at this; exact this
  have HSC : Hid (∀ W A n c, n = y2.length → Row W W.heap.size A (y2.map fv) → Calls Try.prog 13 #[.agg (bC 6 A n c), .int .i64 12] W (Ret (.tuple #[.float .f64 4611686018427387904, .int .i64 0]) W)) := Lib.hid fun W A n c hn h => by have := score_ok 6 y2 n c A hn L2.out W2.out 12 R2.out W h; rw [SC.out] at this; exact this
  have q3 := ex_eq3
  have q2 := ex_eq2
  clear hy1 hy2 e1 e2
  unfold bC at HH1 HH2 HUS HSC
  have HB0 : Hid (Below w.heap.size w w) := Lib.hid (Below.refl _ _)
  go_enter Try.func9, Try.ntmps9
  go_wp2_with fail
  refine (HNEW.out w).mono ?_
  rintro e1 w1 ⟨rfl, hb1⟩
  have HB1 := Lib.hid (HB0.out.trans (hb1.mono HB0.out.size))
  clear hb1
  have HAKA := Lib.hid (HB1.out.alloc HB1.out.size (.cells #[.int .i64 0, .slice none 0 0] 27))
  have KA : Hid (Blk (w1.alloc (.cells #[.int .i64 0, .slice none 0 0] 27)) w1.heap.size 27 #[.int .i64 0, .slice none 0 0]) := Lib.hid (Blk.new _ _ _)
  go_wp2_with fail
  refine (HH1.out (w1.alloc (.cells #[.int .i64 0, .slice none 0 0] 27))).mono ?_
  rintro e2 w2 ⟨A1, c1, rfl, ho1, hb2⟩
  have HB2 := Lib.hid (HAKA.out.trans (hb2.mono HAKA.out.size))
  replace KA := Lib.hid (KA.out.below hb2 KA.out.lt)
  have RA := Lib.hid (ownRow ho1)
  have qKA_0 : w2.cell? ⟨w1.heap.size, 0, none⟩ = some (.int .i64 0) := KA.out.cell 0
  have qKA_1 : w2.cell? ⟨w1.heap.size, 1, none⟩ = some (.slice none 0 0) := KA.out.cell 1
  have qKA_l : w1.heap.size < w2.heap.size := KA.out.lt
  clear hb2
  have hc1 := own_le ho1
  clear ho1
  clear qKA_0 qKA_1 qKA_l
  have HAKB := Lib.hid (HB2.out.alloc HB2.out.size (.cells #[.int .i64 2, .slice A1 y1.length c1] 27))
  replace RA := Lib.hid (row_up15 RA.out (.cells #[.int .i64 2, .slice A1 y1.length c1] 27))
  have KB : Hid (Blk (w2.alloc (.cells #[.int .i64 2, .slice A1 y1.length c1] 27)) w2.heap.size 27 #[.int .i64 2, .slice A1 y1.length c1]) := Lib.hid (Blk.new _ _ _)
  go_wp2_with fail
  refine (HH2.out (w2.alloc (.cells #[.int .i64 2, .slice A1 y1.length c1] 27)) A1 y1.length c1 rfl hc1 RA.out).mono ?_
  rintro e3 w3 ⟨A2, c2, rfl, ho3, hb3⟩
  have HB3 := Lib.hid (HAKB.out.trans (hb3.mono HAKB.out.size))
  replace RA := Lib.hid ((RA.out.below hb3).more hb3.size)
  replace KB := Lib.hid (KB.out.below hb3 KB.out.lt)
  have RB := Lib.hid (ownRow ho3)
  have qKB_0 : w3.cell? ⟨w2.heap.size, 0, none⟩ = some (.int .i64 2) := KB.out.cell 0
  have qKB_1 : w3.cell? ⟨w2.heap.size, 1, none⟩ = some (.slice A1 y1.length c1) := KB.out.cell 1
  have qKB_l : w2.heap.size < w3.heap.size := KB.out.lt
  clear hb3
  clear ho3
  clear qKB_0 qKB_1 qKB_l
  have HAKC := Lib.hid (HB3.out.alloc HB3.out.size (.cells #[.int .i64 6, .slice A2 y2.length c2] 27))
  replace RB := Lib.hid (row_up15 RB.out (.cells #[.int .i64 6, .slice A2 y2.length c2] 27))
  have KC : Hid (Blk (w3.alloc (.cells #[.int .i64 6, .slice A2 y2.length c2] 27)) w3.heap.size 27 #[.int .i64 6, .slice A2 y2.length c2]) := Lib.hid (Blk.new _ _ _)
  go_wp2_with fail
  refine (HUS.out (w3.alloc (.cells #[.int .i64 6, .slice A2 y2.length c2] 27)) A2 y2.length c2 rfl RB.out).mono ?_
  rintro e4 w4 ⟨rfl, hb4⟩
  have HB4 := Lib.hid (HAKC.out.trans (hb4.mono HAKC.out.size))
  replace RB := Lib.hid ((RB.out.below hb4).more hb4.size)
  replace KC := Lib.hid (KC.out.below hb4 KC.out.lt)
  have qKC_0 : w4.cell? ⟨w3.heap.size, 0, none⟩ = some (.int .i64 6) := KC.out.cell 0
  have qKC_1 : w4.cell? ⟨w3.heap.size, 1, none⟩ = some (.slice A2 y2.length c2) := KC.out.cell 1
  have qKC_l : w3.heap.size < w4.heap.size := KC.out.lt
  clear hb4
  go_wp2_with fail
  refine (HSC.out w4 A2 y2.length c2 rfl RB.out).mono ?_
  rintro e5 w5 ⟨rfl, hb5⟩
  clear qKC_0 qKC_1 qKC_l
  have HB5 := Lib.hid (HB4.out.trans (hb5.mono HB4.out.size))
  replace RB := Lib.hid ((RB.out.below hb5).more hb5.size)
  replace KC := Lib.hid (KC.out.below hb5 KC.out.lt)
  have qKC_0 : w5.cell? ⟨w3.heap.size, 0, none⟩ = some (.int .i64 6) := KC.out.cell 0
  have qKC_1 : w5.cell? ⟨w3.heap.size, 1, none⟩ = some (.slice A2 y2.length c2) := KC.out.cell 1
  have qKC_l : w3.heap.size < w5.heap.size := KC.out.lt
  clear hb5
  go_wp2
  go_ret
  exact ⟨rfl, HB5.out⟩
end Go.Proofs.Ytkfapcigfgfeaaa
