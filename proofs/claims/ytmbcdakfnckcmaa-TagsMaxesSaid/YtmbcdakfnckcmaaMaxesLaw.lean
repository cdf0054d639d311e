/- The law TagsMaxes, walked. -/
import Derived.Test.YtmbcdakfnckcmaaMaxLaw
namespace Go.Proofs.Ytmbcdakfnckcmaa
open Go.RowKit Mem Be
set_option maxRecDepth 100000
set_option maxHeartbeats 2000000
set_option linter.unusedVariables false
theorem info_t : (Try.prog.info? 25).map (fun i => (i.zero, i.size, i.bytes)) = some (some (.agg #[.int .i64 0, .int .i64 0, .int .i64 0]), 3, 24) := by kernel_rfl
theorem tags_one (ts : List Tg) : ∀ u ∈ tgsC ts, u.oneCell' = true := by
  intro u hu
  obtain ⟨p, _, hp⟩ := List.mem_flatMap.1 hu
  simp only [tgC, List.mem_cons, List.not_mem_nil, or_false] at hp
  rcases hp with rfl | rfl | rfl <;> rfl
/-- An append of tags that are only read onto a row of the call's own. -/
theorem wpList_appT {ops : Array Oper} {rest : List Oper} {o : Oper} {a : Act} {Q : Exit → Act → World → Prop} {w : World} (hgd : o.guard = none) (s x : Operand)
    (ho : o.op = .call { callee := .builtin .append, args := #[s, x], argTypes := #[22, 22] })
    (base : Nat) (v : Value) (n : Nat) (xs : List Tg) (hs : a.eval s = v) (hown : w.ownsRow base 25 3 v n (tgsC xs))
    (B : Nat) (A : Option Addr) (m c : Nat) (news : List Tg) (hx : a.eval x = .slice A m c) (hl : news.length = m) (hm : 0 < m) (hr : Row w B A (tgsC news))
    (hsm : n + m ≤ 1000) (hbase : base ≤ w.heap.size)
    (h : ∀ v' w', w'.ownsRow base 25 3 v' (n + m) (tgsC (xs ++ news)) → w.grownBy w' v.ownBlock → wpList Try.prog ops Q rest (a.put o.dst v') w') :
    wpList Try.prog ops Q (o :: rest) a w := by
  obtain ⟨i, hi, hz, hz1, hz2⟩ := info_parts info_t
  obtain ⟨b, o', rfl, _, hc⟩ := hr.open_ (by rw [tgsC_len]; omega)
  have hcells : ∀ j u, (tgsC news)[j]? = some u → w.cell? ((⟨b, o', none⟩ : Addr).add j) = some u := by
    intro j u hu
    obtain ⟨hj, e⟩ := List.getElem?_eq_some_iff.1 hu
    have := hc j hj
    rw [← e, ← this]
    unfold Addr.add
    split
    · subst_vars; rfl
    · rfl
  refine wpList_plain hgd fun K hK => ?_
  obtain ⟨v', w', hrun, h2, h3, _, _⟩ := run_append_own_at (P := Try.prog) w base 22 o.type 25 i _ 3 24 Try.underlying22 hi hz hz1 hz2 rfl (by decide) v n (tgsC xs) hown ⟨b, o', none⟩ m c (tgsC news) (by rw [tgsC_len, hl]) hcells (tags_one news) (by unfold maxLen; omega) (by omega) hbase
  unfold Oper.wp execOp
  simp only [ho, resolve, invoke, builtin, Sem.run_bind, Sem.run_pure, Result.andThen_ok, List.map_toArray, List.map_cons, List.map_nil, hs, hx, hrun]
  exact hK _ _ (h v' w' (by rw [show tgsC (xs ++ news) = tgsC xs ++ tgsC news from List.flatMap_append]; exact h2) h3)
theorem ownT_row {w : World} {base : Nat} {A : Option Addr} {n c : Nat} {xs : List Tg} (h : w.ownsRow base 25 3 (.slice A n c) n (tgsC xs)) : Row w w.heap.size A (tgsC xs) := by
  have hl := h.1
  rcases h.2 with ⟨_, hn⟩ | ⟨g, cap, cur, hv, _, hh, _⟩
  · refine Or.inl (List.eq_nil_of_length_eq_zero ?_)
    rw [hl, hn]
  · have hA : A = some ⟨g, 0, none⟩ := by injection hv
    subst hA
    refine Or.inr ⟨g, 0, rfl, ?_, fun j hj => ?_⟩
    · rcases Nat.lt_or_ge g w.heap.size with hlt | hge
      · exact hlt
      · rw [Array.getElem?_eq_none hge] at hh; cases hh
    · have hcap : Value.slice (some ⟨g, 0, none⟩) n c = Value.slice (some ⟨g, 0, none⟩) n cap := hv
      rw [hcap] at h
      have := h.cellAt j (by omega)
      rw [Nat.zero_add, this, List.getElem?_eq_getElem hj]
theorem ownT_shape {w : World} {base : Nat} {v : Value} {n : Nat} {xs : List Tg} (h : w.ownsRow base 25 3 v n (tgsC xs)) (hn : 0 < n) : ∃ g cap, v = .slice (some ⟨g, 0, none⟩) n cap ∧ base ≤ g ∧ g < w.heap.size := by
  rcases h.2 with ⟨_, h0⟩ | ⟨g, cap, cur, rfl, hb, hh, _⟩
  · omega
  · refine ⟨g, cap, rfl, hb, ?_⟩
    rcases Nat.lt_or_ge g w.heap.size with hlt | hge
    · exact hlt
    · rw [Array.getElem?_eq_none hge] at hh; cases hh
/-- The greatest of a row that lies in the call's own new block. -/
theorem max_blk (g : Nat) (ts : List Tg) (n : Nat) (hn : n = ts.length) (M : Tg) (hM : MaxIs ts M) (hn2 : n ≤ 1000) (W : World) (cs : Array Value) (hc : cs.toList = tgsC ts) (hb : Blk W g 25 cs) :
    Calls Try.prog 6 #[.slice (some ⟨g, 0, none⟩) n n] W fun e w' => e = .returned (tagV M.1 M.2.1 M.2.2) ∧ Below W.heap.size W w' :=
  max_any ts M hM (some ⟨g, 0, none⟩) n n hn (by omega) W (Or.inr ⟨g, 0, rfl, hb.lt, fun j hj => by
    rw [Nat.zero_add, hb.cell, ← Array.getElem?_toList, hc, List.getElem?_eq_getElem hj]⟩)
theorem later_al {w0 W : World} {o : Obj} (h : Below w0.heap.size w0 W) : Below w0.heap.size w0 (W.alloc o) := h.alloc h.size _
theorem later_tr {w0 W w' : World} (h : Below w0.heap.size w0 W) (hb : Below W.heap.size W w') : Below w0.heap.size w0 w' := h.trans (hb.mono h.size)
theorem maxes_walk (xs ys : List Tg) (A B : Option Addr) (n c m d : Nat) (hn : n = xs.length) (hm : m = ys.length) (w : World) (h : Row w w.heap.size A (tgsC xs)) (h' : Row w w.heap.size B (tgsC ys)) :
    Calls Try.prog 4 #[.slice A n c, .slice B m d] w fun e w' => e = .returned (.bool true) ∧ Below w.heap.size w w' := by
  by_cases hbad : 40 < n ∨ 40 < m ∨ n = 0 ∨ m = 0
  · have hd1 : (40 : Int) < (n : Int) ∨ (n : Int) ≤ 40 := by omega
    clear h h' hn hm
    rcases Nat.lt_or_ge 40 n with h1 | h1
    · have g1 : (40 : Int) < (n : Int) := by omega
      clear hbad h1 hd1
      go_enter Try.func4, Try.ntmps4
      go_wp2_with (go_at_call 5; refine (known_any _).mono ?_; rintro e w' ⟨rfl, hb⟩; have HB := Lib.hid hb; clear hb)
      go_ret
      exact ⟨rfl, HB.out⟩
    have g1 : (n : Int) ≤ 40 := by omega
    rcases Nat.lt_or_ge 40 m with h2 | h2
    · have g2 : (40 : Int) < (m : Int) := by omega
      clear hbad h1 h2 hd1
      go_enter Try.func4, Try.ntmps4
      go_wp2_with (go_at_call 5; refine (known_any _).mono ?_; rintro e w' ⟨rfl, hb⟩; have HB := Lib.hid hb; clear hb)
      go_ret
      exact ⟨rfl, HB.out⟩
    have g2 : (m : Int) ≤ 40 := by omega
    by_cases h3 : n = 0
    · have g3 : ((n : Int) == 0) = true := by simp [h3]
      clear hbad h1 h2 hd1 h3
      go_enter Try.func4, Try.ntmps4
      go_wp2_with (go_at_call 5; refine (known_any _).mono ?_; rintro e w' ⟨rfl, hb⟩; have HB := Lib.hid hb; clear hb)
      go_ret
      exact ⟨rfl, HB.out⟩
    · have g3 : ((n : Int) == 0) = false := by simp; omega
      have g4 : ((m : Int) == 0) = true := by simp; omega
      clear hbad h1 h2 hd1 h3
      go_enter Try.func4, Try.ntmps4
      go_wp2_with (go_at_call 5; refine (known_any _).mono ?_; rintro e w' ⟨rfl, hb⟩; have HB := Lib.hid hb; clear hb)
      go_ret
      exact ⟨rfl, HB.out⟩
  have n0 : 0 < n := by omega
  have m0 : 0 < m := by omega
  have n1 : n ≤ 40 := by omega
  have m1 : m ≤ 40 := by omega
  have g1 : (n : Int) ≤ 40 := by omega
  have g2 : (m : Int) ≤ 40 := by omega
  have g3 : ((n : Int) == 0) = false := by simp; omega
  have g4 : ((m : Int) == 0) = false := by simp; omega
  obtain ⟨p, hp⟩ := max_ex xs (fun e => by rw [e] at hn; simp at hn; omega)
  obtain ⟨q, hq⟩ := max_ex ys (fun e => by rw [e] at hm; simp at hm; omega)
  obtain ⟨M, hM⟩ := max_ex (xs ++ ys) (fun e => by
    have := congrArg List.length e
    simp at this; rw [this.1] at hn; simp at hn; omega)
  have HP := Lib.hid hp
  have HQ := Lib.hid hq
  have HM := Lib.hid hM
  have HPQ := Lib.hid (max_app hM hp hq)
  have HS := Lib.hid (max_self M)
  obtain ⟨p0, p1, p2⟩ := p
  obtain ⟨q0, q1, q2⟩ := q
  obtain ⟨M0, M1, M2⟩ := M
  have heq := run_eqT M0 M1 M2 M0 M1 M2
  rw [eqT_refl] at heq
  have HX := Lib.hid h
  have HY := Lib.hid h'
  have HN := Lib.hid hn
  have HL := Lib.hid hm
  have HL2 : Hid (n + m = (xs ++ ys).length) := Lib.hid (by rw [List.length_append]; omega)
  clear h h' hn hm hp hq hM hbad
  go_enter Try.func4, Try.ntmps4
  go_wp2_with (at_builtin; refine wpList_appT rfl _ _ rfl w.heap.size _ 0 [] rfl ⟨rfl, Or.inl ⟨rfl, rfl⟩⟩ w.heap.size _ _ c xs rfl HN.out.symm n0 HX.out (by omega) (Nat.le_refl _) ?_)
  intro v1 w1 hown hgr
  have hown : w1.ownsRow w.heap.size 25 3 v1 n (tgsC xs) := by simpa using hown
  have HO1 := Lib.hid hown
  have HB1 : Hid (Below w.heap.size w w1) := Lib.hid ⟨hgr.os, hgr.tape, hgr.output, hgr.size, fun k hk => hgr.block k hk (by simp [Value.ownBlock])⟩
  obtain ⟨e1, cp1, rfl, he1, _⟩ := ownT_shape (xs := xs) HO1.out n0
  have HY1 := Lib.hid (HY.out.below HB1.out)
  clear hown hgr
  go_wp2_with (at_builtin; refine wpList_appT rfl _ _ rfl w.heap.size _ n xs rfl HO1.out w.heap.size _ _ d ys rfl HL.out.symm m0 HY1.out (by omega) HB1.out.size ?_)
  intro v2 w2 hown hgr
  have hown : w2.ownsRow w.heap.size 25 3 v2 (n + m) (tgsC (xs ++ ys)) := by rw [show tgsC (xs ++ ys) = tgsC xs ++ tgsC ys from List.flatMap_append]; exact hown
  have HO2 := Lib.hid hown
  have HB2 : Hid (Below w.heap.size w w2) := Lib.hid (HB1.out.grown hgr HB1.out.size fun g h => by simp [Value.ownBlock] at h; omega)
  obtain ⟨e2, cp2, rfl, he2, hl2⟩ := ownT_shape (n := n + m) (xs := xs ++ ys) HO2.out (by omega)
  have HR2 := Lib.hid (ownT_row (xs := xs ++ ys) HO2.out)
  clear hown hgr
  go_wp2_with fail
  have hmx : Calls Try.prog 6 #[.slice (some ⟨e2, 0, none⟩) (n + m) cp2] w2 fun e w' => e = .returned (tagV M0 M1 M2) ∧ Below w2.heap.size w2 w' := max_any (xs ++ ys) (M0, M1, M2) HM.out _ (n + m) cp2 HL2.out (by omega) _ HR2.out
  refine hmx.mono ?_
  rintro e w3 ⟨rfl, hb⟩
  have HB3 : Hid (Below w.heap.size w w3) := Lib.hid (HB2.out.trans (hb.mono HB2.out.size))
  clear hb
  go_wp2_with fail
  obtain ⟨W4, hW4⟩ : ∃ W, w3.alloc (.cells #[.int .i64 M0, .int .i64 M1, .int .i64 M2] 25) = W := ⟨_, rfl⟩
  have hk := Blk.new w3 25 #[.int .i64 M0, .int .i64 M1, .int .i64 M2]
  have hb4 := HB3.out.alloc HB3.out.size (.cells #[.int .i64 M0, .int .i64 M1, .int .i64 M2] 25)
  rw [hW4] at hk hb4 ⊢
  have HB4 := Lib.hid hb4
  have hlt := hk.lt
  have k0 : W4.cell? ⟨w3.heap.size, 0, none⟩ = some (.int .i64 M0) := hk.cell 0
  have k1 : W4.cell? ⟨w3.heap.size, 1, none⟩ = some (.int .i64 M1) := hk.cell 1
  have k2 : W4.cell? ⟨w3.heap.size, 2, none⟩ = some (.int .i64 M2) := hk.cell 2
  have HA : Hid (Below W4.heap.size W4 W4) := Lib.hid (Below.refl _ _)
  have HXW : Hid (∀ W, Below W4.heap.size W4 W → Calls Try.prog 6 #[.slice A n c] W fun e w' => e = .returned (tagV p0 p1 p2) ∧ Below W.heap.size W w') := Lib.hid fun W hb => max_any xs (p0, p1, p2) HP.out A n c HN.out (by omega) W (((HX.out.below HB4.out).below (hb.mono HB4.out.size)).more (Nat.le_trans HB4.out.size hb.size))
  have HYW : Hid (∀ W, Below W4.heap.size W4 W → Calls Try.prog 6 #[.slice B m d] W fun e w' => e = .returned (tagV q0 q1 q2) ∧ Below W.heap.size W w') := Lib.hid fun W hb => max_any ys (q0, q1, q2) HQ.out B m d HL.out (by omega) W (((HY.out.below HB4.out).below (hb.mono HB4.out.size)).more (Nat.le_trans HB4.out.size hb.size))
  have HPW : Hid (∀ (W : World) g, Blk W g 25 #[.int .i64 p0, .int .i64 p1, .int .i64 p2, .int .i64 q0, .int .i64 q1, .int .i64 q2] → Calls Try.prog 6 #[.slice (some ⟨g, 0, none⟩) 2 2] W fun e w' => e = .returned (tagV M0 M1 M2) ∧ Below W.heap.size W w') := Lib.hid fun W g hb => max_blk g [(p0, p1, p2), (q0, q1, q2)] 2 rfl (M0, M1, M2) HPQ.out (by omega) W _ rfl hb
  have HSW : Hid (∀ (W : World) g, Blk W g 25 #[.int .i64 M0, .int .i64 M1, .int .i64 M2] → Calls Try.prog 6 #[.slice (some ⟨g, 0, none⟩) 1 1] W fun e w' => e = .returned (tagV M0 M1 M2) ∧ Below W.heap.size W w') := Lib.hid fun W g hb => max_blk g [(M0, M1, M2)] 1 rfl (M0, M1, M2) HS.out (by omega) W _ rfl hb
  clear hW4 hk hb4
  go_region_held3 (fun w' => w'.cell? ⟨w3.heap.size, 0, none⟩ = some (.int .i64 M0) ∧ w'.cell? ⟨w3.heap.size, 1, none⟩ = some (.int .i64 M1) ∧ w'.cell? ⟨w3.heap.size, 2, none⟩ = some (.int .i64 M2))
    (first | go_keep | exact ⟨(HA.out.cell (p := ⟨w3.heap.size, 0, none⟩) hlt).trans k0, (HA.out.cell (p := ⟨w3.heap.size, 1, none⟩) hlt).trans k1, (HA.out.cell (p := ⟨w3.heap.size, 2, none⟩) hlt).trans k2⟩)
    (first
      | (go_at_call 6; (with_reducible refine (HXW.out _ (by first | with_reducible exact HA.out | with_reducible exact HA.out.drew | with_reducible exact later_al HA.out | with_reducible exact (later_al HA.out).drew)).mono ?_); rintro e w5 ⟨rfl, hb⟩; have HA := Lib.hid (later_tr (by first | with_reducible exact HA.out | with_reducible exact HA.out.drew | with_reducible exact later_al HA.out | with_reducible exact (later_al HA.out).drew) hb); clear hb)
      | (go_at_call 6; (with_reducible refine (HYW.out _ (by first | with_reducible exact HA.out | with_reducible exact HA.out.drew | with_reducible exact later_al HA.out | with_reducible exact (later_al HA.out).drew)).mono ?_); rintro e w6 ⟨rfl, hb⟩; have HA := Lib.hid (later_tr (by first | with_reducible exact HA.out | with_reducible exact HA.out.drew | with_reducible exact later_al HA.out | with_reducible exact (later_al HA.out).drew) hb); clear hb)
      | (go_at_call 6; (with_reducible refine (HPW.out _ _ (by first | exact Blk.new _ _ _ | exact (Blk.new _ _ _).drew)).mono ?_); rintro e w7 ⟨rfl, hb⟩; have HA := Lib.hid (later_tr (by first | with_reducible exact HA.out | with_reducible exact HA.out.drew | with_reducible exact later_al HA.out | with_reducible exact (later_al HA.out).drew) hb); clear hb)
      | (go_at_call 6; (with_reducible refine (HSW.out _ _ (by first | exact Blk.new _ _ _ | exact (Blk.new _ _ _).drew)).mono ?_); rintro e w8 ⟨rfl, hb⟩; have HA := Lib.hid (later_tr (by first | with_reducible exact HA.out | with_reducible exact HA.out.drew | with_reducible exact later_al HA.out | with_reducible exact (later_al HA.out).drew) hb); clear hb)
      | (go_at_call 5; (with_reducible refine (known_any _).mono ?_); rintro e w9 ⟨rfl, hb⟩; have HA := Lib.hid (later_tr (by first | with_reducible exact HA.out | with_reducible exact HA.out.drew | with_reducible exact later_al HA.out | with_reducible exact (later_al HA.out).drew) hb); clear hb))
  go_wp2
  go_ret
  exact ⟨rfl, HB4.out.trans (HA.out.mono HB4.out.size)⟩
end Go.Proofs.Ytmbcdakfnckcmaa
