/- A log in memory: the block that begins with its disk, its records, their bytes, and how many of them last; what keeps it. -/
import Derived.Test.YtkagfjjocmjeoaaLaw6A
import Derived.Test.YtkagfjjocmjeoaaRecs
import Derived.Deep.RegionLaw
namespace Go.Proofs.Ytkagfjjocmjeoaa
open Go.RowKit Mem Be Word Frm
set_option maxRecDepth 10000
set_option maxHeartbeats 2000000
set_option linter.unusedVariables false
/-- What a log has behind its disk: its records, and how many of them last. -/
def lgK (v : Value) (m : Nat) : DkK := ⟨88, [v, .int .i64 (m : Int)], by decide⟩
section
variable {w : World} {g m : Nat} {t : TypeId} {a b c v : Value}
theorem lg_c3 (h : Blk w g t (dkC (lgK v m) [a, b, c])) : w.cell? ⟨g, 3, none⟩ = some v := (h.cell 3).trans (by simp [dkC, lgK])
theorem lg_c4 (h : Blk w g t (dkC (lgK v m) [a, b, c])) : w.cell? ⟨g, 4, none⟩ = some (.int .i64 (m : Int)) := (h.cell 4).trans (by simp [dkC, lgK])
theorem lg_e3 (h : Blk w g t (dkC (lgK v m) [a, b, c])) (u : Value) : Blk (w.setCell ⟨g, 3, none⟩ u) g t (dkC (lgK u m) [a, b, c]) := by simpa [dkC, lgK] using h.set_ 3 u
theorem lg_e4 (h : Blk w g t (dkC (lgK v m) [a, b, c])) (k : Nat) : Blk (w.setCell ⟨g, 4, none⟩ (.int .i64 (k : Int))) g t (dkC (lgK v k) [a, b, c]) := by simpa [dkC, lgK] using h.set_ 4 (.int .i64 (k : Int))
end
section
variable {w : World} {F : Nat → Prop} {g q m : Nat} {L T : List UInt8} {A A' : Option Addr} {c c' : Nat} {v : Value}
theorem dkb_e3 (h : DkB (lgK v m) w F g L T q A c A' c') (u : Value) : DkB (lgK u m) (w.setCell ⟨g, 3, none⟩ u) F g L T q A c A' c' := by
  have hk : ∀ k, k ≠ g → (w.setCell ⟨g, 3, none⟩ u).heap[k]? = w.heap[k]? := fun k hk => Below.heap_setCell w ⟨g, 3, none⟩ _ k hk
  exact ⟨lg_e3 h.blk u, ownKeep h.ol fun a ha => hk _ (ownNe h.ol h.blk (lgK v m).hne ha), ownKeep h.ot fun a ha => hk _ (ownNe h.ot h.blk (lgK v m).hne ha), h.fl, h.ft, h.ap, h.fg,
    fun k hf => Nat.lt_of_lt_of_le (h.lt k hf) ((Below.refl 0 w).setCell (p := ⟨g, 3, none⟩) (Nat.zero_le _) _).size, h.mx⟩
theorem dkb_e4 (h : DkB (lgK v m) w F g L T q A c A' c') (k : Nat) : DkB (lgK v k) (w.setCell ⟨g, 4, none⟩ (.int .i64 (k : Int))) F g L T q A c A' c' := by
  have hk : ∀ j, j ≠ g → (w.setCell ⟨g, 4, none⟩ (.int .i64 (k : Int))).heap[j]? = w.heap[j]? := fun j hj => Below.heap_setCell w ⟨g, 4, none⟩ _ j hj
  exact ⟨lg_e4 h.blk k, ownKeep h.ol fun a ha => hk _ (ownNe h.ol h.blk (lgK v m).hne ha), ownKeep h.ot fun a ha => hk _ (ownNe h.ot h.blk (lgK v m).hne ha), h.fl, h.ft, h.ap, h.fg,
    fun k hf => Nat.lt_of_lt_of_le (h.lt k hf) ((Below.refl 0 w).setCell (p := ⟨g, 4, none⟩) (Nat.zero_le _) _).size, h.mx⟩
theorem dka_e3 (h : DkAt (lgK v m) w F g L T q) (u : Value) : DkAt (lgK u m) (w.setCell ⟨g, 3, none⟩ u) F g L T q := by
  obtain ⟨A, c, A', c', h⟩ := h
  exact ⟨A, c, A', c', dkb_e3 h u⟩
theorem dka_e4 (h : DkAt (lgK v m) w F g L T q) (k : Nat) : DkAt (lgK v k) (w.setCell ⟨g, 4, none⟩ (.int .i64 (k : Int))) F g L T q := by
  obtain ⟨A, c, A', c', h⟩ := h
  exact ⟨A, c, A', c', dkb_e4 h k⟩
theorem dka_fg {K : DkK} (h : DkAt K w F g L T q) : F g := by
  obtain ⟨A, c, A', c', h⟩ := h
  exact h.fg
theorem dka_c3 (h : DkAt (lgK v m) w F g L T q) : w.cell? ⟨g, 3, none⟩ = some v := by
  obtain ⟨A, c, A', c', h⟩ := h
  exact lg_c3 h.blk
theorem dka_c4 (h : DkAt (lgK v m) w F g L T q) : w.cell? ⟨g, 4, none⟩ = some (.int .i64 (m : Int)) := by
  obtain ⟨A, c, A', c', h⟩ := h
  exact lg_c4 h.blk
theorem dka_z {K : DkK} (h : DkAt K w F g L T q) (i : Nat) : w.frozen? ⟨g, i, none⟩ = false := by
  obtain ⟨A, c, A', c', h⟩ := h
  exact h.blk.frozen i
end
/-- A log in block g: FD: what its disk stands in; FR: what its records stand in; F: both, and perhaps more. -/
structure LgB (w : World) (F FD FR : Nat → Prop) (g : Nat) (L T : List UInt8) (q m : Nat) (vs : List RecV) (R : Option Addr) (c : Nat) : Prop where
  dk : DkAt (lgK (.slice R vs.length c) m) w FD g L T q
  own : w.ownsRow 0 64 2 (.slice R vs.length c) vs.length (recsC vs)
  byt : RecsO w 0 vs
  inR : InF FR R
  inB : ∀ r ∈ vs, InF FR r.2.1
  dis : ∀ k, FD k → ¬ FR k
  sub : ∀ k, FD k ∨ FR k → F k
  lt : ∀ k, F k → k < w.heap.size
/-- A log, by what it holds: its records; m of them last; q: its disk's count. -/
def LgAt (w : World) (F : Nat → Prop) (g : Nat) (rs : List Rc) (m q : Nat) : Prop :=
  ∃ FD FR vs R c, vs.map rcOf = rs ∧ Short rs ∧ m ≤ rs.length ∧ LgB w F FD FR g (allB (rs.take m)) (allB (rs.drop m)) q m vs R c
section
variable {w w' : World} {F FD FR G : Nat → Prop} {g q m : Nat} {L T : List UInt8} {vs : List RecV} {R : Option Addr} {c : Nat} {rs : List Rc}
theorem LgB.keep (h : LgB w F FD FR g L T q m vs R c) (hs : w.heap.size ≤ w'.heap.size) (hk : ∀ k, F k → w'.heap[k]? = w.heap[k]?) : LgB w' F FD FR g L T q m vs R c :=
  ⟨h.dk.keep hs fun k hf => hk k (h.sub k (Or.inl hf)), ownKeep h.own fun a ha => hk _ (h.sub _ (Or.inr (h.inR a ha))), fun r hr => ownKeep (h.byt r hr) fun a ha => hk _ (h.sub _ (Or.inr (h.inB r hr a ha))),
    h.inR, h.inB, h.dis, h.sub, fun k hf => Nat.lt_of_lt_of_le (h.lt k hf) hs⟩
theorem LgAt.keep (h : LgAt w F g rs m q) (hs : w.heap.size ≤ w'.heap.size) (hk : ∀ k, F k → w'.heap[k]? = w.heap[k]?) : LgAt w' F g rs m q := by
  obtain ⟨FD, FR, vs, R, c, h1, h2, h3, h⟩ := h
  exact ⟨FD, FR, vs, R, c, h1, h2, h3, h.keep hs hk⟩
theorem LgAt.lt (h : LgAt w F g rs m q) : ∀ k, F k → k < w.heap.size := by
  obtain ⟨FD, FR, vs, R, c, h1, h2, h3, h⟩ := h
  exact h.lt
theorem LgAt.below (h : LgAt w F g rs m q) (hb : Below w.heap.size w w') : LgAt w' F g rs m q := h.keep hb.size fun k hk => hb.block k (h.lt k hk)
theorem LgAt.touch (h : LgAt w F g rs m q) (ht : Touch G w w') (hd : ∀ k, F k → ¬ G k) : LgAt w' F g rs m q := h.keep ht.size fun k hk => ht.block k (h.lt k hk) (hd k hk)
theorem LgAt.mx (h : LgAt w F g rs m q) : (allB rs).length ≤ 4194304 := by
  obtain ⟨FD, FR, vs, R, c, h1, h2, h3, h⟩ := h
  have := h.dk.mx
  rw [all_drop rs m, List.length_append]; exact this
theorem LgAt.many (h : LgAt w F g rs m q) : rs.length ≤ 419430 := by
  have h1 := h.mx
  have h2 := long_many rs
  unfold longN at h2
  omega
theorem LgAt.short (h : LgAt w F g rs m q) : Short rs := by
  obtain ⟨FD, FR, vs, R, c, h1, h2, h3, h⟩ := h
  exact h2
theorem LgAt.le (h : LgAt w F g rs m q) : m ≤ rs.length := by
  obtain ⟨FD, FR, vs, R, c, h1, h2, h3, h⟩ := h
  exact h3
/-- Whatever the disk does within its own blocks, the records stay. -/
theorem LgB.disk {F1 : Nat → Prop} {L1 T1 : List UInt8} {q1 : Nat} (h : LgB w F FD FR g L T q m vs R c) (hf : ∀ k, F1 k → FD k ∨ w.heap.size ≤ k) (hd : DkAt (lgK (.slice R vs.length c) m) w' F1 g L1 T1 q1) (ht : Touch FD w w') :
    LgB w' (fun k => (F k ∨ w.heap.size ≤ k) ∧ k < w'.heap.size) F1 FR g L1 T1 q1 m vs R c ∧ Touch F w w' := by
  have hk : ∀ k, FR k → w'.heap[k]? = w.heap[k]? := fun k hr => ht.block k (h.lt k (h.sub k (Or.inr hr))) fun hd => h.dis k hd hr
  refine ⟨⟨hd, ownKeep h.own fun a ha => hk _ (h.inR a ha), fun r hr => ownKeep (h.byt r hr) fun a ha => hk _ (h.inB r hr a ha), h.inR, h.inB, fun k h1 h2 => ?_, fun k hk => ?_, fun k hk => hk.2⟩, ht.mono fun k hk => h.sub k (Or.inl hk)⟩
  · rcases hf k h1 with h3 | h3
    · exact h.dis k h3 h2
    · have := h.lt k (h.sub k (Or.inr h2)); omega
  · rcases hk with hk | hk
    · refine ⟨?_, hd.lt k hk⟩
      rcases hf k hk with h3 | h3
      · exact Or.inl (h.sub k (Or.inl h3))
      · exact Or.inr h3
    · exact ⟨Or.inl (h.sub k (Or.inr hk)), Nat.lt_of_lt_of_le (h.lt k (h.sub k (Or.inr hk))) ht.size⟩
theorem LgB.setM (h : LgB w F FD FR g L T q m vs R c) (k : Nat) : LgB (w.setCell ⟨g, 4, none⟩ (.int .i64 (k : Int))) F FD FR g L T q k vs R c := by
  have hg := dka_fg h.dk
  have hk : ∀ j, FR j → (w.setCell ⟨g, 4, none⟩ (.int .i64 (k : Int))).heap[j]? = w.heap[j]? := fun j hj => Below.heap_setCell w ⟨g, 4, none⟩ _ j (fun e => h.dis g hg (by have e : j = g := e; rw [← e]; exact hj))
  exact ⟨dka_e4 h.dk k, ownKeep h.own fun a ha => hk _ (h.inR a ha), fun r hr => ownKeep (h.byt r hr) fun a ha => hk _ (h.inB r hr a ha), h.inR, h.inB, h.dis, h.sub,
    fun j hf => Nat.lt_of_lt_of_le (h.lt j hf) ((Below.refl 0 w).setCell (p := ⟨g, 4, none⟩) (Nat.zero_le _) _).size⟩
/-- Other records, in blocks that are new, or that the records stood in. -/
theorem LgB.setR {FR' : Nat → Prop} {vs' : List RecV} {R' : Option Addr} {c' : Nat} {w0 : World} (h : LgB w0 F FD FR g L T q m vs R c) (hD : DkAt (lgK (.slice R vs.length c) m) w FD g L T q) (ho : w.ownsRow 0 64 2 (.slice R' vs'.length c') vs'.length (recsC vs')) (hb : RecsO w 0 vs') (hR : InF FR' R') (hB : ∀ r ∈ vs', InF FR' r.2.1)
    (hF : ∀ k, FR' k → FR k ∨ w0.heap.size ≤ k) (hlt : ∀ k, FR' k → k < w.heap.size) (ht : Touch FR w0 w) :
    LgB (w.setCell ⟨g, 3, none⟩ (.slice R' vs'.length c')) (fun k => (F k ∨ w0.heap.size ≤ k) ∧ k < w.heap.size) FD FR' g L T q m vs' R' c' ∧ Touch F w0 (w.setCell ⟨g, 3, none⟩ (.slice R' vs'.length c')) := by
  have hg := dka_fg h.dk
  have hdis : ∀ k, FD k → ¬ FR' k := fun k h1 h2 => by
    rcases hF k h2 with h3 | h3
    · exact h.dis k h1 h3
    · have := h.lt k (h.sub k (Or.inl h1)); omega
  have hk : ∀ j, FR' j → (w.setCell ⟨g, 3, none⟩ (.slice R' vs'.length c')).heap[j]? = w.heap[j]? := fun j hj => Below.heap_setCell w ⟨g, 3, none⟩ _ j (fun e => hdis g hg (by have e : j = g := e; rw [← e]; exact hj))
  have hsz : (w.setCell ⟨g, 3, none⟩ (.slice R' vs'.length c')).heap.size = w.heap.size := by simp [World.setCell]
  refine ⟨⟨dka_e3 hD _, ownKeep ho fun a ha => hk _ (hR a ha), fun r hr => ownKeep (hb r hr) fun a ha => hk _ (hB r hr a ha), hR, hB, hdis, fun k hk => ?_, fun k hk => by rw [hsz]; exact hk.2⟩,
    (ht.mono fun k hk => h.sub k (Or.inr hk)).set_ (Or.inl (h.sub g (Or.inl hg))) _⟩
  rcases hk with hk | hk
  · exact ⟨Or.inl (h.sub k (Or.inl hk)), hD.lt k hk⟩
  · refine ⟨?_, hlt k hk⟩
    rcases hF k hk with h3 | h3
    · exact Or.inl (h.sub k (Or.inr h3))
    · exact Or.inr h3
end
/-- A call on a log: its answer, the log behind it, and that nothing but the log's own blocks was changed. -/
def LgTo (v : Value) (F : Nat → Prop) (g : Nat) (rs : List Rc) (m q : Nat) (w : World) (e : Ending) (w' : World) : Prop := e = .returned v ∧ ∃ F', (∀ k, F' k → F k ∨ w.heap.size ≤ k) ∧ LgAt w' F' g rs m q ∧ Touch F w w'
/-- A new log, in blocks of its own. -/
def NewLg (v : Value → Value) (rs : List Rc) (m q : Nat) (w : World) (e : Ending) (w' : World) : Prop :=
  ∃ g F, e = .returned (v (.pointer (some ⟨g, 0, none⟩))) ∧ (∀ k, F k → w.heap.size ≤ k) ∧ LgAt w' F g rs m q ∧ Below w.heap.size w w'
/-- An append of records within a region that draws. -/
theorem run_appR {w : World} (base : Nat) (ty : TypeId) (v : Value) (n : Nat) (xs : List RecV) (hown : w.ownsRow base 64 2 v n (recsC xs))
    (B : Nat) (A : Option Addr) (m c : Nat) (news : List RecV) (hl : news.length = m) (hr : Row w B A (recsC news)) (hsm : n + m ≤ 1073741824) (hbase : base ≤ w.heap.size) :
    ∃ v' w', (Builtin.append_ #[30, 30] ty #[v, .slice A m c]).run Try.prog w = .ok v' w' ∧ w'.ownsRow base 64 2 v' (n + m) (recsC (xs ++ news)) ∧ w.grownBy w' v.ownBlock ∧ (v'.ownBlock = v.ownBlock ∨ v'.ownBlock = some w.heap.size) := by
  obtain ⟨i, hi, hz, hz1, hz2⟩ := info_parts info_r
  rcases Nat.eq_zero_or_pos m with h0 | h0
  · subst h0
    obtain rfl : news = [] := List.eq_nil_of_length_eq_zero hl
    refine ⟨v, w, ?_, by simpa using hown, ⟨rfl, rfl, rfl, Nat.le_refl _, fun _ _ _ => rfl⟩, Or.inl rfl⟩
    rcases hown.2 with ⟨rfl, rfl⟩ | ⟨g, cap, cur, rfl, _, _, hnc, _⟩ <;> rcases A with _ | a
    · simp [Builtin.append_, run_underlying Try.underlying30, sizeOf, typeInfo, hi, Builtin.lenOf, Builtin.firstCells]
    · simp [Builtin.append_, run_underlying Try.underlying30, sizeOf, typeInfo, hi, Builtin.lenOf, Builtin.firstCells, loadCells, loadCellsFrom]
    · simp [Builtin.append_, run_underlying Try.underlying30, sizeOf, typeInfo, hi, Builtin.lenOf, Builtin.firstCells, hnc, storeCells]
    · simp [Builtin.append_, run_underlying Try.underlying30, sizeOf, typeInfo, hi, Builtin.lenOf, Builtin.firstCells, hnc, storeCells, loadCells, loadCellsFrom]
  · obtain ⟨b, o', rfl, _, hc⟩ := hr.open_ (by rw [recsC_len]; omega)
    have hcells : ∀ j u, (recsC news)[j]? = some u → w.cell? ((⟨b, o', none⟩ : Addr).add j) = some u := by
      intro j u hu
      obtain ⟨hj, e⟩ := List.getElem?_eq_some_iff.1 hu
      have := hc j hj
      rw [← e, ← this]
      unfold Addr.add
      split
      · subst_vars; rfl
      · rfl
    obtain ⟨v', w', hrun, h2, h3, _, h5⟩ := run_append_own_at (P := Try.prog) w base 30 ty 64 i _ 2 32 Try.underlying30 hi hz hz1 hz2 rfl (by decide) v n (recsC xs) hown ⟨b, o', none⟩ m c (recsC news) (by rw [recsC_len, hl]) hcells (recs_cells news) (by unfold maxLen; omega) (by omega) hbase
    exact ⟨v', w', hrun, by rw [recsC_app]; exact h2, h3, h5⟩
theorem step_appR {ops : Array Oper} {o : Oper} {a : Act} {K : Act → World → Prop} {Q : Exit → Act → World → Prop} {E : Prop} {w : World} (hgd : o.guard = none) (s x : Operand)
    (ho : o.op = .call { callee := .builtin .append, args := #[s, x], argTypes := #[30, 30] })
    (base : Nat) (v : Value) (n : Nat) (xs : List RecV) (hs : a.eval s = v) (hown : w.ownsRow base 64 2 v n (recsC xs))
    (B : Nat) (A : Option Addr) (m c : Nat) (news : List RecV) (hx : a.eval x = .slice A m c) (hl : news.length = m) (hr : Row w B A (recsC news)) (hsm : n + m ≤ 1073741824) (hbase : base ≤ w.heap.size)
    (h : ∀ v' w', w'.ownsRow base 64 2 v' (n + m) (recsC (xs ++ news)) → w.grownBy w' v.ownBlock → (v'.ownBlock = v.ownBlock ∨ v'.ownBlock = some w.heap.size) → K (a.put o.dst v') w') :
    if Region.wanted o (yielded ops a.tmps) = true then Oper.wp Try.prog o a w K Q else E := by
  have hw : Region.wanted o (yielded ops a.tmps) = true := by simp [Region.wanted, hgd]
  rw [if_pos hw]
  obtain ⟨v', w', hrun, h2, h3, h4⟩ := run_appR (w := w) base o.type v n xs hown B A m c news hl hr hsm hbase
  unfold Oper.wp execOp
  simp only [ho, resolve, invoke, builtin, Sem.run_bind, Sem.run_pure, Result.andThen_ok, List.map_toArray, List.map_cons, List.map_nil, hs, hx, hrun]
  exact h v' w' h2 h3 h4
end Go.Proofs.Ytkagfjjocmjeoaa
