/- Log: A log in memory: the block that begins with its disk, its records, their bytes, and how many of them last; what keeps it.
   LogA: Package wal: logOn, New, Open, Lasting, Pending, Disk, Crash.
   LogB: Package wal: framesOf.
   LogC: Package wal: add, Append, settle, Sync, replace, Snapshot.
   LogD: Package wal: Append, settle, Sync, replace, Snapshot.
   LogE: Package wal: slices.Clone of records, copyOf, Records. -/
import Derived.Test.YtkdpfjenjcpcfaaGreatDoorDk
import Derived.Test.YtkdpfjenjcpcfaaGreatDoorRecs
import Derived.Deep.RegionLaw
import Derived.Test.YtkdpfjenjcpcfaaGreatDoorScan5
import Derived.Test.YtkdpfjenjcpcfaaGreatDoorOne5
import Derived.Deep.LoopGhost
import Derived.Test.YtkdpfjenjcpcfaaGreatDoorRefScan5
namespace Go.Proofs.YtkdpfjenjcpcfaaGreatDoor
open Go.RowKit Mem Be Word Frm
set_option maxRecDepth 10000
set_option maxHeartbeats 2000000
set_option linter.unusedVariables false
/-- What a log has behind its disk: its records, and how many of them last. -/
structure LgK where
  ty : TypeId
  X : List Value
  hne : ty ≠ 5
/-- A log alone. -/
def lg0 : LgK := ⟨104, [], by decide⟩
def lgK (J : LgK) (v : Value) (m : Nat) : DkK := ⟨J.ty, v :: .int .i64 (m : Int) :: J.X, J.hne⟩
variable {J : LgK}
section
variable {w : World} {g m : Nat} {t : TypeId} {a b c v : Value}
theorem lg_c3 (h : Blk w g t (dkC (lgK J v m) [a, b, c])) : w.cell? ⟨g, 3, none⟩ = some v := (h.cell 3).trans (by simp [dkC, lgK])
theorem lg_c4 (h : Blk w g t (dkC (lgK J v m) [a, b, c])) : w.cell? ⟨g, 4, none⟩ = some (.int .i64 (m : Int)) := (h.cell 4).trans (by simp [dkC, lgK])
theorem lg_e3 (h : Blk w g t (dkC (lgK J v m) [a, b, c])) (u : Value) : Blk (w.setCell ⟨g, 3, none⟩ u) g t (dkC (lgK J u m) [a, b, c]) := by simpa [dkC, lgK] using h.set_ 3 u
theorem lg_e4 (h : Blk w g t (dkC (lgK J v m) [a, b, c])) (k : Nat) : Blk (w.setCell ⟨g, 4, none⟩ (.int .i64 (k : Int))) g t (dkC (lgK J v k) [a, b, c]) := by simpa [dkC, lgK] using h.set_ 4 (.int .i64 (k : Int))
end
section
variable {w : World} {F : Nat → Prop} {g q m : Nat} {L T : List UInt8} {A A' : Option Addr} {c c' : Nat} {v : Value}
theorem dkb_e3 (h : DkB (lgK J v m) w F g L T q A c A' c') (u : Value) : DkB (lgK J u m) (w.setCell ⟨g, 3, none⟩ u) F g L T q A c A' c' := by
  have hk : ∀ k, k ≠ g → (w.setCell ⟨g, 3, none⟩ u).heap[k]? = w.heap[k]? := fun k hk => Below.heap_setCell w ⟨g, 3, none⟩ _ k hk
  exact ⟨lg_e3 h.blk u, ownKeep h.ol fun a ha => hk _ (ownNe h.ol h.blk (lgK J v m).hne ha), ownKeep h.ot fun a ha => hk _ (ownNe h.ot h.blk (lgK J v m).hne ha), h.fl, h.ft, h.ap, h.fg,
    fun k hf => Nat.lt_of_lt_of_le (h.lt k hf) ((Below.refl 0 w).setCell (p := ⟨g, 3, none⟩) (Nat.zero_le _) _).size, h.mx⟩
theorem dkb_e4 (h : DkB (lgK J v m) w F g L T q A c A' c') (k : Nat) : DkB (lgK J v k) (w.setCell ⟨g, 4, none⟩ (.int .i64 (k : Int))) F g L T q A c A' c' := by
  have hk : ∀ j, j ≠ g → (w.setCell ⟨g, 4, none⟩ (.int .i64 (k : Int))).heap[j]? = w.heap[j]? := fun j hj => Below.heap_setCell w ⟨g, 4, none⟩ _ j hj
  exact ⟨lg_e4 h.blk k, ownKeep h.ol fun a ha => hk _ (ownNe h.ol h.blk (lgK J v m).hne ha), ownKeep h.ot fun a ha => hk _ (ownNe h.ot h.blk (lgK J v m).hne ha), h.fl, h.ft, h.ap, h.fg,
    fun k hf => Nat.lt_of_lt_of_le (h.lt k hf) ((Below.refl 0 w).setCell (p := ⟨g, 4, none⟩) (Nat.zero_le _) _).size, h.mx⟩
theorem dka_e3 (h : DkAt (lgK J v m) w F g L T q) (u : Value) : DkAt (lgK J u m) (w.setCell ⟨g, 3, none⟩ u) F g L T q := by
  obtain ⟨A, c, A', c', h⟩ := h
  exact ⟨A, c, A', c', dkb_e3 h u⟩
theorem dka_e4 (h : DkAt (lgK J v m) w F g L T q) (k : Nat) : DkAt (lgK J v k) (w.setCell ⟨g, 4, none⟩ (.int .i64 (k : Int))) F g L T q := by
  obtain ⟨A, c, A', c', h⟩ := h
  exact ⟨A, c, A', c', dkb_e4 h k⟩
theorem dka_fg {K : DkK} (h : DkAt K w F g L T q) : F g := by
  obtain ⟨A, c, A', c', h⟩ := h
  exact h.fg
theorem dka_c3 (h : DkAt (lgK J v m) w F g L T q) : w.cell? ⟨g, 3, none⟩ = some v := by
  obtain ⟨A, c, A', c', h⟩ := h
  exact lg_c3 h.blk
theorem dka_c4 (h : DkAt (lgK J v m) w F g L T q) : w.cell? ⟨g, 4, none⟩ = some (.int .i64 (m : Int)) := by
  obtain ⟨A, c, A', c', h⟩ := h
  exact lg_c4 h.blk
theorem dka_z {K : DkK} (h : DkAt K w F g L T q) (i : Nat) : w.frozen? ⟨g, i, none⟩ = false := by
  obtain ⟨A, c, A', c', h⟩ := h
  exact h.blk.frozen i
end
/-- A log in block g: FD: what its disk stands in; FR: what its records stand in; F: both, and perhaps more. -/
structure LgB (J : LgK) (w : World) (F FD FR : Nat → Prop) (g : Nat) (L T : List UInt8) (q m : Nat) (vs : List RecV) (R : Option Addr) (c : Nat) : Prop where
  dk : DkAt (lgK J (.slice R vs.length c) m) w FD g L T q
  own : w.ownsRow 0 168 2 (.slice R vs.length c) vs.length (recsC vs)
  byt : RecsO w 0 vs
  inR : InF FR R
  inB : ∀ r ∈ vs, InF FR r.2.1
  dis : ∀ k, FD k → ¬ FR k
  sub : ∀ k, FD k ∨ FR k → F k
  lt : ∀ k, F k → k < w.heap.size
/-- A log, by what it holds: its records; m of them last; q: its disk's count. -/
def LgAt (J : LgK) (w : World) (F : Nat → Prop) (g : Nat) (rs : List Rc) (m q : Nat) : Prop :=
  ∃ FD FR vs R c, vs.map rcOf = rs ∧ Short rs ∧ m ≤ rs.length ∧ LgB J w F FD FR g (allB (rs.take m)) (allB (rs.drop m)) q m vs R c
section
variable {w w' : World} {F FD FR G : Nat → Prop} {g q m : Nat} {L T : List UInt8} {vs : List RecV} {R : Option Addr} {c : Nat} {rs : List Rc}
theorem LgB.keep (h : LgB J w F FD FR g L T q m vs R c) (hs : w.heap.size ≤ w'.heap.size) (hk : ∀ k, F k → w'.heap[k]? = w.heap[k]?) : LgB J w' F FD FR g L T q m vs R c :=
  ⟨h.dk.keep hs fun k hf => hk k (h.sub k (Or.inl hf)), ownKeep h.own fun a ha => hk _ (h.sub _ (Or.inr (h.inR a ha))), fun r hr => ownKeep (h.byt r hr) fun a ha => hk _ (h.sub _ (Or.inr (h.inB r hr a ha))),
    h.inR, h.inB, h.dis, h.sub, fun k hf => Nat.lt_of_lt_of_le (h.lt k hf) hs⟩
theorem LgAt.keep (h : LgAt J w F g rs m q) (hs : w.heap.size ≤ w'.heap.size) (hk : ∀ k, F k → w'.heap[k]? = w.heap[k]?) : LgAt J w' F g rs m q := by
  obtain ⟨FD, FR, vs, R, c, h1, h2, h3, h⟩ := h
  exact ⟨FD, FR, vs, R, c, h1, h2, h3, h.keep hs hk⟩
theorem LgAt.lt (h : LgAt J w F g rs m q) : ∀ k, F k → k < w.heap.size := by
  obtain ⟨FD, FR, vs, R, c, h1, h2, h3, h⟩ := h
  exact h.lt
theorem LgAt.below (h : LgAt J w F g rs m q) (hb : Below w.heap.size w w') : LgAt J w' F g rs m q := h.keep hb.size fun k hk => hb.block k (h.lt k hk)
theorem LgAt.touch (h : LgAt J w F g rs m q) (ht : Touch G w w') (hd : ∀ k, F k → ¬ G k) : LgAt J w' F g rs m q := h.keep ht.size fun k hk => ht.block k (h.lt k hk) (hd k hk)
theorem LgAt.mx (h : LgAt J w F g rs m q) : (allB rs).length ≤ 4194304 := by
  obtain ⟨FD, FR, vs, R, c, h1, h2, h3, h⟩ := h
  have := h.dk.mx
  rw [all_drop rs m, List.length_append]; exact this
theorem LgAt.many (h : LgAt J w F g rs m q) : rs.length ≤ 419430 := by
  have h1 := h.mx
  have h2 := long_many rs
  unfold longN at h2
  omega
theorem LgAt.short (h : LgAt J w F g rs m q) : Short rs := by
  obtain ⟨FD, FR, vs, R, c, h1, h2, h3, h⟩ := h
  exact h2
theorem LgAt.le (h : LgAt J w F g rs m q) : m ≤ rs.length := by
  obtain ⟨FD, FR, vs, R, c, h1, h2, h3, h⟩ := h
  exact h3
/-- Whatever the disk does within its own blocks, the records stay. -/
theorem LgB.disk {F1 : Nat → Prop} {L1 T1 : List UInt8} {q1 : Nat} (h : LgB J w F FD FR g L T q m vs R c) (hf : ∀ k, F1 k → FD k ∨ w.heap.size ≤ k) (hd : DkAt (lgK J (.slice R vs.length c) m) w' F1 g L1 T1 q1) (ht : Touch FD w w') :
    LgB J w' (fun k => (F k ∨ w.heap.size ≤ k) ∧ k < w'.heap.size) F1 FR g L1 T1 q1 m vs R c ∧ Touch F w w' := by
  have hk : ∀ k, FR k → w'.heap[k]? = w.heap[k]? := fun k hr => ht.block k (h.lt k (h.sub k (Or.inr hr))) fun hd => h.dis k hd hr
  refine ⟨⟨hd, ownKeep h.own fun a ha => hk _ (h.inR a ha), fun r hr => ownKeep (h.byt r hr) fun a ha => hk _ (h.inB r hr a ha), h.inR, h.inB, fun k h1 h2 => ?_, fun k hk => ?_, fun k hk => hk.2⟩, ht.mono fun k hk => h.sub k (Or.inl hk)⟩
  · rcases hf k h1 with h3 | h3
    · exact h.dis k h3 h2
    · have := h.lt k (h.sub k (Or.inr h2)); omega
  · rcases hk with hk | hk
    · refine ⟨?_, hd.lt k hk⟩
      rcases hf k hk with h3 | h3
      · exact Or.inl (h.sub k (Or.inl h3))
      · exact Or.inr h3
    · exact ⟨Or.inl (h.sub k (Or.inr hk)), Nat.lt_of_lt_of_le (h.lt k (h.sub k (Or.inr hk))) ht.size⟩
theorem LgB.setM (h : LgB J w F FD FR g L T q m vs R c) (k : Nat) : LgB J (w.setCell ⟨g, 4, none⟩ (.int .i64 (k : Int))) F FD FR g L T q k vs R c := by
  have hg := dka_fg h.dk
  have hk : ∀ j, FR j → (w.setCell ⟨g, 4, none⟩ (.int .i64 (k : Int))).heap[j]? = w.heap[j]? := fun j hj => Below.heap_setCell w ⟨g, 4, none⟩ _ j (fun e => h.dis g hg (by have e : j = g := e; rw [← e]; exact hj))
  exact ⟨dka_e4 h.dk k, ownKeep h.own fun a ha => hk _ (h.inR a ha), fun r hr => ownKeep (h.byt r hr) fun a ha => hk _ (h.inB r hr a ha), h.inR, h.inB, h.dis, h.sub,
    fun j hf => Nat.lt_of_lt_of_le (h.lt j hf) ((Below.refl 0 w).setCell (p := ⟨g, 4, none⟩) (Nat.zero_le _) _).size⟩
/-- Other records, in blocks that are new, or that the records stood in. -/
theorem LgB.setR {FR' : Nat → Prop} {vs' : List RecV} {R' : Option Addr} {c' : Nat} {w0 : World} (h : LgB J w0 F FD FR g L T q m vs R c) (hD : DkAt (lgK J (.slice R vs.length c) m) w FD g L T q) (ho : w.ownsRow 0 168 2 (.slice R' vs'.length c') vs'.length (recsC vs')) (hb : RecsO w 0 vs') (hR : InF FR' R') (hB : ∀ r ∈ vs', InF FR' r.2.1)
    (hF : ∀ k, FR' k → FR k ∨ w0.heap.size ≤ k) (hlt : ∀ k, FR' k → k < w.heap.size) (ht : Touch FR w0 w) :
    LgB J (w.setCell ⟨g, 3, none⟩ (.slice R' vs'.length c')) (fun k => (F k ∨ w0.heap.size ≤ k) ∧ k < w.heap.size) FD FR' g L T q m vs' R' c' ∧ Touch F w0 (w.setCell ⟨g, 3, none⟩ (.slice R' vs'.length c')) := by
  have hg := dka_fg h.dk
  have hdis : ∀ k, FD k → ¬ FR' k := fun k h1 h2 => by
    rcases hF k h2 with h3 | h3
    · exact h.dis k h1 h3
    · have := h.lt k (h.sub k (Or.inl h1)); omega
  have hk : ∀ j, FR' j → (w.setCell ⟨g, 3, none⟩ (.slice R' vs'.length c')).heap[j]? = w.heap[j]? := fun j hj => Below.heap_setCell w ⟨g, 3, none⟩ _ j (fun e => hdis g hg (by have e : j = g := e; rw [← e]; exact hj))
  have hsz : (w.setCell ⟨g, 3, none⟩ (.slice R' vs'.length c')).heap.size = w.heap.size := by simp [World.setCell]
  refine ⟨⟨dka_e3 hD _, ownKeep ho fun a ha => hk _ (hR a ha), fun r hr => ownKeep (hb r hr) fun a ha => hk _ (hB r hr a ha), hR, hB, hdis, fun k hk => ?_, fun k hk => by rw [hsz]; exact hk.2⟩,
    (ht.mono fun k hk => h.sub k (Or.inr hk)).set_ (Or.inl (h.sub g (Or.inl hg))) _⟩
  rcases hk with hk | hk
  · exact ⟨Or.inl (h.sub k (Or.inl hk)), hD.lt k hk⟩
  · refine ⟨?_, hlt k hk⟩
    rcases hF k hk with h3 | h3
    · exact Or.inl (h.sub k (Or.inr h3))
    · exact Or.inr h3
end
/-- A call on a log: its answer, the log behind it, and that nothing but the log's own blocks was changed. -/
def LgTo (J : LgK) (v : Value) (F : Nat → Prop) (g : Nat) (rs : List Rc) (m q : Nat) (w : World) (e : Ending) (w' : World) : Prop := e = .returned v ∧ ∃ F', (∀ k, F' k → F k ∨ w.heap.size ≤ k) ∧ LgAt J w' F' g rs m q ∧ Touch F w w'
/-- A new log, in blocks of its own. -/
def NewLg (v : Value → Value) (rs : List Rc) (m q : Nat) (w : World) (e : Ending) (w' : World) : Prop :=
  ∃ g F, e = .returned (v (.pointer (some ⟨g, 0, none⟩))) ∧ (∀ k, F k → w.heap.size ≤ k) ∧ LgAt lg0 w' F g rs m q ∧ Below w.heap.size w w'
/-- An append of records within a region that draws. -/
theorem run_appR {w : World} (base : Nat) (ty : TypeId) (v : Value) (n : Nat) (xs : List RecV) (hown : w.ownsRow base 168 2 v n (recsC xs))
    (B : Nat) (A : Option Addr) (m c : Nat) (news : List RecV) (hl : news.length = m) (hr : Row w B A (recsC news)) (hsm : n + m ≤ 1073741824) (hbase : base ≤ w.heap.size) :
    ∃ v' w', (Builtin.append_ #[30, 30] ty #[v, .slice A m c]).run Tryz.prog w = .ok v' w' ∧ w'.ownsRow base 168 2 v' (n + m) (recsC (xs ++ news)) ∧ w.grownBy w' v.ownBlock ∧ (v'.ownBlock = v.ownBlock ∨ v'.ownBlock = some w.heap.size) := by
  obtain ⟨i, hi, hz, hz1, hz2⟩ := info_parts info_r
  rcases Nat.eq_zero_or_pos m with h0 | h0
  · subst h0
    obtain rfl : news = [] := List.eq_nil_of_length_eq_zero hl
    refine ⟨v, w, ?_, by simpa using hown, ⟨rfl, rfl, rfl, Nat.le_refl _, fun _ _ _ => rfl⟩, Or.inl rfl⟩
    rcases hown.2 with ⟨rfl, rfl⟩ | ⟨g, cap, cur, rfl, _, _, hnc, _⟩ <;> rcases A with _ | a
    · simp [Builtin.append_, run_underlying Tryz.underlying30, sizeOf, typeInfo, hi, Builtin.lenOf, Builtin.firstCells]
    · simp [Builtin.append_, run_underlying Tryz.underlying30, sizeOf, typeInfo, hi, Builtin.lenOf, Builtin.firstCells, loadCells, loadCellsFrom]
    · simp [Builtin.append_, run_underlying Tryz.underlying30, sizeOf, typeInfo, hi, Builtin.lenOf, Builtin.firstCells, hnc, storeCells]
    · simp [Builtin.append_, run_underlying Tryz.underlying30, sizeOf, typeInfo, hi, Builtin.lenOf, Builtin.firstCells, hnc, storeCells, loadCells, loadCellsFrom]
  · obtain ⟨b, o', rfl, _, hc⟩ := hr.open_ (by rw [recsC_len]; omega)
    have hcells : ∀ j u, (recsC news)[j]? = some u → w.cell? ((⟨b, o', none⟩ : Addr).add j) = some u := by
      intro j u hu
      obtain ⟨hj, e⟩ := List.getElem?_eq_some_iff.1 hu
      have := hc j hj
      rw [← e, ← this]
      unfold Addr.add
      split
      · subst_vars; rfl
      · rfl
    obtain ⟨v', w', hrun, h2, h3, _, h5⟩ := run_append_own_at (P := Tryz.prog) w base 30 ty 168 i _ 2 32 Tryz.underlying30 hi hz hz1 hz2 rfl (by decide) v n (recsC xs) hown ⟨b, o', none⟩ m c (recsC news) (by rw [recsC_len, hl]) hcells (recs_cells news) (by unfold maxLen; omega) (by omega) hbase
    exact ⟨v', w', hrun, by rw [recsC_app]; exact h2, h3, h5⟩
theorem step_appR {ops : Array Oper} {o : Oper} {a : Act} {K : Act → World → Prop} {Q : Exit → Act → World → Prop} {E : Prop} {w : World} (hgd : o.guard = none) (s x : Operand)
    (ho : o.op = .call { callee := .builtin .append, args := #[s, x], argTypes := #[30, 30] })
    (base : Nat) (v : Value) (n : Nat) (xs : List RecV) (hs : a.eval s = v) (hown : w.ownsRow base 168 2 v n (recsC xs))
    (B : Nat) (A : Option Addr) (m c : Nat) (news : List RecV) (hx : a.eval x = .slice A m c) (hl : news.length = m) (hr : Row w B A (recsC news)) (hsm : n + m ≤ 1073741824) (hbase : base ≤ w.heap.size)
    (h : ∀ v' w', w'.ownsRow base 168 2 v' (n + m) (recsC (xs ++ news)) → w.grownBy w' v.ownBlock → (v'.ownBlock = v.ownBlock ∨ v'.ownBlock = some w.heap.size) → K (a.put o.dst v') w') :
    if Region.wanted o (yielded ops a.tmps) = true then Oper.wp Tryz.prog o a w K Q else E := by
  have hw : Region.wanted o (yielded ops a.tmps) = true := by simp [Region.wanted, hgd]
  rw [if_pos hw]
  obtain ⟨v', w', hrun, h2, h3, h4⟩ := run_appR (w := w) base o.type v n xs hown B A m c news hl hr hsm hbase
  unfold Oper.wp execOp
  simp only [ho, resolve, invoke, builtin, Sem.run_bind, Sem.run_pure, Result.andThen_ok, List.map_toArray, List.map_cons, List.map_nil, hs, hx, hrun]
  exact h v' w' h2 h3 h4
end Go.Proofs.YtkdpfjenjcpcfaaGreatDoor
namespace Go.Proofs.YtkdpfjenjcpcfaaGreatDoor
open Go.RowKit Mem Be Word Frm
set_option maxRecDepth 10000
set_option maxHeartbeats 2000000
set_option linter.unusedVariables false
variable {J : LgK}
theorem lg_new {w : World} {F FR : Nat → Prop} {y q n c : Nat} {L : List UInt8} {vs : List RecV} {R A A' : Option Addr} {k k' : Nat} (hn : n = vs.length) (hd : DkB dk0 w F y L [] q A k A' k') (ho : w.ownsRow 0 168 2 (.slice R n c) n (recsC vs)) (hb : RecsO w 0 vs)
    (hR : InF FR R) (hB : ∀ r ∈ vs, InF FR r.2.1) (hdis : ∀ k, F k → ¬ FR k) (hlt : ∀ k, FR k → k < w.heap.size) (hs : Short (vs.map rcOf)) (hL : L = allB (vs.map rcOf)) :
    LgAt lg0 (w.alloc (.cells #[.slice A L.length k, .slice A' 0 k', .int .i64 (q : Int), .slice R n c, .int .i64 (n : Int)] 104)) (fun k => F k ∨ FR k ∨ k = w.heap.size) w.heap.size (vs.map rcOf) vs.length q := by
  subst hn
  have hal : Below w.heap.size w (w.alloc (.cells #[.slice A L.length k, .slice A' 0 k', .int .i64 (q : Int), .slice R vs.length c, .int .i64 (vs.length : Int)] 104)) := (Below.refl _ _).alloc (Nat.le_refl _) _
  have hsz : (w.alloc (.cells #[.slice A L.length k, .slice A' 0 k', .int .i64 (q : Int), .slice R vs.length c, .int .i64 (vs.length : Int)] 104)).heap.size = w.heap.size + 1 := by simp
  refine ⟨fun k => F k ∨ k = w.heap.size, FR, vs, R, c, rfl, hs, by simp, ?_, ownLater ho hal, recsO_below hb hal, hR, hB, fun j h1 h2 => ?_, fun j hj => ?_, fun j hj => ?_⟩
  · rw [List.take_of_length_le (by simp), List.drop_eq_nil_of_le (by simp), ← hL]
    refine ⟨A, k, A', k', ⟨Blk.new _ _ _, ownLater hd.ol hal, ownLater hd.ot hal, fun a ha => Or.inl (hd.fl a ha), fun a ha => Or.inl (hd.ft a ha), hd.ap, Or.inr rfl, fun j hj => ?_, hd.mx⟩⟩
    rw [hsz]
    rcases hj with hj | hj
    · have := hd.lt j hj; omega
    · omega
  · rcases h1 with h1 | h1
    · exact hdis j h1 h2
    · have := hlt j h2; omega
  · rcases hj with (hj | hj) | hj
    · exact Or.inl hj
    · exact Or.inr (Or.inr hj)
    · exact Or.inr (Or.inl hj)
  · rw [hsz]
    rcases hj with hj | hj | hj
    · have := hd.lt j hj; omega
    · have := hlt j hj; omega
    · omega
theorem logon_any (F FR : Nat → Prop) (y q n c : Nat) (L : List UInt8) (vs : List RecV) (R : Option Addr) (hn : n = vs.length) (w : World) (hd : DkAt dk0 w F y L [] q) (ho : w.ownsRow 0 168 2 (.slice R n c) n (recsC vs)) (hb : RecsO w 0 vs)
    (hR : InF FR R) (hB : ∀ r ∈ vs, InF FR r.2.1) (hdis : ∀ k, F k → ¬ FR k) (hlt : ∀ k, FR k → k < w.heap.size) (hs : Short (vs.map rcOf)) (hL : L = allB (vs.map rcOf)) :
    Calls Tryz.prog 94 #[.pointer (some ⟨y, 0, none⟩), .slice R n c] w fun e w' => e = .returned (.pointer (some ⟨w.heap.size, 0, none⟩)) ∧ LgAt lg0 w' (fun k => F k ∨ FR k ∨ k = w.heap.size) w.heap.size (vs.map rcOf) vs.length q ∧ Below w.heap.size w w' := by
  subst hn
  obtain ⟨A, k, A', k', hd⟩ := hd
  have HX := Lib.hid (lg_new rfl hd ho hb hR hB hdis hlt hs hL)
  have c0 : w.cell? ⟨y, 0, none⟩ = some (.slice A L.length k) := hd.blk.d0
  have c1 : w.cell? ⟨y, 1, none⟩ = some (.slice A' ([] : List UInt8).length k') := hd.blk.d1
  have c2 : w.cell? ⟨y, 2, none⟩ = some (.int .i64 (q : Int)) := hd.blk.d2
  simp only [List.length_nil] at c1
  clear hd ho hb hR hB hdis hlt hs hL
  go_enter Tryz.func94, Tryz.ntmps94
  go_wp2
  go_ret
  exact ⟨rfl, HX.out, (Below.refl _ _).alloc (Nat.le_refl _) _⟩
theorem newlg_any (w : World) : Calls Tryz.prog 62 #[] w (NewLg id [] 0 0 w) := by
  go_enter Tryz.func62, Tryz.ntmps62
  go_wp2_with fail
  refine (newdk_any w).mono ?_
  rintro e w1 ⟨y, F, rfl, hF, hd, hb⟩
  have HF := Lib.hid hF
  have HB := Lib.hid hb
  have HL := Lib.hid (logon_any F (fun _ => False) y 0 0 0 [] [] none rfl w1 hd (World.ownsRow_nil _ _ _ _) (recsO_nil _ _) (inF_none _) (fun r h => by cases h) (fun k _ h => h) (fun k h => h.elim) (fun r h => by cases h) rfl)
  simp only [id]
  clear hF hd hb
  go_wp2_with fail
  refine HL.out.mono ?_
  rintro e w2 ⟨rfl, hl, hb⟩
  have HX : Hid (NewLg id [] 0 0 w (.returned (.pointer (some ⟨w1.heap.size, 0, none⟩))) w2) := Lib.hid ⟨w1.heap.size, _, rfl, fun k hk => by
    rcases hk with h | h | h
    · exact HF.out k h
    · exact h.elim
    · have := HB.out.size; omega, hl, HB.out.trans (hb.mono HB.out.size)⟩
  clear hl hb HL
  go_wp2
  go_ret
  exact HX.out
/-- A log that is opened, and how many bytes are cut off. -/
def OpenP (bs : List UInt8) (q : Nat) (w : World) (e : Ending) (w' : World) : Prop :=
  NewLg (fun p => .tuple #[p, .int .i64 ((bs.length : Int) - ((scanS bs).2.1 : Int)), .int .i64 0]) (scanS bs).1 (scanS bs).1.length q w e w'
theorem open_any (F : Nat → Prop) (y q : Nat) (L T : List UInt8) (w : World) (h : DkAt dk0 w F y L T q) :
    Calls Tryz.prog 126 #[.pointer (some ⟨y, 0, none⟩)] w (OpenP (L ++ T) q w) := by
  have HD := Lib.hid h
  have hmx := h.mx
  have hBY := bytes_any F y q L T w h
  obtain ⟨X, hX⟩ : ∃ X, L ++ T = X := ⟨_, rfl⟩
  have hXl : X.length ≤ 4194304 := by rw [← hX, List.length_append]; exact hmx
  rw [hX] at hBY ⊢
  have HBY := Lib.hid hBY
  clear h hmx hBY hX
  go_enter Tryz.func126, Tryz.ntmps126
  go_wp2_with fail
  refine HBY.out.mono ?_
  rintro e w1 ⟨A1, c1, rfl, ho, hb⟩
  have HO1 := Lib.hid ho
  have HB1 := Lib.hid hb
  have HC1 := Lib.hid (own_cap ho).1
  have HS := Lib.hid (scan_any w1.heap.size c1 X.length A1 X rfl (own_cap ho).1 w1 (Row.of_own ho) (Nat.le_refl _) hXl)
  clear ho hb HBY
  go_wp2_with fail
  refine HS.out.mono ?_
  rintro e w2 ⟨vs, R, cR, hvs, rfl, hor, hbr, hb⟩
  have hat := scan_at X
  have hag := scan_again X
  have hss := scan_short X
  obtain ⟨s, hs⟩ : ∃ s, (scanS X).2.1 = s := ⟨_, rfl⟩
  have HE : Hid (OpenP X q w = NewLg (fun p => .tuple #[p, .int .i64 ((X.length : Int) - (s : Int)), .int .i64 0]) (vs.map rcOf) vs.length q w) := Lib.hid (by
    unfold OpenP; rw [hs, ← hvs, List.length_map])
  rw [hs, ← hvs] at hag
  rw [← hvs] at hss
  rw [hs] at hat ⊢
  have HAG := Lib.hid hag
  have HSS := Lib.hid hss
  have HOR := Lib.hid hor
  have HBR := Lib.hid hbr
  have HB2 := Lib.hid hb
  have HRX := Lib.hid (((Row.of_own HO1.out).below hb).more hb.size)
  clear hvs hor hbr hb hs hag hss HS
  go_wp2_with fail
  refine (copy_any F y q L T w2 (HD.out.below (HB1.out.trans (HB2.out.mono HB1.out.size)))).mono ?_
  rintro e w3 ⟨z, F3, rfl, hf3, hd3, hb3⟩
  have HF3 := Lib.hid hf3
  have HD3 := Lib.hid hd3
  have HB3 := Lib.hid hb3
  simp only [id]
  have hcut := fun W => run_cut_h (P := Tryz.prog) (w := W) 27 5 _ _ Tryz.underlying27 info_b A1 X.length c1 s (by have := HC1.out; omega)
  have hsi : (s : Int) ≤ (X.length : Int) := by omega
  have hXi : (X.length : Int) ≤ 4194304 := by omega
  have HR := Lib.hid (replace_any F3 z q s w3.heap.size c1 L T (X.take s) A1 (by rw [List.length_take]; omega) (by omega) w3 hd3 (by
    rw [List.map_take]
    exact take_row ((HRX.out.below hb3).more hb3.size) s) (Nat.le_refl _))
  clear hf3 hd3 hb3
  go_wp2_with fail
  refine HR.out.mono ?_
  rintro e w4 ⟨rfl, F4, hf4, hd4, ht4⟩
  have HB4 : Hid (Below w2.heap.size w2 w4) := Lib.hid (HB3.out.trans (ht4.below HB3.out.size HF3.out))
  have HF4 : Hid (∀ k, F4 k → w2.heap.size ≤ k) := Lib.hid fun k hk => by
    rcases hf4 k hk with h | h
    · exact HF3.out k h
    · exact Nat.le_trans HB3.out.size h
  have HLO := Lib.hid (logon_any F4 (fun k => w1.heap.size ≤ k ∧ k < w2.heap.size) z q vs.length cR (X.take s) vs R rfl w4 hd4 (ownBase (ownLater HOR.out HB4.out) (Nat.zero_le _)) (recsO_base (recsO_below HBR.out HB4.out) (Nat.zero_le _))
    (fun a ha => ⟨(ownIn HOR.out ha).1, (ownIn HOR.out ha).2.1⟩) (fun r hr a ha => ⟨(ownIn (HBR.out r hr) ha).1, (ownIn (HBR.out r hr) ha).2.1⟩)
    (fun k h1 h2 => by have := HF4.out k h1; omega) (fun k hk => by have := HB4.out.size; omega) HSS.out HAG.out.symm)
  clear hf4 hd4 ht4 HR HD3 HF3 HB3 HRX
  go_wp2_with fail
  refine HLO.out.mono ?_
  rintro e w5 ⟨rfl, hl, hb⟩
  have HX : Hid (OpenP X q w (.returned (.tuple #[.pointer (some ⟨w4.heap.size, 0, none⟩), .int .i64 ((X.length : Int) - (s : Int)), .int .i64 0])) w5) := Lib.hid (by
    have h1 := HB1.out.size
    have h2 := HB2.out.size
    have h4 := HB4.out.size
    rw [HE.out]
    refine ⟨w4.heap.size, _, rfl, fun k hk => ?_, hl, HB1.out.trans ((HB2.out.trans ((HB4.out.trans (hb.mono h4)).mono h2)).mono h1)⟩
    rcases hk with h | h | h
    · have := HF4.out k h; omega
    · omega
    · omega)
  clear hl hb HLO HAG HSS HE
  go_wp2
  go_ret3
  exact HX.out
theorem disk7_any (F : Nat → Prop) (g m q : Nat) (rs : List Rc) (w : World) (h : LgAt J w F g rs m q) :
    Calls Tryz.prog 83 #[.pointer (some ⟨g, 0, none⟩)] w (NewDk id (allB (rs.take m)) (allB (rs.drop m)) q w) := by
  obtain ⟨FD, FR, vs, R, c, h1, h2, h3, h⟩ := h
  have HC := Lib.hid (copy_any FD g q _ _ w h.dk)
  clear h h1 h2 h3
  go_enter Tryz.func83, Tryz.ntmps83
  go_wp2_with fail
  refine HC.out.mono ?_
  rintro e w1 ⟨y, F1, rfl, hx⟩
  have HX := Lib.hid hx
  simp only [id]
  clear hx
  go_wp2
  go_ret
  exact ⟨y, F1, rfl, HX.out⟩
end Go.Proofs.YtkdpfjenjcpcfaaGreatDoor
namespace Go.Proofs.YtkdpfjenjcpcfaaGreatDoor
open Go.RowKit Mem Be Word Frm
set_option maxRecDepth 10000
set_option maxHeartbeats 2000000
set_option linter.unusedVariables false
theorem info_s7 : (Tryz.prog.info? 27).map (fun i => (i.zero, i.size, i.bytes)) = some (some (.slice none 0 0), 1, 24) := by kernel_rfl
def ShortR (rs : List RowV) : Prop := ∀ r ∈ rs, r.2.1.length ≤ 65536
def frsB (k : UInt8) (rs : List RowV) : List (List UInt8) := rs.map fun r => frB (k, r.2.1)
/-- Bytes in new memory. -/
def OwnF (w : World) (B : Nat) (r : RowV) : Prop := w.ownsRow B 5 1 (.slice r.1 r.2.1.length r.2.2) r.2.1.length (r.2.1.map byteV)
/-- What framesOf tells. -/
def FrsP (k : UInt8) (rs : List RowV) (w : World) (e : Ending) (w' : World) : Prop :=
  (ShortR rs ∧ ∃ (fs : List RowV) (A : Option Addr) (c : Nat), fs.map (fun r => r.2.1) = frsB k rs ∧ e = .returned (.tuple #[.slice A fs.length c, .int .i64 0]) ∧
    w'.ownsRow w.heap.size 27 1 (.slice A fs.length c) fs.length (fs.map rowV) ∧ (∀ r ∈ fs, OwnF w' w.heap.size r) ∧ Below w.heap.size w w') ∨
  (¬ ShortR rs ∧ e = .returned (.tuple #[.slice none 0 0, .int .i64 3]) ∧ Below w.heap.size w w')
theorem rowV_one (r : RowV) : ∀ u ∈ [rowV r], u.oneCell' = true := by
  intro u hu
  have : u = rowV r := by simpa using hu
  subst this; rfl
theorem framesof_any (k : UInt8) (n c : Nat) (A0 : Option Addr) (rs : List RowV) (hn : n = rs.length) (hnl : n ≤ 5864062014805) (w : World) (h : Row w w.heap.size A0 (rs.map rowV)) (hr : Rows_ w rs) :
    Calls Tryz.prog 182 #[.int .u8 (k.toNat : Int), .slice A0 n c] w (FrsP k rs w) := by
  obtain ⟨i0, hi0, hz0, hz1, hz2⟩ := info_parts info_s7
  have HR := Lib.hid h
  have HS := Lib.hid hr
  have HN := Lib.hid hn
  have HNL := Lib.hid hnl
  have hni : (n : Int) ≤ 5864062014805 := by omega
  clear h hr hn hnl
  go_enter Tryz.func182, Tryz.ntmps182
  go_wp2_with fail
  go_step3
  go_wp2_with fail
  go_step3
  go_wp2_with fail
  go_loopg [6, 7, 14] n (fun gk z e i wr => ∃ (j : Nat) (fs : List RowV) (A : Option Addr) (c : Nat), j + gk = n ∧ i = .int .i64 j ∧ z = .slice A fs.length c ∧ e = .int .i64 0 ∧ Hid (fs.map (fun r => r.2.1) = frsB k (rs.take j)) ∧ Hid (ShortR (rs.take j)) ∧
    Hid (wr.ownsRow w.heap.size 27 1 (.slice A fs.length c) fs.length (fs.map rowV)) ∧ Hid (∀ r ∈ fs, OwnF wr w.heap.size r) ∧ Hid (Below w.heap.size w wr))
  case atStart => exact ⟨0, [], none, 0, by omega, rfl, rfl, rfl, Lib.hid rfl, Lib.hid (fun r h => by simp at h), Lib.hid (World.ownsRow_nil _ _ _ _), Lib.hid (fun r h => by cases h), Lib.hid (Below.refl _ _)⟩
  case round =>
    obtain ⟨j, fs, A, cA, hj, rfl, rfl, rfl, HM, HSH, HO, HOF, HB⟩ := hrel
    by_cases hlt : j < n
    · have hj1 : j < rs.length := by rw [← HN.out]; exact hlt
      obtain ⟨b, o, rfl, hbl, hc⟩ := HR.out.open_ (by simp; omega)
      have hcell0 : w.cell? ⟨b, o + j, none⟩ = some (rowV rs[j]) := (hc j (by simpa using hj1)).trans (congrArg some (List.getElem_map (f := rowV) (h := by simpa using hj1)))
      have hcell : wr.cell? ⟨b, o + j, none⟩ = some (rowV rs[j]) := (HB.out.cell (p := ⟨b, o + j, none⟩) hbl).trans hcell0
      have hrow := (rows_below HS.out HB.out) rs[j] (List.getElem_mem hj1)
      have hsn : rs.take (j + 1) = rs.take j ++ [rs[j]] := List.take_succ_eq_append_getElem hj1
      obtain ⟨⟨A1, y, c1⟩, hy⟩ : ∃ y, rs[j] = y := ⟨_, rfl⟩
      have hmem : (A1, y, c1) ∈ rs := by rw [← hy]; exact List.getElem_mem hj1
      rw [hy] at hcell hrow hsn
      unfold rowV at hcell
      simp only at hcell hrow
      have hlen : fs.length = j := by have := congrArg List.length HM.out; rw [List.length_map] at this; rw [this]; simp [frsB]; omega
      have HLEN := Lib.hid hlen
      have HSN := Lib.hid hsn
      have HMEM := Lib.hid hmem
      have hji : (0 : Int) ≤ (j : Int) := by omega
      have hji2 : (j : Int) < (n : Int) := by omega
      have hone := one_any k wr.heap.size c1 y.length A1 y rfl wr hrow (Nat.le_refl _)
      by_cases hl : 65536 < y.length
      · rw [show oneS (k, y) = ([], 3) from if_pos hl] at hone
        have HONE := Lib.hid hone
        have HNO : Hid (¬ ShortR rs) := Lib.hid fun hs => by have := hs _ HMEM.out; simp only at this; omega
        clear hone hc hcell0 hy hrow hsn hmem hlen hl
        go_wp2_with fail
        refine HONE.out.mono ?_
        rintro e w1 ⟨A2, c2, rfl, ho, hb⟩
        have HB1 : Hid (Below w.heap.size w w1) := Lib.hid (HB.out.trans (hb.mono HB.out.size))
        clear ho hb
        go_wp2
        try rw [Exit.noGoto_ret]
        go_ret2
        exact Or.inr ⟨HNO.out, rfl, HB1.out⟩
      · rw [show oneS (k, y) = (frB (k, y), 0) from if_neg hl] at hone
        have HONE := Lib.hid hone
        have HYL := Lib.hid hl
        clear hone hc hcell0 hy hrow hsn hmem hlen hl
        go_wp2_with fail
        refine HONE.out.mono ?_
        rintro e w1 ⟨A2, c2, rfl, ho, hb⟩
        obtain ⟨X, hX⟩ : ∃ X, frB (k, y) = X := ⟨_, rfl⟩
        have HX := Lib.hid hX
        simp only at ho ⊢
        rw [hX] at ho ⊢
        have HB1 : Hid (Below w.heap.size w w1) := Lib.hid (HB.out.trans (hb.mono HB.out.size))
        have HO1 := Lib.hid (own_later HO.out hb)
        have HOF1 : Hid (∀ r ∈ fs ++ [(A2, X, c2)], OwnF w1 w.heap.size r) := Lib.hid fun r hr => by
          rcases List.mem_append.1 hr with hr | hr
          · exact own_later (HOF.out r hr) hb
          · have : r = (A2, X, c2) := by simpa using hr
            subst this
            exact ownBase ho HB.out.size
        clear ho hb hX HONE
        have HB2 : Hid (∀ o, Below w.heap.size w (w1.alloc o)) := Lib.hid fun o => HB1.out.alloc HB1.out.size o
        have HO2 : Hid (∀ o, (w1.alloc o).ownsRow w.heap.size 27 1 (.slice A fs.length cA) fs.length (fs.map rowV)) := Lib.hid fun o => own_later HO1.out ((Below.refl _ _).alloc (Nat.le_refl _) o)
        have HOF2 : Hid (∀ o, ∀ r ∈ fs ++ [(A2, X, c2)], OwnF (w1.alloc o) w.heap.size r) := Lib.hid fun o r hr => own_later (HOF1.out r hr) ((Below.refl _ _).alloc (Nat.le_refl _) o)
        have hsz : w.heap.size ≤ w1.heap.size := HB1.out.size
        go_wp2_with (at_builtin; refine wpList_app _ rfl _ _ 147 rfl w.heap.size 27 i0 (.slice none 0 0) 24 Tryz.underlying147 hi0 hz0 hz1 hz2 rfl _ _ _ rfl (HO2.out _) (w1.heap.size + 1) _ 1 1 [rowV (A2, X, c2)] rfl rfl (row_cells (by rfl)) (rowV_one _) (by have := HLEN.out; unfold maxLen; omega) (by have := HLEN.out; omega) (by simp; omega) ?_)
        intro v' w2 hown hgr _
        obtain ⟨A3, c3, rfl, _, _⟩ := ownShape hown
        have HB3 : Hid (Below w.heap.size w w2) := Lib.hid ((HB2.out _).grown hgr (HB2.out _).size fun g h => ((HO2.out (.cells #[.slice A2 X.length c2] 27)).lt g h).1)
        have HOF3 : Hid (∀ r ∈ fs ++ [(A2, X, c2)], OwnF w2 w.heap.size r) := Lib.hid fun r hr => (HOF2.out (.cells #[.slice A2 X.length c2] 27) r hr).kept hgr (by
          have h1 := HOF2.out (.cells #[.slice A2 X.length c2] 27) r hr
          have h2 := HO2.out (.cells #[.slice A2 X.length c2] 27)
          rcases h1.2 with ⟨h3, _⟩ | ⟨g, cap, cur, h3, _, hh, _⟩
          · rw [h3]; exact Or.inl rfl
          · refine Or.inr fun e => ?_
            rw [h3] at e
            rcases h2.2 with ⟨h4, _⟩ | ⟨g', cap', cur', h4, _, hh', _⟩
            · rw [h4] at e; cases e
            · rw [h4] at e
              have eg : g = g' := by simpa [Value.ownBlock] using e
              subst eg
              rw [hh] at hh'
              injection hh' with hh'
              injection hh' with _ ht
              exact absurd ht (by decide))
        have HO3 := Lib.hid hown
        clear hown hgr HB2 HO2 HOF2 HO HOF HB
        go_wp2
        go_roundg (gk - 1)
        case measure => omega
        case rel => exact ⟨j + 1, fs ++ [(A2, X, c2)], A3, c3, by omega, by go_num, by rw [List.length_append]; rfl, rfl, Lib.hid (by rw [HSN.out, List.map_append, HM.out, ← HX.out]; simp [frsB]),
          Lib.hid (by
            rw [HSN.out]
            intro r hr
            rcases List.mem_append.1 hr with hr | hr
            · exact HSH.out r hr
            · have : r = (A1, y, c1) := by simpa using hr
              subst this
              have := HYL.out
              show y.length ≤ 65536
              omega), Lib.hid (by rw [List.length_append, List.map_append]; exact HO3.out), HOF3, HB3⟩
    · obtain rfl : j = n := by omega
      have ht : rs.take j = rs := List.take_of_length_le (by rw [← HN.out]; omega)
      rw [ht] at HM HSH
      go_wp2
      try rw [Exit.noGoto_ret]
      go_ret2
      exact Or.inl ⟨HSH.out, fs, A, cA, HM.out, rfl, HO.out, HOF.out, HB.out⟩
end Go.Proofs.YtkdpfjenjcpcfaaGreatDoor
namespace Go.Proofs.YtkdpfjenjcpcfaaGreatDoor
open Go.RowKit Mem Be Word Frm
set_option maxRecDepth 10000
set_option maxHeartbeats 2000000
set_option linter.unusedVariables false
variable {J : LgK}
def newR (k : UInt8) (bs : List (List UInt8)) : List Rc := bs.map fun b => (k, b)
/-- What an append of records leaves, and tells. -/
def addS (rs : List Rc) (k : UInt8) (bs : List (List UInt8)) : List Rc × Int :=
  if (∀ b ∈ bs, b.length ≤ 65536) ∧ (allB (rs ++ newR k bs)).length ≤ 4194304 then (rs ++ newR k bs, 0) else (rs, 3)
def bytesR (rs : List RowV) : List (List UInt8) := rs.map fun r => r.2.1
theorem shortR_iff (rs : List RowV) : ShortR rs ↔ ∀ b ∈ bytesR rs, b.length ≤ 65536 := by
  constructor
  · intro h b hb
    obtain ⟨r, hr, rfl⟩ := List.mem_map.1 hb
    exact h r hr
  · exact fun h r hr => h _ (List.mem_map.2 ⟨r, hr, rfl⟩)
theorem cat_frs {k : UInt8} {fs rs : List RowV} (h : fs.map (fun r => r.2.1) = frsB k rs) : catB fs = allB (newR k (bytesR rs)) := by
  have h1 : catB fs = (fs.map (fun r => r.2.1)).flatten := by unfold catB; rw [List.flatMap_def]
  rw [h1, h]
  unfold frsB allB newR bytesR
  rw [List.flatMap_def, List.map_map, List.map_map]
  rfl
theorem rowN_own {F : Nat → Prop} {w w1 : World} {A : Option Addr} {n c s : Nat} {e : TypeId} {xs : List Value} (hF : ∀ k, F k → k < w.heap.size) (ho : w1.ownsRow w.heap.size e s (.slice A n c) n xs) : RowN F w1 A xs := by
  rcases ownRow ho with h | ⟨b, o, rfl, hb, hc⟩
  · exact Or.inl h
  · exact Or.inr ⟨b, o, rfl, fun hf => by have := hF b hf; have h2 := (ownIn ho rfl).1; simp only at h2; omega, hb, hc⟩
section
variable {w : World} {F FD FR : Nat → Prop} {g q m : Nat} {L T : List UInt8} {vs : List RecV} {R : Option Addr} {c : Nat}
theorem lgb_rowblk (h : LgB J w F FD FR g L T q m vs R c) {n d k : Nat} (hk : (Value.slice R n d).ownBlock = some k) : FR k := by
  cases R with
  | none => cases hk
  | some a =>
    have : a.block = k := by simpa [Value.ownBlock] using hk
    subst this
    exact h.inR a rfl
/-- One record more. -/
theorem lg_push {w2 w3 : World} {k : UInt8} {A2 A3 : Option Addr} {c2 c3 : Nat} {y : List UInt8} (h : LgB J w F FD FR g L T q m vs R c) (hb : Below w.heap.size w w2) (ho : w2.ownsRow w.heap.size 5 1 (.slice A2 y.length c2) y.length (y.map byteV)) (o : Obj)
    (hown : w3.ownsRow 0 168 2 (.slice A3 (vs.length + 1) c3) (vs.length + 1) (recsC (vs ++ [(k, A2, y, c2)]))) (hgr : (w2.alloc o).grownBy w3 (Value.slice R vs.length c).ownBlock)
    (hat : (Value.slice A3 (vs.length + 1) c3).ownBlock = (Value.slice R vs.length c).ownBlock ∨ (Value.slice A3 (vs.length + 1) c3).ownBlock = some (w2.alloc o).heap.size) :
    LgB J (w3.setCell ⟨g, 3, none⟩ (.slice A3 (vs.length + 1) c3)) (fun k => (F k ∨ w.heap.size ≤ k) ∧ k < w3.heap.size) FD (fun k => (FR k ∨ w.heap.size ≤ k) ∧ k < w3.heap.size) g L T q m (vs ++ [(k, A2, y, c2)]) A3 c3 ∧ Touch F w (w3.setCell ⟨g, 3, none⟩ (.slice A3 (vs.length + 1) c3)) ∧ w3.cell? ⟨g, 3, none⟩ = some (.slice R vs.length c) ∧ w3.frozen? ⟨g, 3, none⟩ = false := by
  have hal : Below w2.heap.size w2 (w2.alloc o) := (Below.refl _ _).alloc (Nat.le_refl _) o
  have hb2 : Below w.heap.size w (w2.alloc o) := hb.trans (hal.mono hb.size)
  have ht : Touch FR w w3 := (Touch.ofBelow hb2).grown hgr fun k hk => Or.inl (lgb_rowblk h hk)
  have h2 : RecsO (w2.alloc o) 0 (vs ++ [(k, A2, y, c2)]) := recsO_below (recsO_app (recsO_below h.byt hb) (recsO_one (r := (k, A2, y, c2)) (ownBase ho (Nat.zero_le _)))) hal
  have h3 := recsO_grown h2 (ownLater h.own hb2) hgr
  have hl : (vs ++ [(k, A2, y, c2)]).length = vs.length + 1 := by simp
  have := h.setR (FR' := fun k => (FR k ∨ w.heap.size ≤ k) ∧ k < w3.heap.size) (vs' := vs ++ [(k, A2, y, c2)]) (R' := A3) (c' := c3) (w := w3) (h.dk.touch ht h.dis) (by rw [hl]; exact hown) h3 (fun a ha => ?_) (fun r hr a ha => ?_) (fun k hk => hk.1) (fun k hk => hk.2) ht
  · rw [hl] at this
    have hd := h.dk.touch ht h.dis
    exact ⟨this.1, this.2, dka_c3 hd, dka_z hd 3⟩
  · refine ⟨?_, (ownIn hown ha).2.1⟩
    subst ha
    rcases hat with h4 | h4
    · exact Or.inl (lgb_rowblk h h4.symm)
    · have e : a.block = (w2.alloc o).heap.size := by simpa [Value.ownBlock] using h4
      have := hb2.size
      exact Or.inr (by omega)
  · refine ⟨?_, (ownIn (h3 r hr) ha).2.1⟩
    rcases List.mem_append.1 hr with hr | hr
    · exact Or.inl (h.inB r hr a ha)
    · have : r = (k, A2, y, c2) := by simpa using hr
      subst this
      exact Or.inr (ownIn ho ha).1
end
theorem newR_snoc (k : UInt8) (rs : List RowV) (j : Nat) (h : j < rs.length) : newR k (bytesR (rs.take (j + 1))) = newR k (bytesR (rs.take j)) ++ [(k, rs[j].2.1)] := by
  rw [List.take_succ_eq_append_getElem h]; unfold newR bytesR; rw [List.map_append, List.map_append]; rfl
theorem many_of {rs : List Rc} {M : Nat} (h : (allB rs).length ≤ M) : rs.length * 10 ≤ M := by have := long_many rs; unfold longN at this; omega
theorem cell_al {w : World} {p : Addr} {v : Value} (o : Obj) (h : w.cell? p = some v) : (w.alloc o).cell? p = some v := (World.cell?_alloc_lt w o p (block_lt h)).trans h
/-- A log in the midst of an append: its disk has all frames, its records come one by one. -/
def MidP (J : LgK) (w0 : World) (F0 : Nat → Prop) (g : Nat) (L T : List UInt8) (q m : Nat) (rs : List Rc) (w : World) : Prop :=
  ∃ F FD FR vs R c, vs.map rcOf = rs ∧ LgB J w F FD FR g L T q m vs R c ∧ (∀ k, F k → F0 k ∨ w0.heap.size ≤ k) ∧ Touch F0 w0 w
theorem lgto_stay {v : Value} {F : Nat → Prop} {g q m : Nat} {rs : List Rc} {w w1 : World} (h : LgAt J w F g rs m q) (hb : Below w.heap.size w w1) : LgTo J v F g rs m q w (.returned v) w1 :=
  ⟨rfl, F, fun k hk => Or.inl hk, h.below hb, Touch.ofBelow hb⟩
theorem add_any (F : Nat → Prop) (g m q n c : Nat) (k : UInt8) (rs : List Rc) (A0 : Option Addr) (ls : List RowV) (hn : n = ls.length) (hnl : n ≤ 5864062014805) (hxl : ∀ r ∈ ls, r.2.1.length ≤ maxLen) (w : World) (h : LgAt J w F g rs m q)
    (hr : RowN F w A0 (ls.map rowV)) (hrs : ∀ r ∈ ls, RowN F w r.1 (r.2.1.map byteV)) :
    Calls Tryz.prog 168 #[.pointer (some ⟨g, 0, none⟩), .int .u8 (k.toNat : Int), .slice A0 n c] w (LgTo J (.int .i64 (addS rs k (bytesR ls)).2) F g (addS rs k (bytesR ls)).1 m q w) := by
  have HFR := Lib.hid (framesof_any k n c A0 ls hn hnl w hr.row (fun r hr => (hrs r hr).row))
  have HAT := Lib.hid h
  have HR := Lib.hid hr
  have HRS := Lib.hid hrs
  have HN := Lib.hid hn
  have HNL := Lib.hid hnl
  have hni : (n : Int) ≤ 5864062014805 := by omega
  obtain ⟨S, hS⟩ : ∃ S, addS rs k (bytesR ls) = S := ⟨_, rfl⟩
  have HSS := Lib.hid hS
  rw [hS]
  clear h hr hrs hn hnl hS hxl
  go_enter Tryz.func168, Tryz.ntmps168
  go_wp2_with fail
  refine HFR.out.mono ?_
  clear HFR
  rintro e w1 (⟨hsr, fs, A1, c1, hfs, rfl, ho1, hof, hb1⟩ | ⟨hsr, rfl, hb1⟩)
  · have HB1 := Lib.hid hb1
    have HAT1 := Lib.hid (HAT.out.below hb1)
    obtain ⟨FD, FR, vs, R, cR, h1, h2, h3, hlg⟩ := HAT1.out
    have hFDl : ∀ k, FD k → k < w.heap.size := fun j hj => HAT.out.lt j (hlg.sub j (Or.inl hj))
    have hcat := cat_frs hfs
    have hfl : fs.length = n := by have := congrArg List.length hfs; rw [List.length_map] at this; rw [this, HN.out]; simp [frsB]
    have hmxl : fs.length ≤ maxLen := by have := HNL.out; unfold maxLen; omega
    have hrow := rowN_own hFDl ho1
    have hrows : ∀ r ∈ fs, RowN FD w1 r.1 (r.2.1.map byteV) := fun r hr => rowN_own hFDl (hof r hr)
    by_cases hfit : (allB (rs ++ newR k (bytesR ls))).length ≤ 4194304
    · have hS2 : S = (rs ++ newR k (bytesR ls), 0) := by rw [← HSS.out]; exact if_pos ⟨(shortR_iff ls).1 hsr, hfit⟩
      have hlen : (allB (rs.take m)).length + (allB (rs.drop m)).length + (catB fs).length ≤ 4194304 := by
        rw [hcat]
        rw [all_app, List.length_append, all_drop rs m, List.length_append] at hfit
        exact hfit
      have HAP := Lib.hid (append_any FD g q fs.length c1 _ _ A1 fs rfl hmxl w1 hlg.dk hrow hrows hlen)
      have HLG := Lib.hid hlg
      have HV := Lib.hid h1
      have HSH := Lib.hid h2
      have HM := Lib.hid h3
      have HCAT := Lib.hid hcat
      have HSR := Lib.hid hsr
      have HMN : Hid ((rs ++ newR k (bytesR ls)).length ≤ 2000000) := Lib.hid (by have := many_of hfit; omega)
      subst hS2
      simp only
      clear hb1 hlg h1 h2 h3 hFDl hfs hfl hmxl hrow hrows hfit hlen ho1 hof hsr hcat HSS
      go_wp2_with fail
      refine HAP.out.mono ?_
      rintro e w2 ⟨rfl, F2, hf2, hd2, ht2⟩
      have hl2 := HLG.out.disk hf2 hd2 ht2
      have hnew : (newR k (bytesR ls)).length = n := by rw [HN.out]; simp [newR, bytesR]
      have hmany := HMN.out
      rw [List.length_append, hnew] at hmany
      have HMANY := Lib.hid hmany
      have HMID : Hid (MidP J w F g (allB (rs.take m)) (allB (rs.drop m) ++ catB fs) q m rs w2) := Lib.hid ⟨_, F2, FR, vs, R, cR, HV.out, hl2.1, fun j hj => by
        rcases hj.1 with h | h
        · exact Or.inl h
        · exact Or.inr (Nat.le_trans HB1.out.size h), (Touch.ofBelow HB1.out).trans hl2.2 (fun k hk => Or.inl hk)⟩
      clear hf2 hd2 ht2 hl2 HLG HAP hmany hnew HV
      go_wp2_with fail
      go_loopw [30] (fun i wr => ∃ j : Nat, j ≤ n ∧ i = .int .i64 j ∧ Hid (MidP J w F g (allB (rs.take m)) (allB (rs.drop m) ++ catB fs) q m (rs ++ newR k (bytesR (ls.take j))) wr)) (fun i _ => n - (intOf i).toNat)
      case atStart => exact ⟨0, by omega, rfl, Lib.hid (by simpa [newR, bytesR] using HMID.out)⟩
      case round =>
        obtain ⟨j, hj, rfl, HK⟩ := hrel
        by_cases hlt : j < n
        · have hj1 : j < ls.length := by rw [← HN.out]; exact hlt
          obtain ⟨Fx, FD', FR', vs', R', c', hv', hlg', hFx, hto⟩ := HK.out
          obtain ⟨b, o, rfl, _, hc⟩ := (HR.out.touch hto).row.open_ (by simp; omega)
          have hcell : wr.cell? ⟨b, o + j, none⟩ = some (rowV ls[j]) := (hc j (by simpa using hj1)).trans (congrArg some (List.getElem_map (f := rowV) (h := by simpa using hj1)))
          have hrow := ((HRS.out ls[j] (List.getElem_mem hj1)).touch hto).row
          have hsn := newR_snoc k ls j hj1
          obtain ⟨⟨A4, y, c4⟩, hy1⟩ : ∃ y, ls[j] = y := ⟨_, rfl⟩
          rw [hy1] at hcell hrow hsn
          unfold rowV at hcell
          simp only at hcell hrow hsn
          have hvl : vs'.length ≤ 1000000000 := by
            have h1 := congrArg List.length hv'
            have h2 := HMANY.out
            rw [List.length_map, List.length_append] at h1
            have h3 : (newR k (bytesR (ls.take j))).length ≤ n := by simp [newR, bytesR]; omega
            omega
          have hyl : y.length ≤ 140737488355328 := by
            have h1 := hrow
            have h2 : y.length ≤ (catB fs).length := by
              rw [HCAT.out]
              have hm : (k, y) ∈ newR k (bytesR ls) := by
                refine List.mem_map.2 ⟨y, ?_, rfl⟩
                exact List.mem_map.2 ⟨ls[j], List.getElem_mem hj1, by rw [hy1]⟩
              have := long_each hm
              unfold longN at this
              simp only at this
              omega
            have h3 := hlg'.dk.mx
            rw [List.length_append] at h3
            omega
          have HCL : Hid (∀ W, Below wr.heap.size wr W → Calls Tryz.prog 71 #[.slice A4 y.length c4] W (Made W.heap.size y W)) := Lib.hid fun W hb =>
            clone_any wr.heap.size c4 A4 y y.length rfl W (hrow.below hb) hb.size hyl
          have HDR : Hid (Below wr.heap.size wr wr.drew) := Lib.hid (Below.refl _ _).drew
          have HLG := Lib.hid hlg'
          have HVV := Lib.hid hv'
          have HFX := Lib.hid hFx
          have HTO := Lib.hid hto
          have HSN := Lib.hid hsn
          have HVL := Lib.hid hvl
          have d3 : wr.cell? ⟨g, 3, none⟩ = some (.slice R' vs'.length c') := dka_c3 hlg'.dk
          have hgl : g < wr.heap.size := block_lt d3
          have hji : (0 : Int) ≤ (j : Int) := by omega
          have hji2 : (j : Int) < (n : Int) := by omega
          clear hc hy1 hrow hto hlg' hv' hFx hsn HK hvl hyl
          go_wp2_with fail
          go_region_law (first
            | (go_simp; go_at_call 71; refine (HCL.out _ HDR.out).mono ?_; rintro e w4 ⟨A5, c5, rfl, ho, hb⟩; have HB4 := Lib.hid (HDR.out.trans (hb.mono HDR.out.size)); have HO4 := Lib.hid (ownBase ho HDR.out.size); (have d4 : w4.cell? ⟨g, 3, none⟩ = some (.slice R' vs'.length c') := (HB4.out.cell (p := ⟨g, 3, none⟩) hgl).trans d3); (have d5 : (w4.alloc (.cells #[.int .u8 (k.toNat : Int), .slice A5 y.length c5] 168)).cell? ⟨g, 3, none⟩ = some (.slice R' vs'.length c') := cell_al _ d4); (have HOA : Hid ((w4.alloc (.cells #[.int .u8 (k.toNat : Int), .slice A5 y.length c5] 168)).ownsRow 0 168 2 (.slice R' vs'.length c') vs'.length (recsC vs')) := Lib.hid (ownLater HLG.out.own (HB4.out.alloc HB4.out.size _))); (have HRL : Hid (Row (w4.alloc (.cells #[.int .u8 (k.toNat : Int), .slice A5 y.length c5] 168)) (w4.heap.size + 1) (some ⟨w4.heap.size, 0, none⟩) (recsC [(k, A5, y, c5)])) := Lib.hid (rec_lit (r := (k, A5, y, c5)) rfl rfl rfl)); clear ho hb)
            | (refine step_appR (by rfl) _ _ (by rfl) 0 (.slice R' vs'.length c') vs'.length vs' (by rfl) (show World.ownsRow _ _ _ _ _ _ _ from HOA.out) (w4.heap.size + 1) (some ⟨w4.heap.size, 0, none⟩) 1 1 [(k, A5, y, c5)] (by rfl) rfl (show Row _ _ _ _ from HRL.out) (by have := HVL.out; omega) (Nat.zero_le _) ?_; intro v' w5 hown hgr hat; obtain ⟨A6, c6, rfl, _, _⟩ := ownShape hown; have HPU := Lib.hid (lg_push HLG.out HB4.out HO4.out (.cells #[.int .u8 (k.toNat : Int), .slice A5 y.length c5] 168) hown hgr hat); have e3 := HPU.out.2.2.1; have z3 := HPU.out.2.2.2; clear hown hgr hat))
          all_goals
            have HM2 : Hid (MidP J w F g (allB (rs.take m)) (allB (rs.drop m) ++ catB fs) q m (rs ++ newR k (bytesR (ls.take (j + 1)))) (w5.setCell ⟨g, 3, none⟩ (.slice A6 (vs'.length + 1) c6))) := Lib.hid (by
              refine ⟨_, _, _, vs' ++ [(k, A5, y, c5)], A6, c6, ?_, HPU.out.1, fun i hi => ?_, HTO.out.trans HPU.out.2.1 (fun i hi => HFX.out i hi)⟩
              · rw [List.map_append, HVV.out, HSN.out, List.append_assoc]; rfl
              · rcases hi.1 with h | h
                · exact HFX.out i h
                · exact Or.inr (Nat.le_trans HTO.out.size h))
            clear HPU
            go_wp2
            go_roundw
            case rel => exact ⟨j + 1, by omega, by go_num, HM2⟩
            case measure => simp [intOf]; omega
        · obtain rfl : j = n := by omega
          have ht : ls.take j = ls := List.take_of_length_le (by rw [← HN.out]; omega)
          rw [ht] at HK
          go_wp2
          go_ret
          obtain ⟨Fx, FD', FR', vs', R', c', hv', hlg', hFx, hto⟩ := HK.out
          refine ⟨rfl, Fx, hFx, ⟨FD', FR', vs', R', c', hv', ?_, ?_, ?_⟩, hto⟩
          · intro r hr
            rcases List.mem_append.1 hr with hr | hr
            · exact HSH.out r hr
            · obtain ⟨b, hb, rfl⟩ := List.mem_map.1 hr
              obtain ⟨r0, hr0, rfl⟩ := List.mem_map.1 hb
              exact HSR.out r0 hr0
          · rw [List.length_append]; have := HM.out; omega
          · rw [List.take_append_of_le_length HM.out, List.drop_append_of_le_length HM.out, all_app, ← HCAT.out]
            exact hlg'
    · have hS2 : S = (rs, 3) := by rw [← HSS.out]; exact if_neg fun hx => hfit hx.2
      have hlong : 4194304 < (allB (rs.take m)).length + (allB (rs.drop m)).length + (catB fs).length := by
        rw [hcat]
        rw [all_app, List.length_append, all_drop rs m, List.length_append] at hfit
        omega
      have HAP := Lib.hid (append_long FD g q fs.length c1 _ _ A1 fs rfl hmxl (fun r hr => by
        have h1 := List.mem_map_of_mem (f := fun r : RowV => r.2.1) hr
        rw [hfs] at h1
        obtain ⟨r0, hr0, h4⟩ := List.mem_map.1 h1
        have h5 := hsr r0 hr0
        have h6 := congrArg List.length h4
        rw [fr_len] at h6
        simp only at h6
        unfold maxLen; omega) w1 hlg.dk hrow.row hlong)
      subst hS2
      simp only
      clear hb1 hlg h1 h2 h3 hFDl hfs hfl hmxl hrow hrows hfit hlong ho1 hof hsr hcat HSS
      go_wp2_with fail
      refine HAP.out.mono ?_
      rintro e w2 ⟨rfl, hb2⟩
      have HB2 := Lib.hid (HB1.out.trans (hb2.mono HB1.out.size))
      clear hb2 HAP
      go_wp2
      go_ret
      exact lgto_stay HAT.out HB2.out
  · have hS2 : S = (rs, 3) := by rw [← HSS.out]; exact if_neg fun hx => hsr ((shortR_iff ls).2 hx.1)
    have HB1 := Lib.hid hb1
    subst hS2
    simp only
    clear hb1 hsr HSS
    go_wp2
    go_ret
    exact lgto_stay HAT.out HB1.out
end Go.Proofs.YtkdpfjenjcpcfaaGreatDoor
namespace Go.Proofs.YtkdpfjenjcpcfaaGreatDoor
open Go.RowKit Mem Be Word Frm
set_option maxRecDepth 10000
set_option maxHeartbeats 2000000
set_option linter.unusedVariables false
variable {J : LgK}
theorem u8_zero {k : UInt8} (h : k ≠ 0) : (k.toNat : Int) ≠ 0 := fun e => h (by
  have : k.toNat = 0 := by omega
  exact UInt8.toNat_inj.1 this)
theorem append7_any (F : Nat → Prop) (g m q n c : Nat) (k : UInt8) (hk : k ≠ 0) (rs : List Rc) (A0 : Option Addr) (ls : List RowV) (hn : n = ls.length) (hnl : n ≤ 5864062014805) (hxl : ∀ r ∈ ls, r.2.1.length ≤ maxLen) (w : World) (h : LgAt J w F g rs m q)
    (hr : RowN F w A0 (ls.map rowV)) (hrs : ∀ r ∈ ls, RowN F w r.1 (r.2.1.map byteV)) :
    Calls Tryz.prog 144 #[.pointer (some ⟨g, 0, none⟩), .int .u8 (k.toNat : Int), .slice A0 n c] w (LgTo J (.int .i64 (addS rs k (bytesR ls)).2) F g (addS rs k (bytesR ls)).1 m q w) := by
  have HA := Lib.hid (add_any F g m q n c k rs A0 ls hn hnl hxl w h hr hrs)
  have hk0 := u8_zero hk
  have hkb : ((k.toNat : Int) == 0) = false := by simpa using hk0
  obtain ⟨S, hS⟩ : ∃ S, addS rs k (bytesR ls) = S := ⟨_, rfl⟩
  rw [hS] at HA ⊢
  clear h hr hrs hn hnl hxl hS hk hk0
  go_enter Tryz.func144, Tryz.ntmps144
  go_wp2_with fail
  refine HA.out.mono ?_
  intro e w1 hx
  have HX := Lib.hid hx
  obtain ⟨rfl, _⟩ := hx
  go_wp2
  go_ret
  exact HX.out
theorem sync7_any (F : Nat → Prop) (g m q : Nat) (rs : List Rc) (hq : q ≤ 4611686018427387904) (w : World) (h : LgAt J w F g rs m q) :
    Calls Tryz.prog 120 #[.pointer (some ⟨g, 0, none⟩)] w (LgTo J (.int .i64 0) F g rs rs.length (upN (allB (rs.drop m)) q) w) := by
  have hset : Calls Tryz.prog 148 #[.pointer (some ⟨g, 0, none⟩)] w (LgTo J (.int .i64 0) F g rs rs.length (upN (allB (rs.drop m)) q) w) := by
    obtain ⟨FD, FR, vs, R, c, h1, h2, h3, hlg⟩ := h
    have HS := Lib.hid (sync_any FD g q _ _ hq w hlg.dk)
    have HLG := Lib.hid hlg
    have HV := Lib.hid h1
    have HSH := Lib.hid h2
    rw [← all_drop] at HS
    obtain ⟨q', hq'⟩ : ∃ q', upN (allB (rs.drop m)) q = q' := ⟨_, rfl⟩
    rw [hq'] at HS ⊢
    clear hlg h1 h2 h3 hq hq'
    go_enter Tryz.func148, Tryz.ntmps148
    go_wp2_with fail
    refine HS.out.mono ?_
    rintro e w1 ⟨rfl, F1, hf, hd, ht⟩
    have hl := HLG.out.disk hf hd ht
    have d3 := dka_c3 hd
    have d4 := dka_c4 hd
    have z4 := dka_z hd 4
    have HX : Hid (LgTo J (.int .i64 0) F g rs rs.length q' w (.returned (.int .i64 0)) (w1.setCell ⟨g, 4, none⟩ (.int .i64 (vs.length : Int)))) := Lib.hid (by
      have hl2 := hl.1.setM vs.length
      have hvl : vs.length = rs.length := by rw [← HV.out, List.length_map]
      refine ⟨rfl, (fun k => (F k ∨ w.heap.size ≤ k) ∧ k < w1.heap.size), fun k hk => hk.1, ⟨F1, FR, vs, R, c, HV.out, HSH.out, Nat.le_refl _, ?_⟩, hl.2.set_ (Or.inl (HLG.out.sub g (Or.inl (dka_fg HLG.out.dk)))) _⟩
      rw [hvl] at hl2 ⊢
      rw [List.take_of_length_le (Nat.le_refl _), List.drop_eq_nil_of_le (Nat.le_refl _)]
      exact hl2)
    clear hl hf hd ht HLG HV HSH HS
    go_wp2
    go_ret
    exact HX.out
  have HS := Lib.hid hset
  obtain ⟨q', hq'⟩ : ∃ q', upN (allB (rs.drop m)) q = q' := ⟨_, rfl⟩
  rw [hq'] at HS ⊢
  clear hset h hq hq'
  go_enter Tryz.func120, Tryz.ntmps120
  go_wp2_with fail
  refine HS.out.mono ?_
  intro e w1 hx
  have HX := Lib.hid hx
  obtain ⟨rfl, _⟩ := hx
  go_wp2
  go_ret
  exact HX.out
/-- What a snapshot leaves, and tells. -/
def snapS (rs : List Rc) (m : Nat) (b : List UInt8) : List Rc × Nat × Int := if 65536 < b.length then (rs, m, 3) else ([(0, b)], 1, 0)
theorem all_one (r : Rc) : allB [r] = frB r := by rw [all_cons]; simp [allB]
theorem snap7_any (F : Nat → Prop) (g m q n c : Nat) (rs : List Rc) (A0 : Option Addr) (b : List UInt8) (hn : n = b.length) (w : World) (h : LgAt J w F g rs m q) (hr : RowN F w A0 (b.map byteV)) :
    Calls Tryz.prog 90 #[.pointer (some ⟨g, 0, none⟩), .slice A0 n c] w (LgTo J (.int .i64 (snapS rs m b).2.2) F g (snapS rs m b).1 (snapS rs m b).2.1 q w) := by
  have hrep : Calls Tryz.prog 123 #[.pointer (some ⟨g, 0, none⟩), .slice A0 n c] w (LgTo J (.int .i64 (snapS rs m b).2.2) F g (snapS rs m b).1 (snapS rs m b).2.1 q w) := by
    subst hn
    have hone := one_any 0 w.heap.size c b.length A0 b rfl w hr.row (Nat.le_refl _)
    have HAT := Lib.hid h
    have HR := Lib.hid hr
    by_cases hl : 65536 < b.length
    · rw [show snapS rs m b = (rs, m, 3) from if_pos hl]
      rw [show oneS (0, b) = ([], 3) from if_pos hl] at hone
      have HONE := Lib.hid hone
      simp only
      clear h hr hone hl
      go_enter Tryz.func123, Tryz.ntmps123
      go_wp2_with fail
      refine HONE.out.mono ?_
      rintro e w1 ⟨A1, c1, rfl, ho, hb⟩
      have HB := Lib.hid hb
      clear ho hb HONE
      go_wp2
      go_ret
      exact lgto_stay HAT.out HB.out
    · rw [show snapS rs m b = ([(0, b)], 1, 0) from if_neg hl]
      rw [show oneS (0, b) = (frB (0, b), 0) from if_neg hl] at hone
      have HONE := Lib.hid hone
      have HL := Lib.hid hl
      obtain ⟨X, hX⟩ : ∃ X, frB (0, b) = X := ⟨_, rfl⟩
      have hXl : X.length ≤ 65546 := by rw [← hX, fr_len]; show b.length + 10 ≤ _; omega
      rw [hX] at HONE
      have HX := Lib.hid hX
      simp only at HONE ⊢
      have hbi : (b.length : Int) ≤ 65536 := by omega
      clear h hr hone hl hX
      go_enter Tryz.func123, Tryz.ntmps123
      go_wp2_with fail
      refine HONE.out.mono ?_
      rintro e w1 ⟨A1, c1, rfl, ho, hb⟩
      simp only at ho ⊢
      obtain ⟨FD, FR, vs, R, cR, h1, h2, h3, hlg⟩ := HAT.out.below hb
      have HLG := Lib.hid hlg
      have HB := Lib.hid hb
      have HRP := Lib.hid (replace_any FD g q X.length w1.heap.size c1 _ _ X A1 rfl (by omega) w1 hlg.dk (Row.of_own ho) (Nat.le_refl _))
      clear ho hb h1 h2 h3 hlg HONE
      go_wp2_with fail
      refine HRP.out.mono ?_
      rintro e w2 ⟨rfl, F2, hf, hd, ht⟩
      have hl2 := HLG.out.disk hf hd ht
      have HL2 := Lib.hid hl2.1
      have HT2 : Hid (Touch F w w2) := Lib.hid ((Touch.ofBelow HB.out).trans hl2.2 (fun k hk => Or.inl hk))
      have HF2 : Hid (∀ k, (F k ∨ w1.heap.size ≤ k) ∧ k < w2.heap.size → F k ∨ w.heap.size ≤ k) := Lib.hid fun k hk => by
        rcases hk.1 with h | h
        · exact Or.inl h
        · exact Or.inr (Nat.le_trans HB.out.size h)
      have HCL := Lib.hid (clone_any w2.heap.size c A0 b b.length rfl w2 (HR.out.touch HT2.out).row (Nat.le_refl _) (by omega))
      have d3 := dka_c3 hd
      clear hf hd ht hl2 HRP HLG
      go_wp2_with fail
      refine HCL.out.mono ?_
      rintro e w3 ⟨A3, c3, rfl, ho, hb⟩
      have hal : Below w3.heap.size w3 (w3.alloc (.cells #[.int .u8 0, .slice A3 b.length c3] 168)) := (Below.refl _ _).alloc (Nat.le_refl _) _
      have hb4 : Below w2.heap.size w2 (w3.alloc (.cells #[.int .u8 0, .slice A3 b.length c3] 168)) := hb.trans (hal.mono hb.size)
      have hown : (w3.alloc (.cells #[.int .u8 0, .slice A3 b.length c3] 168)).ownsRow w3.heap.size 168 2 (.slice (some ⟨w3.heap.size, 0, none⟩) 1 1) 1 (recsC [((0, A3, b, c3) : RecV)]) := own_litR w3 (0, A3, b, c3) b.length rfl
      have hrec : RecsO (w3.alloc (.cells #[.int .u8 0, .slice A3 b.length c3] 168)) w2.heap.size [((0, A3, b, c3) : RecV)] := recsO_one (r := (0, A3, b, c3)) (ownLater ho hal)
      have hS := HL2.out.setR (FR' := fun k => w2.heap.size ≤ k ∧ k < (w3.alloc (.cells #[.int .u8 0, .slice A3 b.length c3] 168)).heap.size) (vs' := [((0, A3, b, c3) : RecV)]) (R' := some ⟨w3.heap.size, 0, none⟩) (c' := 1) (w := w3.alloc (.cells #[.int .u8 0, .slice A3 b.length c3] 168))
        (HL2.out.dk.below hb4) (ownBase hown (Nat.zero_le _)) (recsO_base hrec (Nat.zero_le _)) (fun a ha => by injection ha with ha; subst ha; exact ⟨hb.size, by simp⟩)
        (fun r hr a ha => ⟨(ownIn (hrec r hr) ha).1, (ownIn (hrec r hr) ha).2.1⟩) (fun k hk => Or.inr hk.1) (fun k hk => hk.2) (Touch.ofBelow hb4)
      have hM := hS.1.setM 1
      have e3 := dka_c3 (HL2.out.dk.below hb4)
      have z3 := dka_z (HL2.out.dk.below hb4) 3
      have e4 := dka_c4 (HL2.out.dk.below hb4)
      have z4 := dka_z (HL2.out.dk.below hb4) 4
      have HEND : Hid (LgTo J (.int .i64 0) F g [(0, b)] 1 q w (.returned (.int .i64 0)) (((w3.alloc (.cells #[.int .u8 0, .slice A3 b.length c3] 168)).setCell ⟨g, 3, none⟩ (.slice (some ⟨w3.heap.size, 0, none⟩) 1 1)).setCell ⟨g, 4, none⟩ (.int .i64 1))) := Lib.hid (by
        have hfg := HL2.out.sub g (Or.inl (dka_fg HL2.out.dk))
        have hM2 := hM
        rw [show X = allB (([(0, b)] : List Rc).take 1) by rw [← HX.out]; exact (all_one _).symm] at hM2
        refine ⟨rfl, _, fun k hk => ?_, ⟨_, _, [((0, A3, b, c3) : RecV)], some ⟨w3.heap.size, 0, none⟩, 1, rfl, ?_, by simp, hM2⟩, (HT2.out.trans hS.2 HF2.out).set_ (p := ⟨g, 4, none⟩) (HF2.out g hfg) _⟩
        · rcases hk.1 with h | h
          · exact HF2.out k h
          · exact Or.inr (Nat.le_trans HT2.out.size h)
        · intro r hr
          have : r = (0, b) := by simpa using hr
          subst this
          have := HL.out
          show b.length ≤ 65536
          omega)
      clear ho hb hal hb4 hown hrec hS hM HL2 HT2 HF2 d3
      go_wp2
      go_ret
      exact HEND.out
  have HS := Lib.hid hrep
  obtain ⟨S, hS⟩ : ∃ S, snapS rs m b = S := ⟨_, rfl⟩
  rw [hS] at HS ⊢
  clear hrep h hr hS hn
  go_enter Tryz.func90, Tryz.ntmps90
  go_wp2_with fail
  refine HS.out.mono ?_
  intro e w1 hx
  have HX := Lib.hid hx
  obtain ⟨rfl, _⟩ := hx
  go_wp2
  go_ret
  exact HX.out
end Go.Proofs.YtkdpfjenjcpcfaaGreatDoor
namespace Go.Proofs.YtkdpfjenjcpcfaaGreatDoor
open Go.RowKit Mem Be Word Frm
set_option maxRecDepth 10000
set_option maxHeartbeats 2000000
set_option linter.unusedVariables false
variable {J : LgK}
theorem empty_ownR (w : World) : (w.alloc (.cells #[] 168)).ownsRow w.heap.size 168 2 (.slice (some ⟨w.heap.size, 0, none⟩) 0 0) 0 (recsC []) :=
  ⟨rfl, Or.inr ⟨w.heap.size, 0, #[], rfl, Nat.le_refl _, heap_alloc_new w _, Nat.le_refl _, by unfold maxLen; omega, rfl, rfl⟩⟩
theorem eql_nilR (A : Option Addr) (n c : Nat) (W : World) : (binOp .eql 30 (.slice A n c) (.slice none 0 0)).run Tryz.prog W = .ok (.bool A.isNone) W :=
  Lib.run_eql_slice_nil W 30 168 A n c 0 0 Tryz.underlying30
/-- The same records, in a new row; their bytes as they lay. -/
def CloneR (vs : List RecV) (w : World) (e : Ending) (w' : World) : Prop :=
  ∃ A c, e = .returned (.slice A vs.length c) ∧ w'.ownsRow w.heap.size 168 2 (.slice A vs.length c) vs.length (recsC vs) ∧ Below w.heap.size w w'
theorem cloneR_any (n c : Nat) (A : Option Addr) (vs : List RecV) (hn : n = vs.length) (w : World) (h : Row w w.heap.size A (recsC vs)) (hl : n ≤ 1000000000) :
    Calls Tryz.prog 198 #[.slice A n c] w (CloneR vs w) := by
  subst hn
  rcases A with _ | a
  · have hv : vs = [] := by
      rcases h with h | ⟨b, o, e, _⟩
      · have := congrArg List.length h
        rw [recsC_len] at this
        exact List.eq_nil_of_length_eq_zero (by simp at this; omega)
      · cases e
    subst hv
    clear h hl
    have he := eql_nilR none 0 c
    go_enter Tryz.func198, Tryz.ntmps198
    go_wp2
    go_ret
    exact ⟨none, 0, rfl, World.ownsRow_nil _ _ _ _, Below.refl _ _⟩
  · have HR := Lib.hid (h.alloc (Nat.le_refl _) (.cells #[] 168))
    have HO := Lib.hid (empty_ownR w)
    clear h
    have he := eql_nilR (some a) vs.length c
    go_enter Tryz.func198, Tryz.ntmps198
    go_wp2_with (at_builtin; refine wpList_appR rfl _ _ rfl w.heap.size _ 0 [] rfl HO.out w.heap.size _ vs.length c vs rfl rfl HR.out (by omega) (by simp) ?_)
    intro A' c' w1 hown hg
    have HB : Hid (Below w.heap.size w w1) := Lib.hid (((Below.refl _ _).alloc (Nat.le_refl _) _).grown hg (by simp) (fun g hg => by simp [Value.ownBlock] at hg; omega))
    have HW := Lib.hid hown
    clear hown hg
    go_wp2
    go_ret
    refine ⟨A', c', by simp, ?_, HB.out⟩
    exact HW.out
/-- The same records, with bytes of their own, all in new memory. -/
def MadeR (rs : List Rc) (w : World) (e : Ending) (w' : World) : Prop :=
  ∃ (us : List RecV) (A : Option Addr) (c : Nat), us.map rcOf = rs ∧ e = .returned (.slice A us.length c) ∧ w'.ownsRow w.heap.size 168 2 (.slice A us.length c) us.length (recsC us) ∧ RecsO w' w.heap.size us ∧ Below w.heap.size w w'
theorem recsC_set (ns tl : List RecV) (k : UInt8) (A A2 : Option Addr) (y : List UInt8) (c c2 : Nat) :
    (recsC (ns ++ (k, A, y, c) :: tl)).set (ns.length * 2 + 1) (.slice A2 y.length c2) = recsC (ns ++ (k, A2, y, c2) :: tl) := by
  rw [recsC_app, recsC_app, List.set_append_right _ _ (by rw [recsC_len]; omega), recsC_len]
  rw [show ns.length * 2 + 1 - ns.length * 2 = 1 by omega]
  rfl
theorem copyof_any (n c : Nat) (A : Option Addr) (vs : List RecV) (hn : n = vs.length) (w : World) (h : Row w w.heap.size A (recsC vs)) (hr : Recs_ w vs) (hl : n ≤ 1000000000) (hb : ∀ r ∈ vs, r.2.2.1.length ≤ 140737488355328) :
    Calls Tryz.prog 178 #[.slice A n c] w (MadeR (vs.map rcOf) w) := by
  have HCL := Lib.hid (cloneR_any n c A vs hn w h hl)
  have HRS := Lib.hid hr
  have HBL := Lib.hid hb
  have HN := Lib.hid hn
  have hni : (n : Int) ≤ 1000000000 := by omega
  clear h hr hb hn hl
  go_enter Tryz.func178, Tryz.ntmps178
  go_wp2_with fail
  refine HCL.out.mono ?_
  rintro e w1 ⟨A1, c1, rfl, ho, hb⟩
  have HO := Lib.hid ho
  have HB := Lib.hid hb
  rw [← HN.out] at HO ⊢
  clear ho hb HCL
  go_wp2_with fail
  go_loopw [10] (fun i wr => ∃ (j : Nat) (ns : List RecV), j ≤ n ∧ i = .int .i64 j ∧ ns.length = j ∧ Hid (ns.map rcOf = (vs.take j).map rcOf) ∧ Hid (wr.ownsRow w.heap.size 168 2 (.slice A1 n c1) n (recsC (ns ++ vs.drop j))) ∧ Hid (RecsO wr w.heap.size ns) ∧ Hid (Below w.heap.size w wr)) (fun i _ => n - (intOf i).toNat)
  case atStart => exact ⟨0, [], by omega, rfl, rfl, Lib.hid rfl, HO, Lib.hid (recsO_nil _ _), HB⟩
  case round =>
    obtain ⟨j, ns, hj, rfl, hnl, HM, HOW, HRO, HBW⟩ := hrel
    by_cases hlt : j < n
    · have hj1 : j < vs.length := by rw [← HN.out]; exact hlt
      have hd : vs.drop j = vs[j] :: vs.drop (j + 1) := List.drop_eq_getElem_cons hj1
      have hsn : (vs.take (j + 1)).map rcOf = (vs.take j).map rcOf ++ [rcOf vs[j]] := by rw [List.take_succ_eq_append_getElem hj1, List.map_append]; rfl
      have hrow := HRS.out vs[j] (List.getElem_mem hj1)
      have hbl := HBL.out vs[j] (List.getElem_mem hj1)
      obtain ⟨⟨k, A2, y, c2⟩, hy⟩ : ∃ y, vs[j] = y := ⟨_, rfl⟩
      rw [hy] at hd hsn hrow hbl
      simp only at hrow hbl
      have how := HOW.out
      rw [hd] at how
      obtain ⟨b, rfl⟩ : ∃ b, A1 = some ⟨b, 0, none⟩ := by
        rcases how.2 with ⟨_, hn0⟩ | ⟨b, cap, cur, hv, _⟩
        · omega
        · injection hv with hv; exact ⟨b, hv⟩
      have hlen : (recsC (ns ++ (k, A2, y, c2) :: vs.drop (j + 1))).length = n * 2 := how.1
      have hcell : ∀ i, i < 2 → wr.cell? ⟨b, j * 2 + i, none⟩ = (recC (k, A2, y, c2))[i]? := fun i hi => by
        rw [how.cellAt (j * 2 + i) (by omega), recsC_app, List.getElem?_append_right (by rw [recsC_len]; omega), recsC_len, hnl, show j * 2 + i - j * 2 = i by omega]
        show (recC (k, A2, y, c2) ++ recsC (vs.drop (j + 1)))[i]? = _
        rw [List.getElem?_append_left (by show i < 2; exact hi)]
      have f0 : wr.cell? ⟨b, j * 2, none⟩ = some (.int .u8 (k.toNat : Int)) := hcell 0 (by omega)
      have f1 : wr.cell? ⟨b, j * 2 + 1, none⟩ = some (.slice A2 y.length c2) := hcell 1 (by omega)
      have hbw : w.heap.size ≤ b := (ownIn how rfl).1
      have hbl2 : b < wr.heap.size := block_lt f0
      have HCY : Hid (∀ W, Below w.heap.size w W → Calls Tryz.prog 71 #[.slice A2 y.length c2] W (Made W.heap.size y W)) := Lib.hid fun W hb =>
        clone_any w.heap.size c2 A2 y y.length rfl W (hrow.below hb) hb.size hbl
      have hal : Below wr.heap.size wr (wr.alloc (.cells #[.int .u8 (k.toNat : Int), .slice A2 y.length c2] 168)) := (Below.refl _ _).alloc (Nat.le_refl _) _
      have HAL := Lib.hid hal
      have HOW2 := Lib.hid how
      have HSN := Lib.hid hsn
      have hji : (0 : Int) ≤ (j : Int) := by omega
      have hji2 : (j : Int) < (n : Int) := by omega
      clear hd hsn hrow hbl hy how hlen hcell hal HOW
      go_wp2_with fail
      refine (HCY.out _ (HBW.out.trans (HAL.out.mono HBW.out.size))).mono ?_
      rintro e w2 ⟨A3, c3, rfl, ho, hb⟩
      have hb2 : Below wr.heap.size wr w2 := HAL.out.trans (hb.mono HAL.out.size)
      have how2 := ownLater HOW2.out hb2
      have hst := (how2.stored (j * 2 + 1) (.slice A3 y.length c3)).1
      rw [← hnl, recsC_set, hnl] at hst
      have hfz := how2.frozenAt (j * 2 + 1)
      have g1 : w2.cell? ⟨b, j * 2 + 1, none⟩ = some (.slice A2 y.length c2) := (hb2.cell (p := ⟨b, j * 2 + 1, none⟩) hbl2).trans f1
      have hne : ∀ a, A3 = some a → a.block ≠ b := fun a ha => by
        have h1 := (ownIn ho ha).1
        simp at h1
        omega
      have hset : ∀ k, k ≠ b → (w2.setCell ⟨b, j * 2 + 1, none⟩ (.slice A3 y.length c3)).heap[k]? = w2.heap[k]? := fun k hk => Below.heap_setCell w2 ⟨b, j * 2 + 1, none⟩ _ k hk
      have HRO2 : Hid (RecsO (w2.setCell ⟨b, j * 2 + 1, none⟩ (.slice A3 y.length c3)) w.heap.size (ns ++ [(k, A3, y, c3)])) := Lib.hid fun r hr => by
        rcases List.mem_append.1 hr with hr | hr
        · have h1 := ownLater (HRO.out r hr) hb2
          refine ownKeep h1 fun a ha => hset _ fun e => ?_
          obtain ⟨_, _, cur, hh⟩ := ownIn h1 ha
          rcases how2.2 with ⟨h3, _⟩ | ⟨g', cap', cur', h3, _, hh', _⟩
          · cases h3
          · injection h3 with h3
            injection h3 with h3
            injection h3 with h3
            rw [e, h3, hh'] at hh
            injection hh with hh
            injection hh with _ ht
            exact absurd ht (by decide)
        · have : r = (k, A3, y, c3) := by simpa using hr
          subst this
          exact ownKeep (ownBase ho (Nat.le_trans HBW.out.size HAL.out.size)) fun a ha => hset _ (hne a ha)
      have HB2 : Hid (Below w.heap.size w (w2.setCell ⟨b, j * 2 + 1, none⟩ (.slice A3 y.length c3))) := Lib.hid ((HBW.out.trans (hb2.mono HBW.out.size)).setCell (p := ⟨b, j * 2 + 1, none⟩) hbw _)
      have HST := Lib.hid hst
      clear ho hb hb2 how2 hst hne hset f0 f1 HOW2 HAL HCY HBW HRO
      go_wp2
      go_roundw
      case rel => exact ⟨j + 1, ns ++ [(k, A3, y, c3)], by omega, by go_num, by simp [hnl], Lib.hid (by rw [List.map_append, HM.out, HSN.out]; rfl), Lib.hid (by rw [List.append_assoc]; exact HST.out), HRO2, HB2⟩
      case measure => simp [intOf]; omega
    · obtain rfl : j = n := by omega
      have ht : vs.take j = vs := List.take_of_length_le (by rw [← HN.out]; omega)
      have hdr : vs.drop j = [] := List.drop_eq_nil_of_le (by rw [← HN.out]; omega)
      have hst := HOW.out
      rw [hdr, List.append_nil] at hst
      have hm := HM.out
      rw [ht] at hm
      have HM2 := Lib.hid hm
      have HST := Lib.hid hst
      clear ht hdr hst hm HM HOW
      go_wp2
      go_ret
      exact ⟨ns, A1, c1, HM2.out, by rw [hnl]; rfl, by rw [hnl]; exact HST.out, HRO.out, HBW.out⟩
end Go.Proofs.YtkdpfjenjcpcfaaGreatDoor
