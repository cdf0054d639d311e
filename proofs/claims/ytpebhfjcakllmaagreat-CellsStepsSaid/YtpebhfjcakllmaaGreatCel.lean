/- Cells: what a cell holds, the pure table of them; a map of cells in memory: asking, storing, taking off, ranging, at the operations. -/
import Derived.Test.YtpebhfjcakllmaaGreatTb8
namespace Go.Proofs.YtpebhfjcakllmaaGreat
open Go.RowKit Mem Be Go.Maps
set_option maxRecDepth 10000
set_option maxHeartbeats 1000000
set_option linter.unusedVariables false
/-- A cell: its entry; is it whole, clean; when it was used. -/
structure CP where
  e : EntP
  wh : Bool
  cl : Bool
  us : Int
/-- A cell in memory: where its bytes lie, with how much room. -/
abbrev CV := CP × Option Addr × Nat
def cV (x : CV) : Value := .agg #[.string ⟨x.1.e.k.toArray⟩, .int .i64 x.1.e.s, .int .i64 x.1.e.u, .int .i64 x.1.e.o, .bool x.1.e.has, .slice x.2.1 x.1.e.v.length x.2.2, .bool x.1.wh, .bool x.1.cl, .int .i64 x.1.us]
def cpN (k : List UInt8) : CP := ⟨entN k, false, false, 0⟩
def cvN (k : List UInt8) : CV := (cpN k, none, 0)
abbrev kP (x : CP) : List UInt8 := x.e.k
abbrev kC (x : CV) : List UInt8 := x.1.e.k
def RvC (v : Value) : Option (DataW Value × List MemPlace) := some (.held v, [])
def tbPC (x : CV) : Lit × DataW Value := (.string x.1.e.k, .held (cV x))
def tbDC (T : List CV) : DataW Value := .map (T.map tbPC)
theorem law11 : Keyed Tryz.prog 9 := string_keyed Tryz.underlying9
theorem tb_anyC (T : List CV) (k : List UInt8) : Maps.has (tbDC T) (.string k) = (getK kC T k).isSome := by
  unfold tbDC getK
  rw [Maps.has_eq, List.any_map]
  induction T with
  | nil => rfl
  | cons x r ih =>
    rw [List.any_cons, List.find?_cons]
    cases h : (x.1.e.k == k)
    · rw [show ((fun p : Lit × DataW Value => p.1.sameKey (.string k)) ∘ tbPC) x = false from h, ih]; rfl
    · rw [show ((fun p : Lit × DataW Value => p.1.sameKey (.string k)) ∘ tbPC) x = true from h]; rfl
theorem tb_atC (T : List CV) (k : List UInt8) (z : DataW Value) : (tbDC T).atKey (.string k) z = match getK kC T k with | some x => .held (cV x) | none => z := by
  unfold tbDC getK DataW.atKey
  simp only
  induction T with
  | nil => rfl
  | cons x r ih =>
    rw [List.map_cons, List.find?_cons, List.find?_cons]
    cases h : (x.1.e.k == k)
    · rw [show (tbPC x).1.sameKey (.string k) = false from h]
      exact ih
    · rw [show (tbPC x).1.sameKey (.string k) = true from h]; rfl
theorem tb_insC (x : CV) : ∀ T : List CV, DataW.insert (tbPC x) (T.map tbPC) = (insK kC x T).map tbPC
  | [] => rfl
  | y :: r => by
    rw [List.map_cons]
    unfold DataW.insert insK
    rw [show (tbPC x).1.before (tbPC y).1 = bytesBefore x.1.e.k y.1.e.k from rfl]
    split
    · rfl
    · rw [tb_insC x r]; rfl
theorem tb_strikeC (k : List UInt8) (T : List CV) : ((T.map tbPC).filter fun p => !p.1.sameKey (.string k)) = (delK kC k T).map tbPC := by
  unfold delK
  rw [List.filter_map]
  rfl
theorem tb_putC (T : List CV) (x : CV) : (tbDC T).put (.string x.1.e.k) (.held (cV x)) = tbDC (putK kC T x) := by
  show DataW.map (DataW.insert (tbPC x) ((T.map tbPC).filter fun p => !p.1.sameKey (.string x.1.e.k))) = _
  rw [tb_strikeC, tb_insC]; rfl
theorem tb_delC (T : List CV) (k : List UInt8) : (tbDC T).del (.string k) = tbDC (delK kC k T) := by
  show DataW.map ((T.map tbPC).filter fun p => !p.1.sameKey (.string k)) = _
  rw [tb_strikeC]; rfl
theorem tb_sizeC (T : List CV) : Maps.size (tbDC T) = T.length := by unfold tbDC; rw [Maps.size_eq, List.length_map]
theorem tb_keysC (T : List CV) : strKeys (tbDC T) = T.map kC := by
  unfold tbDC strKeys
  simp only [List.map_map]
  rfl
/-- Block b is a map that has the entries of T. -/
def TabBC (w : World) (b : Nat) (T : List CV) : Prop := w.ownsMap Tryz.prog 9 RvC b T.length (tbDC T)
/-- A map, or nil, that has the entries of T. -/
def TabMC (w : World) (mo : Option Nat) (T : List CV) : Prop := (mo = none ∧ T = []) ∨ ∃ b, mo = some b ∧ TabBC w b T
theorem own_tightC {w : World} {b n : Nat} {T : List CV} (h : w.ownsMap Tryz.prog 9 RvC b n (tbDC T)) : TabBC w b T := by
  obtain ⟨es, clock, hb, hF, hs, hD⟩ := h
  refine ⟨es, clock, hb, hF, ?_, hD⟩
  have := congrArg Maps.size hD
  rw [tb_sizeC, Maps.size_eq, length_sorted, List.length_map] at this
  simp only [Array.length_toList] at this
  omega
theorem TabBC.lt {w : World} {b : Nat} {T : List CV} (h : TabBC w b T) : b < w.heap.size := World.ownsMap.lt h
theorem TabBC.keep {w w' : World} {b : Nat} {T : List CV} (h : TabBC w b T) (hk : w'.heap[b]? = w.heap[b]?) : TabBC w' b T := by
  obtain ⟨es, clock, hb, r⟩ := h
  exact ⟨es, clock, hk.trans hb, r⟩
theorem TabMC.keep {w w' : World} {mo : Option Nat} {T : List CV} (h : TabMC w mo T) (hk : ∀ b, mo = some b → w'.heap[b]? = w.heap[b]?) : TabMC w' mo T := by
  rcases h with h | ⟨b, h1, h2⟩
  · exact Or.inl h
  · exact Or.inr ⟨b, h1, h2.keep (hk b h1)⟩
theorem TabMC.lt {w : World} {mo : Option Nat} {T : List CV} (h : TabMC w mo T) : ∀ b, mo = some b → b < w.heap.size := by
  rcases h with ⟨h, _⟩ | ⟨b, h1, h2⟩
  · intro b hb; rw [h] at hb; cases hb
  · intro b' hb; rw [h1] at hb; injection hb with hb; subst hb; exact h2.lt
theorem TabMC.below {w w' : World} {mo : Option Nat} {T : List CV} (h : TabMC w mo T) (hb : Below w.heap.size w w') : TabMC w' mo T := h.keep fun b he => hb.block b (h.lt b he)
theorem TabBC.made (w : World) : TabBC (w.alloc (.map #[] 0)) w.heap.size [] := World.ownsMap_made w Tryz.prog 9 RvC
/-- A map's block is no block of cells. -/
theorem TabBC.ne {w : World} {b g : Nat} {T : List CV} {cs : Array Value} {t : TypeId} {f : Nat × Nat} (h : TabBC w b T) (hg : w.heap[g]? = some (.cells cs t f)) : b ≠ g := by
  obtain ⟨es, clock, hb, _⟩ := h
  rintro rfl
  rw [hb] at hg; cases hg
theorem zeroE8C (w : World) : (zeroValue 88).run Tryz.prog w = .ok (cV (cvN [])) w := by kernel_rfl
/-- What a look-up gives. -/
def lookVC (T : List CV) (k : List UInt8) : Value := match getK kC T k with | some x => cV x | none => cV (cvN [])
theorem look_runC {w : World} {mo : Option Nat} {T : List CV} (h : TabMC w mo T) {k : List UInt8} (hk : k.length ≤ maxLen) (c : Bool) :
    (Instr.lookup 71 (.map mo) (.string ⟨k.toArray⟩) c).run Tryz.prog w = .ok (if c then .tuple #[lookVC T k, .bool (getK kC T k).isSome] else lookVC T k) w := by
  have hkey : keyOf Tryz.prog 9 (.string ⟨k.toArray⟩) = some (.string k) := by
    have := Go.WideMaps.keyOf_string_mk (P := Tryz.prog) (k := 9) Tryz.underlying9 (s := ⟨k.toArray⟩) (by show k.toArray.size ≤ maxLen; simpa using hk)
    simpa using this
  rcases h with ⟨rfl, rfl⟩ | ⟨b, rfl, h⟩
  · have := Maps.look_nil (P := Tryz.prog) (w := w) (t := 71) (e := 88) c law11 Tryz.underlying71 (zeroE8C w) hkey
    exact this
  · have hinj : ∀ {v : Value} {ps : List MemPlace}, RvC v = some ((tbDC T).atKey (.string k) (.held (cV (cvN []))), ps) → v = lookVC T k := fun {v ps} hv => by
      unfold RvC at hv
      injection hv with hv
      injection hv with hv _
      rw [tb_atC] at hv
      unfold lookVC
      cases hg : getK kC T k with
      | none => rw [hg] at hv; injection hv
      | some x => rw [hg] at hv; injection hv
    cases c
    · obtain ⟨v, ps, hrun, hv⟩ := World.ownsMap.lookup (t := 71) (e := 88) h law11 Tryz.underlying71 (zeroE8C w) (zd := .held (cV (cvN []))) (zp := []) rfl hkey
      rw [hrun, hinj hv]; rfl
    · obtain ⟨v, ps, hrun, hv⟩ := World.ownsMap.look_ok (t := 71) (e := 88) h law11 Tryz.underlying71 (zeroE8C w) (zd := .held (cV (cvN []))) (zp := []) rfl hkey
      rw [hrun, hinj hv, tb_anyC]; rfl
theorem key_runC {k : List UInt8} (hk : k.length ≤ maxLen) : keyOf Tryz.prog 9 (.string ⟨k.toArray⟩) = some (.string k) := by
  have := Go.WideMaps.keyOf_string_mk (P := Tryz.prog) (k := 9) Tryz.underlying9 (s := ⟨k.toArray⟩) (by show k.toArray.size ≤ maxLen; simpa using hk)
  simpa using this
theorem put_runC {w : World} {b : Nat} {T : List CV} (h : TabBC w b T) (x : CV) (hk : x.1.e.k.length ≤ maxLen) (hn : T.length < maxLen) :
    ∃ w', (Instr.mapUpdate 71 (.map (some b)) (.string ⟨x.1.e.k.toArray⟩) (cV x)).run Tryz.prog w = .ok () w' ∧ TabBC w' b (putK kC T x) ∧ w.mapTurned w' b := by
  obtain ⟨w', h1, h2, h3⟩ := World.ownsMap.store (t := 71) (e := 88) h law11 Tryz.underlying71 hn (key_runC hk) (val := cV x) (d := .held (cV x)) (ps := []) rfl
  rw [tb_putC] at h2
  exact ⟨w', h1, own_tightC h2, h3⟩
/-- A store into a map within a region that draws. -/
theorem step_putC {ops : Array Oper} {o : Oper} {a : Act} {K : Act → World → Prop} {Q : Exit → Act → World → Prop} {E : Prop} {w : World} (hgd : o.guard = none) (m x v : Operand) (ho : o.op = Op.mapUpdate 71 m x v)
    (b : Nat) (T : List CV) (h : TabBC w b T) (y : CV) (hk : y.1.e.k.length ≤ maxLen) (hn : T.length < maxLen) (hm : a.eval m = .map (some b)) (hx : a.eval x = .string ⟨y.1.e.k.toArray⟩) (hv : a.eval v = cV y)
    (hK : ∀ w', TabBC w' b (putK kC T y) → w.mapTurned w' b → K (a.put o.dst undef) w') :
    if Region.wanted o (yielded ops a.tmps) = true then Oper.wp Tryz.prog o a w K Q else E := by
  have hw : Region.wanted o (yielded ops a.tmps) = true := by simp [Region.wanted, hgd]
  rw [if_pos hw]
  obtain ⟨w', hrun, h2, h3⟩ := put_runC h y hk hn
  unfold Oper.wp execOp
  simp only [ho, hm, hx, hv, hrun, Sem.run_bind, Sem.run_pure, Result.andThen_ok]
  exact hK w' h2 h3
/-- A loop over a table under way: which keys are still to come, and how many. -/
def RngBC (w : World) (b r n : Nat) (F : List CV) (left : Lit → Bool) (cnt : Nat) : Prop := w.ranges Tryz.prog 9 RvC b r n (tbDC F) left cnt
theorem rng_startC {w : World} {b : Nat} {F : List CV} (h : TabBC w b F) : ∃ w', (Instr.range 71 (.map (some b))).run Tryz.prog w = .ok (.pointer (some ⟨w.heap.size, 0, none⟩)) w' ∧ RngBC w' b w.heap.size F.length F (Maps.has (tbDC F)) F.length ∧ Below w.heap.size w w' ∧ w'.heap.size = w.heap.size + 1 := by
  obtain ⟨w', h1, h2, h3, h4⟩ := World.ownsMap.range (t := 71) (e := 88) h law11 Tryz.underlying71
  rw [tb_sizeC] at h2
  exact ⟨w', h1, h2, ⟨h3.os, h3.tape, h3.output, h3.size, fun k hk => h3.block k hk (by simp)⟩, h4⟩
theorem rng_nextC {w : World} {b r n cnt : Nat} {F : List CV} {left : Lit → Bool} (hS : SortT kC F) (h : RngBC w b r n F left cnt) (ty : TypeId) :
    (cnt = 0 ∧ (∀ k, left k = false) ∧ (Instr.next (.pointer (some ⟨r, 0, none⟩)) false ty).run Tryz.prog w = .ok (.tuple #[.bool false]) w) ∨
    ∃ x w' cnt', x ∈ F ∧ left (.string x.1.e.k) = true ∧ (Instr.next (.pointer (some ⟨r, 0, none⟩)) false ty).run Tryz.prog w = .ok (.tuple #[.bool true, .string ⟨x.1.e.k.toArray⟩, cV x]) w' ∧ RngBC w' b r n F (fun z => left z && !z.sameKey (.string x.1.e.k)) cnt' ∧ cnt' < cnt ∧
      w.grownBy w' (some r) ∧ w'.heap.size = w.heap.size ∧ (Instr.entry (.pointer (some ⟨r, 0, none⟩))).run Tryz.prog w' = .ok (.tuple #[.string ⟨x.1.e.k.toArray⟩, cV x]) w' := by
  rcases World.ranges.next h law11 ty with ⟨h0, hl, hrun⟩ | ⟨key, v, kl, y, w', cnt', hkey, hlk, hv, hat, hrun, hrg, hlt, hgr, hsz, hen⟩
  · exact Or.inl ⟨h0, hl, hrun⟩
  · obtain ⟨k, rfl, rfl, hkl⟩ := Maps.keyOf_str Tryz.underlying9 hkey
    have h1 := hat .nil
    rw [tb_atC] at h1
    unfold RvC at hv
    injection hv with hv
    subst hv
    cases hg : getK kC F k with
    | none => rw [hg] at h1; cases h1
    | some x =>
      rw [hg] at h1
      simp only at h1
      injection h1 with h1
      obtain ⟨hx1, hx2⟩ := get_some hg
      subst h1
      have hx2 : x.1.e.k = k := hx2
      subst hx2
      exact Or.inr ⟨x, w', cnt', hx1, hlk, hrun, hrg, hlt, hgr, hsz, hen⟩
theorem RngBC.keep {w w' : World} {b r n cnt : Nat} {F : List CV} {left : Lit → Bool} (h : RngBC w b r n F left cnt) {row : Option Nat} (hg : w.grownBy w' row) (h1 : some b ≠ row) (h2 : some r ≠ row) : RngBC w' b r n F left cnt := World.ranges.kept h hg h1 h2
theorem has_iffC {F : List CV} {k : List UInt8} : Maps.has (tbDC F) (.string k) = (getK kC F k).isSome := tb_anyC F k
/-- What a table holds when those of F that are no longer to come stand in place of T's. -/
def Part8C (T F D : List CV) (left : Lit → Bool) : Prop := SortT kC D ∧ ∀ k, getK kC D k = if (getK kC F k).isSome = true ∧ left (.string k) = false then getK kC F k else getK kC T k
theorem part_startC {T F : List CV} (hT : SortT kC T) : Part8C T F T (Maps.has (tbDC F)) := ⟨hT, fun k => by
  rw [has_iffC]
  cases getK kC F k <;> simp⟩
theorem part_stepC {T F D : List CV} {left : Lit → Bool} {x : CV} (hF : SortT kC F) (h : Part8C T F D left) (hx : x ∈ F) : Part8C T F (putK kC D x) (fun z => left z && !z.sameKey (.string x.1.e.k)) := by
  refine ⟨put_sort h.1, fun k => ?_⟩
  rw [get_put, h.2 k]
  by_cases hk : kC x = k
  · subst hk
    rw [if_pos rfl, get_mem hF hx]
    simp [Lit.sameKey]
  · rw [if_neg hk]
    have : (Lit.string k).sameKey (.string x.1.e.k) = false := by
      show (k == x.1.e.k) = false
      simpa using fun e : k = x.1.e.k => hk e.symm
    simp only [this, Bool.not_false, Bool.and_true]
theorem part_endC {T F D : List CV} {left : Lit → Bool} (hT : SortT kC T) (hF : SortT kC F) (h : Part8C T F D left) (hl : ∀ k, left k = false) : D = mergeT kC T F := by
  refine ext_tab h.1 (merge_sort hT) fun k => ?_
  rw [h.2 k, get_merge hF, hl]
  cases getK kC F k <;> simp
theorem tabB_grownC {w w' : World} {b : Nat} {T : List CV} {row : Option Nat} (h : TabBC w b T) (hg : w.grownBy w' row) (hr : some b ≠ row) : TabBC w' b T := h.keep (hg.block b h.lt hr)
theorem len_runC {w : World} {mo : Option Nat} {T : List CV} (h : TabMC w mo T) (ty : TypeId) : (Builtin.len_ #[71] ty #[.map mo]).run Tryz.prog w = .ok (.int .i64 (T.length : Int)) w := by
  rcases h with ⟨rfl, rfl⟩ | ⟨b, rfl, h⟩
  · exact Maps.len_nil (P := Tryz.prog) (w := w) Tryz.underlying71 ty
  · have := World.ownsMap.len (e := 88) (t := 71) h Tryz.underlying71 ty
    rwa [tb_sizeC] at this
theorem rng_keep2C {w w' : World} {b r n cnt : Nat} {F : List CV} {left : Lit → Bool} (h : RngBC w b r n F left cnt) (hb : w'.heap[b]? = w.heap[b]?) (hr : w'.heap[r]? = w.heap[r]?) : RngBC w' b r n F left cnt := by
  obtain ⟨es, clock, since, seen, c0, h1, h2, h3, h4, h5, h6⟩ := h
  exact ⟨es, clock, since, seen, c0, hb.trans h1, h2, h3, h4, hr.trans h5, h6⟩
theorem rng_ownsC {w : World} {b r n cnt : Nat} {F : List CV} {left : Lit → Bool} (h : RngBC w b r n F left cnt) : TabBC w b F := own_tightC (World.ranges.owns h)
theorem drop_runC {w : World} {b : Nat} {T : List CV} (h : TabBC w b T) {k : List UInt8} (hk : k.length ≤ maxLen) (ty : TypeId) :
    ∃ w', (Builtin.delete_ #[71, 9] ty #[.map (some b), .string ⟨k.toArray⟩]).run Tryz.prog w = .ok (.tuple #[]) w' ∧ TabBC w' b (delK kC k T) ∧ w.mapTurned w' b := by
  obtain ⟨w', h1, h2, h3⟩ := World.ownsMap.drop (t := 71) (e := 88) h law11 Tryz.underlying71 (key_runC hk) ty
  rw [tb_delC] at h2
  exact ⟨w', h1, own_tightC h2, h3⟩
end Go.Proofs.YtpebhfjcakllmaaGreat
