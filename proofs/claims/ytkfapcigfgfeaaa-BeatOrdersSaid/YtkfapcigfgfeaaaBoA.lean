/- BoA: Rows of beats that come in; how indexes are put in order by scores: one is laid behind those that are no less, by place. -/
import Derived.Test.YtkfapcigfgfeaaaBtI
import Derived.Deep.Slices
import Derived.Deep.Fields
namespace Go.Proofs.Ytkfapcigfgfeaaa
open Go.RowKit Go.ChangeShapes Go.WideShapes Flo Mem
set_option maxRecDepth 100000
set_option maxHeartbeats 1000000
set_option linter.unusedVariables false
/-- Beats as they lie: the last time; where their times are, which, with how much room. -/
abbrev BtV := Int × Option Addr × List Int × Nat
def btC (r : BtV) : List Value := [.int .i64 r.1, .slice r.2.1 r.2.2.1.length r.2.2.2]
abbrev btsC (rs : List BtV) : List Value := rs.flatMap btC
theorem btsC_len (rs : List BtV) : (btsC rs).length = rs.length * 2 := by
  induction rs with
  | nil => rfl
  | cons p rs ih => simp only [btsC, List.flatMap_cons, List.length_append, btC, List.length_cons, List.length_nil]; have := ih; unfold btsC at this; omega
theorem btsC_at (rs : List BtV) (i : Nat) (h : i < rs.length) (j : Nat) (hj : j < 2) : (btsC rs)[i * 2 + j]? = (btC rs[i])[j]? := by
  induction rs generalizing i with
  | nil => simp at h
  | cons p rs ih =>
    have hc : btsC (p :: rs) = btC p ++ btsC rs := rfl
    rw [hc]
    have hl : (btC p).length = 2 := rfl
    rcases i with _ | i
    · rw [List.getElem?_append_left (by omega), Nat.zero_mul, Nat.zero_add]; rfl
    · rw [List.getElem?_append_right (by omega), hl, show (i + 1) * 2 + j - 2 = i * 2 + j by omega, ih i (by simpa using h)]
      rfl
theorem bts_open {w : World} {B : Nat} {A : Option Addr} {rs : List BtV} (h : Row w B A (btsC rs)) (hn : 0 < rs.length) :
    ∃ b o, A = some ⟨b, o, none⟩ ∧ b < B ∧ ∀ i (hi : i < rs.length), w.cell? ⟨b, o + i * 2, none⟩ = some (.int .i64 rs[i].1) ∧ w.cell? ⟨b, o + i * 2 + 1, none⟩ = some (.slice rs[i].2.1 rs[i].2.2.1.length rs[i].2.2.2) := by
  obtain ⟨b, o, hA, hb, hc⟩ := h.open_ (by rw [btsC_len]; omega)
  refine ⟨b, o, hA, hb, fun i hi => ?_⟩
  have key : ∀ j, j < 2 → w.cell? ⟨b, o + i * 2 + j, none⟩ = (btC rs[i])[j]? := fun j hj => by
    have hlt : i * 2 + j < (btsC rs).length := by rw [btsC_len]; omega
    rw [show o + i * 2 + j = o + (i * 2 + j) by omega, hc (i * 2 + j) hlt, ← btsC_at rs i hi j hj, List.getElem?_eq_getElem hlt]
  exact ⟨key 0 (by omega), key 1 (by omega)⟩
/-- The times of beats lie in a world. -/
def Bts_ (w : World) (rs : List BtV) : Prop := ∀ r ∈ rs, Row w w.heap.size r.2.1 (r.2.2.1.map fv) ∧ r.2.2.1.length ≤ r.2.2.2 ∧ ∀ x ∈ r.2.2.1, Word x
theorem bts_below {w w' : World} {rs : List BtV} (h : Bts_ w rs) (hb : Below w.heap.size w w') : Bts_ w' rs := fun r hr => ⟨((h r hr).1.below hb).more hb.size, (h r hr).2⟩
section
variable {H : Type} {enc : TypeId × Value → H} {P : Program} {w : World} {base : Nat} {held : Bool}
theorem trod_float15 {t : TypeId} {spare : Nat → Bool} {fuel : Nat} {cs : List Value} {x : DataW H × List MemPlace} {k : FloatKind} (ht : P.underlying t = some (.float k)) (h : DataW.trod enc P w base spare held fuel t cs = some x) : ∃ n, cs = [.float k n] ∧ (Lit.float k n).wf = true := by
  cases fuel with
  | zero => simp [DataW.trod] at h
  | succ n =>
    unfold DataW.trod at h
    rw [ht] at h
    split at h <;> simp_all
theorem open_floats1 {t e : TypeId} {fuel : Nat} {v : Value} {x : DataW H × List MemPlace} (ht : P.underlying t = some (.slice e)) (he : P.underlying e = some (.float .f64)) (hc : P.cellsOf e = 1)
    (h : DataW.trod enc P w base (fun _ => true) held fuel t [v] = some x) : ∃ (A : Option Addr) (ns : List Int) (c : Nat), v = .slice A ns.length c ∧ Row w w.heap.size A (ns.map fv) ∧ ns.length ≤ c ∧ ∀ z ∈ ns, Word z := by
  have hsh : ∃ a len cap, v = .slice a len cap := by
    rcases DataW.trod_slice ht h with ⟨hcs, _⟩ | ⟨a, len, cap, _, _, _, _, hcs, _⟩
    · exact ⟨none, 0, 0, by simpa using hcs⟩
    · exact ⟨some a, len, cap, by simpa using hcs⟩
  obtain ⟨a, len, cap, rfl⟩ := hsh
  obtain ⟨vs, hl, hr, h1, h2, hv⟩ := open_row1 ht hc h
  obtain ⟨zs, rfl, hz⟩ := list_of (f := fv) (Q := fun z => Word z) vs (fun v hvm => by
    obtain ⟨n, y, hy⟩ := hv v hvm
    obtain ⟨b, hb, hw⟩ := trod_float15 he hy
    have hlt : b < 18446744073709551616 := by simpa [Lit.wf] using hw
    exact ⟨(b : Int), by show v = Value.float .f64 b; simpa using hb, by unfold Word; omega⟩)
  rw [List.length_map] at hl
  subst hl
  exact ⟨a, zs, cap, rfl, hr, h1, hz⟩
theorem bt_cells {fuel : Nat} {c0 c1 : Value} {x : DataW H × List MemPlace} (h : DataW.trod enc Try.prog w base (fun _ => true) held fuel 27 [c0, c1] = some x) :
    ∃ r : BtV, c0 = .int .i64 r.1 ∧ c1 = .slice r.2.1 r.2.2.1.length r.2.2.2 ∧ Row w w.heap.size r.2.1 (r.2.2.1.map fv) ∧ r.2.2.1.length ≤ r.2.2.2 ∧ ∀ z ∈ r.2.2.1, Word z := by
  obtain ⟨xs, n, _, hx, _, hlen, hg⟩ := DataW.trod_struct Try.underlying27 h
  have e1 : Try.prog.cellsOf 3 = 1 := by kernel_rfl
  have e2 : Try.prog.cellsOf 25 = 1 := by kernel_rfl
  match xs, hlen with
  | [y0, y1], _ =>
    have h0 := hg 0 _ rfl
    have h1 := hg 1 _ rfl
    obtain ⟨k, hk, _, wk⟩ := DataW.trod_int Try.underlying3 (x := y0) (by simpa [e1, e2] using h0)
    have h1' : DataW.trod enc Try.prog w base (fun _ => true) held n 25 [c1] = some y1 := by simpa [e1, e2] using h1
    obtain ⟨A, ys, c, hr, ho⟩ := open_floats1 (x := y1) Try.underlying25 Try.underlying29 (by kernel_rfl) h1'
    subst hr
    exact ⟨(k, A, ys, c), by simpa using hk, rfl, ho⟩
theorem open_bts {a : Option Addr} {len cap : Nat} {d : DataW H} {ps : List MemPlace} (h : DataW.Trod enc Try.prog w base (fun _ => true) held 54 (.slice a len cap) d ps) :
    ∃ rs : List BtV, len = rs.length ∧ Row w w.heap.size a (btsC rs) ∧ Bts_ w rs := by
  obtain ⟨fuel, hf⟩ := h
  rcases Go.Deep.open_slice Try.underlying54 (by simpa [Value.cells] using hf) with ⟨hcs, _⟩ | ⟨x, l, c, m, n, D, Pl, hcs, _, hl, hm, hmm, hd, hx⟩
  · simp only [List.cons.injEq, and_true] at hcs
    injection hcs with h1 h2 h3
    subst h1; subst h2; subst h3
    exact ⟨[], rfl, Row.nil _ _ _, fun r h => by cases h⟩
  · simp only [List.cons.injEq, and_true] at hcs
    injection hcs with h1 h2 h3
    subst h1; subst h2; subst h3
    simp only [if_true] at hmm
    subst hmm
    have hC : Try.prog.cellsOf 27 = 2 := by kernel_rfl
    rw [hC] at hx
    obtain ⟨V, hV⟩ := Go.Deep.choose_lt (n := len) (α := BtV) (p := fun i r => (∀ j, j < 2 → w.cell? (x.add (i * 2 + j)) = (btC r)[j]?) ∧ Row w w.heap.size r.2.1 (r.2.2.1.map fv) ∧ r.2.2.1.length ≤ r.2.2.2 ∧ ∀ z ∈ r.2.2.1, Word z) (fun i hi => by
      obtain ⟨cs', h1, h2⟩ := hx i (by omega)
      obtain ⟨_, hlen, hat⟩ := World.cells?_some h1
      match cs', hlen with
      | [c0, c1], _ =>
        obtain ⟨r, rfl, rfl, hr⟩ := bt_cells h2
        refine ⟨r, fun j hj => ?_, hr⟩
        rw [← Go.Deep.add_add, hat j hj]
        rfl)
    refine ⟨(List.range len).map V, by simp, ?_, ?_⟩
    · rcases Nat.eq_zero_or_pos len with h0 | h0
      · subst h0; exact Or.inl rfl
      · have hc0 := (hV 0 h0).1 0 (by omega)
        have hc0' : w.cell? x = some (.int .i64 (V 0).1) := by
          have e : x.add (0 * 2 + 0) = x := by simp [Addr.add]
          rw [e] at hc0; exact hc0
        obtain ⟨b, o, spot⟩ := x
        have hspot : spot = none := World.cell?_spot hc0'
        subst hspot
        refine Or.inr ⟨b, o, rfl, block_lt hc0', fun j hj => ?_⟩
        have hj3 : j < len * 2 := by rw [btsC_len] at hj; simpa using hj
        have hi : j / 2 < len := by omega
        have hdd : j = j / 2 * 2 + j % 2 := by omega
        have hv := (hV (j / 2) hi).1 (j % 2) (by omega)
        rw [← hdd] at hv
        have e : (⟨b, o, none⟩ : Addr).add j = ⟨b, o + j, none⟩ := by
          unfold Addr.add; split
          · subst_vars; rfl
          · rfl
        rw [e] at hv
        have ht := btsC_at ((List.range len).map V) (j / 2) (by simpa using hi) (j % 2) (by omega)
        rw [← hdd, List.getElem?_eq_getElem hj] at ht
        rw [hv, ht, List.getElem_map, List.getElem_range]
    · intro r hr
      obtain ⟨i, hi, rfl⟩ := List.mem_map.1 hr
      exact (hV i (List.mem_range.1 hi)).2
end
/-! Orders. -/
/-- Where one is laid, of k that are there already: behind those from the begin on that p does not hold of. -/
def atE (p : Nat → Bool) : Nat → Nat
  | 0 => 0
  | k + 1 => if p k then atE p k else k + 1
theorem atE_le (p : Nat → Bool) (k : Nat) : atE p k ≤ k := by
  induction k with
  | zero => exact Nat.le_refl _
  | succ k ih => unfold atE; split <;> omega
theorem atE_hi (p : Nat → Bool) (k j : Nat) (h1 : atE p k ≤ j) (h2 : j < k) : p j = true := by
  induction k with
  | zero => omega
  | succ k ih =>
    unfold atE at h1
    split at h1
    · rename_i hp
      rcases Nat.lt_or_ge j k with h | h
      · exact ih h1 h
      · rw [show j = k by omega]; exact hp
    · omega
theorem atE_lo (p : Nat → Bool) (k : Nat) (h : 0 < atE p k) : p (atE p k - 1) = false := by
  induction k with
  | zero => exact absurd h (by simp [atE])
  | succ k ih =>
    by_cases hp : p k = true
    · have e : atE p (k + 1) = atE p k := by show (if p k then atE p k else k + 1) = _; rw [if_pos hp]
      rw [e] at h ⊢; exact ih h
    · have e : atE p (k + 1) = k + 1 := by show (if p k then atE p k else k + 1) = _; rw [if_neg hp]
      rw [e, Nat.add_sub_cancel]; simpa using hp
/-- Is the score of x less than that of e? -/
def lessS (sc : Nat → Int) (x e : Nat) : Bool := decide (cmpZ (sc x) (sc e) < 0)
def placeS (sc : Nat → Int) (l : List Nat) (e : Nat) : Nat := atE (fun k => lessS sc (l.getD k 0) e) l.length
def insS (sc : Nat → Int) (l : List Nat) (e : Nat) : List Nat := l.take (placeS sc l e) ++ e :: l.drop (placeS sc l e)
def ordS (sc : Nat → Int) : Nat → List Nat
  | 0 => []
  | k + 1 => insS sc (ordS sc k) k
theorem insS_len (sc : Nat → Int) (l : List Nat) (e : Nat) : (insS sc l e).length = l.length + 1 := by
  have := atE_le (fun k => lessS sc (l.getD k 0) e) l.length
  unfold insS placeS
  rw [List.length_append, List.length_cons, List.length_take, List.length_drop]; omega
theorem ordS_len (sc : Nat → Int) (k : Nat) : (ordS sc k).length = k := by
  induction k with
  | zero => rfl
  | succ k ih => show (insS sc (ordS sc k) k).length = _; rw [insS_len, ih]
theorem ordS_mem (sc : Nat → Int) (k : Nat) : ∀ x ∈ ordS sc k, x < k := by
  induction k with
  | zero => intro x hx; cases hx
  | succ k ih =>
    intro x hx
    have hx' : x ∈ insS sc (ordS sc k) k := hx
    unfold insS at hx'
    rcases List.mem_append.1 hx' with h | h
    · have := ih x (List.mem_of_mem_take h); omega
    · rcases List.mem_cons.1 h with h | h
      · omega
      · have := ih x (List.mem_of_mem_drop h); omega
/-- No score is greater than the one ahead. -/
def Desc (sc : Nat → Int) (l : List Nat) : Prop := l.Pairwise fun x y => ¬ cmpZ (sc x) (sc y) < 0
theorem cmpZ_lt (a b : Int) : cmpZ a b < 0 ↔ keyZ (canZ a) < keyZ (canZ b) := by
  unfold cmpZ
  have := cmp3_range (keyZ (canZ a)) (keyZ (canZ b))
  omega
theorem ins_desc {sc : Nat → Int} {l : List Nat} {e : Nat} (h : Desc sc l) : Desc sc (insS sc l e) := by
  unfold insS
  obtain ⟨m, hm⟩ : ∃ m, placeS sc l e = m := ⟨_, rfl⟩
  rw [hm]
  have hle : m ≤ l.length := by rw [← hm]; exact atE_le _ _
  have hi : ∀ x ∈ l.drop m, cmpZ (sc x) (sc e) < 0 := by
    intro x hx
    obtain ⟨j, hj, rfl⟩ := List.mem_iff_getElem.1 hx
    rw [List.length_drop] at hj
    have := atE_hi (fun k => lessS sc (l.getD k 0) e) l.length (m + j) (by show placeS sc l e ≤ _; omega) (by omega)
    simp only [lessS, decide_eq_true_eq] at this
    rw [List.getElem_drop]
    rw [List.getD_eq_getElem?_getD, List.getElem?_eq_getElem (by omega)] at this
    exact this
  have lo : ∀ x ∈ l.take m, ¬ cmpZ (sc x) (sc e) < 0 := by
    intro x hx
    rcases Nat.eq_zero_or_pos m with h0 | h0
    · subst h0; simp at hx
    have hl := atE_lo (fun k => lessS sc (l.getD k 0) e) l.length (by show 0 < placeS sc l e; omega)
    have hpm : atE (fun k => lessS sc (l.getD k 0) e) l.length = m := hm
    rw [hpm] at hl
    simp only [lessS, decide_eq_false_iff_not] at hl
    rw [List.getD_eq_getElem?_getD, List.getElem?_eq_getElem (show m - 1 < l.length by omega)] at hl
    simp only [Option.getD_some] at hl
    obtain ⟨j, hj, rfl⟩ := List.mem_iff_getElem.1 hx
    rw [List.length_take] at hj
    rw [List.getElem_take]
    rcases Nat.lt_or_ge j (m - 1) with hjm | hjm
    · have := List.pairwise_iff_getElem.1 h j (m - 1) (by omega) (by omega) hjm
      rw [cmpZ_lt] at *
      omega
    · have e : j = m - 1 := by omega
      subst e; exact hl
  have h1 : (l.take m ++ l.drop m).Pairwise fun x y => ¬ cmpZ (sc x) (sc y) < 0 := by rw [List.take_append_drop]; exact h
  rw [List.pairwise_append] at h1
  unfold Desc
  rw [List.pairwise_append, List.pairwise_cons]
  refine ⟨h1.1, ⟨fun y hy hc => ?_, h1.2.1⟩, fun x hx y hy => ?_⟩
  · have := hi y hy
    rw [cmpZ_lt] at *
    omega
  · rcases List.mem_cons.1 hy with rfl | hy
    · exact lo x hx
    · exact h1.2.2 x hx y hy
theorem ord_desc (sc : Nat → Int) (k : Nat) : Desc sc (ordS sc k) := by
  induction k with
  | zero => exact List.Pairwise.nil
  | succ k ih => exact ins_desc ih
end Go.Proofs.Ytkfapcigfgfeaaa
