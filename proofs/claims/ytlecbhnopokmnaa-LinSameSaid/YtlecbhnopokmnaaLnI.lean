/- LnI: Notes as they lie, and as they come in; whether two are the same. -/
import Derived.Test.YtlecbhnopokmnaaLnM
import Derived.Test.YtlecbhnopokmnaaLnV
namespace Go.Proofs.Ytlecbhnopokmnaa
open Go.RowKit Go.ChangeShapes Go.WideShapes Mem
set_option maxRecDepth 100000
set_option maxHeartbeats 2000000
set_option linter.unusedVariables false
set_option linter.unusedSimpArgs false
open Ln
/-- A note as it lies. -/
structure NtL where
  ia : Bool
  id : Int
  kind : Int
  key : ByteArray
  A : Option Addr
  b : List UInt8
  c : Nat
  aid : Int
  e : Int
  has : Bool
  A2 : Option Addr
  vb : List UInt8
  c2 : Nat
abbrev NtL.call (r : NtL) : Value := .agg #[.int .i64 r.id, .int .i64 r.kind, .string r.key, .slice r.A r.b.length r.c]
abbrev NtL.ans (r : NtL) : Value := .agg #[.int .i64 r.aid, .int .i64 r.e, .bool r.has, .slice r.A2 r.vb.length r.c2]
abbrev NtL.v (r : NtL) : Value := .agg #[.bool r.ia, .int .i64 r.id, .int .i64 r.kind, .string r.key, .slice r.A r.b.length r.c, .int .i64 r.aid, .int .i64 r.e, .bool r.has, .slice r.A2 r.vb.length r.c2]
def ntC (r : NtL) : List Value := [.bool r.ia, .int .i64 r.id, .int .i64 r.kind, .string r.key, .slice r.A r.b.length r.c, .int .i64 r.aid, .int .i64 r.e, .bool r.has, .slice r.A2 r.vb.length r.c2]
abbrev ntsC (l : List NtL) : List Value := l.flatMap ntC
theorem ntsC_len (rs : List NtL) : (ntsC rs).length = rs.length * 9 := by
  induction rs with
  | nil => rfl
  | cons p rs ih => simp only [ntsC, List.flatMap_cons, List.length_append, ntC, List.length_cons, List.length_nil]; have := ih; unfold ntsC at this; omega
theorem ntsC_at (rs : List NtL) (i : Nat) (h : i < rs.length) (j : Nat) (hj : j < 9) : (ntsC rs)[i * 9 + j]? = (ntC rs[i])[j]? := by
  induction rs generalizing i with
  | nil => simp at h
  | cons p rs ih =>
    have hc : ntsC (p :: rs) = ntC p ++ ntsC rs := rfl
    rw [hc]
    have hl : (ntC p).length = 9 := rfl
    rcases i with _ | i
    · rw [List.getElem?_append_left (by omega), Nat.zero_mul, Nat.zero_add]; rfl
    · rw [List.getElem?_append_right (by omega), hl, show (i + 1) * 9 + j - 9 = i * 9 + j by omega, ih i (by simpa using h)]
      rfl
/-- The cells of a note at o of block b. -/
def NtAt (w : World) (b o : Nat) (r : NtL) : Prop :=
  w.cell? ⟨b, o, none⟩ = some (.bool r.ia) ∧ w.cell? ⟨b, o + 1, none⟩ = some (.int .i64 r.id) ∧ w.cell? ⟨b, o + 2, none⟩ = some (.int .i64 r.kind) ∧ w.cell? ⟨b, o + 3, none⟩ = some (.string r.key) ∧ w.cell? ⟨b, o + 4, none⟩ = some (.slice r.A r.b.length r.c) ∧ w.cell? ⟨b, o + 5, none⟩ = some (.int .i64 r.aid) ∧ w.cell? ⟨b, o + 6, none⟩ = some (.int .i64 r.e) ∧ w.cell? ⟨b, o + 7, none⟩ = some (.bool r.has) ∧ w.cell? ⟨b, o + 8, none⟩ = some (.slice r.A2 r.vb.length r.c2)
theorem nts_open {w : World} {B : Nat} {A : Option Addr} {rs : List NtL} (h : Row w B A (ntsC rs)) (hn : 0 < rs.length) :
    ∃ b o, A = some ⟨b, o, none⟩ ∧ b < B ∧ ∀ i (hi : i < rs.length), NtAt w b (o + i * 9) rs[i] := by
  obtain ⟨b, o, hA, hb, hc⟩ := h.open_ (by rw [ntsC_len]; omega)
  refine ⟨b, o, hA, hb, fun i hi => ?_⟩
  have key : ∀ j, j < 9 → w.cell? ⟨b, o + i * 9 + j, none⟩ = (ntC rs[i])[j]? := fun j hj => by
    have hlt : i * 9 + j < (ntsC rs).length := by rw [ntsC_len]; omega
    rw [show o + i * 9 + j = o + (i * 9 + j) by omega, hc (i * 9 + j) hlt, ← ntsC_at rs i hi j hj, List.getElem?_eq_getElem hlt]
  exact ⟨key 0 (by omega), key 1 (by omega), key 2 (by omega), key 3 (by omega), key 4 (by omega), key 5 (by omega), key 6 (by omega), key 7 (by omega), key 8 (by omega)⟩
/-- What holds of each that comes in. -/
def NtOk (w : World) (B : Nat) (r : NtL) : Prop := Row w B r.A (r.b.map byteV) ∧ Row w B r.A2 (r.vb.map byteV) ∧ r.b.length ≤ maxLen ∧ r.vb.length ≤ maxLen
theorem NtOk.below {w w' : World} {B : Nat} {r : NtL} (h : NtOk w B r) (hb : Below B w w') : NtOk w' B r := ⟨h.1.below hb, h.2.1.below hb, h.2.2⟩
section
variable {H : Type} {enc : TypeId × Value → H} {w : World} {base : Nat} {held : Bool}
theorem val_cells18m {fuel : Nat} {c0 c1 : Value} {x : DataW H × List MemPlace} (h : DataW.trod enc Try.prog w base (fun _ => true) held fuel 45 [c0, c1] = some x) :
    ∃ (has : Bool) (A : Option Addr) (xs : List UInt8) (c : Nat), c0 = .bool has ∧ c1 = .slice A xs.length c ∧ Row w w.heap.size A (xs.map byteV) ∧ xs.length ≤ maxLen := by
  obtain ⟨xs, n, _, hx, _, hlen, hg⟩ := DataW.trod_struct Try.underlying45 h
  have e1 : Try.prog.cellsOf 4 = 1 := by kernel_rfl
  have e2 : Try.prog.cellsOf 43 = 1 := by kernel_rfl
  match xs, hlen with
  | [y0, y1], _ =>
    have h0 := hg 0 _ rfl
    have h1 := hg 1 _ rfl
    obtain ⟨b, hb, _⟩ := DataW.trod_bool Try.underlying4 (x := y0) (by simpa [e1, e2] using h0)
    obtain ⟨⟨A, ys, c⟩, hr, ho⟩ := open_bytes1 (x := y1) Try.underlying43 Try.underlying5 (by kernel_rfl) (by simpa [e1, e2] using h1)
    exact ⟨b, A, ys, c, by simpa using hb, hr, ho.1, Nat.le_trans ho.2.1 ho.2.2⟩
theorem call_cells {fuel : Nat} {c0 c1 c2 c3 : Value} {x : DataW H × List MemPlace} (h : DataW.trod enc Try.prog w base (fun _ => true) held fuel 54 [c0, c1, c2, c3] = some x) :
    ∃ (id kind : Int) (key : ByteArray) (A : Option Addr) (b : List UInt8) (c : Nat), c0 = .int .i64 id ∧ c1 = .int .i64 kind ∧ c2 = .string key ∧ c3 = .slice A b.length c ∧ Row w w.heap.size A (b.map byteV) ∧ b.length ≤ maxLen := by
  obtain ⟨xs, n, _, _, _, hlen, hg⟩ := DataW.trod_struct Try.underlying54 h
  have e0 : Try.prog.cellsOf 3 = 1 := by kernel_rfl
  have e1 : Try.prog.cellsOf 43 = 1 := by kernel_rfl
  have e2 : Try.prog.cellsOf 9 = 1 := by kernel_rfl
  match xs, hlen with
  | [y0, y1, y2, y3], _ =>
    have h0 := hg 0 _ rfl
    have h1 := hg 1 _ rfl
    have h2 := hg 2 _ rfl
    have h3 := hg 3 _ rfl
    obtain ⟨i, hi, _, _⟩ := DataW.trod_int Try.underlying3 (x := y0) (by simpa [e0, e1, e2] using h0)
    obtain ⟨k, hk, _, _⟩ := DataW.trod_int Try.underlying3 (x := y1) (by simpa [e0, e1, e2] using h1)
    obtain ⟨key, hy, _, _⟩ := DataW.trod_string Try.underlying9 (x := y2) (by simpa [e0, e1, e2] using h2)
    obtain ⟨⟨A, ys, c⟩, hr, ho⟩ := open_bytes1 (x := y3) (v := c3) Try.underlying43 Try.underlying5 (by kernel_rfl) (by simpa [e0, e1, e2] using h3)
    exact ⟨i, k, key, A, ys, c, by simpa using hi, by simpa using hk, by simpa using hy, hr, ho.1, Nat.le_trans ho.2.1 ho.2.2⟩
theorem ans_cells {fuel : Nat} {c0 c1 c2 c3 : Value} {x : DataW H × List MemPlace} (h : DataW.trod enc Try.prog w base (fun _ => true) held fuel 56 [c0, c1, c2, c3] = some x) :
    ∃ (id e : Int) (has : Bool) (A : Option Addr) (b : List UInt8) (c : Nat), c0 = .int .i64 id ∧ c1 = .int .i64 e ∧ c2 = .bool has ∧ c3 = .slice A b.length c ∧ Row w w.heap.size A (b.map byteV) ∧ b.length ≤ maxLen := by
  obtain ⟨xs, n, _, _, _, hlen, hg⟩ := DataW.trod_struct Try.underlying56 h
  have e0 : Try.prog.cellsOf 3 = 1 := by kernel_rfl
  have e1 : Try.prog.cellsOf 29 = 1 := by kernel_rfl
  have e2 : Try.prog.cellsOf 45 = 2 := by kernel_rfl
  match xs, hlen with
  | [y0, y1, y2], _ =>
    have h0 := hg 0 _ rfl
    have h1 := hg 1 _ rfl
    have h2 := hg 2 _ rfl
    obtain ⟨i, hi, _, _⟩ := DataW.trod_int Try.underlying3 (x := y0) (by simpa [e0, e1, e2] using h0)
    obtain ⟨k, hk, _, _⟩ := DataW.trod_int Try.underlying29 (x := y1) (by simpa [e0, e1, e2] using h1)
    obtain ⟨has, A2, vb, cc, rfl, rfl, hr2, hl2⟩ := val_cells18m (x := y2) (by simpa [e0, e1, e2] using h2)
    exact ⟨i, k, has, A2, vb, cc, by simpa using hi, by simpa using hk, rfl, rfl, hr2, hl2⟩
theorem nt_cells {fuel : Nat} {c0 c1 c2 c3 c4 c5 c6 c7 c8 : Value} {x : DataW H × List MemPlace} (h : DataW.trod enc Try.prog w base (fun _ => true) held fuel 58 [c0, c1, c2, c3, c4, c5, c6, c7, c8] = some x) :
    ∃ r : NtL, [c0, c1, c2, c3, c4, c5, c6, c7, c8] = ntC r ∧ NtOk w w.heap.size r := by
  obtain ⟨xs, n, _, _, _, hlen, hg⟩ := DataW.trod_struct Try.underlying58 h
  have e0 : Try.prog.cellsOf 4 = 1 := by kernel_rfl
  have e1 : Try.prog.cellsOf 54 = 4 := by kernel_rfl
  have e2 : Try.prog.cellsOf 56 = 4 := by kernel_rfl
  match xs, hlen with
  | [y0, y1, y2], _ =>
    have h0 := hg 0 _ rfl
    have h1 := hg 1 _ rfl
    have h2 := hg 2 _ rfl
    obtain ⟨d, hd, _⟩ := DataW.trod_bool Try.underlying4 (x := y0) (by simpa [e0, e1, e2] using h0)
    obtain ⟨id, kind, key, A, b, c, rfl, rfl, rfl, rfl, hr, hl⟩ := call_cells (x := y1) (by simpa [e0, e1, e2] using h1)
    obtain ⟨aid, e, has, A2, vb, cc, rfl, rfl, rfl, rfl, hr2, hl2⟩ := ans_cells (x := y2) (by simpa [e0, e1, e2] using h2)
    have hd' : c0 = .bool d := by simpa using hd
    subst hd'
    exact ⟨⟨d, id, kind, key, A, b, c, aid, e, has, A2, vb, cc⟩, rfl, hr, hr2, hl, hl2⟩
instance : Inhabited NtL := ⟨⟨false, 0, 0, ByteArray.empty, none, [], 0, 0, 0, false, none, [], 0⟩⟩
theorem open_nts {a : Option Addr} {len cap : Nat} {d : DataW H} {ps : List MemPlace} (h : DataW.Trod enc Try.prog w base (fun _ => true) held 22 (.slice a len cap) d ps) :
    ∃ rs : List NtL, len = rs.length ∧ len ≤ maxLen ∧ Row w w.heap.size a (ntsC rs) ∧ ∀ r ∈ rs, NtOk w w.heap.size r := by
  obtain ⟨fuel, hf⟩ := h
  rcases Go.Deep.open_slice Try.underlying22 (by simpa [Value.cells] using hf) with ⟨hcs, _⟩ | ⟨x, l, c, m, n, D, Pl, hcs, _, hl, hm, hmm, hd, hx⟩
  · simp only [List.cons.injEq, and_true] at hcs
    injection hcs with h1 h2 h3
    subst h1; subst h2; subst h3
    exact ⟨[], rfl, by unfold maxLen; omega, Row.nil _ _ _, fun r h => by cases h⟩
  · simp only [List.cons.injEq, and_true] at hcs
    injection hcs with h1 h2 h3
    subst h1; subst h2; subst h3
    simp only [if_true] at hmm
    subst hmm
    have hC : Try.prog.cellsOf 58 = 9 := by kernel_rfl
    rw [hC] at hx
    obtain ⟨V, hV⟩ := Go.Deep.choose_lt (n := len) (α := NtL) (p := fun i r => (∀ j, j < 9 → w.cell? (x.add (i * 9 + j)) = (ntC r)[j]?) ∧ NtOk w w.heap.size r) (fun i hi => by
      obtain ⟨cs', h1, h2⟩ := hx i (by omega)
      obtain ⟨_, hlen, hat⟩ := World.cells?_some h1
      match cs', hlen with
      | [c0, c1, c2, c3, c4, c5, c6, c7, c8], _ =>
        obtain ⟨r, hr, hr1⟩ := nt_cells h2
        refine ⟨r, fun j hj => ?_, hr1⟩
        rw [← Go.Deep.add_add, hat j hj, hr])
    refine ⟨(List.range len).map V, by simp, by omega, ?_, ?_⟩
    · rcases Nat.eq_zero_or_pos len with h0 | h0
      · subst h0; exact Or.inl rfl
      · have hc0 := (hV 0 h0).1 0 (by omega)
        have hc0' : w.cell? x = some (.bool (V 0).ia) := by
          have e : x.add (0 * 9 + 0) = x := by simp [Addr.add]
          rw [e] at hc0; exact hc0
        obtain ⟨b, o, spot⟩ := x
        have hspot : spot = none := World.cell?_spot hc0'
        subst hspot
        refine Or.inr ⟨b, o, rfl, block_lt hc0', fun j hj => ?_⟩
        have hj8 : j < len * 9 := by rw [ntsC_len] at hj; simpa using hj
        have hi : j / 9 < len := by omega
        have hdd : j = j / 9 * 9 + j % 9 := by omega
        have hv := (hV (j / 9) hi).1 (j % 9) (by omega)
        rw [← hdd] at hv
        have e : (⟨b, o, none⟩ : Addr).add j = ⟨b, o + j, none⟩ := by
          unfold Addr.add; split
          · subst_vars; rfl
          · rfl
        rw [e] at hv
        have ht := ntsC_at ((List.range len).map V) (j / 9) (by simpa using hi) (j % 9) (by omega)
        rw [← hdd, List.getElem?_eq_getElem hj] at ht
        rw [hv, ht, List.getElem_map, List.getElem_range]
    · intro r hr
      obtain ⟨i, hi, rfl⟩ := List.mem_map.1 hr
      exact (hV i (List.mem_range.1 hi)).2
end
/-- Are two the same? -/
def sameC (x y : NtL) : Bool := x.id == y.id && (x.kind == y.kind && (decide (x.key = y.key) && x.b == y.b))
def sameA (x y : NtL) : Bool := x.aid == y.aid && (x.e == y.e && decide (normV x.has x.vb = normV y.has y.vb))
def sameN (x y : NtL) : Bool := x.ia == y.ia && (sameC x y && sameA x y)
theorem list_ne18 {a b : ByteArray} (h : a ≠ b) : (a.toList == b.toList) = false := by
  rw [beq_eq_false_iff_ne]
  intro e
  rw [ByteArray.toList_eq, ByteArray.toList_eq] at e
  apply h
  obtain ⟨⟨x⟩⟩ := a
  obtain ⟨⟨y⟩⟩ := b
  simp at e
  rw [e]
theorem samecall_any (x y : NtL) (w : World) (hx : NtOk w w.heap.size x) (hy : NtOk w w.heap.size y) : Calls Try.prog 50 #[x.call, y.call] w (IsB18 (sameC x y) w) := by
  have HB : Hid (Below w.heap.size w ((w.alloc (.cells #[.int .i64 x.id, .int .i64 x.kind, .string x.key, .slice x.A x.b.length x.c] 54)).alloc (.cells #[.int .i64 y.id, .int .i64 y.kind, .string y.key, .slice y.A y.b.length y.c] 54))) := Lib.hid (((Below.refl _ _).alloc (Nat.le_refl _) _).alloc (by simp) _)
  have HR := Lib.hid (hx.1.below HB.out)
  have HR' := Lib.hid (hy.1.below HB.out)
  clear hx hy
  obtain ⟨xa, xi, xk, xkey, xA, xb, xc, xai, xe, xh, xA2, xvb, xc2⟩ := x
  obtain ⟨ya, yi, yk, ykey, yA, yb, yc, yai, ye, yh, yA2, yvb, yc2⟩ := y
  unfold NtL.call
  simp only at HR HR' HB ⊢
  obtain ⟨R, hRR⟩ : ∃ R, sameC ⟨xa, xi, xk, xkey, xA, xb, xc, xai, xe, xh, xA2, xvb, xc2⟩ ⟨ya, yi, yk, ykey, yA, yb, yc, yai, ye, yh, yA2, yvb, yc2⟩ = R := ⟨_, rfl⟩
  rw [hRR]
  unfold sameC at hRR
  simp only at hRR
  by_cases h1 : xi = yi
  rotate_left
  · have q1 : (xi == yi) = false := by simpa using h1
    rw [q1] at hRR
    subst hRR
    go_enter Try.func50, Try.ntmps50
    go_wp2
    go_ret
    exact ⟨rfl, HB.out⟩
  subst h1
  by_cases h2 : xk = yk
  rotate_left
  · have q2 : (xk == yk) = false := by simpa using h2
    rw [q2] at hRR
    have hRR' : false = R := by simpa using hRR
    subst hRR'
    clear hRR
    go_enter Try.func50, Try.ntmps50
    go_wp2
    go_ret
    exact ⟨rfl, HB.out⟩
  subst h2
  by_cases h3 : xkey = ykey
  rotate_left
  · have q3 : (xkey.toList == ykey.toList) = false := list_ne18 h3
    rw [decide_eq_false h3] at hRR
    have hRR' : false = R := by simpa using hRR
    subst hRR'
    clear h3 hRR
    go_enter Try.func50, Try.ntmps50
    go_wp2
    go_ret
    exact ⟨rfl, HB.out⟩
  · subst h3
    have HE : Hid ((xb == yb) = R) := Lib.hid (by rw [← hRR]; simp)
    clear hRR
    go_enter Try.func50, Try.ntmps50
    go_wp2_with (go_at_call 68; refine (equalv18 _ HE HR.out HR'.out rfl rfl).mono ?_; rintro e w' ⟨rfl, rfl⟩)
    go_ret
    exact ⟨rfl, HB.out⟩
end Go.Proofs.Ytlecbhnopokmnaa
