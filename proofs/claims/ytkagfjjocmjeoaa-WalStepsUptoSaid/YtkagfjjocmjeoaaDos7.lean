/- Rows of things that are done to a log, as they come in. -/
import Derived.Test.YtkagfjjocmjeoaaBulk
import Derived.Test.YtkagfjjocmjeoaaOpenL
import Derived.Test.YtkagfjjocmjeoaaDos
namespace Go.Proofs.Ytkagfjjocmjeoaa
open Go.RowKit Go.ChangeShapes Go.Deep Go.WideShapes Mem
set_option maxRecDepth 10000
set_option maxHeartbeats 2000000
set_option linter.unusedVariables false
/-- Something that is done to a log: its kind; of which kind its records are; where their bytes are, which, with how much room; how much is kept. -/
structure DoG where
  kind : Int
  of_ : UInt8
  at_ : Option Addr
  rows : List RowV
  room : Nat
  kept : Int
instance doGInh : Inhabited DoG := ⟨⟨0, 0, none, [], 0, 0⟩⟩
def doGC (r : DoG) : List Value := [.int .i64 r.kind, .int .u8 (r.of_.toNat : Int), .slice r.at_ r.rows.length r.room, .int .i64 r.kept]
abbrev dosGC (rs : List DoG) : List Value := rs.flatMap doGC
theorem dosGC_len (rs : List DoG) : (dosGC rs).length = rs.length * 4 := by
  induction rs with
  | nil => rfl
  | cons p rs ih => simp only [dosGC, List.flatMap_cons, List.length_append, doGC, List.length_cons, List.length_nil]; have := ih; unfold dosGC at this; omega
theorem dosGC_at (rs : List DoG) (i : Nat) (h : i < rs.length) (j : Nat) (hj : j < 4) : (dosGC rs)[i * 4 + j]? = (doGC rs[i])[j]? := by
  induction rs generalizing i with
  | nil => simp at h
  | cons p rs ih =>
    have hc : dosGC (p :: rs) = doGC p ++ dosGC rs := rfl
    rw [hc]
    have hl : (doGC p).length = 4 := rfl
    rcases i with _ | i
    · rw [List.getElem?_append_left (by omega), Nat.zero_mul, Nat.zero_add]; rfl
    · rw [List.getElem?_append_right (by omega), hl, show (i + 1) * 4 + j - 4 = i * 4 + j by omega, ih i (by simpa using h)]
      rfl
theorem dosG_open {w : World} {B : Nat} {A : Option Addr} {rs : List DoG} (h : Row w B A (dosGC rs)) (hn : 0 < rs.length) :
    ∃ b o, A = some ⟨b, o, none⟩ ∧ b < B ∧ ∀ i (hi : i < rs.length), w.cell? ⟨b, o + i * 4, none⟩ = some (.int .i64 rs[i].kind) ∧ w.cell? ⟨b, o + i * 4 + 1, none⟩ = some (.int .u8 (rs[i].of_.toNat : Int)) ∧
      w.cell? ⟨b, o + i * 4 + 2, none⟩ = some (.slice rs[i].at_ rs[i].rows.length rs[i].room) ∧ w.cell? ⟨b, o + i * 4 + 3, none⟩ = some (.int .i64 rs[i].kept) := by
  obtain ⟨b, o, hA, hb, hc⟩ := h.open_ (by rw [dosGC_len]; omega)
  refine ⟨b, o, hA, hb, fun i hi => ?_⟩
  have key : ∀ j, j < 4 → w.cell? ⟨b, o + i * 4 + j, none⟩ = (doGC rs[i])[j]? := fun j hj => by
    have hlt : i * 4 + j < (dosGC rs).length := by rw [dosGC_len]; omega
    rw [show o + i * 4 + j = o + (i * 4 + j) by omega, hc (i * 4 + j) hlt, ← dosGC_at rs i hi j hj, List.getElem?_eq_getElem hlt]
  exact ⟨key 0 (by omega), key 1 (by omega), key 2 (by omega), key 3 (by omega)⟩
/-- What may come in: numbers of 64 bits, and rows that lie below B. -/
structure DoGOk (w : World) (B : Nat) (r : DoG) : Prop where
  row : Row w B r.at_ (r.rows.map rowV)
  rows : ∀ q ∈ r.rows, RowOk w B q
  cap : r.rows.length ≤ r.room
  mx : r.room ≤ maxLen
  k0 : -9223372036854775808 ≤ r.kind
  k1 : r.kind ≤ 9223372036854775807
  p0 : -9223372036854775808 ≤ r.kept
  p1 : r.kept ≤ 9223372036854775807
theorem DoGOk.below {w w' : World} {B : Nat} {r : DoG} (h : DoGOk w B r) (hb : Below B w w') : DoGOk w' B r := ⟨h.row.below hb, fun q hq => (h.rows q hq).below hb, h.cap, h.mx, h.k0, h.k1, h.p0, h.p1⟩
/-- Things to be done that came in: where they lie, in whatever later world. -/
def InG (w : World) (A : Option Addr) (rs : List DoG) : Prop := ∀ W, Below w.heap.size w W → Row W w.heap.size A (dosGC rs) ∧ ∀ r ∈ rs, DoGOk W w.heap.size r
theorem inG_of {w : World} {A : Option Addr} {rs : List DoG} (h : Row w w.heap.size A (dosGC rs)) (hr : ∀ r ∈ rs, DoGOk w w.heap.size r) : InG w A rs := fun W hb => ⟨h.below hb, fun r hm => (hr r hm).below hb⟩
section
variable {H : Type} {enc : TypeId × Value → H} {P : Program} {w : World} {base : Nat} {held : Bool}
/-- How many elements a slice that came in has, at most. -/
theorem sized_count {t e : TypeId} {fuel : Nat} {a : Option Addr} {len cap : Nat} {d : DataW H} {ps : List MemPlace} (ht : P.underlying t = some (.slice e))
    (h : DataW.trod enc P w base (fun _ => true) held fuel t [.slice a len cap] = some (d, ps)) (hs : SizedD P t d) : len * P.bytesOf e ≤ reachBytes := by
  rcases Go.Deep.open_slice ht h with ⟨hcs, _⟩ | ⟨x, l, c, m, n, D, Pl, hcs, _, hl, hm, hmm, hd, hx⟩
  · simp only [List.cons.injEq, and_true] at hcs
    injection hcs with h1 h2 h3
    subst h2
    rw [Nat.zero_mul]; exact Nat.zero_le _
  · simp only [List.cons.injEq, and_true] at hcs
    injection hcs with h1 h2 h3
    subst h2
    have h3 := congrArg Prod.fst hd
    simp only at h3
    subst h3
    have := hs.len ht
    simp only [List.length_map, List.length_range] at this
    exact Nat.le_trans (Nat.mul_le_mul_right _ (by omega)) this
theorem doG_cells {fuel : Nat} {c0 c1 c2 c3 : Value} {x : DataW H × List MemPlace} (h : DataW.trod enc Try.prog w base (fun _ => true) held fuel 38 [c0, c1, c2, c3] = some x) :
    ∃ r : DoG, [c0, c1, c2, c3] = doGC r ∧ DoGOk w w.heap.size r ∧ (SizedD Try.prog 38 x.1 → r.rows.length ≤ 5864062014805) ∧ sumL r.rows + 1 ≤ Rows.uptoBulk x.1 := by
  obtain ⟨xs, n, _, hx, _, hlen, hg⟩ := DataW.trod_struct Try.underlying38 h
  have e1 : Try.prog.cellsOf 3 = 1 := by kernel_rfl
  have e2 : Try.prog.cellsOf 36 = 1 := by kernel_rfl
  have e3 : Try.prog.cellsOf 5 = 1 := by kernel_rfl
  match xs, hlen with
  | [y0, y1, y2, y3], _ =>
    have h0 := hg 0 _ rfl
    have h1 := hg 1 _ rfl
    have h2 := hg 2 _ rfl
    have h3 := hg 3 _ rfl
    obtain ⟨k, hk, _, wk⟩ := DataW.trod_int Try.underlying3 (x := y0) (by simpa [e1, e2, e3] using h0)
    obtain ⟨f, hf, _, wf⟩ := DataW.trod_int Try.underlying5 (x := y1) (by simpa [e1, e2, e3] using h1)
    obtain ⟨p, hp, _, wp⟩ := DataW.trod_int Try.underlying3 (x := y3) (by simpa [e1, e2, e3] using h3)
    have h2' : DataW.trod enc Try.prog w base (fun _ => true) held n 36 [c2] = some y2 := by simpa [e1, e2, e3] using h2
    have hsh : ∃ a len cap, c2 = .slice a len cap := by
      rcases DataW.trod_slice Try.underlying36 h2' with ⟨hcs, _⟩ | ⟨a, len, cap, _, _, _, _, hcs, _⟩
      · exact ⟨none, 0, 0, by simpa using hcs⟩
      · exact ⟨some a, len, cap, by simpa using hcs⟩
    obtain ⟨a, len, cap, rfl⟩ := hsh
    obtain ⟨y2d, y2p⟩ := y2
    obtain ⟨rows, hl, hrow, hlc, hcm, hok, hbk⟩ := open_rowsB (a := a) (len := len) (cap := cap) (d := y2d) (ps := y2p) Try.underlying36 Try.underlying27 Try.underlying5 (by kernel_rfl) (by kernel_rfl) ⟨n, by simpa [Value.cells] using h2'⟩
    have hkb := bounds_i64 wk
    have hpb := bounds_i64 wp
    have hfb := bounds_u8 wf
    have e8 : ((UInt8.ofNat f.toNat).toNat : Int) = f := by rw [UInt8.toNat_ofNat']; omega
    have hk' : c0 = .int .i64 k := by simpa using hk
    have hf' : c1 = .int .u8 f := by simpa using hf
    have hp' : c3 = .int .i64 p := by simpa using hp
    refine ⟨⟨k, UInt8.ofNat f.toNat, a, rows, cap, p⟩, ?_, ⟨hrow, hok, (by show rows.length ≤ cap; omega), hcm, hkb.1, hkb.2, hpb.1, hpb.2⟩, fun hs => ?_, ?_⟩
    · rw [hk', hf', hp', hl]
      simp only [doGC, e8]
    · rw [hx] at hs
      have hs1 : SizedD Try.prog 36 y2d := sized_field (j := 2) (d := y2d) hs Try.underlying38 rfl rfl
      have hc := sized_count Try.underlying36 h2' hs1
      have hb : Try.prog.bytesOf 27 = 24 := by kernel_rfl
      rw [hb] at hc
      unfold reachBytes at hc
      show rows.length ≤ _
      omega
    · rw [hx, Bulk.agg_parts]
      have hm : y2d ∈ ([y0.1, y1.1, y2d, y3.1] : List (DataW H)) := by simp
      have hmb := Bulk.mem_bulk hm
      show sumL rows + 1 ≤ _
      have e : ([y0, y1, (y2d, y2p), y3].map (·.1)) = [y0.1, y1.1, y2d, y3.1] := rfl
      rw [e]
      omega
/-- How much things to be done hold: the rows, one for each, and one for each thing. -/
def sumG (rs : List DoG) : Nat := (rs.map (fun r => sumL r.rows + 1)).sum
theorem open_dosG {a : Option Addr} {len cap : Nat} {d : DataW H} {ps : List MemPlace} (h : DataW.Trod enc Try.prog w base (fun _ => true) held 22 (.slice a len cap) d ps) :
    ∃ rs : List DoG, len = rs.length ∧ len ≤ cap ∧ cap ≤ maxLen ∧ Row w w.heap.size a (dosGC rs) ∧ (∀ r ∈ rs, DoGOk w w.heap.size r) ∧ (SizedD Try.prog 22 d → ∀ r ∈ rs, r.rows.length ≤ 5864062014805) ∧ sumG rs ≤ Rows.uptoBulk d := by
  obtain ⟨fuel, hf⟩ := h
  rcases Go.Deep.open_slice Try.underlying22 (by simpa [Value.cells] using hf) with ⟨hcs, _⟩ | ⟨x, l, c, m, n, D, Pl, hcs, _, hl, hm, hmm, hd, hx⟩
  · simp only [List.cons.injEq, and_true] at hcs
    injection hcs with h1 h2 h3
    subst h1; subst h2; subst h3
    exact ⟨[], rfl, Nat.le_refl _, by unfold maxLen; omega, Row.nil _ _ _, by simp, by simp, Nat.zero_le _⟩
  · simp only [List.cons.injEq, and_true] at hcs
    injection hcs with h1 h2 h3
    subst h1; subst h2; subst h3
    simp only [if_true] at hmm
    subst hmm
    have hC : Try.prog.cellsOf 38 = 4 := by kernel_rfl
    rw [hC] at hx
    obtain ⟨V, hV⟩ := Go.Deep.choose_lt (n := len) (α := DoG) (p := fun i r => (∀ j, j < 4 → w.cell? (x.add (i * 4 + j)) = (doGC r)[j]?) ∧ DoGOk w w.heap.size r ∧ (SizedD Try.prog 38 (D i) → r.rows.length ≤ 5864062014805) ∧ sumL r.rows + 1 ≤ Rows.uptoBulk (D i)) (fun i hi => by
      obtain ⟨cs', h1, h2⟩ := hx i (by omega)
      obtain ⟨_, hlen, hat⟩ := World.cells?_some h1
      match cs', hlen with
      | [c0, c1, c2, c3], _ =>
        obtain ⟨r, hr, ho, hsz, hbk⟩ := doG_cells h2
        refine ⟨r, fun j hj => ?_, ho, hsz, hbk⟩
        rw [← Go.Deep.add_add, hat j hj, hr])
    refine ⟨(List.range len).map V, by simp, hl, hm, ?_, ?_, ?_, ?_⟩
    · rcases Nat.eq_zero_or_pos len with h0 | h0
      · subst h0; exact Or.inl rfl
      · have hc0 := (hV 0 h0).1 0 (by omega)
        have hc0' : w.cell? x = some (.int .i64 (V 0).kind) := by
          have e : x.add (0 * 4 + 0) = x := by simp [Addr.add]
          rw [e] at hc0; exact hc0
        obtain ⟨b, o, spot⟩ := x
        have hspot : spot = none := World.cell?_spot hc0'
        subst hspot
        refine Or.inr ⟨b, o, rfl, block_lt hc0', fun j hj => ?_⟩
        have hj3 : j < len * 4 := by rw [dosGC_len] at hj; simpa using hj
        have hi : j / 4 < len := by omega
        have hdd : j = j / 4 * 4 + j % 4 := by omega
        have hv := (hV (j / 4) hi).1 (j % 4) (by omega)
        rw [← hdd] at hv
        have e : (⟨b, o, none⟩ : Addr).add j = ⟨b, o + j, none⟩ := by
          unfold Addr.add; split
          · subst_vars; rfl
          · rfl
        rw [e] at hv
        have ht := dosGC_at ((List.range len).map V) (j / 4) (by simpa using hi) (j % 4) (by omega)
        rw [← hdd, List.getElem?_eq_getElem hj] at ht
        rw [hv, ht, List.getElem_map, List.getElem_range]
    · intro r hr
      obtain ⟨i, hi, rfl⟩ := List.mem_map.1 hr
      exact (hV i (List.mem_range.1 hi)).2.1
    · intro hs r hr
      obtain ⟨i, hi, rfl⟩ := List.mem_map.1 hr
      have h3 := congrArg Prod.fst hd
      simp only at h3
      subst h3
      exact (hV i (List.mem_range.1 hi)).2.2.1 (hs.elem Try.underlying22 (List.mem_map.2 ⟨i, hi, rfl⟩))
    · have h1 := Bulk.all_sum (fun r : DoG => sumL r.rows + 1) ((List.range len).map fun i => (V i, D i)) (fun p hp => by
        obtain ⟨i, hi, rfl⟩ := List.mem_map.1 hp
        exact (hV i (List.mem_range.1 hi)).2.2.2)
      have h3 : d = .slice ((List.range len).map D) ((List.range (m - len)).map fun j => D (len + j)) := congrArg Prod.fst hd
      have h4 := Bulk.elems_bulk ((List.range len).map D) ((List.range (m - len)).map fun j => D (len + j))
      rw [← h3] at h4
      have e1 : ((List.range len).map fun i => (V i, D i)).map (·.2) = (List.range len).map D := by rw [List.map_map]; rfl
      have e2 : ((List.range len).map fun i => (V i, D i)).map (fun p => sumL p.1.rows + 1) = ((List.range len).map V).map (fun r => sumL r.rows + 1) := by rw [List.map_map, List.map_map]; rfl
      rw [e1] at h1
      rw [e2] at h1
      unfold sumG
      omega
theorem sized_dosG {a : Option Addr} {len cap : Nat} {d : DataW H} {ps : List MemPlace} (h : DataW.Trod enc Try.prog w base (fun _ => true) held 22 (.slice a len cap) d ps) (hs : SizedD Try.prog 22 d) : len ≤ 140737488355328 := by
  obtain ⟨fuel, hf⟩ := h
  have := sized_count Try.underlying22 (by simpa [Value.cells] using hf) hs
  have hb : Try.prog.bytesOf 38 = 48 := by kernel_rfl
  rw [hb] at this
  unfold reachBytes at this
  omega
end
end Go.Proofs.Ytkagfjjocmjeoaa
