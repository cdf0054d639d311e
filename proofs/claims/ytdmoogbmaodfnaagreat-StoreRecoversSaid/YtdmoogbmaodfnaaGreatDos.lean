/- Rows of things that are done to a disk, as they come in; whether they are more than is looked at; one that is done. -/
import Derived.Test.YtdmoogbmaodfnaaGreatDk
import Derived.Test.YtdmoogbmaodfnaaGreatCore
import Derived.Test.YtdmoogbmaodfnaaGreatSized
import Derived.Deep.Slices
import Derived.Deep.Fields
namespace Go.Proofs.YtdmoogbmaodfnaaGreat
open Go.RowKit Go.ChangeShapes Go.WideShapes Mem
set_option maxRecDepth 10000
set_option maxHeartbeats 2000000
set_option linter.unusedVariables false
/-- Something that is done: its kind; where its bytes are, which, with how much room; how much is kept. -/
structure DoV where
  kind : Int
  row : RowV
  kept : Int
instance doVInh : Inhabited DoV := ⟨⟨0, (none, [], 0), 0⟩⟩
def doC (r : DoV) : List Value := [.int .i64 r.kind, rowV r.row, .int .i64 r.kept]
abbrev dosC (rs : List DoV) : List Value := rs.flatMap doC
theorem dosC_len (rs : List DoV) : (dosC rs).length = rs.length * 3 := by
  induction rs with
  | nil => rfl
  | cons p rs ih => simp only [dosC, List.flatMap_cons, List.length_append, doC, List.length_cons, List.length_nil]; have := ih; unfold dosC at this; omega
theorem dosC_at (rs : List DoV) (i : Nat) (h : i < rs.length) (j : Nat) (hj : j < 3) : (dosC rs)[i * 3 + j]? = (doC rs[i])[j]? := by
  induction rs generalizing i with
  | nil => simp at h
  | cons p rs ih =>
    have hc : dosC (p :: rs) = doC p ++ dosC rs := rfl
    rw [hc]
    have hl : (doC p).length = 3 := rfl
    rcases i with _ | i
    · rw [List.getElem?_append_left (by omega), Nat.zero_mul, Nat.zero_add]; rfl
    · rw [List.getElem?_append_right (by omega), hl, show (i + 1) * 3 + j - 3 = i * 3 + j by omega, ih i (by simpa using h)]
      rfl
theorem dos_open {w : World} {B : Nat} {A : Option Addr} {rs : List DoV} (h : Row w B A (dosC rs)) (hn : 0 < rs.length) :
    ∃ b o, A = some ⟨b, o, none⟩ ∧ b < B ∧ ∀ i (hi : i < rs.length), w.cell? ⟨b, o + i * 3, none⟩ = some (.int .i64 rs[i].kind) ∧ w.cell? ⟨b, o + i * 3 + 1, none⟩ = some (rowV rs[i].row) ∧ w.cell? ⟨b, o + i * 3 + 2, none⟩ = some (.int .i64 rs[i].kept) := by
  obtain ⟨b, o, hA, hb, hc⟩ := h.open_ (by rw [dosC_len]; omega)
  refine ⟨b, o, hA, hb, fun i hi => ?_⟩
  have key : ∀ j, j < 3 → w.cell? ⟨b, o + i * 3 + j, none⟩ = (doC rs[i])[j]? := fun j hj => by
    have hlt : i * 3 + j < (dosC rs).length := by rw [dosC_len]; omega
    rw [show o + i * 3 + j = o + (i * 3 + j) by omega, hc (i * 3 + j) hlt, ← dosC_at rs i hi j hj, List.getElem?_eq_getElem hlt]
  exact ⟨key 0 (by omega), key 1 (by omega), key 2 (by omega)⟩
/-- What may come in: numbers of 64 bits, and rows that lie below B. -/
structure DoOk (w : World) (B : Nat) (r : DoV) : Prop where
  row : RowOk w B r.row
  k0 : -9223372036854775808 ≤ r.kind
  k1 : r.kind ≤ 9223372036854775807
  p0 : -9223372036854775808 ≤ r.kept
  p1 : r.kept ≤ 9223372036854775807
/-- Things to be done that came in: where they lie, in whatever later world. -/
def InD (w : World) (A : Option Addr) (rs : List DoV) : Prop := ∀ W, Below w.heap.size w W → Row W w.heap.size A (dosC rs) ∧ ∀ r ∈ rs, DoOk W w.heap.size r
theorem sized_field {H : Type} {P : Program} {t t' : TypeId} {parts : List (DataW H)} {fs : Array Field} {j : Nat} {d : DataW H} (h : SizedD P t (.agg parts)) (ht : P.underlying t = some (.struct fs)) (hj : (fs.toList.map (·.type))[j]? = some t') (hd : parts[j]? = some d) : SizedD P t' d := fun n hn =>
  h n (by simp only [DataW.weights, ht]; exact DataW.weights_mem_each hj hd n hn)
section
variable {H : Type} {enc : TypeId × Value → H} {w : World} {base : Nat} {held : Bool}
theorem do_cells {fuel : Nat} {c0 c1 c2 : Value} {x : DataW H × List MemPlace} (h : DataW.trod enc Tryz.prog w base (fun _ => true) held fuel 170 [c0, c1, c2] = some x) :
    ∃ r : DoV, c0 = .int .i64 r.kind ∧ c1 = rowV r.row ∧ c2 = .int .i64 r.kept ∧ DoOk w w.heap.size r ∧ (SizedD Tryz.prog 170 x.1 → r.row.2.1.length ≤ reachBytes) := by
  obtain ⟨xs, n, _, hx, _, hlen, hg⟩ := DataW.trod_struct Tryz.underlying170 h
  have e1 : Tryz.prog.cellsOf 3 = 1 := by kernel_rfl
  have e2 : Tryz.prog.cellsOf 27 = 1 := by kernel_rfl
  match xs, hlen with
  | [y0, y1, y2], _ =>
    have h0 := hg 0 _ rfl
    have h1 := hg 1 _ rfl
    have h2 := hg 2 _ rfl
    obtain ⟨k, hk, _, wk⟩ := DataW.trod_int Tryz.underlying3 (x := y0) (by simpa [e1, e2] using h0)
    obtain ⟨p, hp, _, wp⟩ := DataW.trod_int Tryz.underlying3 (x := y2) (by simpa [e1, e2] using h2)
    have h1' : DataW.trod enc Tryz.prog w base (fun _ => true) held n 27 [c1] = some y1 := by simpa [e1, e2] using h1
    obtain ⟨r, hr, ho⟩ := open_bytes1 (x := y1) Tryz.underlying27 Tryz.underlying5 (by kernel_rfl) h1'
    have hkb := bounds_i64 wk
    have hpb := bounds_i64 wp
    refine ⟨⟨k, r, p⟩, by simpa using hk, hr, by simpa using hp, ⟨ho, hkb.1, hkb.2, hpb.1, hpb.2⟩, fun hs => ?_⟩
    rw [hx] at hs
    have hs1 : SizedD Tryz.prog 27 y1.1 := sized_field (j := 1) hs Tryz.underlying170 rfl rfl
    obtain ⟨y1d, y1p⟩ := y1
    rw [hr] at h1'
    exact sized_bytes Tryz.underlying27 (by kernel_rfl) (by kernel_rfl) (by unfold rowV at h1'; exact h1') hs1
end
theorem DoOk.below {w w' : World} {B : Nat} {r : DoV} (h : DoOk w B r) (hb : Below B w w') : DoOk w' B r := ⟨h.row.below hb, h.k0, h.k1, h.p0, h.p1⟩
theorem inD_of {w : World} {A : Option Addr} {rs : List DoV} (h : Row w w.heap.size A (dosC rs)) (hr : ∀ r ∈ rs, DoOk w w.heap.size r) : InD w A rs := fun W hb => ⟨h.below hb, fun r hm => (hr r hm).below hb⟩
end Go.Proofs.YtdmoogbmaodfnaaGreat
