/- Layer 9's statements: a ring that comes in, opened; what is passed over; what the examples fix. -/
import Derived.Test.YtafajikjojpaaaaRgH
import Derived.OpenShut
import Derived.WideShapes
namespace Go.Proofs.Ytafajikjojpaaaa
open Go.RowKit Go.ChangeShapes Go.WideShapes Mem Rg
set_option maxRecDepth 100000
set_option maxHeartbeats 8000000
set_option linter.unusedVariables false
section
variable {H : Type} {enc : TypeId × Value → H} {w : World} {base : Nat} {held : Bool}
theorem open_ints1 {P : Program} {t e : TypeId} {fuel : Nat} {v : Value} {x : DataW H × List MemPlace} (ht : P.underlying t = some (.slice e)) (he : P.underlying e = some (.int .i64)) (hc : P.cellsOf e = 1)
    (h : DataW.trod enc P w base (fun _ => true) held fuel t [v] = some x) : ∃ (A : Option Addr) (ns : List Int) (c : Nat), v = .slice A ns.length c ∧ Row w w.heap.size A (ns.map iV) ∧ ns.length ≤ c ∧ c ≤ maxLen := by
  have hsh : ∃ a len cap, v = .slice a len cap := by
    rcases DataW.trod_slice ht h with ⟨hcs, _⟩ | ⟨a, len, cap, _, _, _, _, hcs, _⟩
    · exact ⟨none, 0, 0, by simpa using hcs⟩
    · exact ⟨some a, len, cap, by simpa using hcs⟩
  obtain ⟨a, len, cap, rfl⟩ := hsh
  obtain ⟨vs, hl, hr, h1, h2, hv⟩ := open_row1 ht hc h
  obtain ⟨zs, rfl, hz⟩ := list_of (f := iV) (Q := fun z => (Lit.int .i64 z).wf = true) vs (fun v hvm => by
    obtain ⟨n, y, hy⟩ := hv v hvm
    obtain ⟨b, hb, _, hw⟩ := DataW.trod_int he hy
    exact ⟨b, by show v = Value.int .i64 b; simpa using hb, hw⟩)
  rw [List.length_map] at hl
  subst hl
  exact ⟨a, zs, cap, rfl, hr, h1, h2⟩
/-- A ring that comes in. -/
theorem open_ring {r : Reach} {b0 : Nat} {v : Value} {d : DataW H} {ps : List MemPlace} (hv : Value.okWide Try.prog w r b0 30 v) (h : DataW.Trod enc Try.prog w base (fun _ => true) held 30 v d ps) :
    ∃ (A : Option Addr) (ns : List Int) (c : Nat) (e k : Int), v = .agg #[.slice A ns.length c, .int .i64 e, .int .i64 k] ∧ Row w w.heap.size A (ns.map iV) ∧ ns.length ≤ c ∧ c ≤ maxLen := by
  obtain ⟨cs, rfl, hsz⟩ := okWide_struct Try.underlying30 hv
  obtain ⟨l⟩ := cs
  have hC : Try.prog.cellsOf 30 = 3 := by kernel_rfl
  match l, hsz.trans hC with
  | [c0, c1, c2], _ =>
    obtain ⟨fuel, hf⟩ := h
    obtain ⟨xs, n, _, _, _, hlen, hg⟩ := DataW.trod_struct Try.underlying30 hf
    have e1 : Try.prog.cellsOf 3 = 1 := by kernel_rfl
    have e2 : Try.prog.cellsOf 22 = 1 := by kernel_rfl
    match xs, hlen with
    | [y0, y1, y2], _ =>
      have h0 := hg 0 _ rfl
      have h1 := hg 1 _ rfl
      have h2 := hg 2 _ rfl
      obtain ⟨A, ns, c, hr, hrow, hnc, hc⟩ := open_ints1 (x := y0) Try.underlying22 Try.underlying3 (by kernel_rfl) (by simpa [Value.cells, e1, e2] using h0)
      obtain ⟨e, he, _, _⟩ := DataW.trod_int Try.underlying3 (x := y1) (by simpa [Value.cells, e1, e2] using h1)
      obtain ⟨k, hk, _, _⟩ := DataW.trod_int Try.underlying3 (x := y2) (by simpa [Value.cells, e1, e2] using h2)
      have h1' : c1 = .int .i64 e := by simpa using he
      have h2' : c2 = .int .i64 k := by simpa using hk
      subst hr
      subst h1'
      subst h2'
      exact ⟨A, ns, c, e, k, rfl, hrow, hnc, hc⟩
end
theorem u64_of9 {a : Int} (h : (Lit.int .u64 a).wf = true) : ∃ n : Nat, a = (n : Int) := by
  have := bounds_u64 h
  exact ⟨a.toNat, by omega⟩
theorem u8_of9 {a : Int} (h : (Lit.int .u8 a).wf = true) : ∃ n : Nat, a = (n : Int) ∧ n ≤ 255 := by
  have := bounds_u8 h
  exact ⟨a.toNat, by omega, by omega⟩
/-- Whether more than is looked at. -/
def LgE (n : Nat) (e : Int) (w : World) (x : Ending) (w' : World) : Prop := ∃ b : Bool, x = .returned (.bool b) ∧ (b = false → n ≤ 12) ∧ Below w.heap.size w w'
def IsTr (w : World) (x : Ending) (w' : World) : Prop := x = .returned (.bool true) ∧ Below w.heap.size w w'
theorem row_cells' {w : World} {t : TypeId} {cs : Array Value} {xs : List Value} (h : cs.toList = xs) : Row (w.alloc (.cells cs t)) (w.alloc (.cells cs t)).heap.size (some ⟨w.heap.size, 0, none⟩) xs :=
  (row_cells h).more (by simp)
theorem ints3_row (w : World) : Row (w.alloc (.cells #[.int .i64 1, .int .i64 2, .int .i64 3] 3)) (w.heap.size + 1) (some ⟨w.heap.size, 0, none⟩) (([1, 2, 3] : List Int).map iV) :=
  row_cells (xs := ([1, 2, 3] : List Int).map iV) rfl
theorem keep7 (h : Nat) : keepP (ptsP fP [7] 3) h 1 = [7] := by
  have h1 := keepP_len fP [7] (by simp) 3 (by omega) h 1 (by simp)
  obtain ⟨x, hx⟩ : ∃ x, keepP (ptsP fP [7] 3) h 1 = [x] := List.length_eq_one_iff.1 h1
  have hm : x ∈ metP (ptsP fP [7] 3) h := List.mem_of_mem_take (by unfold keepP at hx; rw [hx]; simp)
  have := (metP_node fP [7] 3 (by omega) h x).1 hm
  have e : x = 7 := by simpa using this
  rw [hx, e]
end Go.Proofs.Ytafajikjojpaaaa
