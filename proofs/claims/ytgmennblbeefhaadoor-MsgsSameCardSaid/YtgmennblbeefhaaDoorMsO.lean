/- MsO: A message that comes in, opened. -/
import Derived.Test.YtgmennblbeefhaaDoorMsC
import Derived.OpenShut
import Derived.WideShapes
import Derived.Deep.Slices
import Derived.Deep.Fields
namespace Go.Proofs.YtgmennblbeefhaaDoor
open Go.RowKit Go.ChangeShapes Go.WideShapes Mem Rg
set_option maxRecDepth 100000
set_option maxHeartbeats 4000000
set_option linter.unusedVariables false
section
variable {H : Type} {enc : TypeId × Value → H} {w : World} {base : Nat} {held : Bool}
theorem tag_cells12 {fuel : Nat} {c0 c1 c2 : Value} {x : DataW H × List MemPlace} (h : DataW.trod enc Tryd.prog w base (fun _ => true) held fuel 23 [c0, c1, c2] = some x) :
    ∃ s u o : Int, c0 = .int .i64 s ∧ c1 = .int .i64 u ∧ c2 = .int .i64 o := by
  obtain ⟨xs, n, _, _, _, hlen, hg⟩ := DataW.trod_struct Tryd.underlying23 h
  have e1 : Tryd.prog.cellsOf 3 = 1 := by kernel_rfl
  match xs, hlen with
  | [y0, y1, y2], _ =>
    have h0 := hg 0 _ rfl
    have h1 := hg 1 _ rfl
    have h2 := hg 2 _ rfl
    obtain ⟨s, hs, _, ws⟩ := DataW.trod_int Tryd.underlying3 (x := y0) (by simpa [e1] using h0)
    obtain ⟨u, hu, _, wu⟩ := DataW.trod_int Tryd.underlying3 (x := y1) (by simpa [e1] using h1)
    obtain ⟨o, ho, _, wo⟩ := DataW.trod_int Tryd.underlying3 (x := y2) (by simpa [e1] using h2)
    exact ⟨s, u, o, by simpa using hs, by simpa using hu, by simpa using ho⟩
theorem val_cells12 {fuel : Nat} {c0 c1 : Value} {x : DataW H × List MemPlace} (h : DataW.trod enc Tryd.prog w base (fun _ => true) held fuel 26 [c0, c1] = some x) :
    ∃ (has : Bool) (A : Option Addr) (xs : List UInt8) (c : Nat), c0 = .bool has ∧ c1 = .slice A xs.length c ∧ Row w w.heap.size A (xs.map byteV) ∧ xs.length ≤ c ∧ c ≤ maxLen := by
  obtain ⟨xs, n, _, _, _, hlen, hg⟩ := DataW.trod_struct Tryd.underlying26 h
  have e1 : Tryd.prog.cellsOf 4 = 1 := by kernel_rfl
  have e2 : Tryd.prog.cellsOf 24 = 1 := by kernel_rfl
  match xs, hlen with
  | [y0, y1], _ =>
    have h0 := hg 0 _ rfl
    have h1 := hg 1 _ rfl
    obtain ⟨b, hb, _⟩ := DataW.trod_bool Tryd.underlying4 (x := y0) (by simpa [e1, e2] using h0)
    obtain ⟨⟨A, ys, c⟩, hr, ho⟩ := open_bytes1 (x := y1) Tryd.underlying24 Tryd.underlying5 (by kernel_rfl) (by simpa [e1, e2] using h1)
    exact ⟨b, A, ys, c, by simpa using hb, hr, ho.1, ho.2.1, ho.2.2⟩
theorem ent_cells12 {fuel : Nat} {c0 c1 c2 c3 c4 c5 : Value} {x : DataW H × List MemPlace} (h : DataW.trod enc Tryd.prog w base (fun _ => true) held fuel 28 [c0, c1, c2, c3, c4, c5] = some x) :
    ∃ y : EV, [c0, c1, c2, c3, c4, c5] = entC y ∧ Row w w.heap.size y.2.1 (y.1.v.map byteV) ∧ y.1.v.length ≤ y.2.2 ∧ y.2.2 ≤ maxLen ∧ y.1.k.length ≤ maxLen := by
  obtain ⟨xs, n, _, _, _, hlen, hg⟩ := DataW.trod_struct Tryd.underlying28 h
  have e0 : Tryd.prog.cellsOf 9 = 1 := by kernel_rfl
  have e1 : Tryd.prog.cellsOf 23 = 3 := by kernel_rfl
  have e2 : Tryd.prog.cellsOf 26 = 2 := by kernel_rfl
  match xs, hlen with
  | [y0, y1, y2], _ =>
    have h0 := hg 0 _ rfl
    have h1 := hg 1 _ rfl
    have h2 := hg 2 _ rfl
    obtain ⟨key, hk, _, hkl⟩ := DataW.trod_string Tryd.underlying9 (x := y0) (by simpa [e0, e1, e2] using h0)
    obtain ⟨s, u, o, rfl, rfl, rfl⟩ := tag_cells12 (x := y1) (by simpa [e0, e1, e2] using h1)
    obtain ⟨has, A, ys, c, rfl, rfl, hr, hc, hm⟩ := val_cells12 (x := y2) (by simpa [e0, e1, e2] using h2)
    have hk' : c0 = .string key := by simpa using hk
    subst hk'
    refine ⟨(⟨key.data.toList, s, u, o, has, ys⟩, A, c), ?_, hr, hc, hm, ?_⟩
    · unfold entC
      simp
    · show key.data.toList.length ≤ maxLen
      have : key.data.toList.length = key.size := by rw [Array.length_toList]; rfl
      omega
theorem open_ents12 {fuel : Nat} {a : Option Addr} {len cap : Nat} {x0 : DataW H × List MemPlace} (hf : DataW.trod enc Tryd.prog w base (fun _ => true) held fuel 29 [.slice a len cap] = some x0) :
    ∃ rs : List EV, len = rs.length ∧ len ≤ cap ∧ cap ≤ maxLen ∧ Row w w.heap.size a (entsC rs) ∧ (∀ r ∈ rs, EvB w r) := by
  rcases Go.Deep.open_slice Tryd.underlying29 hf with ⟨hcs, _⟩ | ⟨x, l, c, m, n, D, Pl, hcs, _, hl, hm, hmm, hd, hx⟩
  · simp only [List.cons.injEq, and_true] at hcs
    injection hcs with h1 h2 h3
    subst h1; subst h2; subst h3
    exact ⟨[], rfl, Nat.le_refl _, by unfold maxLen; omega, Row.nil _ _ _, by simp⟩
  · simp only [List.cons.injEq, and_true] at hcs
    injection hcs with h1 h2 h3
    subst h1; subst h2; subst h3
    simp only [if_true] at hmm
    subst hmm
    have hC : Tryd.prog.cellsOf 28 = 6 := by kernel_rfl
    rw [hC] at hx
    obtain ⟨V, hV⟩ := Go.Deep.choose_lt (n := len) (α := EV) (p := fun i r => (∀ j, j < 6 → w.cell? (x.add (i * 6 + j)) = (entC r)[j]?) ∧ EvB w r) (fun i hi => by
      obtain ⟨cs', h1, h2⟩ := hx i (by omega)
      obtain ⟨_, hlen, hat⟩ := World.cells?_some h1
      match cs', hlen with
      | [c0, c1, c2, c3, c4, c5], _ =>
        obtain ⟨r, hr, hr1, hr2, hr3, hr4⟩ := ent_cells12 h2
        refine ⟨r, fun j hj => ?_, hr1, by omega, by omega, hr2⟩
        rw [← Go.Deep.add_add, hat j hj, hr])
    refine ⟨(List.range len).map V, by simp, hl, hm, ?_, ?_⟩
    · rcases Nat.eq_zero_or_pos len with h0 | h0
      · subst h0; exact Or.inl rfl
      · have hc0 := (hV 0 h0).1 0 (by omega)
        have hc0' : w.cell? x = some (.string ⟨(V 0).1.k.toArray⟩) := by
          have e : x.add (0 * 6 + 0) = x := by simp [Addr.add]
          rw [e] at hc0; exact hc0
        obtain ⟨b, o, spot⟩ := x
        have hspot : spot = none := World.cell?_spot hc0'
        subst hspot
        refine Or.inr ⟨b, o, rfl, block_lt hc0', fun j hj => ?_⟩
        have hj8 : j < len * 6 := by rw [entsC_len] at hj; simpa using hj
        have hi : j / 6 < len := by omega
        have hdd : j = j / 6 * 6 + j % 6 := by omega
        have hv := (hV (j / 6) hi).1 (j % 6) (by omega)
        rw [← hdd] at hv
        have e : (⟨b, o, none⟩ : Addr).add j = ⟨b, o + j, none⟩ := by
          unfold Addr.add; split
          · subst_vars; rfl
          · rfl
        rw [e] at hv
        have ht := entsC_at ((List.range len).map V) (j / 6) (by simpa using hi) (j % 6) (by omega)
        rw [← hdd, List.getElem?_eq_getElem hj] at ht
        rw [hv, ht, List.getElem_map, List.getElem_range]
    · intro r hr
      obtain ⟨i, hi, rfl⟩ := List.mem_map.1 hr
      exact (hV i (List.mem_range.1 hi)).2
theorem open_ints12 {P : Program} {t e : TypeId} {fuel : Nat} {v : Value} {x : DataW H × List MemPlace} (ht : P.underlying t = some (.slice e)) (he : P.underlying e = some (.int .i64)) (hc : P.cellsOf e = 1)
    (h : DataW.trod enc P w base (fun _ => true) held fuel t [v] = some x) : ∃ (A : Option Addr) (ns : List Int) (c : Nat), v = .slice A ns.length c ∧ Row w w.heap.size A (ns.map iV) ∧ ns.length ≤ c ∧ c ≤ maxLen := by
  have hsh : ∃ a len cap, v = .slice a len cap := by
    rcases DataW.trod_slice ht h with ⟨hcs, _⟩ | ⟨a, len, cap, _, _, _, _, hcs, _⟩
    · exact ⟨none, 0, 0, by simpa using hcs⟩
    · exact ⟨some a, len, cap, by simpa using hcs⟩
  obtain ⟨a, len, cap, rfl⟩ := hsh
  obtain ⟨vs, hl, hr, h1, h2, hv⟩ := open_row1 ht hc h
  obtain ⟨zs, rfl, hz⟩ := list_of (f := iV) (Q := fun z => (Lit.int .i64 z).wf = true) vs (fun v hvm => by
    obtain ⟨n, y, hy⟩ := hv v hvm
    obtain ⟨b, hb, _, hw⟩ := DataW.trod_int he hy
    exact ⟨b, by show v = Value.int .i64 b; simpa using hb, hw⟩)
  rw [List.length_map] at hl
  subst hl
  exact ⟨a, zs, cap, rfl, hr, h1, h2⟩
theorem ring_cells12 {fuel : Nat} {c0 c1 c2 : Value} {x : DataW H × List MemPlace} (hf : DataW.trod enc Tryd.prog w base (fun _ => true) held fuel 32 [c0, c1, c2] = some x) :
    ∃ (A : Option Addr) (ns : List Int) (c : Nat) (e k : Int), c0 = .slice A ns.length c ∧ c1 = .int .i64 e ∧ c2 = .int .i64 k ∧ Row w w.heap.size A (ns.map iV) ∧ ns.length ≤ c ∧ c ≤ maxLen := by
  obtain ⟨xs, n, _, _, _, hlen, hg⟩ := DataW.trod_struct Tryd.underlying32 hf
  have e1 : Tryd.prog.cellsOf 3 = 1 := by kernel_rfl
  have e2 : Tryd.prog.cellsOf 30 = 1 := by kernel_rfl
  match xs, hlen with
  | [y0, y1, y2], _ =>
    have h0 := hg 0 _ rfl
    have h1 := hg 1 _ rfl
    have h2 := hg 2 _ rfl
    obtain ⟨A, ns, c, hr, hrow, hnc, hc⟩ := open_ints12 (x := y0) Tryd.underlying30 Tryd.underlying3 (by kernel_rfl) (by simpa [Value.cells, e1, e2] using h0)
    obtain ⟨e, he, _, _⟩ := DataW.trod_int Tryd.underlying3 (x := y1) (by simpa [Value.cells, e1, e2] using h1)
    obtain ⟨k, hk, _, _⟩ := DataW.trod_int Tryd.underlying3 (x := y2) (by simpa [Value.cells, e1, e2] using h2)
    exact ⟨A, ns, c, e, k, hr, by simpa using he, by simpa using hk, hrow, hnc, hc⟩
theorem open_msg {r : Reach} {b0 : Nat} {v : Value} {d : DataW H} {ps : List MemPlace} (hv : Value.okWide Tryd.prog w r b0 34 v) (h : DataW.Trod enc Tryd.prog w base (fun _ => true) held 34 v d ps) :
    ∃ x : MV, v = .agg (mC x) ∧ MsgM w x := by
  obtain ⟨cs, rfl, hsz⟩ := okWide_struct Tryd.underlying34 hv
  obtain ⟨l⟩ := cs
  have hC : Tryd.prog.cellsOf 34 = 17 := by kernel_rfl
  match l, hsz.trans hC with
  | [c0, c1, c2, c3, c4, c5, c6, c7, c8, c9, c10, c11, c12, c13, c14, c15, c16], _ =>
    obtain ⟨fuel, hf⟩ := h
    obtain ⟨xs, n, _, _, _, hlen, hg⟩ := DataW.trod_struct Tryd.underlying34 hf
    have e1 : Tryd.prog.cellsOf 3 = 1 := by kernel_rfl
    have e2 : Tryd.prog.cellsOf 4 = 1 := by kernel_rfl
    have e3 : Tryd.prog.cellsOf 28 = 6 := by kernel_rfl
    have e4 : Tryd.prog.cellsOf 29 = 1 := by kernel_rfl
    have e5 : Tryd.prog.cellsOf 32 = 3 := by kernel_rfl
    match xs, hlen with
    | [y0, y1, y2, y3, y4, y5, y6, y7, y8, y9], _ =>
      have h0 := hg 0 _ rfl
      have h1 := hg 1 _ rfl
      have h2 := hg 2 _ rfl
      have h3 := hg 3 _ rfl
      have h4 := hg 4 _ rfl
      have h5 := hg 5 _ rfl
      have h6 := hg 6 _ rfl
      have h7 := hg 7 _ rfl
      have h8 := hg 8 _ rfl
      have h9 := hg 9 _ rfl
      obtain ⟨a0, ha0, _, _⟩ := DataW.trod_int Tryd.underlying3 (x := y0) (by simpa [Value.cells, e1, e2, e3, e4, e5] using h0)
      obtain ⟨a1, ha1, _, _⟩ := DataW.trod_int Tryd.underlying3 (x := y1) (by simpa [Value.cells, e1, e2, e3, e4, e5] using h1)
      obtain ⟨a2, ha2, _, _⟩ := DataW.trod_int Tryd.underlying3 (x := y2) (by simpa [Value.cells, e1, e2, e3, e4, e5] using h2)
      obtain ⟨a3, ha3, _, _⟩ := DataW.trod_int Tryd.underlying3 (x := y3) (by simpa [Value.cells, e1, e2, e3, e4, e5] using h3)
      obtain ⟨a4, ha4, _, _⟩ := DataW.trod_int Tryd.underlying3 (x := y4) (by simpa [Value.cells, e1, e2, e3, e4, e5] using h4)
      obtain ⟨a5, ha5, _, _⟩ := DataW.trod_int Tryd.underlying3 (x := y5) (by simpa [Value.cells, e1, e2, e3, e4, e5] using h5)
      obtain ⟨fl, hfl, _⟩ := DataW.trod_bool Tryd.underlying4 (x := y6) (by simpa [Value.cells, e1, e2, e3, e4, e5] using h6)
      obtain ⟨y, hy, hr, hc, hm, hkl⟩ := ent_cells12 (x := y7) (by simpa [Value.cells, e1, e2, e3, e4, e5] using h7)
      have h8' : DataW.trod enc Tryd.prog w base (fun _ => true) held n 29 [c13] = some y8 := by simpa [Value.cells, e1, e2, e3, e4, e5] using h8
      obtain ⟨la, ll, lc, hl13⟩ : ∃ a len cap, c13 = .slice a len cap := by
        rcases DataW.trod_slice Tryd.underlying29 h8' with ⟨hcs, _⟩ | ⟨a, len, cap, _, _, _, _, hcs, _⟩
        · exact ⟨none, 0, 0, by simpa using hcs⟩
        · exact ⟨some a, len, cap, by simpa using hcs⟩
      subst hl13
      obtain ⟨rs, hrs, hlc, hlm, hrow, hval⟩ := open_ents12 h8'
      obtain ⟨rA, ns, rc, re, rk, q1, q2, q3, hrr, hrn, hrm⟩ := ring_cells12 (x := y9) (by simpa [Value.cells, e1, e2, e3, e4, e5] using h9)
      unfold entC at hy
      simp only [List.cons.injEq, and_true] at hy
      obtain ⟨p1, p2, p3, p4, p5, p6⟩ := hy
      subst hrs
      have hb0 : c0 = .int .i64 a0 := by simpa using ha0
      have hb1 : c1 = .int .i64 a1 := by simpa using ha1
      have hb2 : c2 = .int .i64 a2 := by simpa using ha2
      have hb3 : c3 = .int .i64 a3 := by simpa using ha3
      have hb4 : c4 = .int .i64 a4 := by simpa using ha4
      have hb5 : c5 = .int .i64 a5 := by simpa using ha5
      have hb6 : c6 = .bool fl := by simpa using hfl
      refine ⟨⟨a0, a1, a2, a3, a4, a5, fl, y, la, rs, lc, rA, ns, rc, re, rk⟩, ?_, ⟨hr, Nat.le_trans hc hm, hkl, hc⟩, ⟨hrow, hval⟩, by show rs.length ≤ maxLen; omega, hrr, by show ns.length ≤ maxLen; omega⟩
      rw [hb0, hb1, hb2, hb3, hb4, hb5, hb6, p1, p2, p3, p4, p5, p6, q1, q2, q3]
end
end Go.Proofs.YtgmennblbeefhaaDoor
