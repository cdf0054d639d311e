/- MsOs: A message that comes in, opened, with its reach. -/
import Derived.Test.YtgmennblbeefhaaDoorMsO
import Derived.Test.YtgmennblbeefhaaDoorSized
namespace Go.Proofs.YtgmennblbeefhaaDoor
open Go.RowKit Go.ChangeShapes Go.WideShapes Mem Rg
set_option maxRecDepth 100000
set_option maxHeartbeats 4000000
set_option linter.unusedVariables false
/-- What of a message an address may reach. -/
structure SzM (x : MV) : Prop where
  e : x.e.1.v.length ≤ reachBytes
  l : ∀ y ∈ x.l, y.1.v.length ≤ reachBytes
  ln : x.l.length * 72 ≤ reachBytes
  nl : x.ns.length * 8 ≤ reachBytes
theorem sized_field12 {H : Type} {P : Program} {t t' : TypeId} {parts : List (DataW H)} {fs : Array Field} {j : Nat} {d : DataW H} (h : SizedD P t (.agg parts)) (ht : P.underlying t = some (.struct fs)) (hj : (fs.toList.map (·.type))[j]? = some t') (hd : parts[j]? = some d) : SizedD P t' d := fun n hn =>
  h n (by simp only [DataW.weights, ht]; exact DataW.weights_mem_each hj hd n hn)
section
variable {H : Type} {enc : TypeId × Value → H} {w : World} {base : Nat} {held : Bool}
theorem val_cells12S {fuel : Nat} {c0 c1 : Value} {x : DataW H × List MemPlace} (h : DataW.trod enc Tryd.prog w base (fun _ => true) held fuel 26 [c0, c1] = some x) :
    ∃ (has : Bool) (A : Option Addr) (xs : List UInt8) (c : Nat), c0 = .bool has ∧ c1 = .slice A xs.length c ∧ Row w w.heap.size A (xs.map byteV) ∧ xs.length ≤ c ∧ c ≤ maxLen ∧ (SizedD Tryd.prog 26 x.1 → xs.length ≤ reachBytes) := by
  obtain ⟨xs, n, _, hx, _, hlen, hg⟩ := DataW.trod_struct Tryd.underlying26 h
  have e1 : Tryd.prog.cellsOf 4 = 1 := by kernel_rfl
  have e2 : Tryd.prog.cellsOf 24 = 1 := by kernel_rfl
  match xs, hlen with
  | [y0, y1], _ =>
    have h0 := hg 0 _ rfl
    have h1 := hg 1 _ rfl
    obtain ⟨b, hb, _⟩ := DataW.trod_bool Tryd.underlying4 (x := y0) (by simpa [e1, e2] using h0)
    have h1' : DataW.trod enc Tryd.prog w base (fun _ => true) held n 24 [c1] = some y1 := by simpa [e1, e2] using h1
    obtain ⟨⟨A, ys, c⟩, hr, ho⟩ := open_bytes1 (x := y1) Tryd.underlying24 Tryd.underlying5 (by kernel_rfl) h1'
    refine ⟨b, A, ys, c, by simpa using hb, hr, ho.1, ho.2.1, ho.2.2, fun hs => ?_⟩
    rw [hx] at hs
    have hs1 : SizedD Tryd.prog 24 y1.1 := sized_field12 (j := 1) hs Tryd.underlying26 rfl rfl
    obtain ⟨y1d, y1p⟩ := y1
    rw [hr] at h1'
    exact sized_bytes Tryd.underlying24 (by kernel_rfl) (by kernel_rfl) h1' hs1
theorem ent_cells12S {fuel : Nat} {c0 c1 c2 c3 c4 c5 : Value} {x : DataW H × List MemPlace} (h : DataW.trod enc Tryd.prog w base (fun _ => true) held fuel 28 [c0, c1, c2, c3, c4, c5] = some x) :
    ∃ y : EV, [c0, c1, c2, c3, c4, c5] = entC y ∧ Row w w.heap.size y.2.1 (y.1.v.map byteV) ∧ y.1.v.length ≤ y.2.2 ∧ y.2.2 ≤ maxLen ∧ y.1.k.length ≤ maxLen ∧ (SizedD Tryd.prog 28 x.1 → y.1.v.length ≤ reachBytes) := by
  obtain ⟨xs, n, _, hx, _, hlen, hg⟩ := DataW.trod_struct Tryd.underlying28 h
  have e0 : Tryd.prog.cellsOf 9 = 1 := by kernel_rfl
  have e1 : Tryd.prog.cellsOf 23 = 3 := by kernel_rfl
  have e2 : Tryd.prog.cellsOf 26 = 2 := by kernel_rfl
  match xs, hlen with
  | [y0, y1, y2], _ =>
    have h0 := hg 0 _ rfl
    have h1 := hg 1 _ rfl
    have h2 := hg 2 _ rfl
    obtain ⟨key, hk, _, hkl⟩ := DataW.trod_string Tryd.underlying9 (x := y0) (by simpa [e0, e1, e2] using h0)
    obtain ⟨s, u, o, rfl, rfl, rfl⟩ := tag_cells12 (x := y1) (by simpa [e0, e1, e2] using h1)
    obtain ⟨has, A, ys, c, rfl, rfl, hr, hc, hm, hz⟩ := val_cells12S (x := y2) (by simpa [e0, e1, e2] using h2)
    have hk' : c0 = .string key := by simpa using hk
    subst hk'
    refine ⟨(⟨key.data.toList, s, u, o, has, ys⟩, A, c), ?_, hr, hc, hm, ?_, fun hs => hz (by
      rw [hx] at hs
      exact sized_field12 (j := 2) hs Tryd.underlying28 rfl rfl)⟩
    · unfold entC
      simp
    · show key.data.toList.length ≤ maxLen
      have : key.data.toList.length = key.size := by rw [Array.length_toList]; rfl
      omega
theorem open_ents12S {fuel : Nat} {a : Option Addr} {len cap : Nat} {x0 : DataW H × List MemPlace} (hf : DataW.trod enc Tryd.prog w base (fun _ => true) held fuel 29 [.slice a len cap] = some x0) :
    ∃ rs : List EV, len = rs.length ∧ len ≤ cap ∧ cap ≤ maxLen ∧ Row w w.heap.size a (entsC rs) ∧ (∀ r ∈ rs, EvB w r) ∧ (SizedD Tryd.prog 29 x0.1 → len * 72 ≤ reachBytes ∧ ∀ r ∈ rs, r.1.v.length ≤ reachBytes) := by
  rcases Go.Deep.open_slice Tryd.underlying29 hf with ⟨hcs, _⟩ | ⟨x, l, c, m, n, D, Pl, hcs, _, hl, hm, hmm, hd, hx⟩
  · simp only [List.cons.injEq, and_true] at hcs
    injection hcs with h1 h2 h3
    subst h1; subst h2; subst h3
    exact ⟨[], rfl, Nat.le_refl _, by unfold maxLen; omega, Row.nil _ _ _, by simp, fun _ => ⟨Nat.zero_le _, by simp⟩⟩
  · simp only [List.cons.injEq, and_true] at hcs
    injection hcs with h1 h2 h3
    subst h1; subst h2; subst h3
    simp only [if_true] at hmm
    subst hmm
    have hC : Tryd.prog.cellsOf 28 = 6 := by kernel_rfl
    rw [hC] at hx
    obtain ⟨V, hV⟩ := Go.Deep.choose_lt (n := len) (α := EV) (p := fun i r => (∀ j, j < 6 → w.cell? (x.add (i * 6 + j)) = (entC r)[j]?) ∧ EvB w r ∧ (SizedD Tryd.prog 28 (D i) → r.1.v.length ≤ reachBytes)) (fun i hi => by
      obtain ⟨cs', h1, h2⟩ := hx i (by omega)
      obtain ⟨_, hlen, hat⟩ := World.cells?_some h1
      match cs', hlen with
      | [c0, c1, c2, c3, c4, c5], _ =>
        obtain ⟨r, hr, hr1, hr2, hr3, hr4, hr5⟩ := ent_cells12S h2
        refine ⟨r, fun j hj => ?_, ⟨hr1, by omega, by omega, hr2⟩, hr5⟩
        rw [← Go.Deep.add_add, hat j hj, hr])
    refine ⟨(List.range len).map V, by simp, hl, hm, ?_, ?_, ?_⟩
    · rcases Nat.eq_zero_or_pos len with h0 | h0
      · subst h0; exact Or.inl rfl
      · have hc0 := (hV 0 h0).1 0 (by omega)
        have hc0' : w.cell? x = some (.string ⟨(V 0).1.k.toArray⟩) := by
          have e : x.add (0 * 6 + 0) = x := by simp [Addr.add]
          rw [e] at hc0; exact hc0
        obtain ⟨b, o, spot⟩ := x
        have hspot : spot = none := World.cell?_spot hc0'
        subst hspot
        refine Or.inr ⟨b, o, rfl, block_lt hc0', fun j hj => ?_⟩
        have hj8 : j < len * 6 := by rw [entsC_len] at hj; simpa using hj
        have hi : j / 6 < len := by omega
        have hdd : j = j / 6 * 6 + j % 6 := by omega
        have hv := (hV (j / 6) hi).1 (j % 6) (by omega)
        rw [← hdd] at hv
        have e : (⟨b, o, none⟩ : Addr).add j = ⟨b, o + j, none⟩ := by
          unfold Addr.add; split
          · subst_vars; rfl
          · rfl
        rw [e] at hv
        have ht := entsC_at ((List.range len).map V) (j / 6) (by simpa using hi) (j % 6) (by omega)
        rw [← hdd, List.getElem?_eq_getElem hj] at ht
        rw [hv, ht, List.getElem_map, List.getElem_range]
    · intro r hr
      obtain ⟨i, hi, rfl⟩ := List.mem_map.1 hr
      exact (hV i (List.mem_range.1 hi)).2.1
    · intro hs
      have h3 := congrArg Prod.fst hd
      simp only at h3
      rw [h3] at hs
      refine ⟨?_, fun r hr => ?_⟩
      · have := hs.len Tryd.underlying29
        have hb : Tryd.prog.bytesOf 28 = 72 := by kernel_rfl
        rw [hb] at this
        simp only [List.length_map, List.length_range] at this
        omega
      · obtain ⟨i, hi, rfl⟩ := List.mem_map.1 hr
        exact (hV i (List.mem_range.1 hi)).2.2 (hs.elem Tryd.underlying29 (List.mem_map.2 ⟨i, hi, rfl⟩))
theorem ring_cells12S {fuel : Nat} {c0 c1 c2 : Value} {x : DataW H × List MemPlace} (hf : DataW.trod enc Tryd.prog w base (fun _ => true) held fuel 32 [c0, c1, c2] = some x) :
    ∃ (A : Option Addr) (ns : List Int) (c : Nat) (e k : Int), c0 = .slice A ns.length c ∧ c1 = .int .i64 e ∧ c2 = .int .i64 k ∧ Row w w.heap.size A (ns.map iV) ∧ ns.length ≤ c ∧ c ≤ maxLen ∧ (SizedD Tryd.prog 32 x.1 → ns.length * 8 ≤ reachBytes) := by
  obtain ⟨xs, n, _, hx, _, hlen, hg⟩ := DataW.trod_struct Tryd.underlying32 hf
  have e1 : Tryd.prog.cellsOf 3 = 1 := by kernel_rfl
  have e2 : Tryd.prog.cellsOf 30 = 1 := by kernel_rfl
  match xs, hlen with
  | [y0, y1, y2], _ =>
    have h0 := hg 0 _ rfl
    have h1 := hg 1 _ rfl
    have h2 := hg 2 _ rfl
    have h0' : DataW.trod enc Tryd.prog w base (fun _ => true) held n 30 [c0] = some y0 := by simpa [Value.cells, e1, e2] using h0
    obtain ⟨A, ns, c, hr, hrow, hnc, hc⟩ := open_ints12 (x := y0) Tryd.underlying30 Tryd.underlying3 (by kernel_rfl) h0'
    obtain ⟨e, he, _, _⟩ := DataW.trod_int Tryd.underlying3 (x := y1) (by simpa [Value.cells, e1, e2] using h1)
    obtain ⟨k, hk, _, _⟩ := DataW.trod_int Tryd.underlying3 (x := y2) (by simpa [Value.cells, e1, e2] using h2)
    refine ⟨A, ns, c, e, k, hr, by simpa using he, by simpa using hk, hrow, hnc, hc, fun hs => ?_⟩
    rw [hx] at hs
    have hs1 : SizedD Tryd.prog 30 y0.1 := sized_field12 (j := 0) hs Tryd.underlying32 rfl rfl
    obtain ⟨y0d, y0p⟩ := y0
    rw [hr] at h0'
    exact sized_ints Tryd.underlying30 (by kernel_rfl) (by kernel_rfl) ⟨n, h0'⟩ hs1
theorem open_msgS {r : Reach} {b0 : Nat} {v : Value} {d : DataW H} {ps : List MemPlace} (hv : Value.okWide Tryd.prog w r b0 34 v) (h : DataW.Trod enc Tryd.prog w base (fun _ => true) held 34 v d ps) :
    ∃ x : MV, v = .agg (mC x) ∧ MsgM w x ∧ (SizedD Tryd.prog 34 d → SzM x) := by
  obtain ⟨cs, rfl, hsz⟩ := okWide_struct Tryd.underlying34 hv
  obtain ⟨l⟩ := cs
  have hC : Tryd.prog.cellsOf 34 = 17 := by kernel_rfl
  match l, hsz.trans hC with
  | [c0, c1, c2, c3, c4, c5, c6, c7, c8, c9, c10, c11, c12, c13, c14, c15, c16], _ =>
    obtain ⟨fuel, hf⟩ := h
    obtain ⟨xs, n, _, hx, _, hlen, hg⟩ := DataW.trod_struct Tryd.underlying34 hf
    have e1 : Tryd.prog.cellsOf 3 = 1 := by kernel_rfl
    have e2 : Tryd.prog.cellsOf 4 = 1 := by kernel_rfl
    have e3 : Tryd.prog.cellsOf 28 = 6 := by kernel_rfl
    have e4 : Tryd.prog.cellsOf 29 = 1 := by kernel_rfl
    have e5 : Tryd.prog.cellsOf 32 = 3 := by kernel_rfl
    match xs, hlen with
    | [y0, y1, y2, y3, y4, y5, y6, y7, y8, y9], _ =>
      have h0 := hg 0 _ rfl
      have h1 := hg 1 _ rfl
      have h2 := hg 2 _ rfl
      have h3 := hg 3 _ rfl
      have h4 := hg 4 _ rfl
      have h5 := hg 5 _ rfl
      have h6 := hg 6 _ rfl
      have h7 := hg 7 _ rfl
      have h8 := hg 8 _ rfl
      have h9 := hg 9 _ rfl
      obtain ⟨a0, ha0, _, _⟩ := DataW.trod_int Tryd.underlying3 (x := y0) (by simpa [Value.cells, e1, e2, e3, e4, e5] using h0)
      obtain ⟨a1, ha1, _, _⟩ := DataW.trod_int Tryd.underlying3 (x := y1) (by simpa [Value.cells, e1, e2, e3, e4, e5] using h1)
      obtain ⟨a2, ha2, _, _⟩ := DataW.trod_int Tryd.underlying3 (x := y2) (by simpa [Value.cells, e1, e2, e3, e4, e5] using h2)
      obtain ⟨a3, ha3, _, _⟩ := DataW.trod_int Tryd.underlying3 (x := y3) (by simpa [Value.cells, e1, e2, e3, e4, e5] using h3)
      obtain ⟨a4, ha4, _, _⟩ := DataW.trod_int Tryd.underlying3 (x := y4) (by simpa [Value.cells, e1, e2, e3, e4, e5] using h4)
      obtain ⟨a5, ha5, _, _⟩ := DataW.trod_int Tryd.underlying3 (x := y5) (by simpa [Value.cells, e1, e2, e3, e4, e5] using h5)
      obtain ⟨fl, hfl, _⟩ := DataW.trod_bool Tryd.underlying4 (x := y6) (by simpa [Value.cells, e1, e2, e3, e4, e5] using h6)
      obtain ⟨y, hy, hr, hc, hm, hkl, hz1⟩ := ent_cells12S (x := y7) (by simpa [Value.cells, e1, e2, e3, e4, e5] using h7)
      have h8' : DataW.trod enc Tryd.prog w base (fun _ => true) held n 29 [c13] = some y8 := by simpa [Value.cells, e1, e2, e3, e4, e5] using h8
      obtain ⟨la, ll, lc, hl13⟩ : ∃ a len cap, c13 = .slice a len cap := by
        rcases DataW.trod_slice Tryd.underlying29 h8' with ⟨hcs, _⟩ | ⟨a, len, cap, _, _, _, _, hcs, _⟩
        · exact ⟨none, 0, 0, by simpa using hcs⟩
        · exact ⟨some a, len, cap, by simpa using hcs⟩
      subst hl13
      obtain ⟨rs, hrs, hlc, hlm, hrow, hval, hz2⟩ := open_ents12S h8'
      obtain ⟨rA, ns, rc, re, rk, q1, q2, q3, hrr, hrn, hrm, hz3⟩ := ring_cells12S (x := y9) (by simpa [Value.cells, e1, e2, e3, e4, e5] using h9)
      unfold entC at hy
      simp only [List.cons.injEq, and_true] at hy
      obtain ⟨p1, p2, p3, p4, p5, p6⟩ := hy
      subst hrs
      have hb0 : c0 = .int .i64 a0 := by simpa using ha0
      have hb1 : c1 = .int .i64 a1 := by simpa using ha1
      have hb2 : c2 = .int .i64 a2 := by simpa using ha2
      have hb3 : c3 = .int .i64 a3 := by simpa using ha3
      have hb4 : c4 = .int .i64 a4 := by simpa using ha4
      have hb5 : c5 = .int .i64 a5 := by simpa using ha5
      have hb6 : c6 = .bool fl := by simpa using hfl
      refine ⟨⟨a0, a1, a2, a3, a4, a5, fl, y, la, rs, lc, rA, ns, rc, re, rk⟩, ?_, ⟨⟨hr, Nat.le_trans hc hm, hkl, hc⟩, ⟨hrow, hval⟩, by show rs.length ≤ maxLen; omega, hrr, by show ns.length ≤ maxLen; omega⟩, fun hs => ?_⟩
      · rw [hb0, hb1, hb2, hb3, hb4, hb5, hb6, p1, p2, p3, p4, p5, p6, q1, q2, q3]
      · rw [show d = _ from congrArg Prod.fst hx] at hs
        have s1 := hz1 (sized_field12 (j := 7) hs Tryd.underlying34 rfl rfl)
        have s2 := hz2 (sized_field12 (j := 8) hs Tryd.underlying34 rfl rfl)
        have s3 := hz3 (sized_field12 (j := 9) hs Tryd.underlying34 rfl rfl)
        exact ⟨s1, s2.2, s2.1, s3⟩
end
end Go.Proofs.YtgmennblbeefhaaDoor
