/- ClD: Rows of things that are done to a table, as they come in. -/
import Derived.Test.YtpebhfjcakllmaaGreatTb8
import Derived.Test.YtpebhfjcakllmaaGreatSized
import Derived.Deep.Slices
import Derived.Deep.Fields
namespace Go.Proofs.YtpebhfjcakllmaaGreat
open Go.RowKit Go.ChangeShapes Go.WideShapes Mem
set_option maxRecDepth 10000
set_option maxHeartbeats 2000000
set_option linter.unusedVariables false
/-- Something that is done: its kind, the entry, the token. -/
structure D11 where
  kind : Int
  e : EV
  tok : Int
instance d11inh : Inhabited D11 := ⟨⟨0, evN [], 0⟩⟩
def d11C (r : D11) : List Value := [.int .i64 r.kind, .string ⟨r.e.1.k.toArray⟩, .int .i64 r.e.1.s, .int .i64 r.e.1.u, .int .i64 r.e.1.o, .bool r.e.1.has, .slice r.e.2.1 r.e.1.v.length r.e.2.2, .int .i64 r.tok]
abbrev d11sC (rs : List D11) : List Value := rs.flatMap d11C
theorem d11sC_len (rs : List D11) : (d11sC rs).length = rs.length * 8 := by
  induction rs with
  | nil => rfl
  | cons p rs ih => simp only [d11sC, List.flatMap_cons, List.length_append, d11C, List.length_cons, List.length_nil]; have := ih; unfold d11sC at this; omega
theorem d11sC_at (rs : List D11) (i : Nat) (h : i < rs.length) (j : Nat) (hj : j < 8) : (d11sC rs)[i * 8 + j]? = (d11C rs[i])[j]? := by
  induction rs generalizing i with
  | nil => simp at h
  | cons p rs ih =>
    have hc : d11sC (p :: rs) = d11C p ++ d11sC rs := rfl
    rw [hc]
    have hl : (d11C p).length = 8 := rfl
    rcases i with _ | i
    · rw [List.getElem?_append_left (by omega), Nat.zero_mul, Nat.zero_add]; rfl
    · rw [List.getElem?_append_right (by omega), hl, show (i + 1) * 8 + j - 8 = i * 8 + j by omega, ih i (by simpa using h)]
      rfl
theorem d11s_open {w : World} {B : Nat} {A : Option Addr} {rs : List D11} (h : Row w B A (d11sC rs)) (hn : 0 < rs.length) :
    ∃ b o, A = some ⟨b, o, none⟩ ∧ b < B ∧ ∀ i (hi : i < rs.length), ∀ j v, (d11C rs[i])[j]? = some v → w.cell? ⟨b, o + i * 8 + j, none⟩ = some v := by
  obtain ⟨b, o, hA, hb, hc⟩ := h.open_ (by rw [d11sC_len]; omega)
  refine ⟨b, o, hA, hb, fun i hi j v hv => ?_⟩
  have hj : j < 8 := by
    have := (List.getElem?_eq_some_iff.1 hv).1
    exact this
  have hlt : i * 8 + j < (d11sC rs).length := by rw [d11sC_len]; omega
  rw [show o + i * 8 + j = o + (i * 8 + j) by omega, hc (i * 8 + j) hlt, ← hv, ← d11sC_at rs i hi j hj, List.getElem?_eq_getElem hlt]
/-- What may come in. -/
structure D11Ok (w : World) (B : Nat) (r : D11) : Prop where
  row : Row w B r.e.2.1 (r.e.1.v.map byteV)
  cap : r.e.1.v.length ≤ r.e.2.2
  capm : r.e.2.2 ≤ maxLen
  key : r.e.1.k.length ≤ maxLen
  k0 : -9223372036854775808 ≤ r.kind
  k1 : r.kind ≤ 9223372036854775807
  p0 : -9223372036854775808 ≤ r.tok
  p1 : r.tok ≤ 9223372036854775807
def InD11 (w : World) (A : Option Addr) (rs : List D11) : Prop := ∀ W, Below w.heap.size w W → Row W w.heap.size A (d11sC rs) ∧ ∀ r ∈ rs, D11Ok W w.heap.size r
theorem D11Ok.below {w w' : World} {B : Nat} {r : D11} (h : D11Ok w B r) (hb : Below B w w') : D11Ok w' B r := ⟨h.row.below hb, h.cap, h.capm, h.key, h.k0, h.k1, h.p0, h.p1⟩
theorem inD11_of {w : World} {A : Option Addr} {rs : List D11} (h : Row w w.heap.size A (d11sC rs)) (hr : ∀ r ∈ rs, D11Ok w w.heap.size r) : InD11 w A rs := fun W hb => ⟨h.below hb, fun r hm => (hr r hm).below hb⟩
section
variable {H : Type} {enc : TypeId × Value → H} {w : World} {base : Nat} {held : Bool}
theorem tag_cells11 {fuel : Nat} {c0 c1 c2 : Value} {x : DataW H × List MemPlace} (h : DataW.trod enc Tryz.prog w base (fun _ => true) held fuel 38 [c0, c1, c2] = some x) :
    ∃ s u o : Int, c0 = .int .i64 s ∧ c1 = .int .i64 u ∧ c2 = .int .i64 o := by
  obtain ⟨xs, n, _, _, _, hlen, hg⟩ := DataW.trod_struct Tryz.underlying38 h
  have e1 : Tryz.prog.cellsOf 3 = 1 := by kernel_rfl
  match xs, hlen with
  | [y0, y1, y2], _ =>
    have h0 := hg 0 _ rfl
    have h1 := hg 1 _ rfl
    have h2 := hg 2 _ rfl
    obtain ⟨s, hs, _, ws⟩ := DataW.trod_int Tryz.underlying3 (x := y0) (by simpa [e1] using h0)
    obtain ⟨u, hu, _, wu⟩ := DataW.trod_int Tryz.underlying3 (x := y1) (by simpa [e1] using h1)
    obtain ⟨o, ho, _, wo⟩ := DataW.trod_int Tryz.underlying3 (x := y2) (by simpa [e1] using h2)
    exact ⟨s, u, o, by simpa using hs, by simpa using hu, by simpa using ho⟩
theorem val_cells11 {fuel : Nat} {c0 c1 : Value} {x : DataW H × List MemPlace} (h : DataW.trod enc Tryz.prog w base (fun _ => true) held fuel 41 [c0, c1] = some x) :
    ∃ (has : Bool) (A : Option Addr) (xs : List UInt8) (c : Nat), c0 = .bool has ∧ c1 = .slice A xs.length c ∧ Row w w.heap.size A (xs.map byteV) ∧ xs.length ≤ c ∧ c ≤ maxLen := by
  obtain ⟨xs, n, _, _, _, hlen, hg⟩ := DataW.trod_struct Tryz.underlying41 h
  have e1 : Tryz.prog.cellsOf 4 = 1 := by kernel_rfl
  have e2 : Tryz.prog.cellsOf 39 = 1 := by kernel_rfl
  match xs, hlen with
  | [y0, y1], _ =>
    have h0 := hg 0 _ rfl
    have h1 := hg 1 _ rfl
    obtain ⟨b, hb, _⟩ := DataW.trod_bool Tryz.underlying4 (x := y0) (by simpa [e1, e2] using h0)
    obtain ⟨⟨A, ys, c⟩, hr, ho⟩ := open_bytes1 (x := y1) Tryz.underlying39 Tryz.underlying5 (by kernel_rfl) (by simpa [e1, e2] using h1)
    exact ⟨b, A, ys, c, by simpa using hb, hr, ho.1, ho.2.1, ho.2.2⟩
theorem ent_cells11 {fuel : Nat} {c0 c1 c2 c3 c4 c5 : Value} {x : DataW H × List MemPlace} (h : DataW.trod enc Tryz.prog w base (fun _ => true) held fuel 43 [c0, c1, c2, c3, c4, c5] = some x) :
    ∃ y : EV, [c0, c1, c2, c3, c4, c5] = entC y ∧ Row w w.heap.size y.2.1 (y.1.v.map byteV) ∧ y.1.v.length ≤ y.2.2 ∧ y.2.2 ≤ maxLen ∧ y.1.k.length ≤ maxLen := by
  obtain ⟨xs, n, _, _, _, hlen, hg⟩ := DataW.trod_struct Tryz.underlying43 h
  have e0 : Tryz.prog.cellsOf 9 = 1 := by kernel_rfl
  have e1 : Tryz.prog.cellsOf 38 = 3 := by kernel_rfl
  have e2 : Tryz.prog.cellsOf 41 = 2 := by kernel_rfl
  match xs, hlen with
  | [y0, y1, y2], _ =>
    have h0 := hg 0 _ rfl
    have h1 := hg 1 _ rfl
    have h2 := hg 2 _ rfl
    obtain ⟨key, hk, _, hkl⟩ := DataW.trod_string Tryz.underlying9 (x := y0) (by simpa [e0, e1, e2] using h0)
    obtain ⟨s, u, o, rfl, rfl, rfl⟩ := tag_cells11 (x := y1) (by simpa [e0, e1, e2] using h1)
    obtain ⟨has, A, ys, c, rfl, rfl, hr, hc, hm⟩ := val_cells11 (x := y2) (by simpa [e0, e1, e2] using h2)
    have hk' : c0 = .string key := by simpa using hk
    subst hk'
    refine ⟨(⟨key.data.toList, s, u, o, has, ys⟩, A, c), ?_, hr, hc, hm, ?_⟩
    · unfold entC
      simp
    · show key.data.toList.length ≤ maxLen
      have : key.data.toList.length = key.size := by rw [Array.length_toList]; rfl
      omega
theorem d11_cells {fuel : Nat} {c0 c1 c2 c3 c4 c5 c6 c7 : Value} {x : DataW H × List MemPlace} (h : DataW.trod enc Tryz.prog w base (fun _ => true) held fuel 49 [c0, c1, c2, c3, c4, c5, c6, c7] = some x) :
    ∃ r : D11, [c0, c1, c2, c3, c4, c5, c6, c7] = d11C r ∧ D11Ok w w.heap.size r := by
  obtain ⟨xs, n, _, _, _, hlen, hg⟩ := DataW.trod_struct Tryz.underlying49 h
  have e1 : Tryz.prog.cellsOf 3 = 1 := by kernel_rfl
  have e2 : Tryz.prog.cellsOf 43 = 6 := by kernel_rfl
  match xs, hlen with
  | [y0, y1, y2], _ =>
    have h0 := hg 0 _ rfl
    have h1 := hg 1 _ rfl
    have h2 := hg 2 _ rfl
    obtain ⟨k, hk, _, wk⟩ := DataW.trod_int Tryz.underlying3 (x := y0) (by simpa [e1, e2] using h0)
    obtain ⟨y, hy, hr, hc, hm, hkl⟩ := ent_cells11 (x := y1) (by simpa [e1, e2] using h1)
    obtain ⟨p, hp, _, wp⟩ := DataW.trod_int Tryz.underlying3 (x := y2) (by simpa [e1, e2] using h2)
    have hkb := bounds_i64 wk
    have htb := bounds_i64 wp
    have hk' : c0 = .int .i64 k := by simpa using hk
    have hp' : c7 = .int .i64 p := by simpa using hp
    unfold entC at hy
    simp only [List.cons.injEq, and_true] at hy
    obtain ⟨q1, q2, q3, q4, q5, q6⟩ := hy
    exact ⟨⟨k, y, p⟩, by unfold d11C; rw [hk', hp', q1, q2, q3, q4, q5, q6], hr, hc, hm, hkl, hkb.1, hkb.2, htb.1, htb.2⟩
theorem open_d11s {a : Option Addr} {len cap : Nat} {d : DataW H} {ps : List MemPlace} (h : DataW.Trod enc Tryz.prog w base (fun _ => true) held 24 (.slice a len cap) d ps) :
    ∃ rs : List D11, len = rs.length ∧ len ≤ cap ∧ cap ≤ maxLen ∧ Row w w.heap.size a (d11sC rs) ∧ (∀ r ∈ rs, D11Ok w w.heap.size r) := by
  obtain ⟨fuel, hf⟩ := h
  rcases Go.Deep.open_slice Tryz.underlying24 (by simpa [Value.cells] using hf) with ⟨hcs, _⟩ | ⟨x, l, c, m, n, D, Pl, hcs, _, hl, hm, hmm, hd, hx⟩
  · simp only [List.cons.injEq, and_true] at hcs
    injection hcs with h1 h2 h3
    subst h1; subst h2; subst h3
    exact ⟨[], rfl, Nat.le_refl _, by unfold maxLen; omega, Row.nil _ _ _, by simp⟩
  · simp only [List.cons.injEq, and_true] at hcs
    injection hcs with h1 h2 h3
    subst h1; subst h2; subst h3
    simp only [if_true] at hmm
    subst hmm
    have hC : Tryz.prog.cellsOf 49 = 8 := by kernel_rfl
    rw [hC] at hx
    obtain ⟨V, hV⟩ := Go.Deep.choose_lt (n := len) (α := D11) (p := fun i r => (∀ j, j < 8 → w.cell? (x.add (i * 8 + j)) = (d11C r)[j]?) ∧ D11Ok w w.heap.size r) (fun i hi => by
      obtain ⟨cs', h1, h2⟩ := hx i (by omega)
      obtain ⟨_, hlen, hat⟩ := World.cells?_some h1
      match cs', hlen with
      | [c0, c1, c2, c3, c4, c5, c6, c7], _ =>
        obtain ⟨r, hr, ho⟩ := d11_cells h2
        refine ⟨r, fun j hj => ?_, ho⟩
        rw [← Go.Deep.add_add, hat j hj, hr])
    refine ⟨(List.range len).map V, by simp, hl, hm, ?_, ?_⟩
    · rcases Nat.eq_zero_or_pos len with h0 | h0
      · subst h0; exact Or.inl rfl
      · have hc0 := (hV 0 h0).1 0 (by omega)
        have hc0' : w.cell? x = some (.int .i64 (V 0).kind) := by
          have e : x.add (0 * 8 + 0) = x := by simp [Addr.add]
          rw [e] at hc0; exact hc0
        obtain ⟨b, o, spot⟩ := x
        have hspot : spot = none := World.cell?_spot hc0'
        subst hspot
        refine Or.inr ⟨b, o, rfl, block_lt hc0', fun j hj => ?_⟩
        have hj8 : j < len * 8 := by rw [d11sC_len] at hj; simpa using hj
        have hi : j / 8 < len := by omega
        have hdd : j = j / 8 * 8 + j % 8 := by omega
        have hv := (hV (j / 8) hi).1 (j % 8) (by omega)
        rw [← hdd] at hv
        have e : (⟨b, o, none⟩ : Addr).add j = ⟨b, o + j, none⟩ := by
          unfold Addr.add; split
          · subst_vars; rfl
          · rfl
        rw [e] at hv
        have ht := d11sC_at ((List.range len).map V) (j / 8) (by simpa using hi) (j % 8) (by omega)
        rw [← hdd, List.getElem?_eq_getElem hj] at ht
        rw [hv, ht, List.getElem_map, List.getElem_range]
    · intro r hr
      obtain ⟨i, hi, rfl⟩ := List.mem_map.1 hr
      exact (hV i (List.mem_range.1 hi)).2
end
theorem sized_d11s {H : Type} {enc : TypeId × Value → H} {w : World} {base : Nat} {held : Bool} {a : Option Addr} {len cap : Nat} {d : DataW H} {ps : List MemPlace} (h : DataW.Trod enc Tryz.prog w base (fun _ => true) held 24 (.slice a len cap) d ps) (hs : SizedD Tryz.prog 24 d) : len * 86 ≤ reachBytes := by
  obtain ⟨fuel, hf⟩ := h
  rcases Go.Deep.open_slice Tryz.underlying24 (by simpa [Value.cells] using hf) with ⟨hcs, _⟩ | ⟨x, l, c, m, n, D, Pl, hcs, _, hl, hm, hmm, hd, hx⟩
  · simp only [List.cons.injEq, and_true] at hcs
    injection hcs with h1 h2 h3
    subst h2
    exact Nat.zero_le _
  · simp only [List.cons.injEq, and_true] at hcs
    injection hcs with h1 h2 h3
    subst h2
    have h3 := congrArg Prod.fst hd
    simp only at h3
    subst h3
    have := hs.len Tryz.underlying24
    have hb : Tryz.prog.bytesOf 49 = 88 := by kernel_rfl
    rw [hb] at this
    simp only [List.length_map, List.length_range] at this
    omega
end Go.Proofs.YtpebhfjcakllmaaGreat
