/- Records that come in, opened: where they lie, their bytes, and how many bytes their frames take. -/
import Derived.Test.YtpccppdakmpchaaBulk
import Derived.Test.YtpccppdakmpchaaRecs
import Derived.Deep.Slices
import Derived.Deep.Fields
namespace Go.Proofs.Ytpccppdakmpchaa
open Go.RowKit Go.ChangeShapes Go.WideShapes Mem Frm
set_option maxRecDepth 100000
section
variable {H : Type} {enc : TypeId × Value → H} {w : World} {base : Nat} {held : Bool}
theorem rec_cells {fuel : Nat} {c0 c1 : Value} {x : DataW H × List MemPlace} (h : DataW.trod enc Try.prog w base (fun _ => true) held fuel 34 [c0, c1] = some x) :
    ∃ r : RecV, c0 = .int .u8 (r.1.toNat : Int) ∧ c1 = .slice r.2.1 r.2.2.1.length r.2.2.2 ∧ Row w w.heap.size r.2.1 (r.2.2.1.map byteV) ∧ r.2.2.1.length ≤ r.2.2.2 ∧ r.2.2.1.length + 3 ≤ Rows.uptoBulk x.1 := by
  obtain ⟨xs, n, _, hx, _, hlen, hg⟩ := DataW.trod_struct Try.underlying34 h
  have e1 : Try.prog.cellsOf 5 = 1 := by kernel_rfl
  have e2 : Try.prog.cellsOf 25 = 1 := by kernel_rfl
  match xs, hlen with
  | [y0, y1], _ =>
    have h0 := hg 0 _ rfl
    have h1 := hg 1 _ rfl
    obtain ⟨k, hk, _, wk⟩ := DataW.trod_int Try.underlying5 (x := y0) (by simpa [e1, e2] using h0)
    have h1' : DataW.trod enc Try.prog w base (fun _ => true) held n 25 [c1] = some y1 := by simpa [e1, e2] using h1
    obtain ⟨⟨A, ys, c⟩, hr, ho⟩ := open_bytes1 (x := y1) Try.underlying25 Try.underlying5 (by kernel_rfl) h1'
    subst hr
    have hb : ys.length + 1 ≤ Rows.uptoBulk y1.1 := Bulk.bytes_bulk Try.underlying25 h1'
    have hkb := bounds_u8 wk
    refine ⟨(UInt8.ofNat k.toNat, A, ys, c), ?_, rfl, ho.1, ho.2.1, ?_⟩
    · have hk' : c0 = .int .u8 k := by simpa using hk
      rw [hk']
      congr 1
      simp only [UInt8.toNat_ofNat']
      omega
    · rw [hx]
      show ys.length + 3 ≤ Rows.uptoBulk (.agg [y0.1, y1.1])
      rw [Bulk.agg_parts, Bulk.all_two]
      have := Bulk.pos y0.1
      show ys.length + 3 ≤ _
      omega
theorem long_sum (rs : List RecV) : longN (rs.map rcOf) ≤ 4 * (rs.map (fun r => r.2.2.1.length + 3)).sum := by
  induction rs with
  | nil => simp [longN, allB]
  | cons r rs ih =>
    have h1 : longN ((r :: rs).map rcOf) = r.2.2.1.length + 10 + longN (rs.map rcOf) := by
      unfold longN
      rw [List.map_cons, all_cons, List.length_append, fr_len]
      rfl
    rw [h1, List.map_cons, List.sum_cons]
    omega
theorem open_recs {a : Option Addr} {len cap : Nat} {d : DataW H} {ps : List MemPlace} (h : DataW.Trod enc Try.prog w base (fun _ => true) held 22 (.slice a len cap) d ps) :
    ∃ rs : List RecV, len = rs.length ∧ len ≤ cap ∧ Row w w.heap.size a (recsC rs) ∧ Recs_ w rs ∧ longN (rs.map rcOf) ≤ 4 * Rows.uptoBulk d := by
  obtain ⟨fuel, hf⟩ := h
  rcases Go.Deep.open_slice Try.underlying22 (by simpa [Value.cells] using hf) with ⟨hcs, _⟩ | ⟨x, l, c, m, n, D, Pl, hcs, _, hl, hm, hmm, hd, hx⟩
  · simp only [List.cons.injEq, and_true] at hcs
    injection hcs with h1 h2 h3
    subst h1; subst h2; subst h3
    exact ⟨[], rfl, Nat.le_refl _, Row.nil _ _ _, recs_nil _, Nat.zero_le _⟩
  · simp only [List.cons.injEq, and_true] at hcs
    injection hcs with h1 h2 h3
    subst h1; subst h2; subst h3
    simp only [if_true] at hmm
    subst hmm
    have hC : Try.prog.cellsOf 34 = 2 := by kernel_rfl
    rw [hC] at hx
    obtain ⟨V, hV⟩ := Go.Deep.choose_lt (n := len) (α := RecV) (p := fun i r => (∀ j, j < 2 → w.cell? (x.add (i * 2 + j)) = (recC r)[j]?) ∧ Row w w.heap.size r.2.1 (r.2.2.1.map byteV) ∧ r.2.2.1.length + 3 ≤ Rows.uptoBulk (D i)) (fun i hi => by
      obtain ⟨cs', h1, h2⟩ := hx i (by omega)
      obtain ⟨_, hlen, hat⟩ := World.cells?_some h1
      match cs', hlen with
      | [c0, c1], _ =>
        obtain ⟨r, rfl, rfl, hr, _, hb⟩ := rec_cells h2
        refine ⟨r, fun j hj => ?_, hr, hb⟩
        rw [← Go.Deep.add_add, hat j hj]
        rfl)
    refine ⟨(List.range len).map V, by simp, hl, ?_, ?_, ?_⟩
    · rcases Nat.eq_zero_or_pos len with h0 | h0
      · subst h0; exact Or.inl rfl
      · have hc0 := (hV 0 h0).1 0 (by omega)
        have hc0' : w.cell? x = some (.int .u8 ((V 0).1.toNat : Int)) := by
          have e : x.add (0 * 2 + 0) = x := by simp [Addr.add]
          rw [e] at hc0; exact hc0
        obtain ⟨b, o, spot⟩ := x
        have hspot : spot = none := World.cell?_spot hc0'
        subst hspot
        refine Or.inr ⟨b, o, rfl, block_lt hc0', fun j hj => ?_⟩
        have hj3 : j < len * 2 := by rw [recsC_len] at hj; simpa using hj
        have hi : j / 2 < len := by omega
        have hdd : j = j / 2 * 2 + j % 2 := by omega
        have hv := (hV (j / 2) hi).1 (j % 2) (by omega)
        rw [← hdd] at hv
        have e : (⟨b, o, none⟩ : Addr).add j = ⟨b, o + j, none⟩ := by
          unfold Addr.add; split
          · subst_vars; rfl
          · rfl
        rw [e] at hv
        have ht := recsC_at ((List.range len).map V) (j / 2) (by simpa using hi) (j % 2) (by omega)
        rw [← hdd, List.getElem?_eq_getElem hj] at ht
        rw [hv, ht, List.getElem_map, List.getElem_range]
    · intro r hr
      obtain ⟨i, hi, rfl⟩ := List.mem_map.1 hr
      exact (hV i (List.mem_range.1 hi)).2.1
    · have h1 := Bulk.all_sum (fun r : RecV => r.2.2.1.length + 3) ((List.range len).map fun i => (V i, D i)) (fun p hp => by
        obtain ⟨i, hi, rfl⟩ := List.mem_map.1 hp
        exact (hV i (List.mem_range.1 hi)).2.2)
      have h2 := long_sum ((List.range len).map V)
      have h3 : d = .slice ((List.range len).map D) ((List.range (m - len)).map fun j => D (len + j)) := congrArg Prod.fst hd
      have h4 := Bulk.elems_bulk ((List.range len).map D) ((List.range (m - len)).map fun j => D (len + j))
      rw [← h3] at h4
      have e1 : ((List.range len).map fun i => (V i, D i)).map (·.2) = (List.range len).map D := by rw [List.map_map]; rfl
      have e2 : ((List.range len).map fun i => (V i, D i)).map (fun p => p.1.2.2.1.length + 3) = ((List.range len).map V).map (fun r => r.2.2.1.length + 3) := by rw [List.map_map, List.map_map]; rfl
      rw [e1] at h1
      rw [e2] at h1
      omega
end
end Go.Proofs.Ytpccppdakmpchaa
