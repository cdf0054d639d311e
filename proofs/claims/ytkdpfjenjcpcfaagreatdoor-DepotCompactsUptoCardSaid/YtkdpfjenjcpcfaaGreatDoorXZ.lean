/- What the bound of an '..UptoSaid' gives: how much a part holds is no more than the whole; a slice of bytes, its length. -/
/- SvX: How much a message, and things that are to be done to a server, hold, told exactly (written by tools/gen_svx.py). -/
import Derived.Test.YtkdpfjenjcpcfaaGreatDoorRows
import Derived.Test.YtkdpfjenjcpcfaaGreatDoorCore
import Derived.Test.YtkdpfjenjcpcfaaGreatDoorSZ3
import Derived.BigQuiet
namespace Go.Proofs.YtkdpfjenjcpcfaaGreatDoor
open Go.RowKit Go.ChangeShapes Go.Deep Go.WideShapes Mem
namespace Bulk
/-- What a list holds is the sum of what its members hold. -/
theorem all_eq {H : Type} (l : List (DataW H)) : Rows.uptoBulkAll l = (l.map Rows.uptoBulk).sum := by
  induction l <;> simp_all [Rows.uptoBulkAll]
theorem pos {H : Type} (d : DataW H) : 0 < Rows.uptoBulk d := by
  unfold Rows.uptoBulk
  split <;> exact Nat.succ_pos _
theorem mem_sum {l : List Nat} {n : Nat} (h : n ∈ l) : n ≤ l.sum := by
  obtain ⟨a, b, rfl⟩ := List.append_of_mem h
  rw [List.sum_append, List.sum_cons]
  omega
theorem mem_bulk {H : Type} {d : DataW H} {l : List (DataW H)} (h : d ∈ l) : Rows.uptoBulk d ≤ Rows.uptoBulkAll l := by
  rw [all_eq]
  exact mem_sum (List.mem_map.2 ⟨d, h, rfl⟩)
theorem count_bulk {H : Type} (l : List (DataW H)) : l.length ≤ Rows.uptoBulkAll l := by
  rw [all_eq, ← List.length_map (f := Rows.uptoBulk)]
  have hp : ∀ n ∈ l.map Rows.uptoBulk, 0 < n := fun n hn => by
    obtain ⟨d, _, rfl⟩ := List.mem_map.1 hn
    exact pos d
  generalize l.map Rows.uptoBulk = ns at hp
  induction ns with
  | nil => exact Nat.le_refl _
  | cons n ns ih =>
    have h1 := hp n (List.mem_cons_self ..)
    have h2 := ih fun m hm => hp m (List.mem_cons_of_mem _ hm)
    rw [List.length_cons, List.sum_cons]
    omega
theorem elems_bulk {H : Type} (xs ys : List (DataW H)) : Rows.uptoBulkAll xs < Rows.uptoBulk (.slice xs ys) := by
  rw [Rows.uptoBulk]
  omega
theorem agg_parts {H : Type} (parts : List (DataW H)) : Rows.uptoBulk (.agg parts) = Rows.uptoBulkAll parts + 1 := by
  simp only [Rows.uptoBulk]
theorem all_two {H : Type} (x y : DataW H) : Rows.uptoBulkAll [x, y] = Rows.uptoBulk x + Rows.uptoBulk y := by
  simp [Rows.uptoBulkAll]
/-- A row of bytes that came in: its length is bound by what it holds. -/
theorem bytes_bulk {H : Type} {enc : TypeId × Value → H} {P : Program} {w : World} {base : Nat} {held : Bool} {e q : TypeId} {fuel : Nat} {A : Option Addr} {l c : Nat} {x : DataW H × List MemPlace} (he : P.underlying e = some (.slice q))
    (h : DataW.trod enc P w base (fun _ => true) held fuel e [.slice A l c] = some x) : l + 1 ≤ Rows.uptoBulk x.1 := by
  rcases DataW.trod_slice he h with ⟨hcs, hx⟩ | ⟨a, len, cap, elems, rest, n, _, hcs, hx, _, _, _, hlen, _⟩
  · simp only [List.cons.injEq, and_true] at hcs
    injection hcs with _ h2 _
    subst h2
    exact pos _
  · simp only [List.cons.injEq, and_true] at hcs
    injection hcs with _ h2 _
    subst h2
    rw [hx]
    have h1 := elems_bulk (elems.map (·.1)) (rest.map (·.1))
    have h2 := count_bulk (elems.map (·.1))
    rw [List.length_map] at h2
    show l + 1 ≤ Rows.uptoBulk (.slice (elems.map (·.1)) (rest.map (·.1)))
    omega
end Bulk
end Go.Proofs.YtkdpfjenjcpcfaaGreatDoor
namespace Go.Proofs.YtkdpfjenjcpcfaaGreatDoor
open Go.RowKit Go.ChangeShapes Go.WideShapes Mem Be Rg
set_option maxRecDepth 100000
set_option maxHeartbeats 4000000
set_option linter.unusedVariables false
section
variable {H : Type} {enc : TypeId × Value → H} {w : World} {base : Nat} {held : Bool}
theorem val_bulkX {fuel : Nat} {c0 c1 : Value} {x : DataW H × List MemPlace} (h : DataW.trod enc Tryz.prog w base (fun _ => true) held fuel 44 [c0, c1] = some x) :
    ∃ (A : Option Addr) (n c : Nat), c1 = .slice A n c ∧ n ≤ Rows.uptoBulk x.1 := by
  obtain ⟨xs, n, _, hx, _, hlen, hg⟩ := DataW.trod_struct Tryz.underlying44 h
  have e1 : Tryz.prog.cellsOf 4 = 1 := by kernel_rfl
  have e2 : Tryz.prog.cellsOf 27 = 1 := by kernel_rfl
  match xs, hlen with
  | [y0, y1], _ =>
    have h1 := hg 1 _ rfl
    have h1' : DataW.trod enc Tryz.prog w base (fun _ => true) held n 27 [c1] = some y1 := by simpa [e1, e2] using h1
    obtain ⟨⟨A, ys, c⟩, hr, ho⟩ := open_bytes1 (x := y1) Tryz.underlying27 Tryz.underlying5 (by kernel_rfl) h1'
    subst hr
    have hb : ys.length + 1 ≤ Rows.uptoBulk y1.1 := Bulk.bytes_bulk Tryz.underlying27 h1'
    refine ⟨A, ys.length, c, rfl, ?_⟩
    rw [hx]
    show ys.length ≤ Rows.uptoBulk (.agg [y0.1, y1.1])
    rw [Bulk.agg_parts, Bulk.all_two]
    omega
theorem ent_bulkX {fuel : Nat} {c0 c1 c2 c3 c4 c5 : Value} {x : DataW H × List MemPlace} (h : DataW.trod enc Tryz.prog w base (fun _ => true) held fuel 46 [c0, c1, c2, c3, c4, c5] = some x) :
    ∃ (key : ByteArray) (A : Option Addr) (n c : Nat), c0 = .string key ∧ c5 = .slice A n c ∧ key.data.toList.length + n ≤ Rows.uptoBulk x.1 := by
  obtain ⟨xs, n, _, hx, _, hlen, hg⟩ := DataW.trod_struct Tryz.underlying46 h
  have e0 : Tryz.prog.cellsOf 9 = 1 := by kernel_rfl
  have e1 : Tryz.prog.cellsOf 42 = 3 := by kernel_rfl
  have e2 : Tryz.prog.cellsOf 44 = 2 := by kernel_rfl
  match xs, hlen with
  | [y0, y1, y2], _ =>
    have h0 := hg 0 _ rfl
    have h2 := hg 2 _ rfl
    obtain ⟨key, hk, hk2, hkl⟩ := DataW.trod_string Tryz.underlying9 (x := y0) (by simpa [e0, e1, e2] using h0)
    obtain ⟨A, m, c, hv, hm⟩ := val_bulkX (x := y2) (by simpa [e0, e1, e2] using h2)
    have hk' : c0 = .string key := by simpa using hk
    refine ⟨key, A, m, c, hk', hv, ?_⟩
    rw [hx]
    show _ ≤ Rows.uptoBulk (.agg [y0.1, y1.1, y2.1])
    rw [Bulk.agg_parts]
    have h3 : y0.1 = .lit (.string key.data.toList) := congrArg Prod.fst hk2
    have h4 : Rows.uptoBulk y0.1 = key.data.toList.length + 1 := by rw [h3]; rfl
    have h5 : Rows.uptoBulkAll [y0.1, y1.1, y2.1] = Rows.uptoBulk y0.1 + (Rows.uptoBulk y1.1 + (Rows.uptoBulk y2.1 + 0)) := rfl
    rw [h5]
    omega
theorem add_none (b o q : Nat) : (⟨b, o, none⟩ : Addr).add q = ⟨b, o + q, none⟩ := by
  unfold Addr.add; split
  · subst_vars; rfl
  · rfl
theorem ents_bulkX {fuel : Nat} {a : Option Addr} {len cap : Nat} {x0 : DataW H × List MemPlace} (hf : DataW.trod enc Tryz.prog w base (fun _ => true) held fuel 33 [.slice a len cap] = some x0) {rs : List EV} (hn : len = rs.length) (hr : Row w w.heap.size a (entsC rs)) :
    len ≤ Rows.uptoBulk x0.1 ∧ ∀ r ∈ rs, r.1.k.length + r.1.v.length ≤ Rows.uptoBulk x0.1 := by
  have hb := Bulk.bytes_bulk Tryz.underlying33 hf
  refine ⟨by omega, fun r hm => ?_⟩
  rcases Go.Deep.open_slice Tryz.underlying33 hf with ⟨hcs, _⟩ | ⟨x, l, c, m, n, D, Pl, hcs, _, hl, hmx, hmm, hd, hx⟩
  · simp only [List.cons.injEq, and_true] at hcs
    injection hcs with h1 h2 h3
    subst h2
    have : rs = [] := List.eq_nil_of_length_eq_zero hn.symm
    subst this
    cases hm
  · simp only [List.cons.injEq, and_true] at hcs
    injection hcs with h1 h2 h3
    subst h1; subst h2; subst h3
    simp only [if_true] at hmm
    subst hmm
    have hC : Tryz.prog.cellsOf 46 = 6 := by kernel_rfl
    rw [hC] at hx
    obtain ⟨i, hi, rfl⟩ := List.mem_iff_getElem.1 hm
    obtain ⟨b, o, hA, _, hc⟩ := ents_open hr (by omega)
    obtain rfl := Option.some.inj hA
    obtain ⟨cs', h1, h2⟩ := hx i (by omega)
    obtain ⟨_, hlen, hat⟩ := World.cells?_some h1
    have h3 : x0.1 = .slice ((List.range len).map D) ((List.range (m - len)).map fun j => D (len + j)) := congrArg Prod.fst hd
    have h4 := Bulk.elems_bulk ((List.range len).map D) ((List.range (m - len)).map fun j => D (len + j))
    rw [← h3] at h4
    have h5 := Bulk.mem_bulk (d := D i) (l := (List.range len).map D) (List.mem_map.2 ⟨i, List.mem_range.2 (by omega), rfl⟩)
    match cs', hlen with
    | [c0, c1, c2, c3, c4, c5], _ =>
      obtain ⟨key, A, q, cc, hk, hv, hle⟩ := ent_bulkX h2
      have a0 := hat 0 (by decide)
      have a5 := hat 5 (by decide)
      obtain ⟨d0, _, _, _, _, d5⟩ := hc i hi
      have e0 : ((⟨b, o, none⟩ : Addr).add (i * 6)).add 0 = ⟨b, o + i * 6, none⟩ := by rw [Go.Deep.add_add, add_none]; rfl
      have e5 : ((⟨b, o, none⟩ : Addr).add (i * 6)).add 5 = ⟨b, o + i * 6 + 5, none⟩ := by rw [Go.Deep.add_add, add_none, ← Nat.add_assoc]
      rw [e0, d0] at a0
      rw [e5, d5] at a5
      have g0 : Value.string ⟨rs[i].1.k.toArray⟩ = c0 := by simpa using a0
      have g5 : Value.slice rs[i].2.1 rs[i].1.v.length rs[i].2.2 = c5 := by simpa using a5
      rw [hk] at g0
      rw [hv] at g5
      injection g0 with g0
      injection g5 with _ g5 _
      rw [← g0] at hle
      rw [← g5] at hle
      have e9 : (⟨rs[i].1.k.toArray⟩ : ByteArray).data.toList.length = rs[i].1.k.length := by simp
      rw [e9] at hle
      simp only at hle
      omega
theorem ring_bulkX {fuel : Nat} {c0 c1 c2 : Value} {x : DataW H × List MemPlace} (hf : DataW.trod enc Tryz.prog w base (fun _ => true) held fuel 49 [c0, c1, c2] = some x) :
    ∃ (A : Option Addr) (n c : Nat), c0 = .slice A n c ∧ n ≤ Rows.uptoBulk x.1 := by
  obtain ⟨xs, n, _, hx, _, hlen, hg⟩ := DataW.trod_struct Tryz.underlying49 hf
  have e1 : Tryz.prog.cellsOf 3 = 1 := by kernel_rfl
  have e2 : Tryz.prog.cellsOf 47 = 1 := by kernel_rfl
  match xs, hlen with
  | [y0, y1, y2], _ =>
    have h0 := hg 0 _ rfl
    have h0' : DataW.trod enc Tryz.prog w base (fun _ => true) held n 47 [c0] = some y0 := by simpa [Value.cells, e1, e2] using h0
    obtain ⟨A, ns, c, hr, hrow, hnc, hc⟩ := open_ints12 (x := y0) Tryz.underlying47 Tryz.underlying3 (by kernel_rfl) h0'
    subst hr
    have hb : ns.length + 1 ≤ Rows.uptoBulk y0.1 := Bulk.bytes_bulk Tryz.underlying47 h0'
    refine ⟨A, ns.length, c, rfl, ?_⟩
    rw [hx]
    show _ ≤ Rows.uptoBulk (.agg [y0.1, y1.1, y2.1])
    rw [Bulk.agg_parts]
    have hm := Bulk.mem_bulk (d := y0.1) (l := [y0.1, y1.1, y2.1]) (by simp)
    omega
/-- No part of a message is longer. -/
structure BulkM (B : Nat) (y : MV) : Prop where
  e : y.e.1.k.length + y.e.1.v.length ≤ B
  l : y.l.length ≤ B
  ns : y.ns.length ≤ B
  ls : ∀ r ∈ y.l, r.1.k.length + r.1.v.length ≤ B
theorem BulkM.more {B B' : Nat} {y : MV} (h : BulkM B y) (hb : B ≤ B') : BulkM B' y := ⟨Nat.le_trans h.e hb, Nat.le_trans h.l hb, Nat.le_trans h.ns hb, fun r hr => Nat.le_trans (h.ls r hr) hb⟩
theorem msg_bulkX {fuel : Nat} {y : MV} {x : DataW H × List MemPlace} (hf : DataW.trod enc Tryz.prog w base (fun _ => true) held fuel 51 (mL y) = some x) (hm : MsgM w y) : BulkM (Rows.uptoBulk x.1) y := by
  obtain ⟨xs, n, _, hx, _, hlen, hg⟩ := DataW.trod_struct Tryz.underlying51 hf
  have e1 : Tryz.prog.cellsOf 3 = 1 := by kernel_rfl
  have e2 : Tryz.prog.cellsOf 4 = 1 := by kernel_rfl
  have e3 : Tryz.prog.cellsOf 46 = 6 := by kernel_rfl
  have e4 : Tryz.prog.cellsOf 33 = 1 := by kernel_rfl
  have e5 : Tryz.prog.cellsOf 49 = 3 := by kernel_rfl
  match xs, hlen with
  | [y0, y1, y2, y3, y4, y5, y6, y7, y8, y9], _ =>
    have h7 := hg 7 _ rfl
    have h8 := hg 8 _ rfl
    have h9 := hg 9 _ rfl
    obtain ⟨key, A, m, c, hk, hv, hle⟩ := ent_bulkX (x := y7) (c0 := .string ⟨y.e.1.k.toArray⟩) (c1 := .int .i64 y.e.1.s) (c2 := .int .i64 y.e.1.u) (c3 := .int .i64 y.e.1.o) (c4 := .bool y.e.1.has) (c5 := .slice y.e.2.1 y.e.1.v.length y.e.2.2) (by simpa [mL, e1, e2, e3, e4, e5] using h7)
    have h8' : DataW.trod enc Tryz.prog w base (fun _ => true) held n 33 [.slice y.lA y.l.length y.lc] = some y8 := by simpa [mL, e1, e2, e3, e4, e5] using h8
    obtain ⟨hl1, hl2⟩ := ents_bulkX h8' rfl hm.en.row
    obtain ⟨rA, rn, rc, hr, hrl⟩ := ring_bulkX (x := y9) (c0 := .slice y.rA y.ns.length y.rc) (c1 := .int .i64 y.each) (c2 := .int .i64 y.keep) (by simpa [mL, e1, e2, e3, e4, e5] using h9)
    injection hk with hk
    injection hv with _ hv _
    injection hr with _ hr _
    have e9 : key.data.toList.length = y.e.1.k.length := by rw [← hk]
    have hB : ∀ d ∈ [y0.1, y1.1, y2.1, y3.1, y4.1, y5.1, y6.1, y7.1, y8.1, y9.1], Rows.uptoBulk d ≤ Rows.uptoBulk x.1 := fun d hd => by
      rw [hx]
      show _ ≤ Rows.uptoBulk (.agg [y0.1, y1.1, y2.1, y3.1, y4.1, y5.1, y6.1, y7.1, y8.1, y9.1])
      rw [Bulk.agg_parts]
      have := Bulk.mem_bulk hd
      omega
    have b7 := hB y7.1 (by simp)
    have b8 := hB y8.1 (by simp)
    have b9 := hB y9.1 (by simp)
    exact ⟨by omega, by omega, by omega, fun r hr => by have := hl2 r hr; omega⟩
theorem op_bulkX {fuel : Nat} {r : O14} {x : DataW H × List MemPlace} (h : DataW.trod enc Tryz.prog w base (fun _ => true) held fuel 53 (oC r) = some x) (hm : MsgM w r.m) : BulkM (Rows.uptoBulk x.1) r.m := by
  obtain ⟨xs, n, _, hx, _, hlen, hg⟩ := DataW.trod_struct Tryz.underlying53 h
  have e1 : Tryz.prog.cellsOf 3 = 1 := by kernel_rfl
  have e2 : Tryz.prog.cellsOf 51 = 17 := by kernel_rfl
  match xs, hlen with
  | [y0, y1, y2], _ =>
    have h1 := hg 1 _ rfl
    have h2 := msg_bulkX (x := y1) (y := r.m) (by simpa [oC, mL, e1, e2] using h1) hm
    refine h2.more ?_
    rw [hx]
    show _ ≤ Rows.uptoBulk (.agg [y0.1, y1.1, y2.1])
    rw [Bulk.agg_parts]
    have := Bulk.mem_bulk (d := y1.1) (l := [y0.1, y1.1, y2.1]) (by simp)
    omega
theorem bulk_ops {a : Option Addr} {len cap : Nat} {d : DataW H} {ps : List MemPlace} (h : DataW.Trod enc Tryz.prog w base (fun _ => true) held 22 (.slice a len cap) d ps) {rs : List O14} (hn : len = rs.length) (hr : InO w a rs) :
    len ≤ Rows.uptoBulk d ∧ ∀ r ∈ rs, BulkM (Rows.uptoBulk d) r.m := by
  obtain ⟨fuel, hf⟩ := h
  have hf' : DataW.trod enc Tryz.prog w base (fun _ => true) held fuel 22 [.slice a len cap] = some (d, ps) := by simpa [Value.cells] using hf
  have hb := Bulk.bytes_bulk Tryz.underlying22 hf'
  refine ⟨by simp only at hb; omega, fun r hm => ?_⟩
  rcases Go.Deep.open_slice Tryz.underlying22 hf' with ⟨hcs, _⟩ | ⟨x, l, c, m, n, D, Pl, hcs, _, hl, hmx, hmm, hd, hx⟩
  · simp only [List.cons.injEq, and_true] at hcs
    injection hcs with h1 h2 h3
    subst h2
    have : rs = [] := List.eq_nil_of_length_eq_zero hn.symm
    subst this
    cases hm
  · simp only [List.cons.injEq, and_true] at hcs
    injection hcs with h1 h2 h3
    subst h1; subst h2; subst h3
    simp only [if_true] at hmm
    subst hmm
    have hC : Tryz.prog.cellsOf 53 = 19 := by kernel_rfl
    rw [hC] at hx
    have hmm := (hr.ok r hm).m
    obtain ⟨i, hi, rfl⟩ := List.mem_iff_getElem.1 hm
    obtain ⟨b, o, hA, _, hc⟩ := os_open hr.row (by omega)
    obtain rfl := Option.some.inj hA
    obtain ⟨cs', h1, h2⟩ := hx i (by omega)
    obtain ⟨_, hlen, hat⟩ := World.cells?_some h1
    have h3 : d = .slice ((List.range len).map D) ((List.range (m - len)).map fun j => D (len + j)) := congrArg Prod.fst hd
    have h4 := Bulk.elems_bulk ((List.range len).map D) ((List.range (m - len)).map fun j => D (len + j))
    rw [← h3] at h4
    have h5 := Bulk.mem_bulk (d := D i) (l := (List.range len).map D) (List.mem_map.2 ⟨i, List.mem_range.2 (by omega), rfl⟩)
    have e : cs' = oC rs[i] := by
      have hL : (oC rs[i]).length = 19 := rfl
      refine List.ext_getElem (by rw [hlen, hL]) fun j hj1 hj2 => ?_
      have hj : j < 19 := by rw [hL] at hj2; exact hj2
      have a1 := hat j hj
      have a2 := hc i hi j _ (List.getElem?_eq_getElem hj2)
      rw [Go.Deep.add_add, add_none, ← Nat.add_assoc, a2, List.getElem?_eq_getElem hj1] at a1
      exact (Option.some.inj a1).symm
    rw [e] at h2
    exact (op_bulkX h2 hmm).more (by
      have h6 : Rows.uptoBulk (D i) ≤ Rows.uptoBulk d := by omega
      exact h6)
end
/-- How much entries hold, and a message, and things to be done. -/
def lL : List EV → Nat
  | [] => 0
  | r :: rs => r.1.k.length + r.1.v.length + lL rs
theorem lL_take {rs : List EV} {k : Nat} (h : k < rs.length) : lL (rs.take (k + 1)) = lL (rs.take k) + (rs[k].1.k.length + rs[k].1.v.length) := by
  induction rs generalizing k with
  | nil => simp at h
  | cons r rs ih =>
    cases k with
    | zero => simp [lL]
    | succ k =>
      have := ih (k := k) (by simpa using h)
      simp only [List.take_succ_cons, lL, List.getElem_cons_succ]
      omega
theorem lL_mono (rs : List EV) (k : Nat) : lL (rs.take k) ≤ lL rs := by
  induction rs generalizing k with
  | nil => simp [lL]
  | cons r rs ih =>
    cases k with
    | zero => simp [lL]
    | succ k => have := ih k; simp only [List.take_succ_cons, lL]; omega
theorem lL_le {rs : List EV} {B : Nat} (h : ∀ r ∈ rs, r.1.k.length + r.1.v.length ≤ B) : lL rs ≤ rs.length * B := by
  induction rs with
  | nil => exact Nat.zero_le _
  | cons r rs ih =>
    have h1 := ih fun x hx => h x (by simp [hx])
    have h2 := h r (by simp)
    unfold lL
    rw [List.length_cons, Nat.succ_mul]
    omega
def lM (y : MV) : Nat := y.e.1.k.length + y.e.1.v.length + y.ns.length + y.l.length + lL y.l
theorem lM_le {y : MV} {B : Nat} (h : BulkM B y) : lM y ≤ 3 * B + B * B := by
  have h1 := lL_le h.ls
  have h2 : y.l.length * B ≤ B * B := Nat.mul_le_mul_right _ h.l
  have h3 := h.e
  have h4 := h.l
  have h5 := h.ns
  unfold lM
  omega
def lenO : List O14 → Nat
  | [] => 0
  | r :: rs => 20 + lM r.m + lenO rs
theorem lenO_take {rs : List O14} {k : Nat} (h : k < rs.length) : lenO (rs.take (k + 1)) = lenO (rs.take k) + (20 + lM rs[k].m) := by
  induction rs generalizing k with
  | nil => simp at h
  | cons r rs ih =>
    cases k with
    | zero => simp [lenO]
    | succ k =>
      have := ih (k := k) (by simpa using h)
      simp only [List.take_succ_cons, lenO, List.getElem_cons_succ]
      omega
theorem lenO_mono (rs : List O14) (k : Nat) : lenO (rs.take k) ≤ lenO rs := by
  induction rs generalizing k with
  | nil => simp [lenO]
  | cons r rs ih =>
    cases k with
    | zero => simp [lenO]
    | succ k => have := ih k; simp only [List.take_succ_cons, lenO]; omega
theorem lenO_le {rs : List O14} {B : Nat} (h : ∀ r ∈ rs, BulkM B r.m) : lenO rs ≤ rs.length * (20 + (3 * B + B * B)) := by
  induction rs with
  | nil => exact Nat.zero_le _
  | cons r rs ih =>
    have h1 := ih fun x hx => h x (by simp [hx])
    have h2 := lM_le (h r (by simp))
    unfold lenO
    rw [List.length_cons, Nat.succ_mul]
    omega
def IsI12 (n : Int) (w : World) (e : Ending) (w' : World) : Prop := e = .returned (.int .i64 n) ∧ Below w.heap.size w w'
theorem reflong12x (x : MV) (w : World) (h : MsgM w x) (hL : lM x ≤ 9000000000000000000) : Calls Tryz.prog 26 #[.agg #[.int .i64 x.kind, .int .i64 x.fr, .int .i64 x.dst, .int .i64 x.ep, .int .i64 x.op, .int .i64 x.n, .bool x.flag, .string ⟨x.e.1.k.toArray⟩, .int .i64 x.e.1.s, .int .i64 x.e.1.u, .int .i64 x.e.1.o, .bool x.e.1.has, .slice x.e.2.1 x.e.1.v.length x.e.2.2, .slice x.lA x.l.length x.lc, .slice x.rA x.ns.length x.rc, .int .i64 x.each, .int .i64 x.keep]] w (IsI12 (lM x : Int) w) := by
  have hb : Below w.heap.size w (w.alloc (.cells #[.int .i64 x.kind, .int .i64 x.fr, .int .i64 x.dst, .int .i64 x.ep, .int .i64 x.op, .int .i64 x.n, .bool x.flag, .string ⟨x.e.1.k.toArray⟩, .int .i64 x.e.1.s, .int .i64 x.e.1.u, .int .i64 x.e.1.o, .bool x.e.1.has, .slice x.e.2.1 x.e.1.v.length x.e.2.2, .slice x.lA x.l.length x.lc, .slice x.rA x.ns.length x.rc, .int .i64 x.each, .int .i64 x.keep] 51)) := (Below.refl _ _).alloc (Nat.le_refl _) _
  have HK := Lib.hid (Blk.new w 51 #[.int .i64 x.kind, .int .i64 x.fr, .int .i64 x.dst, .int .i64 x.ep, .int .i64 x.op, .int .i64 x.n, .bool x.flag, .string ⟨x.e.1.k.toArray⟩, .int .i64 x.e.1.s, .int .i64 x.e.1.u, .int .i64 x.e.1.o, .bool x.e.1.has, .slice x.e.2.1 x.e.1.v.length x.e.2.2, .slice x.lA x.l.length x.lc, .slice x.rA x.ns.length x.rc, .int .i64 x.each, .int .i64 x.keep])
  have HB := Lib.hid hb
  have HM := Lib.hid (h.below hb)
  have HLM : Hid (lM x = x.e.1.k.length + x.e.1.v.length + x.ns.length + x.l.length + lL x.l) := Lib.hid rfl
  obtain ⟨L, hLx⟩ : ∃ L, lM x = L := ⟨_, rfl⟩
  rw [hLx] at hL HLM
  rw [hLx]
  have HLL := Lib.hid hL
  have k7 : (w.alloc (.cells #[.int .i64 x.kind, .int .i64 x.fr, .int .i64 x.dst, .int .i64 x.ep, .int .i64 x.op, .int .i64 x.n, .bool x.flag, .string ⟨x.e.1.k.toArray⟩, .int .i64 x.e.1.s, .int .i64 x.e.1.u, .int .i64 x.e.1.o, .bool x.e.1.has, .slice x.e.2.1 x.e.1.v.length x.e.2.2, .slice x.lA x.l.length x.lc, .slice x.rA x.ns.length x.rc, .int .i64 x.each, .int .i64 x.keep] 51)).cell? ⟨w.heap.size, 7, none⟩ = some (.string ⟨x.e.1.k.toArray⟩) := HK.out.cell 7
  have k12 : (w.alloc (.cells #[.int .i64 x.kind, .int .i64 x.fr, .int .i64 x.dst, .int .i64 x.ep, .int .i64 x.op, .int .i64 x.n, .bool x.flag, .string ⟨x.e.1.k.toArray⟩, .int .i64 x.e.1.s, .int .i64 x.e.1.u, .int .i64 x.e.1.o, .bool x.e.1.has, .slice x.e.2.1 x.e.1.v.length x.e.2.2, .slice x.lA x.l.length x.lc, .slice x.rA x.ns.length x.rc, .int .i64 x.each, .int .i64 x.keep] 51)).cell? ⟨w.heap.size, 12, none⟩ = some (.slice x.e.2.1 x.e.1.v.length x.e.2.2) := HK.out.cell 12
  have k13 : (w.alloc (.cells #[.int .i64 x.kind, .int .i64 x.fr, .int .i64 x.dst, .int .i64 x.ep, .int .i64 x.op, .int .i64 x.n, .bool x.flag, .string ⟨x.e.1.k.toArray⟩, .int .i64 x.e.1.s, .int .i64 x.e.1.u, .int .i64 x.e.1.o, .bool x.e.1.has, .slice x.e.2.1 x.e.1.v.length x.e.2.2, .slice x.lA x.l.length x.lc, .slice x.rA x.ns.length x.rc, .int .i64 x.each, .int .i64 x.keep] 51)).cell? ⟨w.heap.size, 13, none⟩ = some (.slice x.lA x.l.length x.lc) := HK.out.cell 13
  have k14 : (w.alloc (.cells #[.int .i64 x.kind, .int .i64 x.fr, .int .i64 x.dst, .int .i64 x.ep, .int .i64 x.op, .int .i64 x.n, .bool x.flag, .string ⟨x.e.1.k.toArray⟩, .int .i64 x.e.1.s, .int .i64 x.e.1.u, .int .i64 x.e.1.o, .bool x.e.1.has, .slice x.e.2.1 x.e.1.v.length x.e.2.2, .slice x.lA x.l.length x.lc, .slice x.rA x.ns.length x.rc, .int .i64 x.each, .int .i64 x.keep] 51)).cell? ⟨w.heap.size, 14, none⟩ = some (.slice x.rA x.ns.length x.rc) := HK.out.cell 14
  obtain ⟨W1, hW1⟩ : ∃ W1, (w.alloc (.cells #[.int .i64 x.kind, .int .i64 x.fr, .int .i64 x.dst, .int .i64 x.ep, .int .i64 x.op, .int .i64 x.n, .bool x.flag, .string ⟨x.e.1.k.toArray⟩, .int .i64 x.e.1.s, .int .i64 x.e.1.u, .int .i64 x.e.1.o, .bool x.e.1.has, .slice x.e.2.1 x.e.1.v.length x.e.2.2, .slice x.lA x.l.length x.lc, .slice x.rA x.ns.length x.rc, .int .i64 x.each, .int .i64 x.keep] 51)) = W1 := ⟨_, rfl⟩
  rw [hW1] at HB HM k7 k12 k13 k14 HK
  obtain ⟨n, hn⟩ : ∃ n, x.l.length = n := ⟨_, rfl⟩
  have HN := Lib.hid hn
  have HK13 : Hid (∀ W, Below W1.heap.size W1 W → W.cell? ⟨w.heap.size, 13, none⟩ = some (.slice x.lA n x.lc)) := Lib.hid fun W hb => by
    rw [← hn]; exact (HK.out.below hb HK.out.lt).cell 13
  obtain ⟨kl, hkl⟩ : ∃ q, x.e.1.k = q := ⟨_, rfl⟩
  obtain ⟨vl, hvl⟩ : ∃ q, x.e.1.v.length = q := ⟨_, rfl⟩
  obtain ⟨nl, hnl⟩ : ∃ q, x.ns.length = q := ⟨_, rfl⟩
  rw [hn] at k13
  rw [hkl] at k7
  rw [hvl] at k12
  rw [hnl] at k14
  have hsum := HLM.out
  rw [hn, hkl, hvl, hnl] at hsum
  obtain ⟨z0, hz0⟩ : ∃ z0, z0 = kl.length + vl + nl + n := ⟨_, rfl⟩
  have HZ0 := Lib.hid hz0
  have HSUM : Hid (L = z0 + lL x.l) := Lib.hid (by rw [hz0]; exact hsum)
  have hni : (n : Int) ≤ 9223372036854775807 := by omega
  have hni0 : (0 : Int) ≤ (n : Int) := by omega
  have hkli : (kl.length : Int) ≤ 9223372036854775807 := by omega
  have hvli : (vl : Int) ≤ 9223372036854775807 := by omega
  have hnli : (nl : Int) ≤ 9223372036854775807 := by omega
  have w1 : IntKind.i64.wrap ((kl.length : Int) + (vl : Int)) = (kl.length : Int) + (vl : Int) := by rw [IntKind.wrap_i64]; omega
  have w2 : IntKind.i64.wrap ((kl.length : Int) + (vl : Int) + (nl : Int)) = (kl.length : Int) + (vl : Int) + (nl : Int) := by rw [IntKind.wrap_i64]; omega
  have w3 : IntKind.i64.wrap ((kl.length : Int) + (vl : Int) + (nl : Int) + (n : Int)) = (kl.length : Int) + (vl : Int) + (nl : Int) + (n : Int) := by rw [IntKind.wrap_i64]; omega
  clear hb h hn hkl hvl hnl hL hLx hsum hz0
  go_enter Tryz.func26, Tryz.ntmps26
  go_wp2
  clear k7 k12 k13 k14 hW1
  go_loopw [3, 4] (fun z i wr => ∃ k : Nat, k ≤ n ∧ i = .int .i64 k ∧ z = .int .i64 ((z0 + lL (x.l.take k) : Nat) : Int) ∧ Hid (Below W1.heap.size W1 wr)) (fun _ i _ => n - (intOf i).toNat)
  case atStart => exact ⟨0, by omega, rfl, by
    have h := HZ0.out
    have e : lL (x.l.take 0) = 0 := rfl
    rw [e]
    congr 1
    omega, Lib.hid (Below.refl _ _)⟩
  case round =>
    obtain ⟨k, hk, rfl, rfl, HBR⟩ := hrel
    clear w1 w2 w3
    by_cases hlt : k < n
    · have hk1 : k < x.l.length := by rw [HN.out]; exact hlt
      obtain ⟨b, o, hlA, hb, hc⟩ := ents_open (HM.out.en.below HBR.out).row (by omega)
      obtain ⟨a0, _, _, _, _, a5⟩ := hc k hk1
      have hst := lL_take hk1
      have hmo := lL_mono x.l (k + 1)
      have h13 : wr.cell? ⟨w.heap.size, 13, none⟩ = some (.slice (some ⟨b, o, none⟩) n x.lc) := by rw [← hlA]; exact HK13.out wr HBR.out
      have l13 := later_cell h13
      have l0 := later_cell a0
      have l5 := later_cell a5
      obtain ⟨ek, hek⟩ : ∃ q, x.l[k].1.k = q := ⟨_, rfl⟩
      obtain ⟨ev, hev⟩ : ∃ q, x.l[k].1.v.length = q := ⟨_, rfl⟩
      rw [hek] at l0 hst
      rw [hev] at l5 hst
      obtain ⟨z, hz⟩ : ∃ q, z0 + lL (x.l.take k) = q := ⟨_, rfl⟩
      rw [hz]
      have HST : Hid (z0 + lL (x.l.take (k + 1)) = z + (ek.length + ev)) := Lib.hid (by omega)
      have hLLL := HLL.out
      have hSS := HSUM.out
      have hek0 : (ek.length : Int) ≤ 9223372036854775807 := by omega
      have hev0 : (ev : Int) ≤ 9223372036854775807 := by omega
      have z00 : (0 : Int) ≤ (z : Int) := by omega
      have s1 : (z : Int) + (ek.length : Int) ≤ 9000000000000000000 := by omega
      have s2 : (z : Int) + (ek.length : Int) + (ev : Int) ≤ 9000000000000000000 := by omega
      have w1 : IntKind.i64.wrap ((z : Int) + (ek.length : Int)) = (z : Int) + (ek.length : Int) := by rw [IntKind.wrap_i64]; omega
      have w2 : IntKind.i64.wrap ((z : Int) + (ek.length : Int) + (ev : Int)) = (z : Int) + (ek.length : Int) + (ev : Int) := by rw [IntKind.wrap_i64]; omega
      have hki : (0 : Int) ≤ (k : Int) := by omega
      have hki2 : (k : Int) < (n : Int) := by omega
      clear hc a0 a5 hst hmo hek hev hz hLLL hSS s1 s2
      go_wp2_with fail
      refine wp_region_later (by kernel_rfl) (by kernel_rfl) ?_
      repeat (go_big_quiet_step (fail))
      refine wpQuiet_nil ?_
      intro w' hw'
      obtain ⟨p, rfl⟩ := hw'
      go_wp2
      go_roundw
      case rel => exact ⟨k + 1, by omega, by go_num, by rw [HST.out]; congr 1; omega, Lib.hid (HBR.out.trans (p.bel.mono HBR.out.size))⟩
      case measure => simp [intOf]; omega
    · obtain rfl : k = n := by omega
      have h13 : wr.cell? ⟨w.heap.size, 13, none⟩ = some (.slice x.lA k x.lc) := HK13.out wr HBR.out
      have HBW := Lib.hid (HB.out.trans (HBR.out.mono HB.out.size))
      have e : z0 + lL (x.l.take k) = L := by rw [HSUM.out, ← HN.out, List.take_length]
      rw [e]
      have hLi : (L : Int) ≤ 9000000000000000000 := by have := HLL.out; omega
      have w0 : IntKind.i64.wrap ((L : Int) + 0) = (L : Int) := by rw [Int.add_zero, IntKind.wrap_i64]; omega
      have w00 : IntKind.i64.wrap (L : Int) = (L : Int) := by rw [IntKind.wrap_i64]; omega
      clear e
      go_wp2_with fail
      refine (copyb_any wr.heap.size 0 0 none [] rfl wr (Row.nil _ _ _) (Nat.le_refl _) (by decide)).mono ?_
      rintro e w2 ⟨A2, c2, rfl, _, hb2⟩
      have HB2 := Lib.hid (HBW.out.trans (hb2.mono HBW.out.size))
      clear hb2
      go_wp2
      go_ret
      exact ⟨rfl, HB2.out⟩
theorem long14x (n c : Nat) (A : Option Addr) (rs : List O14) (hn : n = rs.length) (hnl : n ≤ maxLen) (hL : lenO rs ≤ 9000000000000000000) (w : World) (h : InO w A rs) :
    Calls Tryz.prog 9 #[.slice A n c] w (IsI12 (lenO rs : Int) w) := by
  have HR := Lib.hid h
  have HN := Lib.hid hn
  have HL := Lib.hid hL
  have hni : (n : Int) ≤ 9223372036854775807 := by unfold maxLen at hnl; omega
  have hni0 : (0 : Int) ≤ (n : Int) := by omega
  clear h hn hnl hL
  go_enter Tryz.func9, Tryz.ntmps9
  go_wp2
  go_loopw [3, 4] (fun z i wr => ∃ k : Nat, k ≤ n ∧ i = .int .i64 k ∧ z = .int .i64 (lenO (rs.take k) : Int) ∧ Hid (Below w.heap.size w wr)) (fun _ i _ => n - (intOf i).toNat)
  case atStart => exact ⟨0, by omega, rfl, rfl, Lib.hid (Below.refl _ _)⟩
  case round =>
    obtain ⟨k, hk, rfl, rfl, HB⟩ := hrel
    by_cases hlt : k < n
    · have hk1 : k < rs.length := by rw [← HN.out]; exact hlt
      obtain ⟨b, o, rfl, hb, hc0⟩ := os_open (HR.out.rowAt HB.out) (by omega)
      have hc := hc0 k hk1
      have hm := HR.out.msg HB.out hk1
      have hst := lenO_take hk1
      have hmo := lenO_mono rs (k + 1)
      have hLo := HL.out
      obtain ⟨⟨kd, x, kp⟩, hx⟩ : ∃ r, rs[k]'hk1 = r := ⟨_, rfl⟩
      rw [hx] at hc hm hst
      simp only at hm hst
      have HLX := Lib.hid (reflong12x x wr hm (by omega))
      have d1 := hc 1 (.int .i64 x.kind) rfl
      have d2 := hc 2 (.int .i64 x.fr) rfl
      have d3 := hc 3 (.int .i64 x.dst) rfl
      have d4 := hc 4 (.int .i64 x.ep) rfl
      have d5 := hc 5 (.int .i64 x.op) rfl
      have d6 := hc 6 (.int .i64 x.n) rfl
      have d7 := hc 7 (.bool x.flag) rfl
      have d8 := hc 8 (.string ⟨x.e.1.k.toArray⟩) rfl
      have d9 := hc 9 (.int .i64 x.e.1.s) rfl
      have d10 := hc 10 (.int .i64 x.e.1.u) rfl
      have d11 := hc 11 (.int .i64 x.e.1.o) rfl
      have d12 := hc 12 (.bool x.e.1.has) rfl
      have d13 := hc 13 (.slice x.e.2.1 x.e.1.v.length x.e.2.2) rfl
      have d14 := hc 14 (.slice x.lA x.l.length x.lc) rfl
      have d15 := hc 15 (.slice x.rA x.ns.length x.rc) rfl
      have d16 := hc 16 (.int .i64 x.each) rfl
      have d17 := hc 17 (.int .i64 x.keep) rfl
      obtain ⟨lx, hlx⟩ : ∃ q, lM x = q := ⟨_, rfl⟩
      rw [hlx] at hst HLX
      obtain ⟨z, hz⟩ : ∃ q, lenO (rs.take k) = q := ⟨_, rfl⟩
      rw [hz] at hst ⊢
      have HST := Lib.hid hst
      have s1 : (z : Int) + 20 ≤ 9000000000000000000 := by omega
      have s2 : (z : Int) + 20 + (lx : Int) ≤ 9000000000000000000 := by omega
      have z0 : (0 : Int) ≤ (z : Int) := by omega
      have lx0 : (0 : Int) ≤ (lx : Int) := by omega
      have w1 : IntKind.i64.wrap ((z : Int) + 20) = (z : Int) + 20 := by rw [IntKind.wrap_i64]; omega
      have w2 : IntKind.i64.wrap ((z : Int) + 20 + (lx : Int)) = (z : Int) + 20 + (lx : Int) := by rw [IntKind.wrap_i64]; omega
      have hki : (0 : Int) ≤ (k : Int) := by omega
      have hki2 : (k : Int) < (n : Int) := by omega
      clear hc hc0 hx hm hst hmo hLo hlx hz s1 s2
      go_wp2_with fail
      refine HLX.out.mono ?_
      rintro e w2 ⟨rfl, hb2⟩
      have HB2 := Lib.hid (HB.out.trans (hb2.mono HB.out.size))
      clear hb2 HLX d1 d2 d3 d4 d5 d6 d7 d8 d9 d10 d11 d12 d13 d14 d15 d16 d17
      go_wp2
      go_roundw
      case rel => exact ⟨k + 1, by omega, by go_num, by rw [HST.out]; congr 1; omega, HB2⟩
      case measure => simp [intOf]; omega
    · obtain rfl : k = n := by omega
      have e : rs.take k = rs := by rw [HN.out, List.take_length]
      rw [e]
      go_wp2
      go_ret
      exact ⟨rfl, HB.out⟩
end Go.Proofs.YtkdpfjenjcpcfaaGreatDoor
