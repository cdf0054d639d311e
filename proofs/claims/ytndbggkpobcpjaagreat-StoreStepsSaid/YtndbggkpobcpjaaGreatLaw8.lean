/- Dos8: Rows of things that are done to a store, as they come in; how much they have in them.
   Long8: How much things to be done to a store have in them, told by the reference.
   Done8: Something that is done to a store, by the statements' own call.
   Acks8: Whether acks are the same, told by the reference.
   Known8: What the chapter's example fixes, of a store.
   Law8A: Things are done to a store, one behind the other: one round; what lasts of a key is no newer than its newest entry. -/
import Derived.Test.YtndbggkpobcpjaaGreatStoK
import Derived.Test.YtndbggkpobcpjaaGreatStoF
import Derived.Test.YtndbggkpobcpjaaGreatSized
import Derived.Deep.Slices
import Derived.Deep.Fields
import Derived.BigQuiet
namespace Go.Proofs.YtndbggkpobcpjaaGreat
open Go.RowKit Go.ChangeShapes Go.WideShapes Mem
set_option maxRecDepth 10000
set_option maxHeartbeats 2000000
set_option linter.unusedVariables false
/-- Something that is done: its kind, the entry, for whom, how much is kept. -/
structure D8 where
  kind : Int
  e : EV
  who : Int
  kept : Int
instance d8inh : Inhabited D8 := ⟨⟨0, evN [], 0, 0⟩⟩
def d8C (r : D8) : List Value := [.int .i64 r.kind, .string ⟨r.e.1.k.toArray⟩, .int .i64 r.e.1.s, .int .i64 r.e.1.u, .int .i64 r.e.1.o, .bool r.e.1.has, .slice r.e.2.1 r.e.1.v.length r.e.2.2, .int .i64 r.who, .int .i64 r.kept]
abbrev d8sC (rs : List D8) : List Value := rs.flatMap d8C
theorem d8sC_len (rs : List D8) : (d8sC rs).length = rs.length * 9 := by
  induction rs with
  | nil => rfl
  | cons p rs ih => simp only [d8sC, List.flatMap_cons, List.length_append, d8C, List.length_cons, List.length_nil]; have := ih; unfold d8sC at this; omega
theorem d8sC_at (rs : List D8) (i : Nat) (h : i < rs.length) (j : Nat) (hj : j < 9) : (d8sC rs)[i * 9 + j]? = (d8C rs[i])[j]? := by
  induction rs generalizing i with
  | nil => simp at h
  | cons p rs ih =>
    have hc : d8sC (p :: rs) = d8C p ++ d8sC rs := rfl
    rw [hc]
    have hl : (d8C p).length = 9 := rfl
    rcases i with _ | i
    · rw [List.getElem?_append_left (by omega), Nat.zero_mul, Nat.zero_add]; rfl
    · rw [List.getElem?_append_right (by omega), hl, show (i + 1) * 9 + j - 9 = i * 9 + j by omega, ih i (by simpa using h)]
      rfl
theorem d8s_open {w : World} {B : Nat} {A : Option Addr} {rs : List D8} (h : Row w B A (d8sC rs)) (hn : 0 < rs.length) :
    ∃ b o, A = some ⟨b, o, none⟩ ∧ b < B ∧ ∀ i (hi : i < rs.length), ∀ j v, (d8C rs[i])[j]? = some v → w.cell? ⟨b, o + i * 9 + j, none⟩ = some v := by
  obtain ⟨b, o, hA, hb, hc⟩ := h.open_ (by rw [d8sC_len]; omega)
  refine ⟨b, o, hA, hb, fun i hi j v hv => ?_⟩
  have hj : j < 9 := by
    have := (List.getElem?_eq_some_iff.1 hv).1
    exact this
  have hlt : i * 9 + j < (d8sC rs).length := by rw [d8sC_len]; omega
  rw [show o + i * 9 + j = o + (i * 9 + j) by omega, hc (i * 9 + j) hlt, ← hv, ← d8sC_at rs i hi j hj, List.getElem?_eq_getElem hlt]
/-- What may come in. -/
structure D8Ok (w : World) (B : Nat) (r : D8) : Prop where
  row : Row w B r.e.2.1 (r.e.1.v.map byteV)
  cap : r.e.1.v.length ≤ r.e.2.2
  capm : r.e.2.2 ≤ maxLen
  key : r.e.1.k.length ≤ maxLen
  k0 : -9223372036854775808 ≤ r.kind
  k1 : r.kind ≤ 9223372036854775807
  p0 : -9223372036854775808 ≤ r.kept
  p1 : r.kept ≤ 9223372036854775807
def InD8 (w : World) (A : Option Addr) (rs : List D8) : Prop := ∀ W, Below w.heap.size w W → Row W w.heap.size A (d8sC rs) ∧ ∀ r ∈ rs, D8Ok W w.heap.size r
theorem D8Ok.below {w w' : World} {B : Nat} {r : D8} (h : D8Ok w B r) (hb : Below B w w') : D8Ok w' B r := ⟨h.row.below hb, h.cap, h.capm, h.key, h.k0, h.k1, h.p0, h.p1⟩
theorem inD8_of {w : World} {A : Option Addr} {rs : List D8} (h : Row w w.heap.size A (d8sC rs)) (hr : ∀ r ∈ rs, D8Ok w w.heap.size r) : InD8 w A rs := fun W hb => ⟨h.below hb, fun r hm => (hr r hm).below hb⟩
section
variable {H : Type} {enc : TypeId × Value → H} {w : World} {base : Nat} {held : Bool}
theorem tag_cells8 {fuel : Nat} {c0 c1 c2 : Value} {x : DataW H × List MemPlace} (h : DataW.trod enc Tryz.prog w base (fun _ => true) held fuel 41 [c0, c1, c2] = some x) :
    ∃ s u o : Int, c0 = .int .i64 s ∧ c1 = .int .i64 u ∧ c2 = .int .i64 o := by
  obtain ⟨xs, n, _, _, _, hlen, hg⟩ := DataW.trod_struct Tryz.underlying41 h
  have e1 : Tryz.prog.cellsOf 3 = 1 := by kernel_rfl
  match xs, hlen with
  | [y0, y1, y2], _ =>
    have h0 := hg 0 _ rfl
    have h1 := hg 1 _ rfl
    have h2 := hg 2 _ rfl
    obtain ⟨s, hs, _, ws⟩ := DataW.trod_int Tryz.underlying3 (x := y0) (by simpa [e1] using h0)
    obtain ⟨u, hu, _, wu⟩ := DataW.trod_int Tryz.underlying3 (x := y1) (by simpa [e1] using h1)
    obtain ⟨o, ho, _, wo⟩ := DataW.trod_int Tryz.underlying3 (x := y2) (by simpa [e1] using h2)
    exact ⟨s, u, o, by simpa using hs, by simpa using hu, by simpa using ho⟩
theorem val_cells8 {fuel : Nat} {c0 c1 : Value} {x : DataW H × List MemPlace} (h : DataW.trod enc Tryz.prog w base (fun _ => true) held fuel 43 [c0, c1] = some x) :
    ∃ (has : Bool) (A : Option Addr) (xs : List UInt8) (c : Nat), c0 = .bool has ∧ c1 = .slice A xs.length c ∧ Row w w.heap.size A (xs.map byteV) ∧ xs.length ≤ c ∧ c ≤ maxLen := by
  obtain ⟨xs, n, _, _, _, hlen, hg⟩ := DataW.trod_struct Tryz.underlying43 h
  have e1 : Tryz.prog.cellsOf 4 = 1 := by kernel_rfl
  have e2 : Tryz.prog.cellsOf 27 = 1 := by kernel_rfl
  match xs, hlen with
  | [y0, y1], _ =>
    have h0 := hg 0 _ rfl
    have h1 := hg 1 _ rfl
    obtain ⟨b, hb, _⟩ := DataW.trod_bool Tryz.underlying4 (x := y0) (by simpa [e1, e2] using h0)
    obtain ⟨⟨A, ys, c⟩, hr, ho⟩ := open_bytes1 (x := y1) Tryz.underlying27 Tryz.underlying5 (by kernel_rfl) (by simpa [e1, e2] using h1)
    exact ⟨b, A, ys, c, by simpa using hb, hr, ho.1, ho.2.1, ho.2.2⟩
theorem ent_cells8 {fuel : Nat} {c0 c1 c2 c3 c4 c5 : Value} {x : DataW H × List MemPlace} (h : DataW.trod enc Tryz.prog w base (fun _ => true) held fuel 45 [c0, c1, c2, c3, c4, c5] = some x) :
    ∃ y : EV, [c0, c1, c2, c3, c4, c5] = entC y ∧ Row w w.heap.size y.2.1 (y.1.v.map byteV) ∧ y.1.v.length ≤ y.2.2 ∧ y.2.2 ≤ maxLen ∧ y.1.k.length ≤ maxLen := by
  obtain ⟨xs, n, _, _, _, hlen, hg⟩ := DataW.trod_struct Tryz.underlying45 h
  have e0 : Tryz.prog.cellsOf 9 = 1 := by kernel_rfl
  have e1 : Tryz.prog.cellsOf 41 = 3 := by kernel_rfl
  have e2 : Tryz.prog.cellsOf 43 = 2 := by kernel_rfl
  match xs, hlen with
  | [y0, y1, y2], _ =>
    have h0 := hg 0 _ rfl
    have h1 := hg 1 _ rfl
    have h2 := hg 2 _ rfl
    obtain ⟨key, hk, _, hkl⟩ := DataW.trod_string Tryz.underlying9 (x := y0) (by simpa [e0, e1, e2] using h0)
    obtain ⟨s, u, o, rfl, rfl, rfl⟩ := tag_cells8 (x := y1) (by simpa [e0, e1, e2] using h1)
    obtain ⟨has, A, ys, c, rfl, rfl, hr, hc, hm⟩ := val_cells8 (x := y2) (by simpa [e0, e1, e2] using h2)
    have hk' : c0 = .string key := by simpa using hk
    subst hk'
    refine ⟨(⟨key.data.toList, s, u, o, has, ys⟩, A, c), ?_, hr, hc, hm, ?_⟩
    · unfold entC
      simp
    · show key.data.toList.length ≤ maxLen
      have : key.data.toList.length = key.size := by rw [Array.length_toList]; rfl
      omega
theorem d8_cells {fuel : Nat} {c0 c1 c2 c3 c4 c5 c6 c7 c8 : Value} {x : DataW H × List MemPlace} (h : DataW.trod enc Tryz.prog w base (fun _ => true) held fuel 47 [c0, c1, c2, c3, c4, c5, c6, c7, c8] = some x) :
    ∃ r : D8, [c0, c1, c2, c3, c4, c5, c6, c7, c8] = d8C r ∧ D8Ok w w.heap.size r := by
  obtain ⟨xs, n, _, _, _, hlen, hg⟩ := DataW.trod_struct Tryz.underlying47 h
  have e1 : Tryz.prog.cellsOf 3 = 1 := by kernel_rfl
  have e2 : Tryz.prog.cellsOf 45 = 6 := by kernel_rfl
  match xs, hlen with
  | [y0, y1, y2, y3], _ =>
    have h0 := hg 0 _ rfl
    have h1 := hg 1 _ rfl
    have h2 := hg 2 _ rfl
    have h3 := hg 3 _ rfl
    obtain ⟨k, hk, _, wk⟩ := DataW.trod_int Tryz.underlying3 (x := y0) (by simpa [e1, e2] using h0)
    obtain ⟨y, hy, hr, hc, hm, hkl⟩ := ent_cells8 (x := y1) (by simpa [e1, e2] using h1)
    obtain ⟨p, hp, _, wp⟩ := DataW.trod_int Tryz.underlying3 (x := y2) (by simpa [e1, e2] using h2)
    obtain ⟨t, ht, _, wt⟩ := DataW.trod_int Tryz.underlying3 (x := y3) (by simpa [e1, e2] using h3)
    have hkb := bounds_i64 wk
    have htb := bounds_i64 wt
    have hk' : c0 = .int .i64 k := by simpa using hk
    have hp' : c7 = .int .i64 p := by simpa using hp
    have ht' : c8 = .int .i64 t := by simpa using ht
    unfold entC at hy
    simp only [List.cons.injEq, and_true] at hy
    obtain ⟨q1, q2, q3, q4, q5, q6⟩ := hy
    exact ⟨⟨k, y, p, t⟩, by unfold d8C; rw [hk', hp', ht', q1, q2, q3, q4, q5, q6], hr, hc, hm, hkl, hkb.1, hkb.2, htb.1, htb.2⟩
theorem open_d8s {a : Option Addr} {len cap : Nat} {d : DataW H} {ps : List MemPlace} (h : DataW.Trod enc Tryz.prog w base (fun _ => true) held 22 (.slice a len cap) d ps) :
    ∃ rs : List D8, len = rs.length ∧ len ≤ cap ∧ cap ≤ maxLen ∧ Row w w.heap.size a (d8sC rs) ∧ (∀ r ∈ rs, D8Ok w w.heap.size r) := by
  obtain ⟨fuel, hf⟩ := h
  rcases Go.Deep.open_slice Tryz.underlying22 (by simpa [Value.cells] using hf) with ⟨hcs, _⟩ | ⟨x, l, c, m, n, D, Pl, hcs, _, hl, hm, hmm, hd, hx⟩
  · simp only [List.cons.injEq, and_true] at hcs
    injection hcs with h1 h2 h3
    subst h1; subst h2; subst h3
    exact ⟨[], rfl, Nat.le_refl _, by unfold maxLen; omega, Row.nil _ _ _, by simp⟩
  · simp only [List.cons.injEq, and_true] at hcs
    injection hcs with h1 h2 h3
    subst h1; subst h2; subst h3
    simp only [if_true] at hmm
    subst hmm
    have hC : Tryz.prog.cellsOf 47 = 9 := by kernel_rfl
    rw [hC] at hx
    obtain ⟨V, hV⟩ := Go.Deep.choose_lt (n := len) (α := D8) (p := fun i r => (∀ j, j < 9 → w.cell? (x.add (i * 9 + j)) = (d8C r)[j]?) ∧ D8Ok w w.heap.size r) (fun i hi => by
      obtain ⟨cs', h1, h2⟩ := hx i (by omega)
      obtain ⟨_, hlen, hat⟩ := World.cells?_some h1
      match cs', hlen with
      | [c0, c1, c2, c3, c4, c5, c6, c7, c8], _ =>
        obtain ⟨r, hr, ho⟩ := d8_cells h2
        refine ⟨r, fun j hj => ?_, ho⟩
        rw [← Go.Deep.add_add, hat j hj, hr])
    refine ⟨(List.range len).map V, by simp, hl, hm, ?_, ?_⟩
    · rcases Nat.eq_zero_or_pos len with h0 | h0
      · subst h0; exact Or.inl rfl
      · have hc0 := (hV 0 h0).1 0 (by omega)
        have hc0' : w.cell? x = some (.int .i64 (V 0).kind) := by
          have e : x.add (0 * 9 + 0) = x := by simp [Addr.add]
          rw [e] at hc0; exact hc0
        obtain ⟨b, o, spot⟩ := x
        have hspot : spot = none := World.cell?_spot hc0'
        subst hspot
        refine Or.inr ⟨b, o, rfl, block_lt hc0', fun j hj => ?_⟩
        have hj9 : j < len * 9 := by rw [d8sC_len] at hj; simpa using hj
        have hi : j / 9 < len := by omega
        have hdd : j = j / 9 * 9 + j % 9 := by omega
        have hv := (hV (j / 9) hi).1 (j % 9) (by omega)
        rw [← hdd] at hv
        have e : (⟨b, o, none⟩ : Addr).add j = ⟨b, o + j, none⟩ := by
          unfold Addr.add; split
          · subst_vars; rfl
          · rfl
        rw [e] at hv
        have ht := d8sC_at ((List.range len).map V) (j / 9) (by simpa using hi) (j % 9) (by omega)
        rw [← hdd, List.getElem?_eq_getElem hj] at ht
        rw [hv, ht, List.getElem_map, List.getElem_range]
    · intro r hr
      obtain ⟨i, hi, rfl⟩ := List.mem_map.1 hr
      exact (hV i (List.mem_range.1 hi)).2
end
theorem sized_d8s {H : Type} {enc : TypeId × Value → H} {w : World} {base : Nat} {held : Bool} {a : Option Addr} {len cap : Nat} {d : DataW H} {ps : List MemPlace} (h : DataW.Trod enc Tryz.prog w base (fun _ => true) held 22 (.slice a len cap) d ps) (hs : SizedD Tryz.prog 22 d) : len * 96 ≤ reachBytes := by
  obtain ⟨fuel, hf⟩ := h
  rcases Go.Deep.open_slice Tryz.underlying22 (by simpa [Value.cells] using hf) with ⟨hcs, _⟩ | ⟨x, l, c, m, n, D, Pl, hcs, _, hl, hm, hmm, hd, hx⟩
  · simp only [List.cons.injEq, and_true] at hcs
    injection hcs with h1 h2 h3
    subst h2
    exact Nat.zero_le _
  · simp only [List.cons.injEq, and_true] at hcs
    injection hcs with h1 h2 h3
    subst h2
    have h3 := congrArg Prod.fst hd
    simp only at h3
    subst h3
    have := hs.len Tryz.underlying22
    have hb : Tryz.prog.bytesOf 47 = 96 := by kernel_rfl
    rw [hb] at this
    simp only [List.length_map, List.length_range] at this
    omega
end Go.Proofs.YtndbggkpobcpjaaGreat
namespace Go.Proofs.YtndbggkpobcpjaaGreat
open Go.RowKit Go.ChangeShapes Mem Be
set_option maxRecDepth 100000
set_option maxHeartbeats 4000000
set_option linter.unusedVariables false
def SomeB8 (w : World) (e : Ending) (w' : World) : Prop := (∃ n : Int, e = .returned (.int .i64 n)) ∧ Below w.heap.size w w'
theorem d8_len {w : World} {B : Nat} {r : D8} (h : D8Ok w B r) : (r.e.1.v.length : Int) ≤ 9223372036854775807 ∧ (r.e.1.k.length : Int) ≤ 9223372036854775807 := by
  have h1 := h.cap; have h2 := h.capm; have h3 := h.key
  unfold maxLen at h2 h3
  exact ⟨by omega, by omega⟩
theorem long8_any (n c : Nat) (A : Option Addr) (rs : List D8) (hn : n = rs.length) (hnl : n ≤ maxLen) (w : World) (h : InD8 w A rs) :
    Calls Tryz.prog 4 #[.slice A n c] w (SomeB8 w) := by
  have HR := Lib.hid h
  have HN := Lib.hid hn
  have hni : (n : Int) ≤ 9223372036854775807 := by unfold maxLen at hnl; omega
  have hni0 : (0 : Int) ≤ (n : Int) := by omega
  clear h hn hnl
  go_enter Tryz.func4, Tryz.ntmps4
  go_wp2
  go_loopw [3, 4] (fun z i wr => ∃ k : Nat, k ≤ n ∧ i = .int .i64 k ∧ (∃ q : Int, z = .int .i64 q) ∧ Hid (Below w.heap.size w wr)) (fun _ i _ => n - (intOf i).toNat)
  case atStart => exact ⟨0, by omega, rfl, ⟨0, rfl⟩, Lib.hid (Below.refl _ _)⟩
  case round =>
    obtain ⟨k, hk, rfl, ⟨q, rfl⟩, HB⟩ := hrel
    by_cases hlt : k < n
    · have hk1 : k < rs.length := by rw [← HN.out]; exact hlt
      obtain ⟨hrow, hok⟩ := HR.out wr HB.out
      obtain ⟨b, o, rfl, hb, hc⟩ := d8s_open hrow (by omega)
      have hl := d8_len (hok rs[k] (List.getElem_mem hk1))
      have l1 := later_cell (hc k hk1 1 _ rfl)
      have l6 := later_cell (hc k hk1 6 _ rfl)
      have hkl : ((⟨rs[k].e.1.k.toArray⟩ : ByteArray).size : Int) ≤ 9223372036854775807 := by
        show ((rs[k].e.1.k.toArray.size : Nat) : Int) ≤ _
        rw [List.size_toArray]; exact hl.2
      have hvl := hl.1
      have hki : (0 : Int) ≤ (k : Int) := by omega
      have hki2 : (k : Int) < (n : Int) := by omega
      clear hc hrow hok hl
      go_wp2_with fail
      refine wp_region_later (by kernel_rfl) (by kernel_rfl) ?_
      repeat (go_big_quiet_step (fail))
      refine wpQuiet_nil ?_
      intro w' hw'
      obtain ⟨p, rfl⟩ := hw'
      go_wp2
      go_roundw
      case rel => exact ⟨k + 1, by omega, by go_num, ⟨_, rfl⟩, Lib.hid (HB.out.trans (p.bel.mono HB.out.size))⟩
      case measure => simp [intOf]; omega
    · obtain rfl : k = n := by omega
      go_wp2
      go_ret
      exact ⟨⟨_, rfl⟩, HB.out⟩
end Go.Proofs.YtndbggkpobcpjaaGreat
namespace Go.Proofs.YtndbggkpobcpjaaGreat
open Go.RowKit Go.ChangeShapes Mem Be Word Frm
set_option maxRecDepth 10000
set_option maxHeartbeats 4000000
set_option linter.unusedVariables false
/-- A store behind something that is done to it, and what is told. -/
def d8S (S : St8) (d : D8) : St8 × List AckP × Int :=
  if d.kind = 1 then ((putS S d.e.1 d.who).1, [], (putS S d.e.1 d.who).2)
  else if d.kind = 2 then (tickS S, S.acks, 0)
  else if d.kind = 3 then ((compS S).1, [], (compS S).2)
  else if d.kept < 0 then (S, [], 2) else (crash8S S d.kept.toNat, [], 0)
theorem putS_acks (S : St8) (e : EntP) (who : Int) : (putS S e who).1.acks.length ≤ S.acks.length + 1 := by
  unfold putS
  split
  · split
    · split
      · unfold pushS writeS; simp only; split <;> simp
      · simp
    · simp [pushS]
  · simp
theorem d8S_acks (S : St8) (d : D8) : (d8S S d).1.acks.length ≤ S.acks.length + 1 := by
  unfold d8S
  split
  · exact putS_acks _ _ _
  split
  · simp [tickS]
  split
  · unfold compS; split <;> simp
  split
  · simp
  · simp [crash8S]
def DoneS (F : Nat → Prop) (R : St8 × List AckP × Int) (q : Nat) (w : World) (e : Ending) (w' : World) : Prop :=
  ∃ g F' q' A c, e = .returned (.tuple #[.pointer (some ⟨g, 0, none⟩), .slice A R.2.1.length c, .int .i64 R.2.2]) ∧ (∀ k, F' k → F k ∨ w.heap.size ≤ k) ∧ StAt w' F' g R.1 q' ∧ q' ≤ q + 1 ∧ Touch F w w' ∧
    w'.ownsRow 0 60 5 (.slice A R.2.1.length c) R.2.1.length (acksC R.2.1) ∧ (∀ a, A = some a → ¬ F' a.block)
theorem own_none (w : World) : w.ownsRow 0 60 5 (.slice none (([] : List AckP).length) 0) (([] : List AckP).length) (acksC []) := World.ownsRow_nil _ _ _ _
theorem doneS_to {F : Nat → Prop} {g q : Nat} {S : St8} {v : Int} {w w1 w2 : World} {e : Ending} (hb : Below w.heap.size w w1) (h : StTo (.int .i64 v) F g S q w1 e w2) :
    e = .returned (.int .i64 v) ∧ DoneS F (S, [], v) q w (.returned (.tuple #[.pointer (some ⟨g, 0, none⟩), .slice none 0 0, .int .i64 v])) w2 := by
  obtain ⟨rfl, F', h1, h2, h3⟩ := h
  exact ⟨rfl, g, F', q, none, 0, rfl, fun k hk => by rcases h1 k hk with h | h; exact Or.inl h; exact Or.inr (Nat.le_trans hb.size h), h2, by omega, (Touch.ofBelow hb).trans h3 (fun k hk => Or.inl hk), own_none _, by simp⟩
theorem doneS_stay {F : Nat → Prop} {g q : Nat} {S : St8} {v : Int} {w w1 : World} (h : StAt w F g S q) (hb : Below w.heap.size w w1) : DoneS F (S, [], v) q w (.returned (.tuple #[.pointer (some ⟨g, 0, none⟩), .slice none 0 0, .int .i64 v])) w1 :=
  ⟨g, F, q, none, 0, rfl, fun k hk => Or.inl hk, h.below hb, by omega, Touch.ofBelow hb, own_none _, by simp⟩
abbrev boxD (w : World) (kd : Int) (k : ByteArray) (s u o : Int) (has : Bool) (A : Option Addr) (m c : Nat) (who kp : Int) : World := w.alloc (.cells #[.int .i64 kd, .string k, .int .i64 s, .int .i64 u, .int .i64 o, .bool has, .slice A m c, .int .i64 who, .int .i64 kp] 47)
def dV (r : D8) : Value := .agg #[.int .i64 r.kind, .string ⟨r.e.1.k.toArray⟩, .int .i64 r.e.1.s, .int .i64 r.e.1.u, .int .i64 r.e.1.o, .bool r.e.1.has, .slice r.e.2.1 r.e.1.v.length r.e.2.2, .int .i64 r.who, .int .i64 r.kept]
theorem done8_any (F : Nat → Prop) (g q : Nat) (S : St8) (d : D8) (w : World) (hq : q ≤ 4611686018427387904) (hacks : S.acks.length ≤ 1466015503701) (h : StAt w F g S q) (hok : D8Ok w w.heap.size d) (hN : RowN F w d.e.2.1 (d.e.1.v.map byteV)) :
    Calls Tryz.prog 7 #[.pointer (some ⟨g, 0, none⟩), dV d] w (DoneS F (d8S S d) q w) := by
  have hl := d8_len hok
  obtain ⟨kd, x, who, kp⟩ := d
  simp only at hok hN hl ⊢
  have hb : Below w.heap.size w (boxD w kd ⟨x.1.k.toArray⟩ x.1.s x.1.u x.1.o x.1.has x.2.1 x.1.v.length x.2.2 who kp) := (Below.refl _ _).alloc (Nat.le_refl _) _
  have HB := Lib.hid hb
  have HA := Lib.hid h
  obtain ⟨R, hR⟩ : ∃ R, d8S S ⟨kd, x, who, kp⟩ = R := ⟨_, rfl⟩
  rw [hR]
  unfold d8S at hR
  simp only at hR
  by_cases h1 : kd = 1
  · rw [if_pos h1] at hR
    subst h1
    have HC := Lib.hid (put_any8 F g q S x who hacks hl.1 hl.2 _ (h.below hb) ((hok.row.below hb).more hb.size) hok.cap (hN.touch (Touch.ofBelow (F := F) hb)))
    have HS := Lib.hid hR
    obtain ⟨U, hU⟩ : ∃ U, putS S x.1 who = U := ⟨_, rfl⟩
    rw [hU] at HC HS
    clear hR hU hb h hok hN hl hacks hq
    unfold dV
    unfold evV entV at HC
    go_enter Tryz.func7, Tryz.ntmps7
    go_wp2_with fail
    refine HC.out.mono ?_
    intro e w2 hx
    have hx2 := doneS_to HB.out hx
    obtain ⟨rfl, hx3⟩ := hx2
    have HX3 := Lib.hid hx3
    clear hx hx3 HC
    go_wp2
    go_ret3
    rw [← HS.out]
    exact HX3.out
  rw [if_neg h1] at hR
  by_cases h2 : kd = 2
  · rw [if_pos h2] at hR
    subst h2
    have HC := Lib.hid (tick_any8 F g q S hq _ (h.below hb))
    have HS := Lib.hid hR
    clear hR hb h hok hN hl hacks hq h1
    unfold dV
    go_enter Tryz.func7, Tryz.ntmps7
    go_wp2_with fail
    refine HC.out.mono ?_
    rintro e w2 ⟨F', A, c, q', rfl, ho, hn, hf, hq, hs, ht⟩
    have HX : Hid (DoneS F (tickS S, S.acks, 0) q w (.returned (.tuple #[.pointer (some ⟨g, 0, none⟩), .slice A S.acks.length c, .int .i64 0])) w2) := Lib.hid
      ⟨g, F', q', A, c, rfl, fun k hk => by rcases hf k hk with h | h; exact Or.inl h; exact Or.inr (Nat.le_trans HB.out.size h), hs, hq, (Touch.ofBelow HB.out).trans ht (fun k hk => Or.inl hk), ho, hn⟩
    clear ho hn hf hq hs ht HC
    go_wp2
    go_ret3
    rw [← HS.out]
    exact HX.out
  rw [if_neg h2] at hR
  by_cases h3 : kd = 3
  · rw [if_pos h3] at hR
    subst h3
    have HC := Lib.hid (compact_any8 F g q S _ (h.below hb))
    have HS := Lib.hid hR
    obtain ⟨U, hU⟩ : ∃ U, compS S = U := ⟨_, rfl⟩
    rw [hU] at HC HS
    clear hR hU hb h hok hN hl hacks hq h1 h2
    unfold dV
    go_enter Tryz.func7, Tryz.ntmps7
    go_wp2_with fail
    refine HC.out.mono ?_
    intro e w2 hx
    have hx2 := doneS_to HB.out hx
    obtain ⟨rfl, hx3⟩ := hx2
    have HX3 := Lib.hid hx3
    clear hx hx3 HC
    go_wp2
    go_ret3
    rw [← HS.out]
    exact HX3.out
  rw [if_neg h3] at hR
  by_cases h4 : kp < 0
  · rw [if_pos h4] at hR
    have HC := Lib.hid (crash_neg8 F g q S kp h4 _ (h.below hb))
    have HS := Lib.hid hR
    clear hR hb h hok hN hl hacks hq h4
    unfold dV
    go_enter Tryz.func7, Tryz.ntmps7
    go_wp2_with fail
    refine HC.out.mono ?_
    rintro e w2 ⟨rfl, hb⟩
    have HB2 := Lib.hid (HB.out.trans (hb.mono HB.out.size))
    clear hb HC
    go_wp2
    go_ret3
    rw [← HS.out]
    exact doneS_stay HA.out HB2.out
  · rw [if_neg h4] at hR
    obtain ⟨p, rfl⟩ : ∃ p : Nat, kp = (p : Int) := ⟨kp.toNat, by omega⟩
    rw [Int.toNat_natCast] at hR
    have HC := Lib.hid (crash_any8 F g q p S _ (h.below hb))
    have HS := Lib.hid hR
    obtain ⟨U, hU⟩ : ∃ U, crash8S S p = U := ⟨_, rfl⟩
    rw [hU] at HC HS
    clear hR hU hb h hok hN hl hacks hq h4
    unfold dV
    go_enter Tryz.func7, Tryz.ntmps7
    go_wp2_with fail
    refine HC.out.mono ?_
    rintro e w2 ⟨g2, F2, rfl, hf, hl, hb⟩
    have HX2 : Hid (DoneS F (U, [], 0) q w (.returned (.tuple #[.pointer (some ⟨g2, 0, none⟩), .slice none 0 0, .int .i64 0])) w2) := Lib.hid
      ⟨g2, F2, q, none, 0, rfl, fun k hk => Or.inr (Nat.le_trans HB.out.size (hf k hk)), hl, by omega, (Touch.ofBelow HB.out).thenBelow hb, own_none _, by simp⟩
    clear hf hl hb HC
    go_wp2
    go_ret3
    rw [← HS.out]
    exact HX2.out
end Go.Proofs.YtndbggkpobcpjaaGreat
namespace Go.Proofs.YtndbggkpobcpjaaGreat
open Go.RowKit Go.ChangeShapes Mem Be
set_option maxRecDepth 100000
set_option maxHeartbeats 4000000
set_option linter.unusedVariables false
theorem sameacks_true (n c m c' : Nat) (A A' : Option Addr) (l : List AckP) (hn : n = l.length) (hm : m = l.length) (hnl : n ≤ maxLen) (w : World) (h : Row w w.heap.size A (acksC l)) (h' : Row w w.heap.size A' (acksC l)) :
    Calls Tryz.prog 9 #[.slice A n c, .slice A' m c'] w fun e w' => e = .returned (.bool true) ∧ Below w.heap.size w w' := by
  subst hm
  have HR := Lib.hid h
  have HS := Lib.hid h'
  have hni : (l.length : Int) ≤ 9223372036854775807 := by unfold maxLen at hnl; omega
  have hni0 : (0 : Int) ≤ (l.length : Int) := by omega
  subst hn
  clear h h' hnl
  go_enter Tryz.func9, Tryz.ntmps9
  go_wp2
  go_loopw [5] (fun i wr => ∃ k : Nat, k ≤ l.length ∧ i = .int .i64 k ∧ Hid (Below w.heap.size w wr)) (fun i _ => l.length - (intOf i).toNat)
  case atStart => exact ⟨0, by omega, rfl, Lib.hid (Below.refl _ _)⟩
  case round =>
    obtain ⟨k, hk, rfl, HB⟩ := hrel
    by_cases hlt : k < l.length
    · obtain ⟨b, o, rfl, hb, hc⟩ := acks_open (HR.out.below HB.out) (by omega)
      obtain ⟨b', o', rfl, hb', hc'⟩ := acks_open (HS.out.below HB.out) (by omega)
      obtain ⟨a0, a1, a2, a3, a4⟩ := hc k hlt
      obtain ⟨b0, b1, b2, b3, b4⟩ := hc' k hlt
      have l0 := later_cell a0
      have l1 := later_cell a1
      have l2 := later_cell a2
      have l3 := later_cell a3
      have l4 := later_cell a4
      have m0 := later_cell b0
      have m1 := later_cell b1
      have m2 := later_cell b2
      have m3 := later_cell b3
      have m4 := later_cell b4
      have hki : (0 : Int) ≤ (k : Int) := by omega
      have hki2 : (k : Int) < (l.length : Int) := by omega
      clear hc hc' a0 a1 a2 a3 a4 b0 b1 b2 b3 b4
      go_wp2_with fail
      refine wp_region_later (by kernel_rfl) (by kernel_rfl) ?_
      repeat (go_big_quiet_step (fail))
      refine wpQuiet_nil ?_
      intro w' hw'
      obtain ⟨p, rfl⟩ := hw'
      go_wp2
      go_roundw
      case rel => exact ⟨k + 1, by omega, by go_num, Lib.hid (HB.out.trans (p.bel.mono HB.out.size))⟩
      case measure => simp [intOf]; omega
    · obtain rfl : k = l.length := by omega
      go_wp2
      go_ret
      exact ⟨rfl, HB.out⟩
end Go.Proofs.YtndbggkpobcpjaaGreat
namespace Go.Proofs.YtndbggkpobcpjaaGreat
open Go.RowKit Go.ChangeShapes Mem Be Word Frm
set_option maxRecDepth 10000
set_option maxHeartbeats 4000000
set_option linter.unusedVariables false
def NewF8 (w : World) (F : Nat → Prop) : Prop := ∀ k, F k → w.heap.size ≤ k
theorem newF8_step {w w1 : World} {F F' : Nat → Prop} (h : NewF8 w F) (hs : w.heap.size ≤ w1.heap.size) (h' : ∀ k, F' k → F k ∨ w1.heap.size ≤ k) : NewF8 w F' := fun k hk => by
  rcases h' k hk with h1 | h1
  · exact h k h1
  · omega
def IsT8 (v : Bool) (w : World) (e : Ending) (w' : World) : Prop := e = .returned (.bool v) ∧ Below w.heap.size w w'
/-- A store of a statement's own, in blocks that are new since w0. -/
structure St1 (w0 w : World) (F : Nat → Prop) (g : Nat) (S : St8) (q : Nat) : Prop where
  new : NewF8 w0 F
  at_ : StAt w F g S q
  bel : Below w0.heap.size w0 w
theorem St1.below {w0 w w1 : World} {F : Nat → Prop} {g q : Nat} {S : St8} (h : St1 w0 w F g S q) (hb : Below w.heap.size w w1) : St1 w0 w1 F g S q := ⟨h.new, h.at_.below hb, h.bel.trans (hb.mono h.bel.size)⟩
theorem St1.to {w0 w w1 : World} {F F' : Nat → Prop} {g g' q q' : Nat} {S S' : St8} (h : St1 w0 w F g S q) (hf : ∀ k, F' k → F k ∨ w.heap.size ≤ k) (hl : StAt w1 F' g' S' q') (ht : Touch F w w1) : St1 w0 w1 F' g' S' q' :=
  ⟨newF8_step h.new h.bel.size hf, hl, h.bel.trans (ht.below h.bel.size h.new)⟩
def e3 : EntP := ⟨[107], 3, 0, 0, false, []⟩
def e2 : EntP := ⟨[107], 2, 0, 0, false, []⟩
def k1S : St8 := ⟨[(1, putE e3)], 0, [], [e3], [⟨7, [107], 3, 0, 0⟩]⟩
def k2S : St8 := ⟨[(1, putE e3)], 0, [], [e3], [⟨7, [107], 3, 0, 0⟩, ⟨8, [107], 2, 0, 0⟩]⟩
theorem okE3 : okE e3 := by unfold okE; decide
theorem okE2 : okE e2 := by unfold okE; decide
theorem known_put1 : putS st0 e3 7 = (k1S, 0) := by
  have h1 : mayP e3 7 := ⟨okE3, by decide, by decide, by decide⟩
  have h2 : 0 < cmpE e3 (ofT st0.N e3.k) := by decide
  have h3 : (allB (st0.rs ++ [(1, putE e3)])).length ≤ 4194304 := by
    have := putE_len okE3
    show (allB [(1, putE e3)]).length ≤ _
    rw [all_one, fr_len]; simp only; omega
  have h4 : writeS st0 e3 = (⟨st0.rs ++ [(1, putE e3)], st0.m, st0.L, putK kE st0.N e3, st0.acks⟩, 0) := if_pos h3
  unfold putS
  rw [if_pos h1, if_pos h2, h4, if_pos rfl]
  rfl
theorem known_put2 : putS k1S e2 8 = (k2S, 0) := by
  have h1 : mayP e2 8 := ⟨okE2, by decide, by decide, by decide⟩
  have h2 : ¬ 0 < cmpE e2 (ofT k1S.N e2.k) := by decide
  unfold putS
  rw [if_pos h1, if_neg h2]
  rfl
theorem known_get0 {w w' : World} {e : Ending} (h : GetP (ofT k2S.L [107]) w e w') : ∃ A c, e = .returned (.agg #[.string ⟨#[107]⟩, .int .i64 0, .int .i64 0, .int .i64 0, .bool false, .slice A 0 c]) ∧ Below w.heap.size w w' := by
  obtain ⟨A, c, h1, _, h3⟩ := h
  exact ⟨A, c, h1, h3⟩
theorem known_get1 {w w' : World} {e : Ending} (h : GetP (ofT (tickS k2S).L [107]) w e w') : ∃ A c, e = .returned (.agg #[.string ⟨#[107]⟩, .int .i64 3, .int .i64 0, .int .i64 0, .bool false, .slice A 0 c]) ∧ Below w.heap.size w w' := by
  obtain ⟨A, c, h1, _, h3⟩ := h
  exact ⟨A, c, h1, h3⟩
theorem known_ap1 (F : Nat → Prop) (g q : Nat) (w : World) (h : StAt w F g st0 q) :
    Calls Tryz.prog 15 #[.pointer (some ⟨g, 0, none⟩), .agg #[.string ⟨#[107]⟩, .int .i64 3, .int .i64 0, .int .i64 0, .bool false, .slice none 0 0], .int .i64 7] w (StTo (.int .i64 0) F g k1S q w) := by
  have := put_any8 F g q st0 (e3, none, 0) 7 (by simp [st0]) (by simp [e3]) (by simp [e3]) w h (Row.nil _ _ _) (by simp [e3]) (Or.inl rfl)
  simp only at this
  rw [known_put1] at this
  exact this
theorem known_ap2 (F : Nat → Prop) (g q : Nat) (w : World) (h : StAt w F g k1S q) :
    Calls Tryz.prog 15 #[.pointer (some ⟨g, 0, none⟩), .agg #[.string ⟨#[107]⟩, .int .i64 2, .int .i64 0, .int .i64 0, .bool false, .slice none 0 0], .int .i64 8] w (StTo (.int .i64 0) F g k2S q w) := by
  have := put_any8 F g q k1S (e2, none, 0) 8 (by simp [k1S]) (by simp [e2]) (by simp [e2]) w h (Row.nil _ _ _) (by simp [e2]) (Or.inl rfl)
  simp only at this
  rw [known_put2] at this
  exact this
theorem known_row (w : World) : Row (w.alloc (.cells #[.int .i64 7, .string ⟨#[107]⟩, .int .i64 3, .int .i64 0, .int .i64 0, .int .i64 8, .string ⟨#[107]⟩, .int .i64 2, .int .i64 0, .int .i64 0] 60)) (w.heap.size + 1) (some ⟨w.heap.size, 0, none⟩) (acksC k2S.acks) := row_cells rfl
theorem field_seq (s u o : Int) (W : World) : (Instr.field 41 (.agg #[.int .i64 s, .int .i64 u, .int .i64 o]) 0).run Tryz.prog W = .ok (.int .i64 s) W := by kernel_rfl
theorem blkTouch {F : Nat → Prop} {w w' : World} {b : Nat} {t : TypeId} {cs : Array Value} (h : Blk w b t cs) (ht : Touch F w w') (hn : ¬ F b) : Blk w' b t cs := (ht.block b h.lt hn).trans h
theorem known8_any (w : World) : Calls Tryz.prog 5 #[] w (IsT8 true w) := by
  go_enter Tryz.func5, Tryz.ntmps5
  go_wp2_with fail
  refine (newst_any w).mono ?_
  rintro e w1 ⟨g, F, rfl, hF, hd, hb⟩
  have HL := Lib.hid (show St1 w w1 F g st0 0 from ⟨hF, hd, hb⟩)
  simp only [id]
  clear hF hd hb
  go_wp2_with fail
  refine (known_ap1 F g 0 w1 HL.out.at_).mono ?_
  rintro e w2 ⟨rfl, F2, hf, hd, ht⟩
  have HL2 := Lib.hid (HL.out.to hf hd ht)
  clear hf hd ht HL
  go_wp2_with fail
  refine (known_ap2 F2 g 0 w2 HL2.out.at_).mono ?_
  rintro e w3 ⟨rfl, F3, hf, hd, ht⟩
  have HL3 := Lib.hid (HL2.out.to hf hd ht)
  clear hf hd ht HL2
  go_wp2_with fail
  refine (get_any8 F3 g 0 k2S [107] (by unfold maxLen; simp) w3 HL3.out.at_).mono ?_
  intro e w4 hx
  obtain ⟨A4, c4, rfl, hb⟩ := known_get0 hx
  have HL4 := Lib.hid (HL3.out.below hb)
  clear hx hb HL3
  go_wp2_with fail
  have hb5 : Below w4.heap.size w4 (w4.alloc (.cells #[.string ⟨#[107]⟩, .int .i64 0, .int .i64 0, .int .i64 0, .bool false, .slice A4 0 c4] 45)) := (Below.refl _ _).alloc (Nat.le_refl _) _
  have HL5 := Lib.hid (HL4.out.below hb5)
  have HK5 := Lib.hid (Blk.new w4 45 #[.string ⟨#[107]⟩, .int .i64 0, .int .i64 0, .int .i64 0, .bool false, .slice A4 0 c4])
  have HNF : Hid (¬ F3 w4.heap.size) := Lib.hid fun hf => by have := HL4.out.at_.lt _ hf; omega
  clear hb5
  refine (tick_any8 F3 g 0 k2S (by omega) _ HL5.out.at_).mono ?_
  rintro e w6 ⟨F6, A6, c6, q6, rfl, ho, hn, hf, hq, hs, ht⟩
  have HL6 := Lib.hid (HL5.out.to hf hs ht)
  have HO6 := Lib.hid (ownRow ho)
  have t1 : w6.cell? ⟨w4.heap.size, 1, none⟩ = some (.int .i64 0) := (blkTouch HK5.out ht HNF.out).cell 1
  simp only [k2S, List.length_cons, List.length_nil]
  clear ho hn hf hq hs ht HL5 HL4
  go_wp2_with fail
  refine (sameacks_true 2 c6 2 2 A6 (some ⟨w6.heap.size, 0, none⟩) k2S.acks rfl rfl (by unfold maxLen; omega) _ ((HO6.out.below ((Below.refl _ _).alloc (Nat.le_refl _) _)).more (by simp)) ((known_row w6).more (by simp))).mono ?_
  rintro e w7 ⟨rfl, hb⟩
  have HL7 := Lib.hid ((HL6.out.below ((Below.refl _ _).alloc (Nat.le_refl _) _)).below hb)
  clear hb HL6 HO6
  go_wp2_with fail
  refine (get_any8 F6 g q6 (tickS k2S) [107] (by unfold maxLen; simp) w7 HL7.out.at_).mono ?_
  intro e w8 hx
  obtain ⟨A8, c8, rfl, hb⟩ := known_get1 hx
  have HL8 := Lib.hid (HL7.out.below hb)
  have hft : ∀ W, (Instr.field 45 (.agg #[.string ⟨#[107]⟩, .int .i64 3, .int .i64 0, .int .i64 0, .bool false, .slice A8 0 c8]) 1).run Tryz.prog W = .ok (.agg #[.int .i64 3, .int .i64 0, .int .i64 0]) W := fun W => field_tag ⟨#[107]⟩ 3 0 0 false A8 0 c8 W
  have hft2 : ∀ W, (Instr.field 41 (.agg #[.int .i64 3, .int .i64 0, .int .i64 0]) 0).run Tryz.prog W = .ok (.int .i64 3) W := fun W => field_seq 3 0 0 W
  clear hx hb HL7
  go_wp2_with fail
  refine (compact_nil w8).mono ?_
  rintro e w9 ⟨rfl, rfl⟩
  go_wp2
  go_ret
  exact ⟨rfl, HL8.out.bel⟩
end Go.Proofs.YtndbggkpobcpjaaGreat
namespace Go.Proofs.YtndbggkpobcpjaaGreat
open Go.RowKit Go.ChangeShapes Mem Be Word Frm Go.Maps
set_option maxRecDepth 10000
set_option maxHeartbeats 4000000
set_option linter.unusedVariables false
theorem InD8.later {w0 w : World} {A : Option Addr} {rs : List D8} (h : InD8 w0 A rs) (hb : Below w0.heap.size w0 w) : ∀ W, Below w.heap.size w W → Row W W.heap.size A (d8sC rs) ∧ ∀ r ∈ rs, D8Ok W W.heap.size r := fun W hb2 => by
  have hb3 := hb.trans (hb2.mono hb.size)
  obtain ⟨h1, h2⟩ := h W hb3
  exact ⟨h1.more hb3.size, fun r hr => by have := h2 r hr; exact ⟨this.row.more hb3.size, this.cap, this.capm, this.key, this.k0, this.k1, this.p0, this.p1⟩⟩
theorem done8_round {w0 w : World} {A : Option Addr} {rs : List D8} (hin : InD8 w0 A rs) {F : Nat → Prop} {g q k : Nat} {S : St8} (h : St1 w0 w F g S q) (hk : k < rs.length) (hq : q ≤ 4611686018427387904) (ha : S.acks.length ≤ 1466015503701) :
    Calls Tryz.prog 7 #[.pointer (some ⟨g, 0, none⟩), dV rs[k]] w (DoneS F (d8S S rs[k]) q w) := by
  have hok := (hin w h.bel).2 rs[k] (List.getElem_mem hk)
  have hs := h.bel.size
  exact done8_any F g q S rs[k] w hq ha h.at_ ⟨hok.row.more hs, hok.cap, hok.capm, hok.key, hok.k0, hok.k1, hok.p0, hok.p1⟩ (RowN.of_low hok.row hs h.new)
theorem St1.done {w0 w w1 : World} {F : Nat → Prop} {g q : Nat} {S : St8} {R : St8 × List AckP × Int} {e : Ending} (h : St1 w0 w F g S q) (hd : DoneS F R q w e w1) :
    ∃ g' F' q' A c, e = .returned (.tuple #[.pointer (some ⟨g', 0, none⟩), .slice A R.2.1.length c, .int .i64 R.2.2]) ∧ q' ≤ q + 1 ∧ St1 w0 w1 F' g' R.1 q' ∧ w1.ownsRow 0 60 5 (.slice A R.2.1.length c) R.2.1.length (acksC R.2.1) ∧ (∀ a, A = some a → ¬ F' a.block) := by
  obtain ⟨g', F', q', A, c, h1, h2, h3, h4, h5, h6, h7⟩ := hd
  exact ⟨g', F', q', A, c, h1, h4, h.to h2 h3 h5, h6, h7⟩
theorem St1.touch {w0 w w1 : World} {F G : Nat → Prop} {g q : Nat} {S : St8} (h : St1 w0 w F g S q) (ht : Touch G w w1) (hd : ∀ k, F k → ¬ G k) (hG : ∀ k, G k → w0.heap.size ≤ k) : St1 w0 w1 F g S q := ⟨h.new, h.at_.touch ht hd, h.bel.trans (ht.below h.bel.size hG)⟩
theorem cmpE_le (a b : EntP) : cmpE a b ≤ 0 ↔ (a.s < b.s ∨ (a.s = b.s ∧ (a.u < b.u ∨ (a.u = b.u ∧ a.o ≤ b.o)))) := by
  unfold cmpE cmpT
  rcases cmpI_cases a.s b.s with ⟨g, h⟩ | ⟨g, h⟩ | ⟨g, h⟩ <;> rcases cmpI_cases a.u b.u with ⟨g', h'⟩ | ⟨g', h'⟩ | ⟨g', h'⟩ <;> rcases cmpI_cases a.o b.o with ⟨g'', h''⟩ | ⟨g'', h''⟩ | ⟨g'', h''⟩ <;> rw [h, h', h''] <;> simp <;> omega
/-- b is no newer than a. -/
def GeE (a b : EntP) : Prop := b.s < a.s ∨ (a.s = b.s ∧ (b.u < a.u ∨ (a.u = b.u ∧ b.o ≤ a.o)))
theorem GeE.refl (a : EntP) : GeE a a := Or.inr ⟨rfl, Or.inr ⟨rfl, by omega⟩⟩
theorem GeE.trans {a b c : EntP} (h : GeE a b) (h' : GeE b c) : GeE a c := by unfold GeE at *; omega
theorem GeE.le {a b : EntP} (h : GeE a b) : cmpE b a ≤ 0 := (cmpE_le b a).2 (by unfold GeE at h; omega)
theorem ofT_len {T : List EntP} (h : OkT T) (k : List UInt8) : (ofT T k).v.length ≤ 60000 := by
  unfold ofT
  cases hg : getK kE T k with
  | none => exact Nat.zero_le _
  | some x => have := (rightE_yes (h.2 x (get_some hg).1)).2.2.1; show x.v.length ≤ _; omega
theorem getP_open {x : EntP} {k : List UInt8} {w w' : World} {e : Ending} (hx : x.k = k) (hl : x.v.length ≤ 60000) (h : GetP x w e w') :
    ∃ A c, e = .returned (.agg #[.string ⟨k.toArray⟩, .int .i64 x.s, .int .i64 x.u, .int .i64 x.o, .bool x.has, .slice A x.v.length c]) ∧ ValOk w' x.has A x.v c ∧ OwnE w' w.heap.size (x, A, c) ∧ Below w.heap.size w w' := by
  obtain ⟨A, c, h1, h2, h3⟩ := h
  subst hx
  exact ⟨A, c, h1, ownE_val h2 (by simp only; omega), h2, h3⟩
theorem sameE_self (k : ByteArray) (s u o : Int) (h : Bool) (xs : List UInt8) : sameE k k s u o s u o h h xs xs = true := by
  unfold sameE eqT sameV; simp
theorem refsame_true (k : ByteArray) (s u o : Int) (h : Bool) (A A' : Option Addr) (xs : List UInt8) (c c' n n' : Nat) (hn : n = xs.length) (hn' : n' = xs.length) (w : World) (h1 : ValOk w h A xs c) (h2 : ValOk w h A' xs c') :
    Calls Tryz.prog 11 #[.agg #[.string k, .int .i64 s, .int .i64 u, .int .i64 o, .bool h, .slice A n c], .agg #[.string k, .int .i64 s, .int .i64 u, .int .i64 o, .bool h, .slice A' n' c']] w (IsB true w) := by
  have := refsame_ent k k s u o s u o h h A A' xs xs c c' n n' hn hn' w h1 h2
  rw [sameE_self] at this; exact this
end Go.Proofs.YtndbggkpobcpjaaGreat
