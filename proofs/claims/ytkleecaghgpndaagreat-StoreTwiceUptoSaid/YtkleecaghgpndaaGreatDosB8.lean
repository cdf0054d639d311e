/- Rows of things that are done to a store: what they hold, and how much of it the reference counts. -/
import Derived.Test.YtkleecaghgpndaaGreatLaw8
import Derived.Test.YtkleecaghgpndaaGreatBulk
namespace Go.Proofs.YtkleecaghgpndaaGreat
open Go.RowKit Go.ChangeShapes Go.WideShapes Mem
set_option maxRecDepth 100000
set_option maxHeartbeats 2000000
set_option linter.unusedVariables false
section
variable {H : Type} {enc : TypeId × Value → H} {w : World} {base : Nat} {held : Bool}
theorem val_bulk8 {fuel : Nat} {c0 c1 : Value} {x : DataW H × List MemPlace} (h : DataW.trod enc Tryz.prog w base (fun _ => true) held fuel 43 [c0, c1] = some x) :
    ∃ (has : Bool) (A : Option Addr) (n c : Nat), c1 = .slice A n c ∧ n ≤ Rows.uptoBulk x.1 := by
  obtain ⟨xs, n, _, hx, _, hlen, hg⟩ := DataW.trod_struct Tryz.underlying43 h
  have e1 : Tryz.prog.cellsOf 4 = 1 := by kernel_rfl
  have e2 : Tryz.prog.cellsOf 27 = 1 := by kernel_rfl
  match xs, hlen with
  | [y0, y1], _ =>
    have h1 := hg 1 _ rfl
    have h1' : DataW.trod enc Tryz.prog w base (fun _ => true) held n 27 [c1] = some y1 := by simpa [e1, e2] using h1
    obtain ⟨⟨A, ys, c⟩, hr, ho⟩ := open_bytes1 (x := y1) Tryz.underlying27 Tryz.underlying5 (by kernel_rfl) h1'
    subst hr
    have hb : ys.length + 1 ≤ Rows.uptoBulk y1.1 := Bulk.bytes_bulk Tryz.underlying27 h1'
    refine ⟨true, A, ys.length, c, rfl, ?_⟩
    rw [hx]
    show ys.length ≤ Rows.uptoBulk (.agg [y0.1, y1.1])
    rw [Bulk.agg_parts, Bulk.all_two]
    omega
theorem ent_bulk8 {fuel : Nat} {c0 c1 c2 c3 c4 c5 : Value} {x : DataW H × List MemPlace} (h : DataW.trod enc Tryz.prog w base (fun _ => true) held fuel 45 [c0, c1, c2, c3, c4, c5] = some x) :
    ∃ (key : ByteArray) (A : Option Addr) (n c : Nat), c0 = .string key ∧ c5 = .slice A n c ∧ key.data.toList.length + n ≤ Rows.uptoBulk x.1 := by
  obtain ⟨xs, n, _, hx, _, hlen, hg⟩ := DataW.trod_struct Tryz.underlying45 h
  have e0 : Tryz.prog.cellsOf 9 = 1 := by kernel_rfl
  have e1 : Tryz.prog.cellsOf 41 = 3 := by kernel_rfl
  have e2 : Tryz.prog.cellsOf 43 = 2 := by kernel_rfl
  match xs, hlen with
  | [y0, y1, y2], _ =>
    have h0 := hg 0 _ rfl
    have h2 := hg 2 _ rfl
    obtain ⟨key, hk, hk2, hkl⟩ := DataW.trod_string Tryz.underlying9 (x := y0) (by simpa [e0, e1, e2] using h0)
    obtain ⟨_, A, m, c, hv, hm⟩ := val_bulk8 (x := y2) (by simpa [e0, e1, e2] using h2)
    have hk' : c0 = .string key := by simpa using hk
    refine ⟨key, A, m, c, hk', hv, ?_⟩
    rw [hx]
    show _ ≤ Rows.uptoBulk (.agg [y0.1, y1.1, y2.1])
    rw [Bulk.agg_parts]
    have h3 : y0.1 = .lit (.string key.data.toList) := congrArg Prod.fst hk2
    have h4 : Rows.uptoBulk y0.1 = key.data.toList.length + 1 := by rw [h3]; rfl
    have h5 : Rows.uptoBulkAll [y0.1, y1.1, y2.1] = Rows.uptoBulk y0.1 + (Rows.uptoBulk y1.1 + (Rows.uptoBulk y2.1 + 0)) := rfl
    rw [h5]
    omega
theorem d8_bulk8 {fuel : Nat} {c0 c1 c2 c3 c4 c5 c6 c7 c8 : Value} {x : DataW H × List MemPlace} (h : DataW.trod enc Tryz.prog w base (fun _ => true) held fuel 47 [c0, c1, c2, c3, c4, c5, c6, c7, c8] = some x) :
    ∃ (key : ByteArray) (A : Option Addr) (n c : Nat), c1 = .string key ∧ c6 = .slice A n c ∧ key.data.toList.length + n ≤ Rows.uptoBulk x.1 := by
  obtain ⟨xs, n, _, hx, _, hlen, hg⟩ := DataW.trod_struct Tryz.underlying47 h
  have e1 : Tryz.prog.cellsOf 3 = 1 := by kernel_rfl
  have e2 : Tryz.prog.cellsOf 45 = 6 := by kernel_rfl
  match xs, hlen with
  | [y0, y1, y2, y3], _ =>
    have h1 := hg 1 _ rfl
    obtain ⟨key, A, m, c, hk, hv, hm⟩ := ent_bulk8 (x := y1) (by simpa [e1, e2] using h1)
    refine ⟨key, A, m, c, hk, hv, ?_⟩
    rw [hx]
    show _ ≤ Rows.uptoBulk (.agg [y0.1, y1.1, y2.1, y3.1])
    rw [Bulk.agg_parts]
    have hmb := Bulk.mem_bulk (d := y1.1) (l := [y0.1, y1.1, y2.1, y3.1]) (by simp)
    omega
theorem bulk_d8s {a : Option Addr} {len cap : Nat} {d : DataW H} {ps : List MemPlace} (h : DataW.Trod enc Tryz.prog w base (fun _ => true) held 22 (.slice a len cap) d ps) {rs : List D8} (hn : len = rs.length) (hr : Row w w.heap.size a (d8sC rs)) :
    len ≤ Rows.uptoBulk d ∧ ∀ r ∈ rs, r.e.1.k.length + r.e.1.v.length ≤ Rows.uptoBulk d := by
  obtain ⟨fuel, hf⟩ := h
  have hf' : DataW.trod enc Tryz.prog w base (fun _ => true) held fuel 22 [.slice a len cap] = some (d, ps) := by simpa [Value.cells] using hf
  have hb := Bulk.bytes_bulk Tryz.underlying22 hf'
  refine ⟨by simp only at hb; omega, fun r hm => ?_⟩
  rcases Go.Deep.open_slice Tryz.underlying22 hf' with ⟨hcs, _⟩ | ⟨x, l, c, m, n, D, Pl, hcs, _, hl, hmx, hmm, hd, hx⟩
  · simp only [List.cons.injEq, and_true] at hcs
    injection hcs with h1 h2 h3
    subst h2
    have : rs = [] := List.eq_nil_of_length_eq_zero hn.symm
    subst this
    cases hm
  · simp only [List.cons.injEq, and_true] at hcs
    injection hcs with h1 h2 h3
    subst h1; subst h2; subst h3
    simp only [if_true] at hmm
    subst hmm
    have hC : Tryz.prog.cellsOf 47 = 9 := by kernel_rfl
    rw [hC] at hx
    obtain ⟨i, hi, rfl⟩ := List.mem_iff_getElem.1 hm
    obtain ⟨b, o, hA, _, hc⟩ := d8s_open hr (by omega)
    obtain rfl := Option.some.inj hA
    obtain ⟨cs', h1, h2⟩ := hx i (by omega)
    obtain ⟨_, hlen, hat⟩ := World.cells?_some h1
    have h3 : d = .slice ((List.range len).map D) ((List.range (m - len)).map fun j => D (len + j)) := congrArg Prod.fst hd
    have h4 := Bulk.elems_bulk ((List.range len).map D) ((List.range (m - len)).map fun j => D (len + j))
    rw [← h3] at h4
    have h5 := Bulk.mem_bulk (d := D i) (l := (List.range len).map D) (List.mem_map.2 ⟨i, List.mem_range.2 (by omega), rfl⟩)
    match cs', hlen with
    | [c0, c1, c2, c3, c4, c5, c6, c7, c8], _ =>
      obtain ⟨key, A, q, cc, hk, hv, hle⟩ := d8_bulk8 h2
      have a1 := hat 1 (by decide)
      have a6 := hat 6 (by decide)
      have d1 := hc i hi 1 _ rfl
      have d6 := hc i hi 6 _ rfl
      have ea : ∀ q, (⟨b, o, none⟩ : Addr).add q = ⟨b, o + q, none⟩ := fun q => by
        unfold Addr.add; split
        · subst_vars; rfl
        · rfl
      have e1 : ((⟨b, o, none⟩ : Addr).add (i * 9)).add 1 = ⟨b, o + i * 9 + 1, none⟩ := by rw [Go.Deep.add_add, ea, ← Nat.add_assoc]
      have e6 : ((⟨b, o, none⟩ : Addr).add (i * 9)).add 6 = ⟨b, o + i * 9 + 6, none⟩ := by rw [Go.Deep.add_add, ea, ← Nat.add_assoc]
      rw [e1, d1] at a1
      rw [e6, d6] at a6
      have g1 : Value.string ⟨rs[i].e.1.k.toArray⟩ = c1 := by simpa using a1
      have g6 : Value.slice rs[i].e.2.1 rs[i].e.1.v.length rs[i].e.2.2 = c6 := by simpa using a6
      rw [hk] at g1
      rw [hv] at g6
      injection g1 with g1
      injection g6 with _ g6 _
      rw [← g1] at hle
      rw [← g6] at hle
      have e9 : (⟨rs[i].e.1.k.toArray⟩ : ByteArray).data.toList.length = rs[i].e.1.k.length := by simp
      rw [e9] at hle
      simp only at hle
      omega
end
/-- How much things to be done hold, as the reference counts it. -/
def lenD : List D8 → Nat
  | [] => 0
  | r :: rs => 20 + r.e.1.k.length + r.e.1.v.length + lenD rs
theorem lenD_le {rs : List D8} {B : Nat} (h : ∀ r ∈ rs, r.e.1.k.length + r.e.1.v.length ≤ B) : lenD rs ≤ rs.length * (20 + B) := by
  induction rs with
  | nil => exact Nat.zero_le _
  | cons r rs ih =>
    have h1 := ih fun x hx => h x (by simp [hx])
    have h2 := h r (by simp)
    unfold lenD
    rw [List.length_cons, Nat.succ_mul]
    omega
theorem lenD_take {rs : List D8} {k : Nat} (h : k < rs.length) : lenD (rs.take (k + 1)) = lenD (rs.take k) + (20 + rs[k].e.1.k.length + rs[k].e.1.v.length) := by
  induction rs generalizing k with
  | nil => simp at h
  | cons r rs ih =>
    cases k with
    | zero => simp [lenD]
    | succ k =>
      have := ih (k := k) (by simpa using h)
      simp only [List.take_succ_cons, lenD, List.getElem_cons_succ]
      omega
theorem lenD_mono (rs : List D8) (k : Nat) : lenD (rs.take k) ≤ lenD rs := by
  induction rs generalizing k with
  | nil => simp [lenD]
  | cons r rs ih =>
    cases k with
    | zero => simp [lenD]
    | succ k => have := ih k; simp only [List.take_succ_cons, lenD]; omega
theorem long8_exact (n c : Nat) (A : Option Addr) (rs : List D8) (hn : n = rs.length) (hnl : n ≤ maxLen) (hL : lenD rs ≤ 9000000000000000000) (w : World) (h : InD8 w A rs) :
    Calls Tryz.prog 9 #[.slice A n c] w fun e w' => e = .returned (.int .i64 (lenD rs : Int)) ∧ Below w.heap.size w w' := by
  have HR := Lib.hid h
  have HN := Lib.hid hn
  have HL := Lib.hid hL
  have hni : (n : Int) ≤ 9223372036854775807 := by unfold maxLen at hnl; omega
  have hni0 : (0 : Int) ≤ (n : Int) := by omega
  clear h hn hnl hL
  go_enter Tryz.func9, Tryz.ntmps9
  go_wp2
  go_loopw [3, 4] (fun z i wr => ∃ k : Nat, k ≤ n ∧ i = .int .i64 k ∧ z = .int .i64 (lenD (rs.take k) : Int) ∧ Hid (Below w.heap.size w wr)) (fun _ i _ => n - (intOf i).toNat)
  case atStart => exact ⟨0, by omega, rfl, rfl, Lib.hid (Below.refl _ _)⟩
  case round =>
    obtain ⟨k, hk, rfl, rfl, HB⟩ := hrel
    by_cases hlt : k < n
    · have hk1 : k < rs.length := by rw [← HN.out]; exact hlt
      obtain ⟨hrow, hok⟩ := HR.out wr HB.out
      obtain ⟨b, o, rfl, hb, hc⟩ := d8s_open hrow (by omega)
      have hl := d8_len (hok rs[k] (List.getElem_mem hk1))
      have hst := lenD_take hk1
      have hmo := lenD_mono rs (k + 1)
      have l1 := later_cell (hc k hk1 1 _ rfl)
      have l6 := later_cell (hc k hk1 6 _ rfl)
      obtain ⟨kl, hkl⟩ : ∃ q, rs[k].e.1.k = q := ⟨_, rfl⟩
      obtain ⟨vl, hvl⟩ : ∃ q, rs[k].e.1.v.length = q := ⟨_, rfl⟩
      rw [hkl] at l1 hl hst
      rw [hvl] at l6 hl hst
      obtain ⟨z, hz⟩ : ∃ q, lenD (rs.take k) = q := ⟨_, rfl⟩
      rw [hz] at hst ⊢
      have HST := Lib.hid hst
      have hLL := HL.out
      have hklb : (kl.length : Int) ≤ 9223372036854775807 := hl.2
      have hvlb : (vl : Int) ≤ 9223372036854775807 := hl.1
      have hki : (0 : Int) ≤ (k : Int) := by omega
      have hki2 : (k : Int) < (n : Int) := by omega
      have s1 : (z : Int) + 20 ≤ 9000000000000000000 := by omega
      have s2 : (z : Int) + 20 + (kl.length : Int) ≤ 9000000000000000000 := by omega
      have s3 : (z : Int) + 20 + (kl.length : Int) + (vl : Int) ≤ 9000000000000000000 := by omega
      have z0 : (0 : Int) ≤ (z : Int) := by omega
      have w1 : IntKind.i64.wrap ((z : Int) + 20) = (z : Int) + 20 := by rw [IntKind.wrap_i64]; omega
      have w2 : IntKind.i64.wrap ((z : Int) + 20 + (kl.length : Int)) = (z : Int) + 20 + (kl.length : Int) := by rw [IntKind.wrap_i64]; omega
      have w3 : IntKind.i64.wrap ((z : Int) + 20 + (kl.length : Int) + (vl : Int)) = (z : Int) + 20 + (kl.length : Int) + (vl : Int) := by rw [IntKind.wrap_i64]; omega
      clear hc hrow hok hl hkl hvl hst hmo hz
      go_wp2_with fail
      refine wp_region_later (by kernel_rfl) (by kernel_rfl) ?_
      repeat (go_big_quiet_step (fail))
      refine wpQuiet_nil ?_
      intro w' hw'
      obtain ⟨p, rfl⟩ := hw'
      go_wp2
      go_roundw
      case rel => exact ⟨k + 1, by omega, by go_num, by rw [HST.out]; go_num, Lib.hid (HB.out.trans (p.bel.mono HB.out.size))⟩
      case measure => simp [intOf]; omega
    · obtain rfl : k = n := by omega
      have e : rs.take k = rs := by rw [HN.out, List.take_length]
      rw [e]
      go_wp2
      go_ret
      exact ⟨rfl, HB.out⟩
end Go.Proofs.YtkleecaghgpndaaGreat
