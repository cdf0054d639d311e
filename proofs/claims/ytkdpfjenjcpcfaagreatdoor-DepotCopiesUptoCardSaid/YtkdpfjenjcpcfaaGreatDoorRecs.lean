/- Rows of records: their cells, one behind the other; appends; what a scan leaves. -/
import Derived.Test.YtkdpfjenjcpcfaaGreatDoorFrm
import Derived.Test.YtkdpfjenjcpcfaaGreatDoorCore
namespace Go.Proofs.YtkdpfjenjcpcfaaGreatDoor
open Go.RowKit Mem Be Word Frm
set_option maxRecDepth 10000
set_option maxHeartbeats 1000000
set_option linter.unusedVariables false
/-- A record as it lies: its kind; where its bytes are, which, with how much room. -/
abbrev RecV := UInt8 × RowV
def rcOf (r : RecV) : Rc := (r.1, r.2.2.1)
def recC (r : RecV) : List Value := [.int .u8 (r.1.toNat : Int), .slice r.2.1 r.2.2.1.length r.2.2.2]
abbrev recsC (rs : List RecV) : List Value := rs.flatMap recC
theorem recsC_len (rs : List RecV) : (recsC rs).length = rs.length * 2 := by
  induction rs with
  | nil => rfl
  | cons p rs ih => simp only [recsC, List.flatMap_cons, List.length_append, recC, List.length_cons, List.length_nil]; have := ih; unfold recsC at this; omega
theorem recsC_app (a b : List RecV) : recsC (a ++ b) = recsC a ++ recsC b := List.flatMap_append
theorem recsC_at (rs : List RecV) (i : Nat) (h : i < rs.length) (j : Nat) (hj : j < 2) : (recsC rs)[i * 2 + j]? = (recC rs[i])[j]? := by
  induction rs generalizing i with
  | nil => simp at h
  | cons p rs ih =>
    have hc : recsC (p :: rs) = recC p ++ recsC rs := rfl
    rw [hc]
    have hl : (recC p).length = 2 := rfl
    rcases i with _ | i
    · rw [List.getElem?_append_left (by omega), Nat.zero_mul, Nat.zero_add]; rfl
    · rw [List.getElem?_append_right (by omega), hl, show (i + 1) * 2 + j - 2 = i * 2 + j by omega, ih i (by simpa using h)]
      rfl
theorem recs_open {w : World} {B : Nat} {A : Option Addr} {rs : List RecV} (h : Row w B A (recsC rs)) (hn : 0 < rs.length) :
    ∃ b o, A = some ⟨b, o, none⟩ ∧ b < B ∧ ∀ i (hi : i < rs.length), w.cell? ⟨b, o + i * 2, none⟩ = some (.int .u8 (rs[i].1.toNat : Int)) ∧ w.cell? ⟨b, o + i * 2 + 1, none⟩ = some (.slice rs[i].2.1 rs[i].2.2.1.length rs[i].2.2.2) := by
  obtain ⟨b, o, hA, hb, hc⟩ := h.open_ (by rw [recsC_len]; omega)
  refine ⟨b, o, hA, hb, fun i hi => ?_⟩
  have key : ∀ j, j < 2 → w.cell? ⟨b, o + i * 2 + j, none⟩ = (recC rs[i])[j]? := fun j hj => by
    have hlt : i * 2 + j < (recsC rs).length := by rw [recsC_len]; omega
    rw [show o + i * 2 + j = o + (i * 2 + j) by omega, hc (i * 2 + j) hlt, ← recsC_at rs i hi j hj, List.getElem?_eq_getElem hlt]
  exact ⟨key 0 (by omega), key 1 (by omega)⟩
/-- The bytes of records lie in a world. -/
def Recs_ (w : World) (rs : List RecV) : Prop := ∀ r ∈ rs, Row w w.heap.size r.2.1 (r.2.2.1.map byteV)
theorem recs_nil (w : World) : Recs_ w [] := fun r h => by cases h
theorem recs_below {w w' : World} {rs : List RecV} (h : Recs_ w rs) (hb : Below w.heap.size w w') : Recs_ w' rs := fun r hr => ((h r hr).below hb).more hb.size
theorem recs_app {w : World} {a b : List RecV} (ha : Recs_ w a) (hb : Recs_ w b) : Recs_ w (a ++ b) := fun r hr => by
  rcases List.mem_append.1 hr with hr | hr
  · exact ha r hr
  · exact hb r hr
theorem recs_one {w : World} {r : RecV} (h : Row w w.heap.size r.2.1 (r.2.2.1.map byteV)) : Recs_ w [r] := fun x hx => by
  have : x = r := by simpa using hx
  subst this; exact h
theorem recs_sub {w : World} {rs rs' : List RecV} (h : Recs_ w rs) (hs : ∀ r ∈ rs', r ∈ rs) : Recs_ w rs' := fun r hr => h r (hs r hr)
/-- The bytes of records lie in new memory. -/
def OwnR (w : World) (base : Nat) (r : RecV) : Prop := w.ownsRow base 5 1 (.slice r.2.1 r.2.2.1.length r.2.2.2) r.2.2.1.length (r.2.2.1.map byteV)
def RecsO (w : World) (base : Nat) (rs : List RecV) : Prop := ∀ r ∈ rs, OwnR w base r
theorem recsO_nil (w : World) (base : Nat) : RecsO w base [] := fun r h => by cases h
theorem recsO_below {w w' : World} {base : Nat} {rs : List RecV} (h : RecsO w base rs) (hb : Below w.heap.size w w') : RecsO w' base rs := fun r hr => ownLater (h r hr) hb
theorem recsO_base {w : World} {B B' : Nat} {rs : List RecV} (h : RecsO w B rs) (hB : B' ≤ B) : RecsO w B' rs := fun r hr => ownBase (h r hr) hB
theorem recsO_app {w : World} {base : Nat} {a b : List RecV} (ha : RecsO w base a) (hb : RecsO w base b) : RecsO w base (a ++ b) := fun r hr => by
  rcases List.mem_append.1 hr with hr | hr
  · exact ha r hr
  · exact hb r hr
theorem recsO_one {w : World} {base : Nat} {r : RecV} (h : OwnR w base r) : RecsO w base [r] := fun x hx => by
  have : x = r := by simpa using hx
  subst this; exact h
theorem recsO_recs {w : World} {base : Nat} {rs : List RecV} (h : RecsO w base rs) : Recs_ w rs := fun r hr => Row.of_own (h r hr)
theorem recsO_sub {w : World} {base : Nat} {rs rs' : List RecV} (h : RecsO w base rs) (hs : ∀ r ∈ rs', r ∈ rs) : RecsO w base rs' := fun r hr => h r (hs r hr)
/-- An append onto a row of records leaves their bytes. -/
theorem recsO_grown {w w' : World} {base b0 n : Nat} {v : Value} {xs : List Value} {rs : List RecV} (h : RecsO w base rs) (ho : w.ownsRow b0 168 2 v n xs) (hg : w.grownBy w' v.ownBlock) : RecsO w' base rs := fun r hr => by
  refine (h r hr).kept hg ?_
  rcases (h r hr).2 with ⟨h1, _⟩ | ⟨g, cap, cur, h1, _, hh, _⟩
  · rw [h1]; exact Or.inl rfl
  · refine Or.inr fun e => ?_
    rw [h1] at e
    rcases ho.2 with ⟨rfl, _⟩ | ⟨g', cap', cur', rfl, _, hh', _⟩
    · cases e
    · have eg : g = g' := by simpa [Value.ownBlock] using e
      subst eg
      rw [hh] at hh'
      injection hh' with hh'
      injection hh' with _ ht
      exact absurd ht (by decide)
theorem info_r : (Tryz.prog.info? 168).map (fun i => (i.zero, i.size, i.bytes)) = some (some (.agg #[.int .u8 0, .slice none 0 0]), 2, 32) := by kernel_rfl
theorem recs_cells (rs : List RecV) : ∀ u ∈ recsC rs, u.oneCell' = true := by
  intro u hu
  obtain ⟨p, _, hp⟩ := List.mem_flatMap.1 hu
  simp only [recC, List.mem_cons, List.not_mem_nil, or_false] at hp
  rcases hp with rfl | rfl <;> rfl
/-- An append of records that are only read onto a row of the call's own. -/
theorem wpList_appR {ops : Array Oper} {rest : List Oper} {o : Oper} {a : Act} {Q : Exit → Act → World → Prop} {w : World} (hgd : o.guard = none) (s x : Operand)
    (ho : o.op = .call { callee := .builtin .append, args := #[s, x], argTypes := #[30, 30] })
    (base : Nat) (v : Value) (n : Nat) (xs : List RecV) (hs : a.eval s = v) (hown : w.ownsRow base 168 2 v n (recsC xs))
    (B : Nat) (A : Option Addr) (m c : Nat) (news : List RecV) (hx : a.eval x = .slice A m c) (hl : news.length = m) (hr : Row w B A (recsC news))
    (hsm : n + m ≤ 1073741824) (hbase : base ≤ w.heap.size)
    (h : ∀ A' c' w', w'.ownsRow base 168 2 (.slice A' (n + m) c') (n + m) (recsC (xs ++ news)) → w.grownBy w' v.ownBlock → wpList Tryz.prog ops Q rest (a.put o.dst (.slice A' (n + m) c')) w') :
    wpList Tryz.prog ops Q (o :: rest) a w := by
  obtain ⟨i, hi, hz, hz1, hz2⟩ := info_parts info_r
  refine wpList_plain hgd fun K hK => ?_
  obtain ⟨v', w', hrun, h2, h3⟩ : ∃ v' w', (Builtin.append_ #[30, 30] o.type #[v, .slice A m c]).run Tryz.prog w = .ok v' w' ∧ w'.ownsRow base 168 2 v' (n + m) (recsC xs ++ recsC news) ∧ w.grownBy w' v.ownBlock := by
    rcases Nat.eq_zero_or_pos m with h0 | h0
    · subst h0
      obtain rfl : news = [] := List.eq_nil_of_length_eq_zero hl
      refine ⟨v, w, ?_, by simpa using hown, ⟨rfl, rfl, rfl, Nat.le_refl _, fun _ _ _ => rfl⟩⟩
      rcases hown.2 with ⟨rfl, rfl⟩ | ⟨g, cap, cur, rfl, _, _, hnc, _⟩ <;> rcases A with _ | a
      · simp [Builtin.append_, run_underlying Tryz.underlying30, sizeOf, typeInfo, hi, Builtin.lenOf, Builtin.firstCells]
      · simp [Builtin.append_, run_underlying Tryz.underlying30, sizeOf, typeInfo, hi, Builtin.lenOf, Builtin.firstCells, loadCells, loadCellsFrom]
      · simp [Builtin.append_, run_underlying Tryz.underlying30, sizeOf, typeInfo, hi, Builtin.lenOf, Builtin.firstCells, hnc, storeCells]
      · simp [Builtin.append_, run_underlying Tryz.underlying30, sizeOf, typeInfo, hi, Builtin.lenOf, Builtin.firstCells, hnc, storeCells, loadCells, loadCellsFrom]
    · obtain ⟨b, o', rfl, _, hc⟩ := hr.open_ (by rw [recsC_len]; omega)
      have hcells : ∀ j u, (recsC news)[j]? = some u → w.cell? ((⟨b, o', none⟩ : Addr).add j) = some u := by
        intro j u hu
        obtain ⟨hj, e⟩ := List.getElem?_eq_some_iff.1 hu
        have := hc j hj
        rw [← e, ← this]
        unfold Addr.add
        split
        · subst_vars; rfl
        · rfl
      obtain ⟨v', w', hrun, h2, h3, _, _⟩ := run_append_own_at (P := Tryz.prog) w base 30 o.type 168 i _ 2 32 Tryz.underlying30 hi hz hz1 hz2 rfl (by decide) v n (recsC xs) hown ⟨b, o', none⟩ m c (recsC news) (by rw [recsC_len, hl]) hcells (recs_cells news) (by unfold maxLen; omega) (by omega) hbase
      exact ⟨v', w', hrun, h2, h3⟩
  obtain ⟨A', c', rfl, _, _⟩ := ownShape h2
  unfold Oper.wp execOp
  simp only [ho, resolve, invoke, builtin, Sem.run_bind, Sem.run_pure, Result.andThen_ok, List.map_toArray, List.map_cons, List.map_nil, hs, hx, hrun]
  exact hK _ _ (h A' c' w' (by rw [recsC_app]; exact h2) h3)
/-- What a scan leaves. -/
def ScanP (s : List Rc × Nat × Int) (w : World) (e : Ending) (w' : World) : Prop :=
  ∃ (rs : List RecV) (A : Option Addr) (c : Nat), rs.map rcOf = s.1 ∧ e = .returned (.tuple #[.slice A rs.length c, .int .i64 (s.2.1 : Int), .int .i64 s.2.2]) ∧
    w'.ownsRow w.heap.size 168 2 (.slice A rs.length c) rs.length (recsC rs) ∧ RecsO w' w.heap.size rs ∧ Below w.heap.size w w'
theorem rec_lit {w : World} {r : RecV} {n c : Nat} {k : Int} (hk : k = (r.1.toNat : Int)) (hn : n = r.2.2.1.length) (hc : c = r.2.2.2) :
    Row (w.alloc (.cells #[.int .u8 k, .slice r.2.1 n c] 168)) (w.heap.size + 1) (some ⟨w.heap.size, 0, none⟩) (recsC [r]) := by
  subst hk; subst hn; subst hc
  exact row_cells rfl
end Go.Proofs.YtkdpfjenjcpcfaaGreatDoor
