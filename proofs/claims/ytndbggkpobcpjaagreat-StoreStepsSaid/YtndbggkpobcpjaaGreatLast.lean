/- Package wal: Last. -/
import Derived.Test.YtndbggkpobcpjaaGreatRoundHeld
import Derived.Test.YtndbggkpobcpjaaGreatIter
import Derived.Test.YtndbggkpobcpjaaGreatRecsCut
namespace Go.Proofs.YtndbggkpobcpjaaGreat
open Go.RowKit Mem Be Word Frm
attribute [local go_sem] Oper.semAt_some
set_option maxRecDepth 100000
set_option maxHeartbeats 4000000
set_option linter.unusedVariables false
variable {J : LgK}
set_option linter.unusedSimpArgs false
/-- p: how many records there are up to the last snapshot, itself counted; 0: there is none. -/
structure LastIs (rs : List Rc) (p : Nat) : Prop where
  le : p ≤ rs.length
  no : ∀ j (h : j < rs.length), p ≤ j → rs[j].1 ≠ 0
  yes : ∀ k, p = k + 1 → ∃ h : k < rs.length, rs[k].1 = 0
theorem lastIs_unique {rs : List Rc} {p p' : Nat} (h : LastIs rs p) (h' : LastIs rs p') : p = p' := by
  rcases Nat.lt_trichotomy p p' with hl | hl | hl
  · obtain ⟨k, rfl⟩ : ∃ k, p' = k + 1 := ⟨p' - 1, by omega⟩
    obtain ⟨h1, h2⟩ := h'.yes k rfl
    exact absurd h2 (h.no k h1 (by omega))
  · exact hl
  · obtain ⟨k, rfl⟩ : ∃ k, p = k + 1 := ⟨p - 1, by omega⟩
    obtain ⟨h1, h2⟩ := h.yes k rfl
    exact absurd h2 (h'.no k h1 (by omega))
def lastB (rs : List Rc) : Nat → List UInt8
  | 0 => []
  | k + 1 => ((rs[k]?).getD (0, [])).2
/-- What Last tells: the last snapshot's bytes, all records behind it, in new memory. -/
def LastP (rs : List Rc) (w : World) (e : Ending) (w' : World) : Prop :=
  ∃ (p : Nat) (A : Option Addr) (c : Nat) (us : List RecV) (A2 : Option Addr) (c2 : Nat), LastIs rs p ∧ us.map rcOf = rs.drop p ∧ e = .returned (.tuple #[.slice A (lastB rs p).length c, .slice A2 us.length c2]) ∧
    w'.ownsRow w.heap.size 5 1 (.slice A (lastB rs p).length c) (lastB rs p).length ((lastB rs p).map byteV) ∧ w'.ownsRow w.heap.size 145 2 (.slice A2 us.length c2) us.length (recsC us) ∧ RecsO w' w.heap.size us ∧ Below w.heap.size w w'
theorem last_none (vs : List RecV) (h : ∀ x ∈ bkU vs vs.length, x.2.1 ≠ 0) : LastIs (vs.map rcOf) 0 := by
  refine ⟨Nat.zero_le _, fun j hj _ => ?_, fun k hk => by omega⟩
  rw [List.length_map] at hj
  have h1 := h _ (bkU_mem vs (show vs.length - 1 - j < vs.length by omega))
  rw [bkF_at vs _ (by omega)] at h1
  have e : vs.length - 1 - (vs.length - 1 - j) = j := by omega
  simp only [e] at h1
  rw [List.getElem_map]
  exact h1
theorem last_some (vs : List RecV) (k : Nat) (hk : k < vs.length) (h : ∀ x ∈ bkU vs k, x.2.1 ≠ 0) (h0 : (bkF vs k).2.1 = 0) : LastIs (vs.map rcOf) (vs.length - 1 - k + 1) := by
  rw [bkF_at vs k hk] at h0
  refine ⟨by rw [List.length_map]; omega, fun j hj hp => ?_, fun k' hk' => ⟨by rw [List.length_map]; omega, ?_⟩⟩
  · rw [List.length_map] at hj
    have h1 := h _ (bkU_mem vs (show vs.length - 1 - j < k by omega))
    rw [bkF_at vs _ (by omega)] at h1
    have e : vs.length - 1 - (vs.length - 1 - j) = j := by omega
    simp only [e] at h1
    rw [List.getElem_map]
    exact h1
  · obtain rfl : k' = vs.length - 1 - k := by omega
    rw [List.getElem_map]
    exact h0
/-- What stands in the two cells, where a snapshot is found at index i. -/
def LastQ (w : World) (vs : List RecV) (i : Nat) (W : World) : Prop :=
  ∃ (y : List UInt8) (A : Option Addr) (c : Nat) (us : List RecV) (A2 : Option Addr) (c2 : Nat) (h : i < vs.length), vs[i].2.2.1 = y ∧ us.map rcOf = (vs.drop (i + 1)).map rcOf ∧
    Boxed W (w.heap.size + 1) 27 (.slice A y.length c) ∧ Boxed W (w.heap.size + 1 + 1) 30 (.slice A2 us.length c2) ∧
    W.ownsRow w.heap.size 5 1 (.slice A y.length c) y.length (y.map byteV) ∧ W.ownsRow w.heap.size 145 2 (.slice A2 us.length c2) us.length (recsC us) ∧ RecsO W w.heap.size us ∧ Below w.heap.size w W
theorem own_own {β : Type} {B s n : Nat} {e : TypeId} {v : Value} {xs : List Value} : Own (fun (_ : β) W => W.ownsRow B e s v n xs) := fun s W W' row hs hg hr => hs.kept hg (by
  rcases hs.2 with ⟨h1, _⟩ | ⟨g, cap, cur, h1, _, hh, _⟩
  · rw [h1]; exact Or.inl rfl
  · refine Or.inr fun e => ?_
    rw [h1] at e
    obtain ⟨o, ho, hc⟩ := hr g e.symm
    rw [hh] at ho
    injection ho with ho
    subst ho
    cases hc)
theorem lastQ_own {β : Type} (w : World) (vs : List RecV) (f : β → Nat) (B : Nat) (hB : w.heap.size ≤ B) : OwnFrom B (fun (s : β) W => LastQ w vs (f s) W) := fun s W W' row hs hg hr => by
  obtain ⟨y, A, c, us, A2, c2, h, h1, h2, h3, h4, h5, h6, h7, h8⟩ := hs
  have hr2 : ∀ r, row = some r → ∃ o : Obj, W.heap[r]? = some o ∧ o.isCells = false := fun r e => (hr r e).2
  exact ⟨y, A, c, us, A2, c2, h, h1, h2, (boxed_own (β := Unit) _ _ (fun _ => _)) () W W' row h3 hg hr2, (boxed_own (β := Unit) _ _ (fun _ => _)) () W W' row h4 hg hr2, (own_own (β := Unit)) () W W' row h5 hg hr2, (own_own (β := Unit)) () W W' row h6 hg hr2,
    fun r hr3 => (own_own (β := Unit)) () W W' row (h7 r hr3) hg hr2, h8.grown hg (h8.size) (fun k e => Nat.le_trans hB (hr k e).1)⟩
theorem blk_own {β : Type} (Bx : Nat) (t : TypeId) (cs : Array Value) : Own (fun (_ : β) W => Blk W Bx t cs) := fun s W W' row hs hg hr => hs.grown hg (fun e => by
  obtain ⟨o, ho, hc⟩ := hr Bx e.symm
  unfold Blk at hs
  rw [hs] at ho
  injection ho with ho
  subst ho
  cases hc)
theorem below_keeps {B : Nat} {W W' : World} (h : Below W.heap.size W W') : KeepsFrom B W W' := ⟨h.size, fun k o _ hk _ => (h.block k (Array.getElem?_eq_some_iff.1 hk).1).trans hk⟩
theorem lastQ_of {w W w3 w4 : World} {vs us : List RecV} {i c3 c4 : Nat} {y : List UInt8} {A3 A4 : Option Addr} (B : Nat) (hi : i < vs.length) (hy : vs[i].2.2.1 = y) (hB : Below w.heap.size w W) (b2 : Boxed W (w.heap.size + 1) 27 (.slice none 0 0)) (b3 : Boxed W (w.heap.size + 1 + 1) 30 (.slice none 0 0))
    (hb3 : Below W.heap.size W w3) (ho3 : w3.ownsRow W.heap.size 5 1 (.slice A3 y.length c3) y.length (y.map byteV)) (hb4 : Below w3.heap.size w3 w4) (hus : us.map rcOf = (vs.drop (i + 1)).map rcOf)
    (hou : w4.ownsRow w3.heap.size 145 2 (.slice A4 us.length c4) us.length (recsC us)) (hrc : RecsO w4 w3.heap.size us) :
    KeepsFrom B W ((w4.setCell ⟨w.heap.size + 1, 0, none⟩ (.slice A3 y.length c3)).setCell ⟨w.heap.size + 1 + 1, 0, none⟩ (.slice A4 us.length c4)) ∧ LastQ w vs i ((w4.setCell ⟨w.heap.size + 1, 0, none⟩ (.slice A3 y.length c3)).setCell ⟨w.heap.size + 1 + 1, 0, none⟩ (.slice A4 us.length c4)) := by
  have hl2 := b2.lt
  have hl3 := b3.lt
  have hbW : Below W.heap.size W w4 := hb3.trans (hb4.mono hb3.size)
  have q2 : Boxed w4 (w.heap.size + 1) 27 (.slice none 0 0) := (hbW.block _ hl2).trans b2
  have q3 : Boxed w4 (w.heap.size + 1 + 1) 30 (.slice none 0 0) := (hbW.block _ hl3).trans b3
  have hs3 := hb3.size
  have put : ∀ {B s n : Nat} {e : TypeId} {v : Value} {xs : List Value}, W.heap.size ≤ B → w4.ownsRow B e s v n xs → ((w4.setCell ⟨w.heap.size + 1, 0, none⟩ (.slice A3 y.length c3)).setCell ⟨w.heap.size + 1 + 1, 0, none⟩ (.slice A4 us.length c4)).ownsRow w.heap.size e s v n xs := fun hB' h =>
    ownBase (ownsRow_setCell_below (ownsRow_setCell_below h (a := ⟨w.heap.size + 1, 0, none⟩) (by show w.heap.size + 1 < _; omega) _) (a := ⟨w.heap.size + 1 + 1, 0, none⟩) (by show w.heap.size + 1 + 1 < _; omega) _) (by omega)
  refine ⟨(below_keeps hbW).trans (((KeepsOthers.setCell _ _ _).trans (KeepsOthers.setCell _ _ _)).from _), y, A3, c3, us, A4, c4, hi, hy, hus, ((q2.set _).other (by omega) _), ((q3.other (by omega) _).set _), put (Nat.le_refl _) (ownLater ho3 hb4), put hs3 hou, fun r hr => put hs3 (hrc r hr), ?_⟩
  exact ((hB.trans (hbW.mono hB.size)).setCell (p := ⟨w.heap.size + 1, 0, none⟩) (Nat.le_succ _) _).setCell (p := ⟨w.heap.size + 1 + 1, 0, none⟩) (by show w.heap.size ≤ w.heap.size + 1 + 1; omega) _
theorem last7_in (F : Nat → Prop) (g m q : Nat) (rs : List Rc) (w : World) (h : LgAt lg0 w F g rs m q) :
    CallsIn Fence.wide 9 Tryz.prog 103 #[.pointer (some ⟨g, 0, none⟩)] w (LastP rs w) := by
  have hro : Fence.wide.round = none := rfl
  have h1 : 1 ≤ 9 := by omega
  have hmany := h.many
  have hshort := h.short
  obtain ⟨FD, FR, vs, R, c, hv, hsh, hle, hlg⟩ := h
  have hvl : vs.length ≤ 1000000000 := by rw [← hv, List.length_map] at hmany; omega
  have hvb : ∀ r ∈ vs, r.2.2.1.length ≤ 140737488355328 := fun r hr => by
    have h4 := hshort (rcOf r) (by rw [← hv]; exact List.mem_map_of_mem hr)
    have e : (rcOf r).2 = r.2.2.1 := rfl
    rw [e] at h4
    omega
  have hcap : vs.length ≤ c := by
    obtain ⟨A, c', he, h2, _⟩ := ownShape hlg.own
    injection he with _ _ he
    omega
  have d3 := dka_c3 hlg.dk
  have hgl : g < w.heap.size := block_lt d3
  have HROW := Lib.hid (ownRow hlg.own)
  have HRS := Lib.hid (recsO_recs hlg.byt)
  have HVB := Lib.hid hvb
  have HV := Lib.hid hv
  have d3b := cell_al (.cells #[.slice none 0 0] 30) (cell_al (.cells #[.slice none 0 0] 27) (cell_al (.cells #[.pointer (some ⟨g, 0, none⟩)] 68) d3))
  clear hlg hsh hle hmany hshort hvb hv
  refine callsIn_of_wp_marks Tryz.func103 rfl trivial ?_ hro
  simp only [Tryz.ntmps103, List.size_toArray, List.length_cons, List.length_nil, Nat.reduceAdd, Nat.reduceSub, Array.replicate_succ, Array.replicate_zero, List.push_toArray, List.append_toArray, List.nil_append, List.cons_append]
  gi_wp2_with (refine ⟨trivial, ?_⟩; gi_at_call 124; refine (back_in Fence.wide _ trivial hro _ _ _ _).mono ?_; rintro e w' ⟨rfl, rfl⟩)
  obtain ⟨W0, hW0⟩ : ∃ W0, ((((w.alloc (.cells #[.pointer (some ⟨g, 0, none⟩)] 68)).alloc (.cells #[.slice none 0 0] 27)).alloc (.cells #[.slice none 0 0] 30)).alloc (.cells #[.slice R vs.length c] 30)) = W0 := ⟨_, rfl⟩
  have k1 : Boxed W0 w.heap.size 68 (.pointer (some ⟨g, 0, none⟩)) := by
    rw [← hW0]; exact (((Boxed.new w _ _).alloc _).alloc _).alloc _
  have k2 : Boxed W0 (w.heap.size + 1) 27 (.slice none 0 0) := by
    rw [← hW0]
    have := Boxed.new (w.alloc (.cells #[.pointer (some ⟨g, 0, none⟩)] 68)) 27 (.slice none 0 0)
    rw [World.size_alloc] at this
    exact (this.alloc _).alloc _
  have k3 : Boxed W0 (w.heap.size + 1 + 1) 30 (.slice none 0 0) := by
    rw [← hW0]
    have := Boxed.new ((w.alloc (.cells #[.pointer (some ⟨g, 0, none⟩)] 68)).alloc (.cells #[.slice none 0 0] 27)) 30 (.slice none 0 0)
    rw [World.size_alloc, World.size_alloc] at this
    exact this.alloc _
  have k4 : Boxed W0 (w.heap.size + 1 + 1 + 1) 30 (.slice R vs.length c) := by
    rw [← hW0]
    have := Boxed.new (((w.alloc (.cells #[.pointer (some ⟨g, 0, none⟩)] 68)).alloc (.cells #[.slice none 0 0] 27)).alloc (.cells #[.slice none 0 0] 30)) 30 (.slice R vs.length c)
    rw [World.size_alloc, World.size_alloc, World.size_alloc] at this
    exact this
  have hsz : W0.heap.size = w.heap.size + 4 := by rw [← hW0]; simp
  have hB0 : Below w.heap.size w W0 := by
    rw [← hW0]
    exact ((((Below.refl _ w).alloc (Nat.le_refl _) _).alloc (by simp) _).alloc (by simp; omega) _).alloc (by simp; omega) _
  rw [hW0]
  clear hW0
  refine wpIn_rangeFunc_ownH (α := BkR vs) hro h1 (gf := 147) (lb := #[.pointer (some ⟨w.heap.size + 1 + 1 + 1, 0, none⟩)]) rfl trivial (enters_of Tryz.func147 (by kernel_rfl) rfl)
    (back_stops Fence.wide (9 - 1) trivial hro (by omega) (w.heap.size + 1 + 1 + 1) W0.heap.size vs.length c R vs rfl hvl W0 (by omega) (Nat.le_refl _) k4.cell ((HROW.out.below hB0).more hB0.size)) belowK_t (belowK_b (Nat.le_refl _)) (Below.refl _ _) (fun _ => rfl)
    (fun pre W => (∀ x ∈ pre, x.1.2.1 ≠ 0) ∧ Boxed W w.heap.size 68 (.pointer (some ⟨g, 0, none⟩)) ∧ Boxed W (w.heap.size + 1) 27 (.slice none 0 0) ∧ Boxed W (w.heap.size + 1 + 1) 30 (.slice none 0 0) ∧ Boxed W (w.heap.size + 1 + 1 + 1) 30 (.slice R vs.length c) ∧ Below w.heap.size w W)
    (fun c pre W => (c = .ret ∧ ∃ ini last, pre = ini ++ [last] ∧ (∀ x ∈ ini, x.1.2.1 ≠ 0) ∧ last.1.2.1 = 0) ∧ ∃ i, (∃ ini last, pre = ini ++ [last] ∧ last.1.1 = i) ∧ LastQ w vs i W)
    (OwnFrom.and (ownFrom_pure _ _) (OwnFrom.and (Own.from (boxed_own _ _ _) _) (OwnFrom.and (Own.from (boxed_own _ _ _) _) (OwnFrom.and (Own.from (boxed_own _ _ _) _) (OwnFrom.and (Own.from (boxed_own _ _ _) _) (ownFrom_below (Nat.le_refl _) (by omega)))))))
    (fun c => OwnFrom.and (ownFrom_pure _ _) (fun s W W' row hs hg hr => by
      obtain ⟨i, h2, h3⟩ := hs
      exact ⟨i, h2, lastQ_own (β := Nat) w vs (fun s => s) W0.heap.size (by omega) i W W' row h3 hg hr⟩))
    ⟨by simp, k1, k2, k3, k4, hB0⟩
    (fun x a' W => ∃ Bx, W0.heap.size ≤ Bx ∧ Blk W Bx 145 #[.int .u8 (x.1.2.1.toNat : Int), .slice x.1.2.2.1 x.1.2.2.2.1.length x.1.2.2.2.2] ∧ a' = { tmps := #[.pointer (some ⟨g, 0, none⟩), .pointer (some ⟨w.heap.size, 0, none⟩), .pointer (some ⟨w.heap.size + 1, 0, none⟩), .pointer (some ⟨w.heap.size + 1 + 1, 0, none⟩), .int .i64 (x.1.1 : Int), .pointer (some ⟨Bx, 0, none⟩), .pointer (some ⟨g, 0, none⟩), .bool false, .pointer (some ⟨g, 0, none⟩), .pointer (some ⟨g, 0, none⟩), .pointer (some ⟨g, 0, none⟩), .pointer (some ⟨g, 3, none⟩), .slice R vs.length c, .func (.func 147) #[] #[.pointer (some ⟨w.heap.size + 1 + 1 + 1, 0, none⟩)], .int .i64 (x.1.1 : Int), .agg #[.int .u8 (x.1.2.1.toNat : Int), .slice x.1.2.2.1 x.1.2.2.2.1.length x.1.2.2.2.2], undef, undef, undef, undef, undef, undef, undef, undef, undef, undef, undef, undef, undef, undef, undef, undef, undef, undef, undef, undef, undef], defers := [] })
    (fun x a' s W W' row hs hg hr => by
      obtain ⟨Bx, h2, h3, h4⟩ := hs
      exact ⟨Bx, h2, (blk_own (β := Unit) _ _ _) () W W' row h3 hg (fun r e => (hr r e).2), h4⟩)
    ?assign ?body ?done ?stop
  case assign =>
    rintro l pre x W K ⟨hne, b1, b2, b3, b4, hB⟩ hK
    have hWs : W0.heap.size ≤ W.heap.size := by have := b4.lt; omega
    simp only [encR]
    gi_wp2
    exact hK _ _ ((KeepsOthers.alloc _ _).from _) ((Below.refl _ W).alloc hWs _) ⟨hne, b1.alloc _, b2.alloc _, b3.alloc _, b4.alloc _, hB.alloc hB.size _⟩ ⟨W.heap.size, hWs, Blk.new W _ _, rfl⟩
  case body =>
    rintro l pre ⟨⟨i, kd, A1, y, c1⟩, hx⟩ a' W hl0 ⟨rr, hr⟩ ⟨hne, b1, b2, b3, b4, hB⟩ ⟨Bx, hBx, bX, rfl⟩ hlt
    simp only at hx bX ⊢
    obtain ⟨hi, hxi⟩ := List.getElem?_eq_some_iff.1 hx
    have x0 : W.cell? ⟨Bx, 0, none⟩ = some (.int .u8 (kd.toNat : Int)) := bX.cell 0
    have x1 : W.cell? ⟨Bx, 1, none⟩ = some (.slice A1 y.length c1) := bX.cell 1
    by_cases hk : kd = 0
    · subst hk
      have hyl : y.length ≤ 140737488355328 := by have := HVB.out vs[i] (List.getElem_mem hi); rw [hxi] at this; exact this
      have hyr := HRS.out vs[i] (List.getElem_mem hi)
      rw [hxi] at hyr
      have HCL : Hid (∀ W', Below w.heap.size w W' → Calls Tryz.prog 60 #[.slice A1 y.length c1] W' (Made W'.heap.size y W')) := Lib.hid fun W' hb => clone_any w.heap.size c1 A1 y y.length rfl W' (hyr.below hb) hb.size hyl
      obtain ⟨q, hq⟩ : ∃ q, i + 1 = q := ⟨_, rfl⟩
      have hqi : (i : Int) + 1 = (q : Int) := by omega
      obtain ⟨AT, hAT⟩ : ∃ AT, (if c = q then R else R.map (·.add (q * 2))) = AT := ⟨_, rfl⟩
      have hqv : q ≤ vs.length := by omega
      have hwq : IntKind.i64.wrap (q : Int) = (q : Int) := by rw [IntKind.wrap_i64]; omega
      have htl := rowR_tail HROW.out hcap (by omega : q ≤ vs.length)
      rw [hAT] at htl
      have HCO : Hid (∀ W', Below w.heap.size w W' → Calls Tryz.prog 125 #[.slice AT (vs.length - q) (c - q)] W' (MadeR ((vs.drop q).map rcOf) W')) := Lib.hid fun W' hb =>
        copyof_any (vs.length - q) (c - q) AT (vs.drop q) (by rw [List.length_drop]) W' ((htl.below hb).more hb.size) (recs_below (recs_sub HRS.out (fun r hr => List.mem_of_mem_drop hr)) hb) (by omega) (fun r hr => HVB.out r (List.mem_of_mem_drop hr))
      have r1 := b1.cell
      have rg : W.cell? ⟨g, 3, none⟩ = some (.slice R vs.length c) := (hB.cell (p := ⟨g, 3, none⟩) hgl).trans d3
      have HBd : Hid (Below w.heap.size w W.drew) := Lib.hid hB.drew
      have HBW : Hid (Below W.heap.size W W.drew) := Lib.hid (Below.refl _ _).drew
      have HB1 := Lib.hid b1
      have HB2 := Lib.hid b2
      have HB3 := Lib.hid b3
      have HBB := Lib.hid hB
      have HNE := Lib.hid hne
      have HQ := Lib.hid hq
      have HXI := Lib.hid hxi
      have hii : (i : Int) ≤ 1000000000 := by omega
      have hi0 : (0 : Int) ≤ (i : Int) := by omega
      clear hyl hyr htl hr b1 b2 b3 b4 hB hne hq
      gi_wp2
      refine RoundHeld.wpIn_region (S := fun w' => w'.cell? ⟨Bx, 1, none⟩ = some (.slice A1 y.length c1) ∧ w'.cell? ⟨w.heap.size, 0, none⟩ = some (.pointer (some ⟨g, 0, none⟩)) ∧ w'.cell? ⟨g, 3, none⟩ = some (.slice R vs.length c)) (by kernel_rfl) (by kernel_rfl) ?_ ⟨x1, r1, rg⟩ (fun hS => ?_)
      · rintro ⟨_, _, h⟩
        exact h
      refine wpAnyH_take (i := 0) (v := .pointer (some ⟨Bx, 1, none⟩)) rfl (by kernel_rfl) (by kernel_rfl) (by kernel_rfl) (fun _ _ _ h => h) (Or.inl ⟨by rfl, fun w1 hSw => by obtain ⟨s1, s2, s3⟩ := hSw; go_simp⟩) hS ?_
      try simp only [Act.put, List.setIfInBounds_toArray, List.set_cons_zero, List.set_cons_succ]
      refine wpAnyH_take (i := 1) (v := .slice A1 y.length c1) rfl (by kernel_rfl) (by kernel_rfl) (by kernel_rfl) (fun _ _ _ h => h) (Or.inl ⟨by rfl, fun w1 hSw => by obtain ⟨s1, s2, s3⟩ := hSw; go_simp⟩) hS ?_
      try simp only [Act.put, List.setIfInBounds_toArray, List.set_cons_zero, List.set_cons_succ]
      refine wpAnyH_take (i := 3) (v := .pointer (some ⟨g, 0, none⟩)) rfl (by kernel_rfl) (by kernel_rfl) (by kernel_rfl) (fun _ _ _ h => h) (Or.inl ⟨by rfl, fun w1 hSw => by obtain ⟨s1, s2, s3⟩ := hSw; go_simp⟩) hS ?_
      try simp only [Act.put, List.setIfInBounds_toArray, List.set_cons_zero, List.set_cons_succ]
      refine wpAnyH_take (i := 4) (v := .pointer (some ⟨g, 0, none⟩)) rfl (by kernel_rfl) (by kernel_rfl) (by kernel_rfl) (fun _ _ _ h => h) (Or.inl ⟨by rfl, fun w1 hSw => by obtain ⟨s1, s2, s3⟩ := hSw; go_simp⟩) hS ?_
      try simp only [Act.put, List.setIfInBounds_toArray, List.set_cons_zero, List.set_cons_succ]
      refine wpAnyH_take (i := 5) (v := .pointer (some ⟨g, 0, none⟩)) rfl (by kernel_rfl) (by kernel_rfl) (by kernel_rfl) (fun _ _ _ h => h) (Or.inl ⟨by rfl, fun w1 hSw => by obtain ⟨s1, s2, s3⟩ := hSw; go_simp⟩) hS ?_
      try simp only [Act.put, List.setIfInBounds_toArray, List.set_cons_zero, List.set_cons_succ]
      refine wpAnyH_take (i := 6) (v := .pointer (some ⟨g, 3, none⟩)) rfl (by kernel_rfl) (by kernel_rfl) (by kernel_rfl) (fun _ _ _ h => h) (Or.inl ⟨by rfl, fun w1 hSw => by obtain ⟨s1, s2, s3⟩ := hSw; go_simp⟩) hS ?_
      try simp only [Act.put, List.setIfInBounds_toArray, List.set_cons_zero, List.set_cons_succ]
      refine wpAnyH_take (i := 7) (v := .slice R vs.length c) rfl (by kernel_rfl) (by kernel_rfl) (by kernel_rfl) (fun _ _ _ h => h) (Or.inl ⟨by rfl, fun w1 hSw => by obtain ⟨s1, s2, s3⟩ := hSw; go_simp⟩) hS ?_
      try simp only [Act.put, List.setIfInBounds_toArray, List.set_cons_zero, List.set_cons_succ]
      refine wpAnyH_take (i := 8) (v := .int .i64 (i : Int)) rfl (by kernel_rfl) (by kernel_rfl) (by kernel_rfl) (fun _ _ _ h => h) (Or.inl ⟨by rfl, fun w1 hSw => by obtain ⟨s1, s2, s3⟩ := hSw; go_simp⟩) hS ?_
      try simp only [Act.put, List.setIfInBounds_toArray, List.set_cons_zero, List.set_cons_succ]
      refine wpAnyH_take (i := 9) (v := .int .i64 (q : Int)) rfl (by kernel_rfl) (by kernel_rfl) (by kernel_rfl) (fun _ _ _ h => h) (Or.inl ⟨by rfl, fun w1 hSw => by obtain ⟨s1, s2, s3⟩ := hSw; go_simp⟩) hS ?_
      try simp only [Act.put, List.setIfInBounds_toArray, List.set_cons_zero, List.set_cons_succ]
      refine wpAnyH_take (i := 10) (v := .slice AT (vs.length - q) (c - q)) rfl (by kernel_rfl) (by kernel_rfl) (by kernel_rfl) (fun _ _ _ h => h) (Or.inl ⟨by rfl, fun w1 hSw => by obtain ⟨s1, s2, s3⟩ := hSw; go_simp⟩) hS ?_
      try simp only [Act.put, List.setIfInBounds_toArray, List.set_cons_zero, List.set_cons_succ]
      refine wpAnyH_ready (rs := [2]) (by kernel_rfl) (by simp) (AllReadyH.cons rfl (fun K hK => ?_) AllReadyH.nil)
      go_simp
      go_at_call 60
      refine (HCL.out _ HBd.out).mono ?_
      rintro e w3 ⟨A3, c3, rfl, ho3, hb3⟩
      have HW3 := Lib.hid (HBW.out.trans (hb3.mono HBW.out.size))
      have HO3 := Lib.hid ho3
      refine hK.out _ _ ⟨(HW3.out.cell (p := ⟨Bx, 1, none⟩) (block_lt x1)).trans x1, (HW3.out.cell (p := ⟨w.heap.size, 0, none⟩) HB1.out.lt).trans r1, (HW3.out.cell (p := ⟨g, 3, none⟩) (block_lt rg)).trans rg⟩ (fun hS3 => ?_)
      clear hK K ho3 hb3
      try simp only [Act.put, List.setIfInBounds_toArray, List.set_cons_zero, List.set_cons_succ]
      refine wpAnyH_ready (rs := [11]) (by kernel_rfl) (by simp) (AllReadyH.cons rfl (fun K hK => ?_) AllReadyH.nil)
      go_simp
      go_at_call 125
      refine (HCO.out _ (HBB.out.trans (HW3.out.mono HBB.out.size))).mono ?_
      rintro e w4 ⟨us, A4, c4, hus, rfl, hou, hrc, hb4⟩
      have HUS := Lib.hid hus
      have HOU := Lib.hid hou
      have HRC := Lib.hid hrc
      have HW4 := Lib.hid hb4
      have HWW := Lib.hid (HW3.out.trans (hb4.mono HW3.out.size))
      have q2 := Boxed.cell ((HWW.out.block _ HB2.out.lt).trans HB2.out)
      have q2f := Boxed.frozen ((HWW.out.block _ HB2.out.lt).trans HB2.out)
      have q3 := Boxed.cell ((HWW.out.block _ HB3.out.lt).trans HB3.out)
      have q3f := Boxed.frozen ((HWW.out.block _ HB3.out.lt).trans HB3.out)
      have y1 := (HWW.out.cell (p := ⟨Bx, 1, none⟩) (block_lt x1)).trans x1
      have y2 := (HWW.out.cell (p := ⟨w.heap.size, 0, none⟩) HB1.out.lt).trans r1
      have y3 := (HWW.out.cell (p := ⟨g, 3, none⟩) (block_lt rg)).trans rg
      refine hK.out _ _ ⟨y1, y2, y3⟩ (fun hS4 => ?_)
      clear hK K hus hou hrc hb4
      try simp only [Act.put, List.setIfInBounds_toArray, List.set_cons_zero, List.set_cons_succ]
      refine wpAnyH_ready (rs := [12]) (by kernel_rfl) (by simp) (AllReadyH.cons rfl (fun K hK => ?_) AllReadyH.nil)
      go_simp
      refine hK.out _ _ ⟨(World.cell?_setCell_far _ _ _ _ (by show w.heap.size + 1 ≠ Bx; omega)).trans y1, (World.cell?_setCell_far _ _ _ _ (by show w.heap.size + 1 ≠ w.heap.size; omega)).trans y2, (World.cell?_setCell_far _ _ _ _ (by show w.heap.size + 1 ≠ g; omega)).trans y3⟩ (fun hS5 => ?_)
      clear hK K
      try simp only [Act.put, List.setIfInBounds_toArray, List.set_cons_zero, List.set_cons_succ]
      refine wpAnyH_ready (rs := [13]) (by kernel_rfl) (by simp) (AllReadyH.cons rfl (fun K hK => ?_) AllReadyH.nil)
      go_simp
      refine hK.out _ _ ⟨(World.cell?_setCell_far _ _ _ _ (by show w.heap.size + 1 + 1 ≠ Bx; omega)).trans ((World.cell?_setCell_far _ _ _ _ (by show w.heap.size + 1 ≠ Bx; omega)).trans y1), (World.cell?_setCell_far _ _ _ _ (by show w.heap.size + 1 + 1 ≠ w.heap.size; omega)).trans ((World.cell?_setCell_far _ _ _ _ (by show w.heap.size + 1 ≠ w.heap.size; omega)).trans y2), (World.cell?_setCell_far _ _ _ _ (by show w.heap.size + 1 + 1 ≠ g; omega)).trans ((World.cell?_setCell_far _ _ _ _ (by show w.heap.size + 1 ≠ g; omega)).trans y3)⟩ (fun hS6 => ?_)
      clear hK K
      try simp only [Act.put, List.setIfInBounds_toArray, List.set_cons_zero, List.set_cons_succ]
      refine wpAnyH_done (by kernel_rfl) ?_ _
      all_goals
        gi_wp2
        have hfin := lastQ_of W0.heap.size hi (by rw [HXI.out]) HBB.out HB2.out HB3.out HW3.out HO3.out HW4.out (by rw [HQ.out]; exact HUS.out) HOU.out HRC.out
        exact ⟨hfin.1, ⟨rfl, pre, _, rfl, HNE.out, rfl⟩, i, ⟨pre, _, rfl, rfl⟩, hfin.2⟩
    · have hk0 := u8_zero hk
      have hkb : ((kd.toNat : Int) == 0) = false := by simpa using hk0
      gi_wp2
      refine ⟨KeepsFrom.refl _ _, Below.refl _ _, ⟨fun z hz => ?_, b1, b2, b3, b4, hB⟩⟩
      rcases List.mem_append.1 hz with hz | hz
      · exact hne z hz
      · have : z = ⟨(i, kd, A1, y, c1), hx⟩ := by simpa using hz
        subst this
        exact hk
  case done =>
    rintro D ys W hD hys ⟨hne, b1, b2, b3, b4, hB⟩ hK
    have HC0 := Lib.hid (copyof_any vs.length c R vs rfl W ((HROW.out.below hB).more hB.size) (recs_below HRS.out hB) hvl HVB.out)
    have r1 := b1.cell
    have rg : W.cell? ⟨g, 3, none⟩ = some (.slice R vs.length c) := (hB.cell (p := ⟨g, 3, none⟩) hgl).trans d3
    have hWs : W0.heap.size ≤ W.heap.size := by have := b4.lt; omega
    gi_wp2_with (refine ⟨trivial, ?_⟩; gi_at_call 125; refine (callsIn_wide.2 HC0.out).mono ?_; rintro e w3 ⟨us, A3, c3, hus, rfl, hou, hrc, hb3⟩; have q2 : Boxed w3 (w.heap.size + 1) 27 (.slice none 0 0) := (hb3.block _ b2.lt).trans b2; have q3 : Boxed w3 (w.heap.size + 1 + 1) 30 (.slice none 0 0) := (hb3.block _ b3.lt).trans b3; have q2c := q2.cell; have q2f := q2.frozen; have q3c := q3.cell; have q3f := q3.frozen)
    have hKd : ((w3.setCell ⟨w.heap.size + 1, 0, none⟩ (.slice none 0 0)).setCell ⟨w.heap.size + 1 + 1, 0, none⟩ (.slice A3 us.length c3)).heap[D]? = some (.deferred (some [])) :=
      ((KeepsOthers.setCell w3 ⟨w.heap.size + 1, 0, none⟩ (.slice none 0 0)).trans (KeepsOthers.setCell _ ⟨w.heap.size + 1 + 1, 0, none⟩ (.slice A3 us.length c3))).same D _ ((hb3.block D (Array.getElem?_eq_some_iff.1 hK).1).trans hK) rfl
    refine ⟨by simp, .inl ⟨_, _, rfl, run_takeDeferred hKd, ?_⟩⟩
    have hl2 := b2.lt
    have hl3 := b3.lt
    have hbx2 : Boxed ((w3.setCell ⟨w.heap.size + 1, 0, none⟩ (.slice none 0 0)).setCell ⟨w.heap.size + 1 + 1, 0, none⟩ (.slice A3 us.length c3)) (w.heap.size + 1) 27 (.slice none 0 0) := (q2.set _).other (by omega) _
    have hbx3 : Boxed ((w3.setCell ⟨w.heap.size + 1, 0, none⟩ (.slice none 0 0)).setCell ⟨w.heap.size + 1 + 1, 0, none⟩ (.slice A3 us.length c3)) (w.heap.size + 1 + 1) 30 (.slice A3 us.length c3) := (q3.other (by omega) _).set _
    have hput : ∀ {B s n : Nat} {e : TypeId} {v : Value} {xs : List Value}, W.heap.size ≤ B → w3.ownsRow B e s v n xs → (((w3.setCell ⟨w.heap.size + 1, 0, none⟩ (.slice none 0 0)).setCell ⟨w.heap.size + 1 + 1, 0, none⟩ (.slice A3 us.length c3)).putObj D (.deferred none)).ownsRow w.heap.size e s v n xs := fun hB' h =>
      (own_own (β := Unit)) () _ _ (some D) (ownBase (ownsRow_setCell_below (ownsRow_setCell_below h (a := ⟨w.heap.size + 1, 0, none⟩) (by show w.heap.size + 1 < _; omega) _) (a := ⟨w.heap.size + 1 + 1, 0, none⟩) (by show w.heap.size + 1 + 1 < _; omega) _) (by omega)) (grownBy_putObj' _ D (.deferred none)) (fun r e => by cases e; exact ⟨_, hKd, rfl⟩)
    have hc2 := cell_kept hbx2.cell (grownBy_putObj' _ D (.deferred none)) (fun r e => by cases e; exact ⟨_, hKd, rfl⟩)
    have hc3 := cell_kept hbx3.cell (grownBy_putObj' _ D (.deferred none)) (fun r e => by cases e; exact ⟨_, hKd, rfl⟩)
    have hbel : Below w.heap.size w (((w3.setCell ⟨w.heap.size + 1, 0, none⟩ (.slice none 0 0)).setCell ⟨w.heap.size + 1 + 1, 0, none⟩ (.slice A3 us.length c3)).putObj D (.deferred none)) :=
      (((hB.trans (hb3.mono hB.size)).setCell (p := ⟨w.heap.size + 1, 0, none⟩) (Nat.le_succ _) _).setCell (p := ⟨w.heap.size + 1 + 1, 0, none⟩) (by show w.heap.size ≤ w.heap.size + 1 + 1; omega) _).trans (belowK_b (w := w) (Nat.le_refl _) _ D _ _ (by omega) hKd rfl rfl)
    refine ⟨.tuple #[.slice none 0 0, .slice A3 us.length c3], ?_, 0, none, 0, us, A3, c3, ?_, ?_, rfl, World.ownsRow_nil _ _ _ _, hput (Nat.le_refl _) hou, fun r hr => hput (Nat.le_refl _) (hrc r hr), hbel⟩
    · simp [results, Tryz.f103, go_sem, hc2, hc3]
    · rw [← HV.out]
      refine last_none vs fun x hx => ?_
      rw [← hys] at hx
      obtain ⟨z, hz, rfl⟩ := List.mem_map.1 hx
      exact hne z hz
    · rw [hus, HV.out]; rfl
  case stop =>
    rintro D c' pre W hD ⟨k, hk, hpre⟩ ⟨⟨rfl, ini, last, e1, e2, e3⟩, i, ⟨ini', last', e4, e5⟩, hq⟩ hK
    gi_wp2
    refine ⟨by simp, .inl ⟨_, _, rfl, run_takeDeferred hK, ?_⟩⟩
    have hq2 := lastQ_own (β := Nat) w vs (fun s => s) W0.heap.size (by omega) i W _ (some D) hq (grownBy_putObj' W D (.deferred none)) (fun r e => by cases e; exact ⟨hD, _, hK, rfl⟩)
    obtain ⟨y, A, cy, us, A2, c2, hi, hy, hus, hb2, hb3, ho1, ho2, hrc, hbel⟩ := hq2
    have hc2 := hb2.cell
    have hc3 := hb3.cell
    obtain ⟨k', rfl⟩ : ∃ k', k = k' + 1 := by
      cases k with
      | zero => rw [e1] at hpre; simp [bkU] at hpre
      | succ k' => exact ⟨k', rfl⟩
    have hpre2 := hpre
    rw [e1, List.map_append, bkU_succ] at hpre2
    obtain ⟨hini, hlast⟩ := List.append_inj' hpre2 rfl
    have hlv : last.1 = bkF vs k' := by simpa using hlast
    have e6 : ini ++ [last] = ini' ++ [last'] := e1.symm.trans e4
    obtain ⟨_, e7⟩ := List.append_inj' e6 rfl
    have e8 : last = last' := by simpa using e7
    have hik : i = vs.length - 1 - k' := by rw [← e5, ← e8, hlv, bkF_at vs k' (by omega)]
    have hli := last_some vs k' (by omega) (fun x hx => by
      rw [← hini] at hx
      obtain ⟨z, hz, rfl⟩ := List.mem_map.1 hx
      exact e2 z hz) (by rw [← hlv]; exact e3)
    rw [← hik, HV.out] at hli
    have hlb : lastB rs (i + 1) = y := by
      rw [← HV.out]
      show (((vs.map rcOf)[i]?).getD (0, [])).2 = y
      rw [List.getElem?_map, List.getElem?_eq_getElem hi]
      exact hy
    refine ⟨.tuple #[.slice A y.length cy, .slice A2 us.length c2], ?_, i + 1, A, cy, us, A2, c2, hli, ?_, by rw [hlb], by rw [hlb]; exact ho1, ho2, hrc, hbel⟩
    · simp [results, Tryz.f103, go_sem, hc2, hc3]
    · rw [hus, ← HV.out, List.map_drop]
theorem last7_any (F : Nat → Prop) (g m q : Nat) (rs : List Rc) (w : World) (h : LgAt lg0 w F g rs m q) :
    Calls Tryz.prog 103 #[.pointer (some ⟨g, 0, none⟩)] w (LastP rs w) := callsIn_wide.1 (last7_in F g m q rs w h)
end Go.Proofs.YtndbggkpobcpjaaGreat
