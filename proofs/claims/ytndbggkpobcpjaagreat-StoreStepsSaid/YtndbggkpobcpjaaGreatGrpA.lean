/- Whether rows of entries are the same, told by the reference. -/
/- A key's entry among some, told by the reference; the newer one laid among them. -/
/- An entry laid among some, told by the reference. -/
/- An entry laid among some, by the reference's call (written by tools/gen_refx8.py). -/
/- The newer one of an entry and what is there, told by the reference. -/
/- Entries that lie in a row, apart from some blocks (cut out of Silent8). -/
/- An entry laid among some, told by the reference: all apart from some old blocks. -/
/- The newer one of an entry and what is there, told by the reference, apart from some old blocks (written by tools/gen_refz8.py). -/
import Derived.Test.YtndbggkpobcpjaaGreatLaw8
import Derived.Deep.RegionHeld3
namespace Go.Proofs.YtndbggkpobcpjaaGreat
open Go.RowKit Go.ChangeShapes Mem Be Word Frm Go.Maps
set_option maxRecDepth 100000
set_option maxHeartbeats 4000000
set_option linter.unusedVariables false
/-- Entries that lie in a row, each with its value. -/
structure EnV (w : World) (A : Option Addr) (us : List EV) : Prop where
  row : Row w w.heap.size A (entsC us)
  val : ∀ x ∈ us, ValOk w x.1.has x.2.1 x.1.v x.2.2
theorem EnV.below {w w' : World} {A : Option Addr} {us : List EV} (h : EnV w A us) (hb : Below w.heap.size w w') : EnV w' A us := ⟨(h.row.below hb).more hb.size, fun x hx => (h.val x hx).below hb⟩
theorem enV_of {w : World} {B B' n c : Nat} {A : Option Addr} {us : List EV} (ho : w.ownsRow B 45 6 (.slice A n c) n (entsC us)) (he : EntsO w B' us) (hl : ∀ x ∈ us, x.1.v.length ≤ 60000) : EnV w A us :=
  ⟨ownRow ho, fun x hx => ownE_val (he x hx) (by have := hl x hx; omega)⟩
theorem sameall_true (n c m c' : Nat) (A A' : Option Addr) (us vs : List EV) (hn : n = us.length) (hm : m = vs.length) (he : us.map Prod.fst = vs.map Prod.fst) (hl : n ≤ 1073741824) (w : World) (h : EnV w A us) (h' : EnV w A' vs) :
    Calls Tryz.prog 25 #[.slice A n c, .slice A' m c'] w (IsT8 true w) := by
  have hlen : vs.length = us.length := by have := congrArg List.length he; simpa using this.symm
  have hmn : m = n := by omega
  subst hmn
  have HN := Lib.hid hn
  have HM := Lib.hid hm
  have HE := Lib.hid he
  have HU := Lib.hid h
  have HV := Lib.hid h'
  have hni : (m : Int) ≤ 1073741824 := by omega
  have hni0 : (0 : Int) ≤ (m : Int) := by omega
  clear hn hm he h h' hl hlen
  go_enter Tryz.func25, Tryz.ntmps25
  go_wp2
  go_loopw [5] (fun i wr => ∃ k : Nat, k ≤ m ∧ i = .int .i64 k ∧ Hid (Below w.heap.size w wr)) (fun i _ => m - (intOf i).toNat)
  case atStart => exact ⟨0, by omega, rfl, Lib.hid (Below.refl _ _)⟩
  case round =>
    obtain ⟨k, hk, rfl, HB⟩ := hrel
    by_cases hlt : k < m
    · have hk1 : k < us.length := by rw [← HN.out]; exact hlt
      have hk2 : k < vs.length := by rw [← HM.out]; exact hlt
      obtain ⟨b, o, rfl, hb, hc⟩ := ents_open (HU.out.below HB.out).row (by omega)
      obtain ⟨b', o', rfl, hb', hc'⟩ := ents_open (HV.out.below HB.out).row (by omega)
      obtain ⟨a0, a1, a2, a3, a4, a5⟩ := hc k hk1
      obtain ⟨b0, b1, b2, b3, b4, b5⟩ := hc' k hk2
      have v1 := (HU.out.below HB.out).val us[k] (List.getElem_mem hk1)
      have v2 := (HV.out.below HB.out).val vs[k] (List.getElem_mem hk2)
      have hee : (us[k]).1 = (vs[k]).1 := by
        have := List.getElem_of_eq HE.out (i := k) (by simpa using hk1)
        simpa using this
      obtain ⟨⟨x, A1, c1⟩, hx⟩ : ∃ p, us[k]'hk1 = p := ⟨_, rfl⟩
      obtain ⟨⟨y, A2, c2⟩, hy⟩ : ∃ p, vs[k]'hk2 = p := ⟨_, rfl⟩
      rw [hx] at a0 a1 a2 a3 a4 a5 v1 hee
      rw [hy] at b0 b1 b2 b3 b4 b5 v2 hee
      simp only at a0 a1 a2 a3 a4 a5 b0 b1 b2 b3 b4 b5 v1 v2 hee
      subst hee
      have HC := Lib.hid (fun p : Later wr => refsame_true ⟨x.k.toArray⟩ x.s x.u x.o x.has A1 A2 x.v c1 c2 x.v.length x.v.length rfl rfl p.world (v1.below p.bel) (v2.below p.bel))
      have l0 := later_cell a0
      have l1 := later_cell a1
      have l2 := later_cell a2
      have l3 := later_cell a3
      have l4 := later_cell a4
      have l5 := later_cell a5
      have m0 := later_cell b0
      have m1 := later_cell b1
      have m2 := later_cell b2
      have m3 := later_cell b3
      have m4 := later_cell b4
      have m5 := later_cell b5
      have hki : (0 : Int) ≤ (k : Int) := by omega
      have hki2 : (k : Int) < (m : Int) := by omega
      clear hc hc' a0 a1 a2 a3 a4 a5 b0 b1 b2 b3 b4 b5 hx hy v1 v2
      go_wp2_with fail
      refine wp_region_later (by kernel_rfl) (by kernel_rfl) ?_
      repeat (go_big_quiet_step (first
        | (go_at_call 11; exact later_of (HC.out _))))
      refine wpQuiet_nil ?_
      intro w' hw'
      obtain ⟨p, rfl⟩ := hw'
      go_wp2
      go_roundw
      case rel => exact ⟨k + 1, by omega, by go_num, Lib.hid (HB.out.trans (p.bel.mono HB.out.size))⟩
      case measure => simp [intOf]; omega
    · obtain rfl : k = m := by omega
      go_wp2
      go_ret
      exact ⟨rfl, HB.out⟩
end Go.Proofs.YtndbggkpobcpjaaGreat
namespace Go.Proofs.YtndbggkpobcpjaaGreat
open Go.RowKit Go.ChangeShapes Mem Be Word Frm Go.Maps
set_option maxRecDepth 100000
set_option maxHeartbeats 4000000
set_option linter.unusedVariables false
/-- An entry that is handed out, its bytes wherever they lie. -/
def RefE (x : EntP) (w : World) (e : Ending) (w' : World) : Prop :=
  ∃ A c, e = .returned (entV ⟨x.k.toArray⟩ x.s x.u x.o x.has A x.v.length c) ∧ ValOk w' x.has A x.v c ∧ Below w.heap.size w w'
theorem ofT_none {T : List EntP} {k : List UInt8} (h : ∀ x ∈ T, x.k ≠ k) : ofT T k = entN k := by
  unfold ofT; rw [(get_none (key := kE)).2 h]; rfl
theorem ofT_first {T : List EntP} {k : List UInt8} {j : Nat} (hj : j < T.length) (hk : T[j].k = k) (h : ∀ i, ∀ hi : i < T.length, i < j → T[i].k ≠ k) : ofT T k = T[j] := by
  unfold ofT getK
  have : T.find? (fun x => kE x == k) = some T[j] := by
    rw [List.find?_eq_some_iff_getElem]
    refine ⟨by simpa using hk, j, hj, rfl, fun i hi => ?_⟩
    have := h i (by omega) hi
    simpa using this
  rw [this]; rfl
theorem refof_any (n c : Nat) (A : Option Addr) (us : List EV) (k : List UInt8) (hn : n = us.length) (hl : n ≤ 1073741824) (w : World) (h : EnV w A us) :
    Calls Tryz.prog 13 #[.slice A n c, .string ⟨k.toArray⟩] w (RefE (ofT (us.map Prod.fst) k) w) := by
  have HN := Lib.hid hn
  have HE := Lib.hid h
  have hal : Below w.heap.size w (w.alloc (.cells #[.string ⟨#[]⟩, .int .i64 0, .int .i64 0, .int .i64 0, .bool false, .slice none 0 0] 45)) := (Below.refl _ _).alloc (Nat.le_refl _) _
  have HAL := Lib.hid hal
  have HE1 := Lib.hid (h.below hal)
  have hni : (n : Int) ≤ 1073741824 := by omega
  have hni0 : (0 : Int) ≤ (n : Int) := by omega
  obtain ⟨R, hR⟩ : ∃ R, ofT (us.map Prod.fst) k = R := ⟨_, rfl⟩
  have HR := Lib.hid hR
  rw [hR]
  clear h hn hl hal hR
  go_enter Tryz.func13, Tryz.ntmps13
  go_wp2_with fail
  go_loop [5] (fun i => ∃ j : Nat, j ≤ n ∧ i = .int .i64 j ∧ Hid (∀ i, ∀ hi : i < us.length, i < j → us[i].1.k ≠ k)) (fun i => n - (intOf i).toNat)
  case atStart => exact ⟨0, Nat.zero_le _, rfl, Lib.hid fun i _ h => by omega⟩
  case round =>
    obtain ⟨j, hj, rfl, HNO⟩ := hrel
    by_cases hlt : j < n
    · have hj1 : j < us.length := by rw [← HN.out]; exact hlt
      obtain ⟨b, o, rfl, hb, hc⟩ := ents_open HE1.out.row (by omega)
      obtain ⟨a0, a1, a2, a3, a4, a5⟩ := hc j hj1
      have hv := HE.out.val us[j] (List.getElem_mem hj1)
      have hstep : us[j].1.k ≠ k → ∀ i, ∀ hi : i < us.length, i < j + 1 → us[i].1.k ≠ k := fun hne i hi h1 => by
        by_cases hij : i = j
        · subst hij; exact hne
        · exact HNO.out i hi (by omega)
      have hyes : us[j].1.k = k → us[j].1 = R := fun he => by
        have h1 := ofT_first (T := us.map Prod.fst) (k := k) (j := j) (by simpa using hj1) (by simpa using he) (fun i hi h2 => by simpa using HNO.out i (by simpa using hi) h2)
        rw [HR.out] at h1
        simpa using h1.symm
      obtain ⟨⟨x, xA, xc⟩, hx⟩ : ∃ p, us[j]'hj1 = p := ⟨_, rfl⟩
      rw [hx] at a0 a1 a2 a3 a4 a5 hv hstep hyes
      simp only at a0 a1 a2 a3 a4 a5 hv hstep hyes
      have HV := Lib.hid hv
      have hji : (0 : Int) ≤ (j : Int) := by omega
      have hji2 : (j : Int) < (n : Int) := by omega
      clear hc hx hv
      by_cases hkey : x.k = k
      · obtain rfl := hyes hkey
        subst hkey
        clear hstep hyes
        go_wp2_with fail
        refine bodyPost_ret (v := entV ⟨x.k.toArray⟩ x.s x.u x.o x.has xA x.v.length xc) (by simp [results, Tryz.results13, go_sem]) rfl ⟨xA, xc, rfl, ?_, ?_⟩
        · exact HV.out.below ((Below.refl _ _).alloc (Nat.le_refl _) _)
        · exact (Below.refl _ _).alloc (Nat.le_refl _) _
      · have hb2 : ((⟨x.k.toArray⟩ : ByteArray).toList == (⟨k.toArray⟩ : ByteArray).toList) = false := list_ne (fun e => hkey (by
          injection e with e
          have := congrArg Array.toList e
          simpa using this))
        have hb3 : (x.k == k) = false := by simpa using hkey
        have HNX := Lib.hid (hstep hkey)
        clear hkey hstep hyes
        go_wp2
        go_round
        case rel => exact ⟨j + 1, by omega, by go_num, HNX⟩
        case measure => simp [intOf]; omega
    · obtain rfl : j = n := by omega
      have hR2 : R = entN k := by
        rw [← HR.out]
        refine ofT_none fun x hx => ?_
        obtain ⟨y, hy, rfl⟩ := List.mem_map.1 hx
        obtain ⟨i, hi, rfl⟩ := List.mem_iff_getElem.1 hy
        exact HNO.out i hi (by rw [HN.out]; exact hi)
      subst hR2
      go_wp2
      refine bodyPost_ret (v := entV ⟨k.toArray⟩ 0 0 0 false none 0 0) (by simp [results, Tryz.results13, go_sem]) rfl ⟨none, 0, rfl, ?_, ?_⟩
      · exact ⟨Row.nil _ _ _, by simp [entN], Nat.le_refl _⟩
      · exact (Below.refl _ _).alloc (Nat.le_refl _) _
end Go.Proofs.YtndbggkpobcpjaaGreat
namespace Go.Proofs.YtndbggkpobcpjaaGreat
open Go.RowKit Go.ChangeShapes Mem Be Word Frm Go.Maps
set_option maxRecDepth 100000
set_option maxHeartbeats 4000000
set_option linter.unusedVariables false
theorem ins_front {e : EntP} : ∀ {T : List EntP}, (∀ y ∈ T, bytesBefore e.k y.k = true) → insK kE e T = e :: T
  | [], _ => rfl
  | y :: r, h => by
    unfold insK
    rw [if_pos (h y (by simp))]
/-- Where an entry comes to stand. -/
theorem with_put {e : EntP} : ∀ (T : List EntP) (j : Nat), SortT kE T → j ≤ T.length → (∀ i, ∀ hi : i < T.length, i < j → bytesBefore T[i].k e.k = true) → (∀ hj : j < T.length, bytesBefore T[j].k e.k = false) →
    ∀ m, (m = j + 1 ∧ (∃ hj : j < T.length, T[j].k = e.k) ∨ m = j ∧ ∀ hj : j < T.length, T[j].k ≠ e.k) → putK kE T e = T.take j ++ e :: T.drop m
  | [], j, _, hj, _, _, m, hm => by
    have : j = 0 := by simpa using hj
    subst this
    rw [List.drop_nil]
    rfl
  | y :: r, 0, hs, _, _, hno, m, hm => by
    have hno' : bytesBefore y.k e.k = false := hno (by simp)
    have hs' := List.pairwise_cons.1 hs
    rcases hm with ⟨rfl, hj, he⟩ | ⟨rfl, hne⟩
    · have he' : y.k = e.k := he
      have hd : delK kE (kE e) (y :: r) = r := by
        unfold delK
        rw [List.filter_cons, if_neg (by simp [he'])]
        exact del_of_none (key := kE) fun x hx => fun h => bb_ne (hs'.1 x hx) (he'.trans h.symm)
      unfold putK
      rw [hd]
      exact ins_front fun x hx => by have := hs'.1 x hx; rw [show kE y = e.k from he'] at this; exact this
    · have hne' : y.k ≠ e.k := hne (by simp)
      have hby : bytesBefore e.k y.k = true := by
        rcases WideAt.bytes_total _ _ (Ne.symm hne') with h | h
        · exact h
        · rw [h] at hno'; cases hno'
      have hall : ∀ x ∈ y :: r, bytesBefore e.k x.k = true := fun x hx => by
        rcases List.mem_cons.1 hx with rfl | hx
        · exact hby
        · exact bb_trans hby (hs'.1 x hx)
      unfold putK
      rw [del_of_none (key := kE) fun x hx => fun h => bb_ne (hall x hx) h.symm]
      exact ins_front hall
  | y :: r, j + 1, hs, hj, hb, hno, m, hm => by
    have hs' := List.pairwise_cons.1 hs
    have hy : bytesBefore y.k e.k = true := hb 0 (by simp) (by omega)
    obtain ⟨m', rfl⟩ : ∃ m', m = m' + 1 := by rcases hm with ⟨h, _⟩ | ⟨h, _⟩ <;> exact ⟨m - 1, by omega⟩
    have ih := with_put r j hs'.2 (by simpa using hj) (fun i hi h => hb (i + 1) (by simpa using hi) (by omega)) (fun h => hno (by simpa using h)) m' (by
      rcases hm with ⟨h, hj2, he⟩ | ⟨h, hne⟩
      · exact Or.inl ⟨by omega, by simpa using hj2, he⟩
      · exact Or.inr ⟨by omega, fun h2 => hne (by simpa using h2)⟩)
    have hd : delK kE (kE e) (y :: r) = y :: delK kE (kE e) r := by
      unfold delK
      rw [List.filter_cons, if_pos (by simp; exact bb_ne hy)]
    have hnb : bytesBefore e.k y.k = false := by
      cases h : bytesBefore e.k y.k
      · rfl
      · exact absurd (bb_trans hy h) (fun h2 => bb_ne h2 rfl)
    unfold putK at ih ⊢
    rw [hd]
    unfold insK
    rw [if_neg (by rw [show bytesBefore (kE e) (kE y) = false from hnb]; simp), ih]
    rfl
theorem cutE (W : World) (A : Option Addr) (n c k : Nat) (h : k ≤ n) : (Instr.slice 33 (.slice A n c) (some (.int .i64 (k : Int))) none none).run Tryz.prog W = .ok (.slice (if c = k then A else A.map (·.add (k * 6))) (n - k) (c - k)) W := by
  obtain ⟨i, hi, hz, hz1, hz2⟩ := info_parts info_ent
  simp [Instr.slice, run_underlying Tryz.underlying33, Instr.sliceBounds, Instr.sliceBound, asIntOf, sizeOf, typeInfo, hi, hz1, h]
theorem rowE_tail {w : World} {B : Nat} {A : Option Addr} {us : List EV} {c k : Nat} (h : Row w B A (entsC us)) (hc : us.length ≤ c) (hk : k ≤ us.length) : Row w B (if c = k then A else A.map (·.add (k * 6))) (entsC (us.drop k)) := by
  rcases Nat.lt_or_ge k us.length with hlt | hge
  · obtain ⟨b, o, rfl, hb, hcell⟩ := h.open_ (by rw [entsC_len]; omega)
    rw [if_neg (by omega)]
    have e : (some (⟨b, o, none⟩ : Addr)).map (·.add (k * 6)) = some ⟨b, o + k * 6, none⟩ := by
      show some ((⟨b, o, none⟩ : Addr).add (k * 6)) = _
      unfold Addr.add
      split
      · rename_i h0
        rw [h0]; rfl
      · rfl
    rw [e]
    refine Or.inr ⟨b, o + k * 6, rfl, hb, fun j hj => ?_⟩
    have hd : entsC us = entsC (us.take k) ++ entsC (us.drop k) := by rw [← entsC_app, List.take_append_drop]
    have hl : (entsC (us.take k)).length = k * 6 := by rw [entsC_len, List.length_take]; congr 1; omega
    have hj2 : k * 6 + j < (entsC us).length := by rw [hd, List.length_append, hl]; omega
    have h1 := hcell (k * 6 + j) hj2
    rw [show o + k * 6 + j = o + (k * 6 + j) by omega, h1]
    congr 1
    rw [List.getElem_of_eq hd]
    rw [List.getElem_append_right (by omega)]
    congr 1
    omega
  · have : us.drop k = [] := List.drop_eq_nil_of_le hge
    rw [this]; exact Or.inl rfl
end Go.Proofs.YtndbggkpobcpjaaGreat
namespace Go.Proofs.YtndbggkpobcpjaaGreat
open Go.RowKit Go.ChangeShapes Mem Be Word Frm Go.Maps
set_option maxRecDepth 100000
set_option maxHeartbeats 8000000
set_option linter.unusedVariables false
def WithP (T : List EntP) (w : World) (e : Ending) (w' : World) : Prop :=
  ∃ (vs : List EV) (A : Option Addr) (c : Nat), vs.map Prod.fst = T ∧ e = .returned (.slice A vs.length c) ∧ vs.length ≤ c ∧ EnV w' A vs ∧ Below w.heap.size w w'
/-- The same, and whence the entries come: new is the row, the entries are the old ones and the one that was laid. -/
def WithX (us : List EV) (x : EV) (T : List EntP) (w : World) (e : Ending) (w' : World) : Prop :=
  ∃ (vs : List EV) (A : Option Addr) (c : Nat), vs.map Prod.fst = T ∧ e = .returned (.slice A vs.length c) ∧ vs.length ≤ c ∧ EnV w' A vs ∧ Below w.heap.size w w' ∧ (∀ y ∈ vs, y ∈ us ∨ y = x) ∧ w'.ownsRow w.heap.size 45 6 (.slice A vs.length c) vs.length (entsC vs)
theorem WithX.p {us : List EV} {x : EV} {T : List EntP} {w w' : World} {e : Ending} (h : WithX us x T w e w') : WithP T w e w' := by
  obtain ⟨vs, A, c, h1, h2, h3, h4, h5, _⟩ := h
  exact ⟨vs, A, c, h1, h2, h3, h4, h5⟩
theorem withX_of {us : List EV} {x : EV} {w W1 w9 : World} {A9 : Option Addr} {c9 N9 B : Nat} {j m : Nat} {T : List EntP} (hT : T = (us.map Prod.fst).take j ++ x.1 :: (us.map Prod.fst).drop m) (hb : Below w.heap.size w w9) (hu : EnV w9 none [] → True)
    (hval : ∀ y ∈ us, ValOk w9 y.1.has y.2.1 y.1.v y.2.2) (hx : ValOk w9 x.1.has x.2.1 x.1.v x.2.2) (hB : w.heap.size ≤ B) (hN : N9 = ((us.take j ++ [x]) ++ us.drop m).length) (ho : w9.ownsRow B 45 6 (.slice A9 N9 c9) N9 (entsC ((us.take j ++ [x]) ++ us.drop m))) :
    WithX us x T w (.returned (.slice A9 N9 c9)) w9 := by
  subst hN
  obtain ⟨_, _, e, hc, _⟩ := ownShape ho
  injection e with _ _ e
  subst e
  refine ⟨_, A9, c9, ?_, rfl, hc, ⟨ownRow ho, fun y hy => ?_⟩, hb, fun y hy => ?_, ownBase ho hB⟩
  · rw [hT]; simp
  · rcases List.mem_append.1 hy with hy | hy
    · rcases List.mem_append.1 hy with hy | hy
      · exact hval y (List.mem_of_mem_take hy)
      · obtain rfl : y = x := by simpa using hy
        exact hx
    · exact hval y (List.mem_of_mem_drop hy)
  · rcases List.mem_append.1 hy with hy | hy
    · rcases List.mem_append.1 hy with hy | hy
      · exact Or.inl (List.mem_of_mem_take hy)
      · exact Or.inr (by simpa using hy)
    · exact Or.inl (List.mem_of_mem_drop hy)
theorem tailE (A : Option Addr) (us : List EV) (n c k : Nat) (i : Int) (hi : i = (k : Int)) (hk : k ≤ n) (hn : n = us.length) (hc : n ≤ c) :
    ∃ A9, (∀ W, (Instr.slice 33 (.slice A n c) (some (.int .i64 i)) none none).run Tryz.prog W = .ok (.slice A9 (n - k) (c - k)) W) ∧ ∀ B W, Row W B A (entsC us) → Row W B A9 (entsC (us.drop k)) := by
  subst hi
  exact ⟨_, fun W => cutE W A n c k hk, fun B W h => rowE_tail h (by omega) (by omega)⟩
theorem refwithX_any (n c : Nat) (A : Option Addr) (us : List EV) (x : EV) (hn : n = us.length) (hcp : n ≤ c) (hl : n ≤ 100000000) (w : World) (h : EnV w A us) (hs : SortT kE (us.map Prod.fst)) (hv : ValOk w x.1.has x.2.1 x.1.v x.2.2) :
    Calls Tryz.prog 53 #[.slice A n c, entV ⟨x.1.k.toArray⟩ x.1.s x.1.u x.1.o x.1.has x.2.1 x.1.v.length x.2.2] w (WithX us x (putK kE (us.map Prod.fst) x.1) w) := by
  obtain ⟨i0, hi0, hz0, hz1, hz2⟩ := info_parts info_ent
  obtain ⟨⟨xk, xs, xu, xo, xh, xv⟩, xA, xc⟩ := x
  simp only at hv ⊢
  obtain ⟨T, hT⟩ : ∃ T, putK kE (us.map Prod.fst) ⟨xk, xs, xu, xo, xh, xv⟩ = T := ⟨_, rfl⟩
  have hwp := fun j h1 h2 h3 m h4 => (with_put (e := ⟨xk, xs, xu, xo, xh, xv⟩) (us.map Prod.fst) j hs h1 h2 h3 m h4).symm.trans hT
  rw [hT]
  have HWP := Lib.hid hwp
  have HN := Lib.hid hn
  obtain ⟨W1, hW1⟩ : ∃ W1, w.alloc (.cells #[.string ⟨xk.toArray⟩, .int .i64 xs, .int .i64 xu, .int .i64 xo, .bool xh, .slice xA xv.length xc] 45) = W1 := ⟨_, rfl⟩
  have hbw : Below w.heap.size w W1 := by rw [← hW1]; exact (Below.refl _ _).alloc (Nat.le_refl _) _
  have hblk : Blk W1 w.heap.size 45 #[.string ⟨xk.toArray⟩, .int .i64 xs, .int .i64 xu, .int .i64 xo, .bool xh, .slice xA xv.length xc] := by rw [← hW1]; exact Blk.new w _ _
  have HBW := Lib.hid hbw
  have HBLK := Lib.hid hblk
  have HE := Lib.hid (h.below hbw)
  have HV := Lib.hid (hv.below hbw)
  have HCP := Lib.hid hcp
  have hni : (n : Int) ≤ 100000000 := by omega
  have hni0 : (0 : Int) ≤ (n : Int) := by omega
  clear h hn hcp hl hs hv hT hwp hbw hblk
  unfold entV
  go_enter Tryz.func53, Tryz.ntmps53
  go_wp2_with fail
  go_loopw [5, 6] (fun v i wr => ∃ (j : Nat) (A1 : Option Addr) (c1 N1 : Nat), j ≤ n ∧ i = .int .i64 j ∧ v = .slice A1 N1 c1 ∧ Hid (N1 = (us.take j).length) ∧ Hid (wr.ownsRow W1.heap.size 45 6 (.slice A1 N1 c1) N1 (entsC (us.take j))) ∧ Hid (∀ i, ∀ hi : i < us.length, i < j → bytesBefore us[i].1.k xk = true) ∧ Hid (Below W1.heap.size W1 wr)) (fun _ i _ => n - (intOf i).toNat)
  case atStart => exact ⟨0, none, 0, 0, Nat.zero_le _, rfl, rfl, Lib.hid rfl, Lib.hid (World.ownsRow_nil _ _ _ _), Lib.hid (fun i _ h => by omega), Lib.hid (Below.refl _ _)⟩
  case round =>
    obtain ⟨j, A1, c1, N1, hj, rfl, rfl, HN1, HO, HBF, HB⟩ := hrel
    obtain rfl : j = N1 := by have := HN1.out; rw [List.length_take] at this; have := HN.out; omega
    have hone : ∀ z : EV, entsC [z] = entC z := fun z => by simp [entsC]
    have HBK := Lib.hid (HBLK.out.below HB.out HBLK.out.lt)
    have k0 : wr.cell? ⟨w.heap.size, 0, none⟩ = some (.string ⟨xk.toArray⟩) := HBK.out.cell 0
    have l0 := later_cell k0
    have hji : (0 : Int) ≤ (j : Int) := by omega
    by_cases hlt : j < n
    · have hj1 : j < us.length := by rw [← HN.out]; exact hlt
      have hji2 : (j : Int) < (n : Int) := by omega
      obtain ⟨b, o, rfl, hb, hc⟩ := ents_open (HE.out.below HB.out).row (by omega)
      obtain ⟨a0, a1, a2, a3, a4, a5⟩ := hc j hj1
      have hstep : bytesBefore us[j].1.k xk = true → ∀ i, ∀ hi : i < us.length, i < j + 1 → bytesBefore us[i].1.k xk = true := fun hne i hi h1 => by
        by_cases hij : i = j
        · subst hij; exact hne
        · exact HBF.out i hi (by omega)
      have hnx : us.take (j + 1) = us.take j ++ [us[j]] := List.take_succ_eq_append_getElem hj1
      have hkk : us[j].1.k = xk → (j + 1 = j + 1 ∧ (∃ hj : j < (us.map Prod.fst).length, (us.map Prod.fst)[j].k = xk)) := fun h => ⟨rfl, by simpa using hj1, by simpa using h⟩
      have hfst : ∀ hj9 : j < (us.map Prod.fst).length, (us.map Prod.fst)[j].k = us[j].1.k := fun _ => by simp
      obtain ⟨⟨y, yA, yc⟩, hy⟩ : ∃ p, us[j]'hj1 = p := ⟨_, rfl⟩
      have HYJ : Hid (us[j] = (y, yA, yc)) := Lib.hid hy
      rw [hy] at a0 a1 a2 a3 a4 a5 hstep hnx hkk hfst
      simp only at a0 a1 a2 a3 a4 a5 hstep hnx hkk hfst
      have HA := Lib.hid (And.intro a0 (And.intro a1 (And.intro a2 (And.intro a3 (And.intro a4 a5)))))
      have m0 := later_cell a0
      clear hc hy a1 a2 a3 a4 a5 a0 k0
      cases hbf : bytesBefore y.k xk
      · have hless : Op.bytesLess y.k xk = false := (less_before _ _).trans hbf
        have hno9 : ∀ hj9 : j < (us.map Prod.fst).length, bytesBefore (us.map Prod.fst)[j].k xk = false := fun h9 => by rw [hfst h9]; exact hbf
        by_cases hkey : y.k = xk
        · have HTT := Lib.hid (HWP.out j (by simp; omega) (fun i hi h1 => by simpa using HBF.out i (by simpa using hi) h1) hno9 (j + 1) (Or.inl ⟨rfl, (hkk hkey).2⟩))
          rw [hkey] at hless
          have m9 : j + 1 ≤ n := by omega
          clear hstep hnx hkk hfst hbf hno9
          go_wp2_with fail
          refine wp_region_later (by kernel_rfl) (by kernel_rfl) ?_
          repeat (go_big_quiet_step (fail))
          refine wpQuiet_nil ?_
          intro w' hw'
          obtain ⟨p, rfl⟩ := hw'
          have HOp := Lib.hid (ownLater HO.out p.bel)
          have HBp := Lib.hid (HB.out.trans (p.bel.mono HB.out.size))
          obtain ⟨w4, hw4⟩ : ∃ w4, p.world = w4 := ⟨_, rfl⟩
          rw [hw4] at HOp HBp ⊢
          have HBK4 := Lib.hid (HBLK.out.below HBp.out HBLK.out.lt)
          have t0 : w4.cell? ⟨w.heap.size, 0, none⟩ = some (.string ⟨xk.toArray⟩) := HBK4.out.cell 0
          have t1 : w4.cell? ⟨w.heap.size, 1, none⟩ = some (.int .i64 xs) := HBK4.out.cell 1
          have t2 : w4.cell? ⟨w.heap.size, 2, none⟩ = some (.int .i64 xu) := HBK4.out.cell 2
          have t3 : w4.cell? ⟨w.heap.size, 3, none⟩ = some (.int .i64 xo) := HBK4.out.cell 3
          have t4 : w4.cell? ⟨w.heap.size, 4, none⟩ = some (.bool xh) := HBK4.out.cell 4
          have t5 : w4.cell? ⟨w.heap.size, 5, none⟩ = some (.slice xA xv.length xc) := HBK4.out.cell 5
          have hal := (Below.refl w4.heap.size w4).alloc (Nat.le_refl _) (.cells ⟨entC (⟨xk, xs, xu, xo, xh, xv⟩, xA, xc)⟩ 45)
          have HO4 := Lib.hid (ownLater HOp.out hal)
          have HBL : Hid (Blk (w4.alloc (.cells ⟨entC (⟨xk, xs, xu, xo, xh, xv⟩, xA, xc)⟩ 45)) w4.heap.size 45 ⟨entC (⟨xk, xs, xu, xo, xh, xv⟩, xA, xc)⟩) := Lib.hid (Blk.new _ _ _)
          have HB4 := Lib.hid (HBp.out.trans (hal.mono HBp.out.size))
          clear hal hw4 l0 HBK m0 HA hless
          go_wp2_with (at_builtin; refine wpList_appS (P := Tryz.prog) (by rfl) _ _ _ (by rfl) W1.heap.size 45 i0 (evV (evN [])) 6 72 Tryz.underlying33 hi0 hz0 hz1 hz2 rfl (by decide) _ j (entsC (us.take j)) (by rfl) (by exact HO4.out) (w4.heap.size + 1) (some ⟨w4.heap.size, 0, none⟩) 1 1 (entsC [(⟨xk, xs, xu, xo, xh, xv⟩, xA, xc)]) (by rfl) (by rfl) (by exact ent_lit HBL.out (by omega)) (entsC_one _) (by unfold maxLen; omega) (by omega) (by exact HB4.out.size) ?_)
          intro v' w5 hown hgr hat
          obtain ⟨A5, c5, rfl, _, _⟩ := ownShape hown
          rw [← hone, ← entsC_app] at hown
          have HO5 := Lib.hid hown
          have HB5 : Hid (Below W1.heap.size W1 w5) := Lib.hid (HB4.out.grown hgr HB4.out.size fun g h => (HO4.out.lt g h).1)
          have HBK5 := Lib.hid (HBLK.out.below HB5.out HBLK.out.lt)
          have HE5 := Lib.hid (HE.out.below HB5.out)
          have l0 := later_cell (show w5.cell? ⟨w.heap.size, 0, none⟩ = some (.string ⟨xk.toArray⟩) from HBK5.out.cell 0)
          obtain ⟨b9, o9, e9, _, hc⟩ := ents_open HE5.out.row (by omega)
          injection e9 with e9
          injection e9 with e91 e92
          subst e91; subst e92
          have y0 := (hc j hj1).1
          rw [HYJ.out] at y0
          have m0 := later_cell y0
          clear hc y0
          clear hown hgr hat HO4 HB4 t0 t1 t2 t3 t4 t5 HBK4
          go_wp2_with fail
          refine wp_region_later (by kernel_rfl) (by kernel_rfl) ?_
          repeat (go_big_quiet_step (fail))
          refine wpQuiet_nil ?_
          intro w' hw'
          obtain ⟨p, rfl⟩ := hw'
          have HO6 := Lib.hid (ownLater HO5.out p.bel)
          have HB6 := Lib.hid (HB5.out.trans (p.bel.mono HB5.out.size))
          have HE6 := Lib.hid (HE5.out.below p.bel)
          obtain ⟨w6, hw6⟩ : ∃ w6, p.world = w6 := ⟨_, rfl⟩
          rw [hw6] at HO6 HB6 HE6 ⊢
          obtain ⟨A9, hct9, hrt9⟩ := tailE _ us n c (j + 1) ((j : Int) + 1) (by omega) (by omega) HN.out HCP.out
          have hct1 := hct9 w6
          have HRT := Lib.hid (hrt9 _ _ HE6.out.row)
          clear hct9 hrt9
          have HDL : Hid (n - (j + 1) = (us.drop (j + 1)).length) := Lib.hid (by rw [List.length_drop]; have := HN.out; omega)
          clear hw6 l0
          go_wp2_with (at_builtin; refine wpList_appS (P := Tryz.prog) (by rfl) _ _ _ (by rfl) W1.heap.size 45 i0 (evV (evN [])) 6 72 Tryz.underlying33 hi0 hz0 hz1 hz2 rfl (by decide) _ (j + 1) (entsC (us.take j ++ [(⟨xk, xs, xu, xo, xh, xv⟩, xA, xc)])) (by rfl) (by exact HO6.out) w6.heap.size A9 (n - (j + 1)) (c - (j + 1)) (entsC (us.drop (j + 1))) (by rfl) (by rw [entsC_len, HDL.out]) (by exact HRT.out) (entsC_one _) (by unfold maxLen; omega) (by omega) (by exact HB6.out.size) ?_)
          intro v' w7 hown hgr hat
          obtain ⟨A7, c7, rfl, _, _⟩ := ownShape hown
          have hown2 : w7.ownsRow W1.heap.size 45 6 (.slice A7 (n) c7) (n) (entsC ((us.take j ++ [(⟨xk, xs, xu, xo, xh, xv⟩, xA, xc)]) ++ us.drop (j + 1))) := by simpa [entsC] using hown
          have HB7 : Hid (Below W1.heap.size W1 w7) := Lib.hid (HB6.out.grown hgr HB6.out.size fun g h => (HO6.out.lt g h).1)
          have HWITH : Hid (WithX us (⟨xk, xs, xu, xo, xh, xv⟩, xA, xc) T w (.returned (.slice A7 (n) c7)) w7) := Lib.hid (withX_of (W1 := W1) (x := (⟨xk, xs, xu, xo, xh, xv⟩, xA, xc)) HTT.out.symm (HBW.out.trans (HB7.out.mono HBW.out.size)) (fun _ => trivial) (fun y hy => (HE.out.val y hy).below HB7.out) (HV.out.below HB7.out) HBW.out.size (by rw [List.length_append, List.length_append, ← HN1.out, ← HDL.out, List.length_singleton]; omega) hown2)
          clear hown hown2 hgr hat
          go_wp2
          go_ret
          exact HWITH.out
        · have HTT := Lib.hid (HWP.out j (by simp; omega) (fun i hi h1 => by simpa using HBF.out i (by simpa using hi) h1) hno9 j (Or.inr ⟨rfl, fun h9 => by rw [hfst h9]; exact hkey⟩))
          have hb2 : ((⟨y.k.toArray⟩ : ByteArray).toList == (⟨xk.toArray⟩ : ByteArray).toList) = false := list_ne (fun e => hkey (by
            injection e with e
            have := congrArg Array.toList e
            simpa using this))
          have hb3 : (y.k == xk) = false := by simpa using hkey
          clear hstep hnx hkk hfst hbf hno9
          go_wp2_with fail
          refine wp_region_later (by kernel_rfl) (by kernel_rfl) ?_
          repeat (go_big_quiet_step (fail))
          refine wpQuiet_nil ?_
          intro w' hw'
          obtain ⟨p, rfl⟩ := hw'
          have HOp := Lib.hid (ownLater HO.out p.bel)
          have HBp := Lib.hid (HB.out.trans (p.bel.mono HB.out.size))
          obtain ⟨w4, hw4⟩ : ∃ w4, p.world = w4 := ⟨_, rfl⟩
          rw [hw4] at HOp HBp ⊢
          have HBK4 := Lib.hid (HBLK.out.below HBp.out HBLK.out.lt)
          have t0 : w4.cell? ⟨w.heap.size, 0, none⟩ = some (.string ⟨xk.toArray⟩) := HBK4.out.cell 0
          have t1 : w4.cell? ⟨w.heap.size, 1, none⟩ = some (.int .i64 xs) := HBK4.out.cell 1
          have t2 : w4.cell? ⟨w.heap.size, 2, none⟩ = some (.int .i64 xu) := HBK4.out.cell 2
          have t3 : w4.cell? ⟨w.heap.size, 3, none⟩ = some (.int .i64 xo) := HBK4.out.cell 3
          have t4 : w4.cell? ⟨w.heap.size, 4, none⟩ = some (.bool xh) := HBK4.out.cell 4
          have t5 : w4.cell? ⟨w.heap.size, 5, none⟩ = some (.slice xA xv.length xc) := HBK4.out.cell 5
          have hal := (Below.refl w4.heap.size w4).alloc (Nat.le_refl _) (.cells ⟨entC (⟨xk, xs, xu, xo, xh, xv⟩, xA, xc)⟩ 45)
          have HO4 := Lib.hid (ownLater HOp.out hal)
          have HBL : Hid (Blk (w4.alloc (.cells ⟨entC (⟨xk, xs, xu, xo, xh, xv⟩, xA, xc)⟩ 45)) w4.heap.size 45 ⟨entC (⟨xk, xs, xu, xo, xh, xv⟩, xA, xc)⟩) := Lib.hid (Blk.new _ _ _)
          have HB4 := Lib.hid (HBp.out.trans (hal.mono HBp.out.size))
          clear hal hw4 l0 HBK m0 HA hless
          go_wp2_with (at_builtin; refine wpList_appS (P := Tryz.prog) (by rfl) _ _ _ (by rfl) W1.heap.size 45 i0 (evV (evN [])) 6 72 Tryz.underlying33 hi0 hz0 hz1 hz2 rfl (by decide) _ j (entsC (us.take j)) (by rfl) (by exact HO4.out) (w4.heap.size + 1) (some ⟨w4.heap.size, 0, none⟩) 1 1 (entsC [(⟨xk, xs, xu, xo, xh, xv⟩, xA, xc)]) (by rfl) (by rfl) (by exact ent_lit HBL.out (by omega)) (entsC_one _) (by unfold maxLen; omega) (by omega) (by exact HB4.out.size) ?_)
          intro v' w5 hown hgr hat
          obtain ⟨A5, c5, rfl, _, _⟩ := ownShape hown
          rw [← hone, ← entsC_app] at hown
          have HO5 := Lib.hid hown
          have HB5 : Hid (Below W1.heap.size W1 w5) := Lib.hid (HB4.out.grown hgr HB4.out.size fun g h => (HO4.out.lt g h).1)
          have HBK5 := Lib.hid (HBLK.out.below HB5.out HBLK.out.lt)
          have HE5 := Lib.hid (HE.out.below HB5.out)
          have l0 := later_cell (show w5.cell? ⟨w.heap.size, 0, none⟩ = some (.string ⟨xk.toArray⟩) from HBK5.out.cell 0)
          obtain ⟨b9, o9, e9, _, hc⟩ := ents_open HE5.out.row (by omega)
          injection e9 with e9
          injection e9 with e91 e92
          subst e91; subst e92
          have y0 := (hc j hj1).1
          rw [HYJ.out] at y0
          have m0 := later_cell y0
          clear hc y0
          clear hown hgr hat HO4 HB4 t0 t1 t2 t3 t4 t5 HBK4
          go_wp2_with fail
          refine wp_region_later (by kernel_rfl) (by kernel_rfl) ?_
          repeat (go_big_quiet_step (fail))
          refine wpQuiet_nil ?_
          intro w' hw'
          obtain ⟨p, rfl⟩ := hw'
          have HO6 := Lib.hid (ownLater HO5.out p.bel)
          have HB6 := Lib.hid (HB5.out.trans (p.bel.mono HB5.out.size))
          have HE6 := Lib.hid (HE5.out.below p.bel)
          obtain ⟨w6, hw6⟩ : ∃ w6, p.world = w6 := ⟨_, rfl⟩
          rw [hw6] at HO6 HB6 HE6 ⊢
          obtain ⟨A9, hct9, hrt9⟩ := tailE _ us n c (j) (j : Int) (by omega) (by omega) HN.out HCP.out
          have hct1 := hct9 w6
          have HRT := Lib.hid (hrt9 _ _ HE6.out.row)
          clear hct9 hrt9
          have HDL : Hid (n - j = (us.drop (j)).length) := Lib.hid (by rw [List.length_drop]; have := HN.out; omega)
          clear hw6 l0
          go_wp2_with (at_builtin; refine wpList_appS (P := Tryz.prog) (by rfl) _ _ _ (by rfl) W1.heap.size 45 i0 (evV (evN [])) 6 72 Tryz.underlying33 hi0 hz0 hz1 hz2 rfl (by decide) _ (j + 1) (entsC (us.take j ++ [(⟨xk, xs, xu, xo, xh, xv⟩, xA, xc)])) (by rfl) (by exact HO6.out) w6.heap.size A9 (n - j) (c - (j)) (entsC (us.drop (j))) (by rfl) (by rw [entsC_len, HDL.out]) (by exact HRT.out) (entsC_one _) (by unfold maxLen; omega) (by omega) (by exact HB6.out.size) ?_)
          intro v' w7 hown hgr hat
          obtain ⟨A7, c7, rfl, _, _⟩ := ownShape hown
          have hown2 : w7.ownsRow W1.heap.size 45 6 (.slice A7 (j + 1 + (n - j)) c7) (j + 1 + (n - j)) (entsC ((us.take j ++ [(⟨xk, xs, xu, xo, xh, xv⟩, xA, xc)]) ++ us.drop (j))) := by simpa [entsC] using hown
          have HB7 : Hid (Below W1.heap.size W1 w7) := Lib.hid (HB6.out.grown hgr HB6.out.size fun g h => (HO6.out.lt g h).1)
          have HWITH : Hid (WithX us (⟨xk, xs, xu, xo, xh, xv⟩, xA, xc) T w (.returned (.slice A7 (j + 1 + (n - j)) c7)) w7) := Lib.hid (withX_of (W1 := W1) (x := (⟨xk, xs, xu, xo, xh, xv⟩, xA, xc)) HTT.out.symm (HBW.out.trans (HB7.out.mono HBW.out.size)) (fun _ => trivial) (fun y hy => (HE.out.val y hy).below HB7.out) (HV.out.below HB7.out) HBW.out.size (by rw [List.length_append, List.length_append, ← HN1.out, ← HDL.out, List.length_singleton]) hown2)
          clear hown hown2 hgr hat
          go_wp2
          go_ret
          exact HWITH.out
      · have hless : Op.bytesLess y.k xk = true := (less_before _ _).trans hbf
        have HST := Lib.hid (hstep hbf)
        have HNX := Lib.hid hnx
        clear hstep hnx hkk hfst hbf
        go_wp2_with fail
        refine wp_region_later (by kernel_rfl) (by kernel_rfl) ?_
        repeat (go_big_quiet_step (fail))
        refine wpQuiet_nil ?_
        intro w' hw'
        obtain ⟨p, rfl⟩ := hw'
        have hca := fun (q : Nat) (v : Value) (hv : wr.cell? ⟨b, q, none⟩ = some v) => later_cell hv p
        have a0 := hca _ _ HA.out.1
        have a1 := hca _ _ HA.out.2.1
        have a2 := hca _ _ HA.out.2.2.1
        have a3 := hca _ _ HA.out.2.2.2.1
        have a4 := hca _ _ HA.out.2.2.2.2.1
        have a5 := hca _ _ HA.out.2.2.2.2.2
        have HOp := Lib.hid (ownLater HO.out p.bel)
        have HBp := Lib.hid (HB.out.trans (p.bel.mono HB.out.size))
        obtain ⟨w4, hw4⟩ : ∃ w4, p.world = w4 := ⟨_, rfl⟩
        rw [hw4] at a0 a1 a2 a3 a4 a5 HOp HBp ⊢
        have hal := (Below.refl w4.heap.size w4).alloc (Nat.le_refl _) (.cells ⟨entC (y, yA, yc)⟩ 45)
        have HO4 := Lib.hid (ownLater HOp.out hal)
        have HBL : Hid (Blk (w4.alloc (.cells ⟨entC (y, yA, yc)⟩ 45)) w4.heap.size 45 ⟨entC (y, yA, yc)⟩) := Lib.hid (Blk.new _ _ _)
        have HB4 := Lib.hid (HBp.out.trans (hal.mono HBp.out.size))
        clear hca hal hw4 l0 m0 hless HA HBK
        go_wp2_with (at_builtin; refine wpList_appS (P := Tryz.prog) (by rfl) _ _ _ (by rfl) W1.heap.size 45 i0 (evV (evN [])) 6 72 Tryz.underlying33 hi0 hz0 hz1 hz2 rfl (by decide) _ j (entsC (us.take j)) (by rfl) (by exact HO4.out) (w4.heap.size + 1) (some ⟨w4.heap.size, 0, none⟩) 1 1 (entsC [(y, yA, yc)]) (by rfl) (by rfl) (by exact ent_lit HBL.out (by omega)) (entsC_one _) (by unfold maxLen; omega) (by omega) (by exact HB4.out.size) ?_)
        intro v' w5 hown hgr hat
        obtain ⟨A5, c5, rfl, _, _⟩ := ownShape hown
        have HO5 : Hid (w5.ownsRow W1.heap.size 45 6 (.slice A5 (j + 1) c5) (j + 1) (entsC (us.take (j + 1)))) := Lib.hid (by rw [HNX.out, entsC_app, hone]; exact hown)
        have HN5 : Hid (j + 1 = (us.take (j + 1)).length) := Lib.hid (by rw [HNX.out, List.length_append, ← HN1.out]; rfl)
        have HB5 : Hid (Below W1.heap.size W1 w5) := Lib.hid (HB4.out.grown hgr HB4.out.size fun g h => (HO4.out.lt g h).1)
        clear hown hgr hat HO4 HB4
        go_wp2
        go_roundw
        case rel => exact ⟨j + 1, A5, c5, j + 1, by omega, by go_num, rfl, HN5, HO5, HST, HB5⟩
        case measure => simp [intOf]; omega
    · obtain rfl : j = n := by omega
      have HTT := Lib.hid (HWP.out j (by simp; have := HN.out; omega) (fun i hi h1 => by simpa using HBF.out i (by simpa using hi) h1) (fun h9 => by exfalso; have := HN.out; simp at h9; omega) j (Or.inr ⟨rfl, fun h9 => by exfalso; have := HN.out; simp at h9; omega⟩))
      clear k0
      go_wp2_with fail
      refine wp_region_later (by kernel_rfl) (by kernel_rfl) ?_
      repeat (go_big_quiet_step (fail))
      refine wpQuiet_nil ?_
      intro w' hw'
      obtain ⟨p, rfl⟩ := hw'
      have HOp := Lib.hid (ownLater HO.out p.bel)
      have HBp := Lib.hid (HB.out.trans (p.bel.mono HB.out.size))
      obtain ⟨w4, hw4⟩ : ∃ w4, p.world = w4 := ⟨_, rfl⟩
      rw [hw4] at HOp HBp ⊢
      have HBK4 := Lib.hid (HBLK.out.below HBp.out HBLK.out.lt)
      have t0 : w4.cell? ⟨w.heap.size, 0, none⟩ = some (.string ⟨xk.toArray⟩) := HBK4.out.cell 0
      have t1 : w4.cell? ⟨w.heap.size, 1, none⟩ = some (.int .i64 xs) := HBK4.out.cell 1
      have t2 : w4.cell? ⟨w.heap.size, 2, none⟩ = some (.int .i64 xu) := HBK4.out.cell 2
      have t3 : w4.cell? ⟨w.heap.size, 3, none⟩ = some (.int .i64 xo) := HBK4.out.cell 3
      have t4 : w4.cell? ⟨w.heap.size, 4, none⟩ = some (.bool xh) := HBK4.out.cell 4
      have t5 : w4.cell? ⟨w.heap.size, 5, none⟩ = some (.slice xA xv.length xc) := HBK4.out.cell 5
      have hal := (Below.refl w4.heap.size w4).alloc (Nat.le_refl _) (.cells ⟨entC (⟨xk, xs, xu, xo, xh, xv⟩, xA, xc)⟩ 45)
      have HO4 := Lib.hid (ownLater HOp.out hal)
      have HBL : Hid (Blk (w4.alloc (.cells ⟨entC (⟨xk, xs, xu, xo, xh, xv⟩, xA, xc)⟩ 45)) w4.heap.size 45 ⟨entC (⟨xk, xs, xu, xo, xh, xv⟩, xA, xc)⟩) := Lib.hid (Blk.new _ _ _)
      have HB4 := Lib.hid (HBp.out.trans (hal.mono HBp.out.size))
      clear hal hw4 l0 HBK
      go_wp2_with (at_builtin; refine wpList_appS (P := Tryz.prog) (by rfl) _ _ _ (by rfl) W1.heap.size 45 i0 (evV (evN [])) 6 72 Tryz.underlying33 hi0 hz0 hz1 hz2 rfl (by decide) _ j (entsC (us.take j)) (by rfl) (by exact HO4.out) (w4.heap.size + 1) (some ⟨w4.heap.size, 0, none⟩) 1 1 (entsC [(⟨xk, xs, xu, xo, xh, xv⟩, xA, xc)]) (by rfl) (by rfl) (by exact ent_lit HBL.out (by omega)) (entsC_one _) (by unfold maxLen; omega) (by omega) (by exact HB4.out.size) ?_)
      intro v' w5 hown hgr hat
      obtain ⟨A5, c5, rfl, _, _⟩ := ownShape hown
      rw [← hone, ← entsC_app] at hown
      have HO5 := Lib.hid hown
      have HB5 : Hid (Below W1.heap.size W1 w5) := Lib.hid (HB4.out.grown hgr HB4.out.size fun g h => (HO4.out.lt g h).1)
      have HBK5 := Lib.hid (HBLK.out.below HB5.out HBLK.out.lt)
      have HE5 := Lib.hid (HE.out.below HB5.out)
      have l0 := later_cell (show w5.cell? ⟨w.heap.size, 0, none⟩ = some (.string ⟨xk.toArray⟩) from HBK5.out.cell 0)
      have hq : True := trivial
      clear hown hgr hat HO4 HB4 t0 t1 t2 t3 t4 t5 HBK4
      go_wp2_with fail
      refine wp_region_later (by kernel_rfl) (by kernel_rfl) ?_
      repeat (go_big_quiet_step (fail))
      refine wpQuiet_nil ?_
      intro w' hw'
      obtain ⟨p, rfl⟩ := hw'
      have HO6 := Lib.hid (ownLater HO5.out p.bel)
      have HB6 := Lib.hid (HB5.out.trans (p.bel.mono HB5.out.size))
      have HE6 := Lib.hid (HE5.out.below p.bel)
      obtain ⟨w6, hw6⟩ : ∃ w6, p.world = w6 := ⟨_, rfl⟩
      rw [hw6] at HO6 HB6 HE6 ⊢
      obtain ⟨A9, hct9, hrt9⟩ := tailE _ us j c (j) (j : Int) (by omega) (by omega) HN.out HCP.out
      have hct1 := hct9 w6
      have HRT := Lib.hid (hrt9 _ _ HE6.out.row)
      clear hct9 hrt9
      have HDL : Hid (0 = (us.drop (j)).length) := Lib.hid (by rw [List.length_drop]; have := HN.out; omega)
      clear hw6 l0
      go_wp2_with (at_builtin; refine wpList_appS (P := Tryz.prog) (by rfl) _ _ _ (by rfl) W1.heap.size 45 i0 (evV (evN [])) 6 72 Tryz.underlying33 hi0 hz0 hz1 hz2 rfl (by decide) _ (j + 1) (entsC (us.take j ++ [(⟨xk, xs, xu, xo, xh, xv⟩, xA, xc)])) (by rfl) (by exact HO6.out) w6.heap.size A9 (0) (c - (j)) (entsC (us.drop (j))) (by rfl) (by rw [entsC_len, HDL.out]) (by exact HRT.out) (entsC_one _) (by unfold maxLen; omega) (by omega) (by exact HB6.out.size) ?_)
      intro v' w7 hown hgr hat
      obtain ⟨A7, c7, rfl, _, _⟩ := ownShape hown
      have hown2 : w7.ownsRow W1.heap.size 45 6 (.slice A7 (j + 1) c7) (j + 1) (entsC ((us.take j ++ [(⟨xk, xs, xu, xo, xh, xv⟩, xA, xc)]) ++ us.drop (j))) := by simpa [entsC] using hown
      have HB7 : Hid (Below W1.heap.size W1 w7) := Lib.hid (HB6.out.grown hgr HB6.out.size fun g h => (HO6.out.lt g h).1)
      have HWITH : Hid (WithX us (⟨xk, xs, xu, xo, xh, xv⟩, xA, xc) T w (.returned (.slice A7 (j + 1) c7)) w7) := Lib.hid (withX_of (W1 := W1) (x := (⟨xk, xs, xu, xo, xh, xv⟩, xA, xc)) HTT.out.symm (HBW.out.trans (HB7.out.mono HBW.out.size)) (fun _ => trivial) (fun y hy => (HE.out.val y hy).below HB7.out) (HV.out.below HB7.out) HBW.out.size (by rw [List.length_append, List.length_append, ← HN1.out, ← HDL.out, List.length_singleton]) hown2)
      clear hown hown2 hgr hat
      go_wp2
      go_ret
      exact HWITH.out
end Go.Proofs.YtndbggkpobcpjaaGreat
namespace Go.Proofs.YtndbggkpobcpjaaGreat
open Go.RowKit Go.ChangeShapes Mem Be Word Frm Go.Maps
set_option maxRecDepth 100000
set_option maxHeartbeats 8000000
set_option linter.unusedVariables false
end Go.Proofs.YtndbggkpobcpjaaGreat
namespace Go.Proofs.YtndbggkpobcpjaaGreat
open Go.RowKit Go.ChangeShapes Mem Be Word Frm Go.Maps
set_option maxRecDepth 100000
set_option maxHeartbeats 4000000
set_option linter.unusedVariables false
theorem RowN.grow {F F' : Nat → Prop} {w w' : World} {A : Option Addr} {xs : List Value} (h : RowN F w A xs) (hf : ∀ k, F' k → F k ∨ w.heap.size ≤ k) (ht : Touch F w w') : RowN F' w' A xs := by
  have h2 := h.touch ht
  rcases h with h | ⟨b, o, rfl, hb, hl, hc⟩
  · exact Or.inl h
  · rcases h2 with h2 | ⟨b2, o2, e, hb2, hl2, hc2⟩
    · exact Or.inl h2
    · injection e with e
      injection e with e1 e2
      subst e1; subst e2
      refine Or.inr ⟨_, _, rfl, fun hF => ?_, hl2, hc2⟩
      rcases hf _ hF with h | h
      · exact hb h
      · omega
/-- Entries that lie in a row, apart from F. -/
structure EnN (F : Nat → Prop) (w : World) (A : Option Addr) (us : List EV) : Prop where
  row : RowN F w A (entsC us)
  val : ∀ x ∈ us, RowN F w x.2.1 (x.1.v.map byteV) ∧ x.1.v.length ≤ 60000 ∧ x.1.v.length ≤ x.2.2
theorem EnN.env {F : Nat → Prop} {w : World} {A : Option Addr} {us : List EV} (h : EnN F w A us) : EnV w A us :=
  ⟨h.row.row, fun x hx => ⟨(h.val x hx).1.row, by have := (h.val x hx).2.1; omega, (h.val x hx).2.2⟩⟩
theorem EnN.to {F F' : Nat → Prop} {w w' : World} {A : Option Addr} {us : List EV} (h : EnN F w A us) (hf : ∀ k, F' k → F k ∨ w.heap.size ≤ k) (ht : Touch F w w') : EnN F' w' A us :=
  ⟨h.row.grow hf ht, fun x hx => ⟨(h.val x hx).1.grow hf ht, (h.val x hx).2⟩⟩
theorem EnN.below {F : Nat → Prop} {w w' : World} {A : Option Addr} {us : List EV} (h : EnN F w A us) (hb : Below w.heap.size w w') : EnN F w' A us := h.to (fun k hk => Or.inl hk) (Touch.ofBelow hb)
end Go.Proofs.YtndbggkpobcpjaaGreat
namespace Go.Proofs.YtndbggkpobcpjaaGreat
open Go.RowKit Go.ChangeShapes Mem Be Word Frm Go.Maps
set_option maxRecDepth 100000
set_option maxHeartbeats 8000000
set_option linter.unusedVariables false
/-- A value of an entry, apart from F. -/
def ValN (F : Nat → Prop) (w : World) (x : EV) : Prop := RowN F w x.2.1 (x.1.v.map byteV) ∧ x.1.v.length ≤ 60000 ∧ x.1.v.length ≤ x.2.2
theorem ValN.ok {F : Nat → Prop} {w : World} {x : EV} (h : ValN F w x) : ValOk w x.1.has x.2.1 x.1.v x.2.2 := ⟨h.1.row, by have := h.2.1; omega, h.2.2⟩
theorem ValN.below {F : Nat → Prop} {w w' : World} {x : EV} (h : ValN F w x) (hb : Below w.heap.size w w') : ValN F w' x := ⟨h.1.grow (fun k hk => Or.inl hk) (Touch.ofBelow hb), h.2⟩
def WithN (F : Nat → Prop) (T : List EntP) (w : World) (e : Ending) (w' : World) : Prop :=
  ∃ (vs : List EV) (A : Option Addr) (c : Nat), vs.map Prod.fst = T ∧ e = .returned (.slice A vs.length c) ∧ vs.length ≤ c ∧ EnN F w' A vs ∧ Below w.heap.size w w'
theorem refwithN_any (w : World) (F : Nat → Prop) (hF : ∀ k, F k → k < w.heap.size) (n c : Nat) (A : Option Addr) (us : List EV) (x : EV) (hn : n = us.length) (hcp : n ≤ c) (hl : n ≤ 100000000) (h : EnN F w A us) (hs : SortT kE (us.map Prod.fst)) (hv : ValN F w x) :
    Calls Tryz.prog 53 #[.slice A n c, entV ⟨x.1.k.toArray⟩ x.1.s x.1.u x.1.o x.1.has x.2.1 x.1.v.length x.2.2] w (WithN F (putK kE (us.map Prod.fst) x.1) w) := by
  refine (refwithX_any n c A us x hn hcp hl w h.env hs hv.ok).mono ?_
  rintro e w' ⟨vs, A', c', h1, h2, h3, h4, h5, h6, h7⟩
  refine ⟨vs, A', c', h1, h2, h3, ⟨rowN_own hF h7, fun y hy => ?_⟩, h5⟩
  rcases h6 y hy with h | rfl
  · exact ValN.below (x := y) (by exact EnN.val ‹EnN F w A us› y h) h5
  · exact hv.below h5
end Go.Proofs.YtndbggkpobcpjaaGreat
namespace Go.Proofs.YtndbggkpobcpjaaGreat
open Go.RowKit Go.ChangeShapes Mem Be Word Frm Go.Maps
set_option maxRecDepth 100000
set_option maxHeartbeats 8000000
set_option linter.unusedVariables false
theorem reflayN_any (F : Nat → Prop) (n c : Nat) (A : Option Addr) (us : List EV) (x : EV) (hn : n = us.length) (hcp : n ≤ c) (hl : n ≤ 100000000) (w : World) (hF : ∀ k, F k → k < w.heap.size) (h : EnN F w A us) (hs : SortT kE (us.map Prod.fst)) (hv : ValN F w x) :
    Calls Tryz.prog 85 #[.slice A n c, entV ⟨x.1.k.toArray⟩ x.1.s x.1.u x.1.o x.1.has x.2.1 x.1.v.length x.2.2] w (WithN F (layT (us.map Prod.fst) x.1) w) := by
  obtain ⟨⟨xk, xs, xu, xo, xh, xv⟩, xA, xc⟩ := x
  simp only at hv ⊢
  obtain ⟨W1, hW1⟩ : ∃ W1, w.alloc (.cells #[.string ⟨xk.toArray⟩, .int .i64 xs, .int .i64 xu, .int .i64 xo, .bool xh, .slice xA xv.length xc] 45) = W1 := ⟨_, rfl⟩
  have hbw : Below w.heap.size w W1 := by rw [← hW1]; exact (Below.refl _ _).alloc (Nat.le_refl _) _
  have hblk : Blk W1 w.heap.size 45 #[.string ⟨xk.toArray⟩, .int .i64 xs, .int .i64 xu, .int .i64 xo, .bool xh, .slice xA xv.length xc] := by rw [← hW1]; exact Blk.new w _ _
  have HBW := Lib.hid hbw
  have HBLK := Lib.hid hblk
  have HE := Lib.hid (h.below hbw)
  have HV := Lib.hid (hv.below hbw)
  have HDR : Hid (Below W1.heap.size W1 W1.drew) := Lib.hid (Below.refl _ _).drew
  have hof : ∀ W, Below W1.heap.size W1 W → Calls Tryz.prog 13 #[.slice A n c, .string ⟨xk.toArray⟩] W (RefE (ofT (us.map Prod.fst) xk) W) := fun W hb => refof_any n c A us xk hn (by omega) W ((h.below hbw).below hb).env
  have hwi : ∀ W, Below W1.heap.size W1 W → Calls Tryz.prog 53 #[.slice A n c, .agg #[.string ⟨xk.toArray⟩, .int .i64 xs, .int .i64 xu, .int .i64 xo, .bool xh, .slice xA xv.length xc]] W (WithN F (putK kE (us.map Prod.fst) ⟨xk, xs, xu, xo, xh, xv⟩) W) := fun W hb => refwithN_any W F (fun k hk => Nat.lt_of_lt_of_le (hF k hk) (Nat.le_trans hbw.size hb.size)) n c A us (⟨xk, xs, xu, xo, xh, xv⟩, xA, xc) hn hcp hl ((h.below hbw).below hb) hs ((hv.below hbw).below hb)
  have hst : ∀ W, Below W1.heap.size W1 W → WithN F (us.map Prod.fst) w (.returned (.slice A n c)) W := fun W hb => ⟨us, A, c, rfl, by rw [hn], by omega, (h.below hbw).below hb, hbw.trans (hb.mono hbw.size)⟩
  have HST := Lib.hid hst
  have HWI := Lib.hid hwi
  obtain ⟨T, hT⟩ : ∃ T, layT (us.map Prod.fst) ⟨xk, xs, xu, xo, xh, xv⟩ = T := ⟨_, rfl⟩
  rw [hT]
  unfold layT at hT
  simp only at hT
  obtain ⟨R, hR⟩ : ∃ R, ofT (us.map Prod.fst) xk = R := ⟨_, rfl⟩
  rw [hR] at hT hof
  have HOF := Lib.hid hof
  have hkR : R.k = xk := by rw [← hR]; exact ofT_key _ _
  unfold cmpE at hT
  simp only at hT
  obtain ⟨cc, hcc⟩ : ∃ q, cmpT xs xu xo R.s R.u R.o = q := ⟨_, rfl⟩
  rw [hcc] at hT
  have HCC := Lib.hid hcc
  have HTT := Lib.hid hT
  have HSK : Hid (∀ W' : World, Below W1.heap.size W1 W' → W'.cell? ⟨w.heap.size, 0, none⟩ = some (.string ⟨xk.toArray⟩) ∧ W'.cell? ⟨w.heap.size, 1, none⟩ = some (.int .i64 xs) ∧ W'.cell? ⟨w.heap.size, 2, none⟩ = some (.int .i64 xu) ∧ W'.cell? ⟨w.heap.size, 3, none⟩ = some (.int .i64 xo)) := Lib.hid fun W' hw => by
    have hb := hblk.below hw hblk.lt
    exact ⟨hb.cell 0, hb.cell 1, hb.cell 2, hb.cell 3⟩
  have s0 : W1.cell? ⟨w.heap.size, 0, none⟩ = some (.string ⟨xk.toArray⟩) := hblk.cell 0
  have s1 : W1.cell? ⟨w.heap.size, 1, none⟩ = some (.int .i64 xs) := hblk.cell 1
  have s2 : W1.cell? ⟨w.heap.size, 2, none⟩ = some (.int .i64 xu) := hblk.cell 2
  have s3 : W1.cell? ⟨w.heap.size, 3, none⟩ = some (.int .i64 xo) := hblk.cell 3
  clear h hn hcp hl hs hv hbw hblk hof hwi hst hT hR hcc hkR
  unfold entV
  go_enter Tryz.func85, Tryz.ntmps85
  go_wp2_with fail
  go_region_held3 (fun w' => w'.cell? ⟨w.heap.size, 0, none⟩ = some (.string ⟨xk.toArray⟩) ∧ w'.cell? ⟨w.heap.size, 1, none⟩ = some (.int .i64 xs) ∧ w'.cell? ⟨w.heap.size, 2, none⟩ = some (.int .i64 xu) ∧ w'.cell? ⟨w.heap.size, 3, none⟩ = some (.int .i64 xo))
    (first | go_keep | exact HSK.out _ HWD.out | exact HSK.out _ HWC.out)
    (first
      | (go_at_call 13; refine (HOF.out _ HDR.out).mono ?_; rintro e w3 ⟨A3, c3, rfl, _, hb⟩; (have HWC : Hid (Below W1.heap.size W1 w3) := Lib.hid (HDR.out.trans (hb.mono HDR.out.size))); (have hfld := field_tag ⟨R.k.toArray⟩ R.s R.u R.o R.has A3 R.v.length c3); clear hb)
      | (go_at_call 50; refine (refcompare_val _ _ _ _ _ _ _ HCC _).mono ?_; rintro e w4 ⟨rfl, hb⟩; (have HWD : Hid (Below W1.heap.size W1 w4) := Lib.hid (HWC.out.trans (hb.mono HWC.out.size))); clear hb))
  by_cases hlt : cc < 0
  · go_wp2
    go_ret
    have e := HTT.out
    rw [if_pos hlt] at e
    rw [← e]
    exact HST.out _ HWD.out
  · have hge : 0 ≤ cc := by omega
    have HTE : Hid (putK kE (us.map Prod.fst) ⟨xk, xs, xu, xo, xh, xv⟩ = T) := Lib.hid (by have e := HTT.out; rw [if_neg hlt] at e; exact e)
    have HB4 := Lib.hid (HBLK.out.below HWD.out HBLK.out.lt)
    have t0 : w4.cell? ⟨w.heap.size, 0, none⟩ = some (.string ⟨xk.toArray⟩) := HB4.out.cell 0
    have t1 : w4.cell? ⟨w.heap.size, 1, none⟩ = some (.int .i64 xs) := HB4.out.cell 1
    have t2 : w4.cell? ⟨w.heap.size, 2, none⟩ = some (.int .i64 xu) := HB4.out.cell 2
    have t3 : w4.cell? ⟨w.heap.size, 3, none⟩ = some (.int .i64 xo) := HB4.out.cell 3
    have t4 : w4.cell? ⟨w.heap.size, 4, none⟩ = some (.bool xh) := HB4.out.cell 4
    have t5 : w4.cell? ⟨w.heap.size, 5, none⟩ = some (.slice xA xv.length xc) := HB4.out.cell 5
    clear hlt
    go_wp2_with fail
    refine (HWI.out _ HWD.out).mono ?_
    rintro e w5 ⟨vs, A5, c5, hvs, rfl, hc5, he5, hb5⟩
    have HR5 : Hid (WithN F T w (.returned (.slice A5 vs.length c5)) w5) := Lib.hid ⟨vs, A5, c5, hvs.trans HTE.out, rfl, hc5, he5, (HBW.out.trans (HWD.out.mono HBW.out.size)).trans (hb5.mono (Nat.le_trans HBW.out.size HWD.out.size))⟩
    clear hvs hc5 he5 hb5
    go_wp2
    go_ret
    exact HR5.out
end Go.Proofs.YtndbggkpobcpjaaGreat
