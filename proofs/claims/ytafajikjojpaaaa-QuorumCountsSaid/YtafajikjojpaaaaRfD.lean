/- The document's own answers (4): the points of a ring, each laid at its place. -/
import Derived.Test.YtafajikjojpaaaaRfA
import Derived.Deep.RegionHeld3
namespace Go.Proofs.Ytafajikjojpaaaa
open Go.RowKit Mem Rg
set_option maxRecDepth 100000
set_option maxHeartbeats 8000000
set_option linter.unusedVariables false
theorem cutP (W : World) (A : Option Addr) (n c k : Nat) (h : k ≤ n) : (Instr.slice 69 (.slice A n c) (some (.int .i64 (k : Int))) none none).run Try.prog W = .ok (.slice (if c = k then A else A.map (·.add (k * 2))) (n - k) (c - k)) W := by
  obtain ⟨i, hi, hz, hz1, hz2⟩ := info_parts info_p
  simp [Instr.slice, run_underlying Try.underlying69, Instr.sliceBounds, Instr.sliceBound, asIntOf, sizeOf, typeInfo, hi, hz1, h]
theorem rowP_tail {w : World} {B : Nat} {A : Option Addr} {rs : List Pt} {c k : Nat} (h : Row w B A (ptsC rs)) (hc : rs.length ≤ c) (hk : k ≤ rs.length) : Row w B (if c = k then A else A.map (·.add (k * 2))) (ptsC (rs.drop k)) := by
  rcases Nat.lt_or_ge k rs.length with hlt | hge
  · obtain ⟨b, o, rfl, hb, hcell⟩ := h.open_ (by rw [ptsC_len]; omega)
    rw [if_neg (by omega)]
    have e : (some (⟨b, o, none⟩ : Addr)).map (·.add (k * 2)) = some ⟨b, o + k * 2, none⟩ := by
      show some ((⟨b, o, none⟩ : Addr).add (k * 2)) = _
      unfold Addr.add
      split
      · rename_i h0
        rw [h0]; rfl
      · rfl
    rw [e]
    refine Or.inr ⟨b, o + k * 2, rfl, hb, fun j hj => ?_⟩
    have hd : ptsC rs = ptsC (rs.take k) ++ ptsC (rs.drop k) := by rw [← ptsC_app, List.take_append_drop]
    have hl : (ptsC (rs.take k)).length = k * 2 := by rw [ptsC_len, List.length_take]; congr 1; omega
    rw [ptsC_len, List.length_drop] at hj
    have := hcell (k * 2 + j) (by rw [ptsC_len]; omega)
    rw [Nat.add_assoc, this]
    congr 1
    simp only [hd]
    rw [List.getElem_append_right (by omega)]
    congr 1
    omega
  · rw [List.drop_of_length_le hge]; exact Row.nil _ _ _
theorem cutPh (W : World) (A : Option Addr) (n c k : Nat) (h : k ≤ c) : (Instr.slice 69 (.slice A n c) none (some (.int .i64 (k : Int))) none).run Try.prog W = .ok (.slice A k c) W := by
  obtain ⟨i, hi, hz, hz1, hz2⟩ := info_parts info_p
  have hA : (if c = 0 then A else Option.map (fun x => x.add (0 * 2)) A) = A := by
    split
    · rfl
    · cases A <;> simp [add_zero']
  simp [Instr.slice, run_underlying Try.underlying69, Instr.sliceBounds, Instr.sliceBound, asIntOf, sizeOf, typeInfo, hi, h]
  simpa using hA
theorem ptsC_take (rs : List Pt) (k : Nat) : ptsC (rs.take k) = (ptsC rs).take (k * 2) := by
  induction rs generalizing k with
  | nil => simp [ptsC]
  | cons r rs ih =>
    rcases k with _ | k
    · simp [ptsC]
    · have h1 : ptsC ((r :: rs).take (k + 1)) = ptC r ++ ptsC (rs.take k) := rfl
      have h2 : ptsC (r :: rs) = ptC r ++ ptsC rs := rfl
      have h3 : (ptC r).length = 2 := rfl
      rw [h1, h2, ih, show (k + 1) * 2 = (ptC r).length + k * 2 by omega, List.take_length_add_append]
theorem rowP_take {w : World} {B : Nat} {A : Option Addr} {rs : List Pt} (h : Row w B A (ptsC rs)) (k : Nat) : Row w B A (ptsC (rs.take k)) := by
  rw [ptsC_take]; exact take_row h _
theorem cell_alloc9 {w : World} {b i : Nat} {v : Value} (o : Obj) (h : w.cell? ⟨b, i, none⟩ = some v) : (w.alloc o).cell? ⟨b, i, none⟩ = some v := by
  rw [World.cell?_alloc_lt w o ⟨b, i, none⟩ (by have := block_lt h; simpa using this)]; exact h
theorem far2c {w : World} {b i g : Nat} {x : Option Value} {u0 u1 : Value} (h : w.cell? ⟨b, i, none⟩ = x) (hb : b ≠ g) : ((w.setCell ⟨g, 0, none⟩ u0).setCell ⟨g, 1, none⟩ u1).cell? ⟨b, i, none⟩ = x := by
  have hk : ((w.setCell ⟨g, 0, none⟩ u0).setCell ⟨g, 1, none⟩ u1).heap[b]? = w.heap[b]? :=
    (Below.heap_setCell _ ⟨g, 1, none⟩ u1 b hb).trans (Below.heap_setCell _ ⟨g, 0, none⟩ u0 b hb)
  exact (World.cell?_of_block (a := ⟨b, i, none⟩) hk).trans h
theorem blkSet2 {W : World} {g : Nat} {t : TypeId} {a b : Value} (h : Blk W g t #[a, b]) (x y : Value) : Blk ((W.setCell ⟨g, 0, none⟩ x).setCell ⟨g, 1, none⟩ y) g t #[x, y] := by
  have := (h.set_ 0 x).set_ 1 y
  simpa using this
/-- Where a point is to be laid. -/
def placeP (p : Pt) : List Pt → Nat
  | [] => 0
  | q :: l => if ltB q p = true then placeP p l + 1 else 0
theorem placeP_le (p : Pt) : ∀ l : List Pt, placeP p l ≤ l.length
  | [] => Nat.le_refl _
  | q :: l => by
    have := placeP_le p l
    unfold placeP
    split
    · simp; omega
    · exact Nat.zero_le _
theorem placeP_lt (p : Pt) : ∀ (l : List Pt) (j : Nat) (hj : j < l.length), j < placeP p l → ltB l[j] p = true
  | [], j, hj, _ => absurd hj (Nat.not_lt_zero _)
  | q :: l, j, hj, h => by
    unfold placeP at h
    split at h
    · rename_i e
      rcases j with _ | j
      · exact e
      · exact placeP_lt p l j (by simpa using hj) (by omega)
    · exact absurd h (Nat.not_lt_zero _)
theorem placeP_ge (p : Pt) : ∀ (l : List Pt) (k : Nat) (h : k < l.length), k = placeP p l → ltB l[k] p = false
  | [], k, h, _ => absurd h (Nat.not_lt_zero _)
  | q :: l, k, h, hk => by
    unfold placeP at hk
    split at hk
    · subst hk
      exact placeP_ge p l _ (by simpa using h) rfl
    · rename_i e
      subst hk
      simpa using e
theorem insP_place (p : Pt) (l : List Pt) : insP p l = if l[placeP p l]? = some p then l else l.take (placeP p l) ++ p :: l.drop (placeP p l) :=
  insP_at p l _ (placeP_le p l) (fun j hj h => by have := placeP_lt p l j hj h; unfold ltB at this; simpa using this) (fun h => by have := placeP_ge p l _ h rfl; unfold ltB at this; simpa using this)
instance laterNonempty9 (w : World) : Nonempty (Later w) := ⟨⟨w, Below.refl _ _⟩⟩
theorem refless_true {p q : Pt} (h : ltB p q = true) (w : World) : Calls Try.prog 57 #[.agg #[.int .u64 (p.1 : Int), .int .i64 p.2], .agg #[.int .u64 (q.1 : Int), .int .i64 q.2]] w fun e w' => e = .returned (.bool true) ∧ Below w.heap.size w w' := by
  have := refless_any p q w
  rw [h] at this
  exact this
theorem refless_false {p q : Pt} (h : ltB p q = false) (w : World) : Calls Try.prog 57 #[.agg #[.int .u64 (p.1 : Int), .int .i64 p.2], .agg #[.int .u64 (q.1 : Int), .int .i64 q.2]] w fun e w' => e = .returned (.bool false) ∧ Below w.heap.size w w' := by
  have := refless_any p q w
  rw [h] at this
  exact this
/-- Points that are only read. -/
def PtsR (l : List Pt) (v : Value) (w : World) : Prop := ∃ A c, v = .slice A l.length c ∧ Row w w.heap.size A (ptsC l) ∧ l.length ≤ c
theorem ptsR_below {l : List Pt} {v : Value} {w w' : World} (h : PtsR l v w) (hb : Below w.heap.size w w') : PtsR l v w' := by
  obtain ⟨A, c, hv, hr, hc⟩ := h
  exact ⟨A, c, hv, (hr.below hb).more hb.size, hc⟩
theorem refpoints_ok (A : Option Addr) (n c : Nat) (ns : List Int) (e k : Nat) (hn : n = ns.length) (ok : OkR ns e k) (w : World) (h : Row w w.heap.size A (ns.map iV)) :
    Calls Try.prog 46 #[.agg #[.slice A n c, .int .i64 (e : Int), .int .i64 (k : Int)]] w fun x w' => ∃ A c, x = .returned (.slice A (ptsP fP ns e).length c) ∧ Row w' w'.heap.size A (ptsC (ptsP fP ns e)) ∧ Below w.heap.size w w' := by
  obtain ⟨i0, hi0, hz0, hz1, hz2⟩ := info_parts info_p
  obtain ⟨o1, o2, o3, o4, o5, o6, o7, o8⟩ := ok
  have HROW0 := Lib.hid h
  have HN := Lib.hid hn
  have hn1 : (n : Int) ≤ 64 := by omega
  have he1 : (e : Int) ≤ 64 := by omega
  have HTOT : Hid (∀ q j, q < n → j ≤ e → (foldP [] (rawP fP (ns.take q) e ++ (ofNode fP (ns.getD q 0) e).take j)).length ≤ 4096) := Lib.hid fun q j hq hj => by
    have h1 := foldP_len (rawP fP (ns.take q) e ++ (ofNode fP (ns.getD q 0) e).take j) []
    rw [List.length_append, rawP_len, List.length_take, List.length_take, ofNode_len] at h1
    have h2 : min q ns.length * e ≤ 63 * 64 := Nat.mul_le_mul (by omega) (by omega)
    simp only [List.length_nil] at h1
    omega
  have hb0 : Below w.heap.size w (w.alloc (.cells #[.slice A n c, .int .i64 (e : Int), .int .i64 (k : Int)] 30)) := (Below.refl _ _).alloc (Nat.le_refl _) _
  have hk0 : Blk (w.alloc (.cells #[.slice A n c, .int .i64 (e : Int), .int .i64 (k : Int)] 30)) w.heap.size 30 #[.slice A n c, .int .i64 (e : Int), .int .i64 (k : Int)] := Blk.new _ _ _
  have HB0 := Lib.hid hb0
  have HK0 := Lib.hid hk0
  clear h hn o1 o2 o3 o4 o5 o6 o7 o8 hb0 hk0
  go_enter Try.func46, Try.ntmps46
  go_wp2
  go_loopw [3, 4] (fun v i wr => ∃ q : Nat, q ≤ n ∧ i = .int .i64 q ∧ Hid (PtsR (foldP [] (rawP fP (ns.take q) e)) v wr) ∧ Hid (Below w.heap.size w wr) ∧ Hid (Blk wr w.heap.size 30 #[.slice A n c, .int .i64 (e : Int), .int .i64 (k : Int)])) (fun _ i _ => n - (intOf i).toNat)
  case atStart => exact ⟨0, by omega, rfl, Lib.hid ⟨none, 0, rfl, Row.nil _ _ _, Nat.le_refl _⟩, HB0, HK0⟩
  case round =>
    obtain ⟨q, hq, rfl, HO, HB, HK⟩ := hrel
    by_cases hlt : q < n
    · have hql : q < ns.length := by have := HN.out; omega
      have hsn := rawP_snoc fP ns e q hql
      have hgd : ns.getD q 0 = ns[q] := by rw [List.getD_eq_getElem?_getD, List.getElem?_eq_getElem hql]; rfl
      have HT2 := Lib.hid (HTOT.out q)
      rw [hgd] at HT2
      obtain ⟨x, hx⟩ : ∃ x, ns[q] = x := ⟨_, rfl⟩
      rw [hx] at hsn HT2
      have HX := Lib.hid hx
      have HSN := Lib.hid hsn
      have d0 : wr.cell? ⟨w.heap.size, 0, none⟩ = some (.slice A n c) := HK.out.cell 0
      have hq0 : (0 : Int) ≤ (q : Int) := by omega
      have hq1 : (q : Int) < (n : Int) := by omega
      clear hsn hgd hx
      go_wp2
      clear d0
      go_loopw [3, 5] (fun v i wr2 => ∃ j : Nat, j ≤ e ∧ i = .int .i64 j ∧ Hid (PtsR (foldP [] (rawP fP (ns.take q) e ++ (ofNode fP x e).take j)) v wr2) ∧ Hid (Below w.heap.size w wr2) ∧ Hid (Blk wr2 w.heap.size 30 #[.slice A n c, .int .i64 (e : Int), .int .i64 (k : Int)])) (fun _ i _ => e - (intOf i).toNat)
      case atStart => exact ⟨0, by omega, rfl, Lib.hid (by rw [List.take_zero, List.append_nil]; exact HO.out), HB, HK⟩
      case round =>
        obtain ⟨j, hj, rfl, HO2, HB2, HK2⟩ := hrel
        have d0 : wr.cell? ⟨w.heap.size, 0, none⟩ = some (.slice A n c) := HK2.out.cell 0
        have d1 : wr.cell? ⟨w.heap.size, 1, none⟩ = some (.int .i64 (e : Int)) := HK2.out.cell 1
        by_cases hje : j < e
        · obtain ⟨b, o, rfl, hbw, hc⟩ := int_cell (HROW0.out.below HB2.out) (by have := HN.out; omega)
          have hcq := hc q hql
          rw [HX.out] at hcq
          have hsn := ofNode_at fP x e j hje
          have HLL := Lib.hid (HT2.out j hlt (by omega))
          obtain ⟨p, hp⟩ : ∃ p, fP x j = p := ⟨_, rfl⟩
          rw [hp] at hsn
          obtain ⟨R, hR⟩ : ∃ R, rawP fP (ns.take q) e ++ (ofNode fP x e).take j = R := ⟨_, rfl⟩
          have HNEXT : Hid (foldP [] (rawP fP (ns.take q) e ++ (ofNode fP x e).take (j + 1)) = insP (p, x) (foldP [] R)) := Lib.hid (by rw [hsn, ← List.append_assoc, hR, foldP_snoc])
          rw [hR] at HO2 HLL
          obtain ⟨L, hL⟩ : ∃ L, foldP [] R = L := ⟨_, rfl⟩
          rw [hL] at HO2 HLL HNEXT
          have HP := Lib.hid hp
          have hsz2 : w.heap.size < wr.heap.size := HK2.out.lt
          have hj0 : (0 : Int) ≤ (j : Int) := by omega
          have hj1 : (j : Int) < (e : Int) := by omega
          have hrp := fun W => refpoint_any x (j : Int) W
          rw [show pointN x (j : Int) = p from hp] at hrp
          have HRP := Lib.hid hrp
          clear hp hR hL hsn hc hrp
          go_wp2_with fail
          go_region_held3 (fun w' => w'.cell? ⟨w.heap.size, 0, none⟩ = some (.slice (some ⟨b, o, none⟩) n c) ∧ w'.cell? ⟨b, o + q, none⟩ = some (.int .i64 x))
            (first | with_reducible exact ⟨d0, hcq⟩ | with_reducible exact ⟨f0, f1⟩ | with_reducible exact ⟨cell_alloc9 _ d0, cell_alloc9 _ hcq⟩ | with_reducible exact ⟨cell_alloc9 _ f0, cell_alloc9 _ f1⟩ | with_reducible exact ⟨far2c f0 (by omega), far2c f1 (by omega)⟩ | go_keep)
            ((go_at_call 56; refine (HRP.out _).mono ?_; rintro e2 w2 ⟨rfl, hb2⟩; (have HB3 : Hid (Below wr.heap.size wr w2) := Lib.hid (by first | exact Below.trans (by exact ⟨rfl, rfl, rfl, Nat.le_refl _, fun _ _ => rfl⟩) hb2 | exact Below.trans (((Below.refl _ _).alloc (Nat.le_refl _) _).drew) (hb2.mono (by simp)))); (have f0 : w2.cell? ⟨w.heap.size, 0, none⟩ = some (.slice (some ⟨b, o, none⟩) n c) := (HK2.out.below HB3.out HK2.out.lt).cell 0); (have f1 : w2.cell? ⟨b, o + q, none⟩ = some (.int .i64 x) := (HB3.out.cell (p := ⟨b, o + q, none⟩) (Nat.lt_of_lt_of_le hbw HB2.out.size)).trans hcq); (try (have HZ2 : Hid (Blk w2 wr.heap.size 77 #[.int .u64 0, .int .i64 0]) := Lib.hid (Blk.below (Blk.new wr _ _).drew hb2 (by simp)))); (try (have z0 : w2.cell? ⟨wr.heap.size, 0, none⟩ = some (.int .u64 0) := HZ2.out.cell 0)); (try (have z1 : w2.cell? ⟨wr.heap.size, 1, none⟩ = some (.int .i64 0) := HZ2.out.cell 1)); (try (have y0 := HZ2.out.frozen 0)); (try (have y1 := HZ2.out.frozen 1)); clear hb2))
          · have HBW : Hid (Below wr.heap.size wr (w2.alloc (.cells #[.int .u64 (p : Int), .int .i64 x] 77))) := Lib.hid (HB3.out.alloc HB3.out.size _)
            have HKP : Hid (Blk (w2.alloc (.cells #[.int .u64 (p : Int), .int .i64 x] 77)) w2.heap.size 77 #[.int .u64 (p : Int), .int .i64 x]) := Lib.hid (Blk.new _ _ _)
            clear f0 f1
            generalize w2.alloc (.cells #[.int .u64 (p : Int), .int .i64 x] 77) = W' at HBW HKP ⊢
            generalize w2.heap.size = GG at HKP ⊢
            have HKQ0 : Hid (Blk W' w.heap.size 30 #[.slice (some ⟨b, o, none⟩) n c, .int .i64 (e : Int), .int .i64 (k : Int)]) := Lib.hid (HK2.out.below HBW.out HK2.out.lt)
            have HBQ0 : Hid (Below w.heap.size w W') := Lib.hid (HB2.out.trans (HBW.out.mono HB2.out.size))
            have HOQ0 := Lib.hid (ptsR_below HO2.out HBW.out)
            clear d0 d1 hcq hsz2
            obtain ⟨A2, c2, hv2, hr2, hc2⟩ := HOQ0.out
            have HR2 := Lib.hid hr2
            have HLC := Lib.hid hc2
            obtain ⟨m, hm⟩ : ∃ m, placeP (p, x) L = m := ⟨_, rfl⟩
            have HM : Hid (m ≤ L.length) := Lib.hid (by rw [← hm]; exact placeP_le _ _)
            have HPLT : Hid (∀ t (ht : t < L.length), t < m → ltB L[t] (p, x) = true) := Lib.hid fun t ht h => placeP_lt _ L t ht (by rw [hm]; exact h)
            have HPGE : Hid (∀ h : m < L.length, ltB L[m] (p, x) = false) := Lib.hid fun h => placeP_ge _ L m h hm.symm
            have HINS : Hid (insP (p, x) L = if L[m]? = some (p, x) then L else L.take m ++ (p, x) :: L.drop m) := Lib.hid (by rw [insP_place, hm])
            have hLl : (L.length : Int) ≤ 4096 := by have := HLL.out; omega
            clear hm hr2 hc2 HO2 HOQ0
            subst hv2
            go_wp2
            go_loopw [7] (fun i w3 => ∃ t : Nat, t ≤ m ∧ i = .int .i64 t ∧ Hid (Below W'.heap.size W' w3)) (fun i _ => m - (intOf i).toNat)
            case atStart => exact ⟨0, by omega, rfl, Lib.hid (Below.refl _ _)⟩
            case round =>
              obtain ⟨t, ht, rfl, HB3⟩ := hrel
              have HR3 := Lib.hid ((HR2.out.below HB3.out).more HB3.out.size)
              have HKP3 := Lib.hid (HKP.out.below HB3.out HKP.out.lt)
              have p0 := later_blk_cell HKP3.out 0 (.int .u64 (p : Int)) rfl
              have p1 := later_blk_cell HKP3.out 1 (.int .i64 x) rfl
              have ht0 : (0 : Int) ≤ (t : Int) := by omega
              by_cases htm : t < m
              · have htl : t < L.length := by have := HM.out; omega
                have HLT := Lib.hid (HPLT.out t htl htm)
                obtain ⟨b4, o4, rfl, _, hc4⟩ := pts_open HR3.out (by omega)
                obtain ⟨a0, a1⟩ := hc4 t htl
                obtain ⟨⟨y0, y1⟩, hy⟩ : ∃ y, L[t] = y := ⟨_, rfl⟩
                rw [hy] at a0 a1 HLT
                simp only at a0 a1
                have l0 := later_cell a0
                have l1 := later_cell a1
                have htz : (t : Int) < (L.length : Int) := by omega
                clear hc4 a0 a1 hy
                go_wp2_with fail
                refine wp_region_later (by kernel_rfl) (by kernel_rfl) ?_
                repeat (go_big_quiet_step (first | (go_at_call 57; exact later_of (refless_true (p := (y0, y1)) (q := (p, x)) HLT.out _))))
                refine wpQuiet_nil ?_
                intro w' hw'
                obtain ⟨p9, rfl⟩ := hw'
                go_wp2
                go_roundw
                case rel => exact ⟨t + 1, by omega, by go_num, Lib.hid (HB3.out.trans (p9.bel.mono HB3.out.size))⟩
                case measure => simp [intOf]; omega
              · obtain rfl : t = m := by omega
                clear htm
                by_cases htl : t < L.length
                · have HLT := Lib.hid (HPGE.out htl)
                  obtain ⟨b4, o4, hA4, hb4, hc4⟩ := pts_open HR3.out (by omega)
                  have HA4 := Lib.hid hA4
                  obtain ⟨a0, a1⟩ := hc4 t htl
                  have HGET : Hid (L[t]? = some L[t]) := Lib.hid (List.getElem?_eq_getElem htl)
                  obtain ⟨⟨y0, y1⟩, hy⟩ : ∃ y, L[t] = y := ⟨_, rfl⟩
                  rw [hy] at a0 a1 HLT HGET
                  simp only at a0 a1
                  have l0 := later_cell a0
                  have l1 := later_cell a1
                  have htz : (t : Int) < (L.length : Int) := by omega
                  clear hc4 hy
                  subst hA4
                  go_wp2_with fail
                  refine wp_region_later (by kernel_rfl) (by kernel_rfl) ?_
                  repeat (go_big_quiet_step (first | (go_at_call 57; exact later_of (refless_false (p := (y0, y1)) (q := (p, x)) HLT.out _))))
                  refine wpQuiet_nil ?_
                  intro w' hw'
                  obtain ⟨p9, rfl⟩ := hw'
                  have a0' := l0 p9
                  have a1' := l1 p9
                  have p0' := p0 p9
                  have p1' := p1 p9
                  have HBT : Hid (Below W'.heap.size W' p9.world) := Lib.hid (HB3.out.trans (p9.bel.mono HB3.out.size))
                  have HR4 := Lib.hid ((HR3.out.below p9.bel).more p9.bel.size)
                  have HKP4 := Lib.hid (later_blk HKP3.out p9)
                  have HKQ4 := Lib.hid (HKQ0.out.below HBT.out HKQ0.out.lt)
                  have HBQ4 := Lib.hid (HBQ0.out.trans (HBT.out.mono HBQ0.out.size))
                  clear l0 l1 p0 p1 a0 a1
                  generalize p9.world = WQ at a0' a1' p0' p1' HBT HR4 HKP4 HKQ4 HBQ4 ⊢
                  clear p9 HR3 HKP3
                  have HR3 := HR4
                  have HKP3 := HKP4
                  have HKQ := HKQ4
                  have HBQ := HBQ4
                  by_cases heq : y0 = p ∧ y1 = x
                  · have e0 : ((y0 : Int) == (p : Int)) = true := by simp; omega
                    have e1 : (y1 == x) = true := by simp; omega
                    have HFIN : Hid (PtsR (foldP [] (rawP fP (ns.take q) e ++ (ofNode fP x e).take (j + 1))) (.slice (some ⟨b4, o4, none⟩) L.length c2) WQ) := Lib.hid (by
                      rw [HNEXT.out, HINS.out, if_pos (by rw [HGET.out, heq.1, heq.2])]
                      exact ⟨_, c2, rfl, HR3.out, HLC.out⟩)
                    clear heq
                    go_wp2
                    go_quiet (fail)
                    go_wp2
                    go_roundw
                    case rel => exact ⟨j + 1, by omega, by go_num, Lib.hid (ptsR_below HFIN.out (below_drew' _ _ _)), Lib.hid (HBQ.out.trans (below_drew' _ _ _)), Lib.hid (HKQ.out.drewN _)⟩
                    case measure => simp [intOf]; omega
                  · have HNEQ : Hid (L[t]? ≠ some (p, x)) := Lib.hid (by
                      rw [HGET.out]
                      intro h
                      injection h with h
                      injection h with h1 h2
                      exact heq ⟨h1, h2⟩)
                    by_cases hy0 : y0 = p
                    · have e0 : ((y0 : Int) == (p : Int)) = true := by simp; omega
                      have e1 : (y1 == x) = false := by simp; omega
                      clear heq hy0
                      go_wp2
                      go_quiet (fail)
                      clear a0' a1' p0' p1'
                      have HX : Hid (Row (WQ.drewN nq) (WQ.drewN nq).heap.size (some ⟨b4, o4, none⟩) (ptsC L) ∧ Blk (WQ.drewN nq) GG 77 #[.int .u64 (p : Int), .int .i64 x] ∧ Blk (WQ.drewN nq) w.heap.size 30 #[.slice (some ⟨b, o, none⟩) n c, .int .i64 (e : Int), .int .i64 (k : Int)] ∧ Below w.heap.size w (WQ.drewN nq)) := Lib.hid ⟨HR3.out.drewN nq, HKP3.out.drewN nq, HKQ.out.drewN nq, (HBQ.out).trans (below_drew' _ _ _)⟩
                      clear HR3 HKP3 HKQ HBQ
                      generalize WQ.drewN nq = WR at HX ⊢
                      have HR3 := Lib.hid HX.out.1
                      have HKP3 := Lib.hid HX.out.2.1
                      have HKQ := Lib.hid HX.out.2.2.1
                      have HBQ := Lib.hid HX.out.2.2.2
                      clear HX
                      have HCUTH := Lib.hid (rowP_take HR3.out t)
                      have HCUTL := Lib.hid (rowP_tail HR3.out HLC.out HM.out)
                      have cut1 := fun W => cutPh W (some ⟨b4, o4, none⟩) L.length c2 t (by have := HLC.out; have := HM.out; omega)
                      have cut2 := fun W => cutP W (some ⟨b4, o4, none⟩) L.length c2 t (by have := HM.out; omega)
                      obtain ⟨A3, hA3⟩ : ∃ A3 : Option Addr, (if c2 = t then ((some ⟨b4, o4, none⟩) : Option Addr) else ((some ⟨b4, o4, none⟩) : Option Addr).map (·.add (t * 2))) = A3 := ⟨_, rfl⟩
                      rw [hA3] at HCUTL cut2
                      clear hA3
                      go_wp2_with (at_builtin; refine wpList_appS rfl _ _ 69 rfl WR.heap.size 77 i0 _ 2 16 Try.underlying69 hi0 hz0 hz1 hz2 rfl (by decide) (.slice none 0 0) 0 (ptsC []) rfl (World.ownsRow_nil _ _ _ _) WR.heap.size (some ⟨b4, o4, none⟩) t c2 (ptsC (L.take t)) rfl (by rw [ptsC_len, List.length_take]; have := HM.out; congr 1; omega) HCUTH.out (ptsC_one _) (by have := HM.out; have := HLL.out; unfold maxLen; omega) (by have := HM.out; have := HLL.out; omega) (Nat.le_refl _) ?_)
                      intro v1 w5 hown1 hgr1 _
                      have hb5 : Below WR.heap.size WR w5 := Below.grown (Below.refl _ _) hgr1 (Nat.le_refl _) (fun g hg => by cases hg)
                      have HO5 : Hid (OwnP WR.heap.size (L.take t) v1 w5) := Lib.hid (by
                        unfold OwnP
                        have e : (L.take t).length = t := by rw [List.length_take]; have := HM.out; omega
                        rw [e]
                        first
                          | exact hown1
                          | (have h2 := hown1; rw [Nat.zero_add] at h2; exact h2))
                      have HB5 := Lib.hid hb5
                      have HKP5 := Lib.hid (HKP3.out.below hb5 HKP3.out.lt)
                      have k0 : w5.cell? ⟨GG, 0, none⟩ = some (.int .u64 (p : Int)) := HKP5.out.cell 0
                      have k1 : w5.cell? ⟨GG, 1, none⟩ = some (.int .i64 x) := HKP5.out.cell 1
                      have HTL : Hid ((L.take t).length = t) := Lib.hid (by rw [List.length_take]; have := HM.out; omega)
                      clear hown1 hgr1 hb5
                      have HAL : Hid (Below w5.heap.size w5 (w5.alloc (.cells #[.int .u64 (p : Int), .int .i64 x] 77))) := Lib.hid ((Below.refl _ _).alloc (Nat.le_refl _) _)
                      have HO5' := Lib.hid (ownLater HO5.out HAL.out)
                      go_wp2_with (at_builtin; refine wpList_appS rfl _ _ 69 rfl WR.heap.size 77 i0 _ 2 16 Try.underlying69 hi0 hz0 hz1 hz2 rfl (by decide) v1 (L.take t).length (ptsC (L.take t)) rfl HO5'.out (w5.heap.size + 1) (some ⟨w5.heap.size, 0, none⟩) 1 1 (ptsC [(p, x)]) rfl rfl (pt_row w5 (p, x)) (ptsC_one _) (by have := HTL.out; have := HM.out; have := HLL.out; unfold maxLen; omega) (by have := HTL.out; have := HM.out; have := HLL.out; omega) (by have := HB5.out.size; simp; omega) ?_)
                      intro v2 w6 hown2 hgr2 _
                      have HO6 : Hid (OwnP WR.heap.size (L.take t ++ [(p, x)]) v2 w6) := Lib.hid (by simpa [OwnP, ptsC] using hown2)
                      have HB6 : Hid (Below WR.heap.size WR w6) := Lib.hid ((HB5.out.trans (HAL.out.mono HB5.out.size)).grown hgr2 (Nat.le_trans HB5.out.size HAL.out.size) fun g hg => (HO5'.out.lt g hg).1)
                      have HCL6 := Lib.hid (HCUTL.out.below HB6.out)
                      clear hown2 hgr2 k0 k1
                      go_wp2_with (at_builtin; refine wpList_appS rfl _ _ 69 rfl WR.heap.size 77 i0 _ 2 16 Try.underlying69 hi0 hz0 hz1 hz2 rfl (by decide) v2 (L.take t ++ [(p, x)]).length (ptsC (L.take t ++ [(p, x)])) rfl HO6.out WR.heap.size A3 (L.length - t) (c2 - t) (ptsC (L.drop t)) rfl (by rw [ptsC_len, List.length_drop]) HCL6.out (ptsC_one _) (by have := HTL.out; have := HM.out; have := HLL.out; simp; unfold maxLen; omega) (by have := HTL.out; have := HM.out; have := HLL.out; simp; omega) HB6.out.size ?_)
                      intro v3 w7 hown3 hgr3 _
                      have HO7 : Hid (OwnP WR.heap.size (insP (p, x) L) v3 w7) := Lib.hid (by
                        have e : insP (p, x) L = L.take t ++ [(p, x)] ++ L.drop t := by rw [HINS.out, if_neg HNEQ.out, List.append_assoc]; rfl
                        rw [e]
                        simpa [OwnP, ptsC, Nat.add_comm, Nat.add_left_comm] using hown3)
                      have HB7 : Hid (Below WR.heap.size WR w7) := Lib.hid (HB6.out.grown hgr3 HB6.out.size fun g hg => (HO6.out.lt g hg).1)
                      have HFIN : Hid (PtsR (foldP [] (rawP fP (ns.take q) e ++ (ofNode fP x e).take (j + 1))) v3 w7 ∧ Below w.heap.size w w7 ∧ Blk w7 w.heap.size 30 #[.slice (some ⟨b, o, none⟩) n c, .int .i64 (e : Int), .int .i64 (k : Int)]) := Lib.hid (by
                        have hbq : Below w.heap.size w WR := HBQ.out
                        rw [HNEXT.out]
                        obtain ⟨A7, c7, hv7, hc7, _⟩ := ownShape HO7.out
                        subst hv7
                        exact ⟨⟨A7, c7, rfl, ownRow HO7.out, hc7⟩, hbq.trans (HB7.out.mono hbq.size), HKQ.out.below HB7.out HKQ.out.lt⟩)
                      clear hown3 hgr3 cut1 cut2
                      go_wp2
                      go_roundw
                      case rel => exact ⟨j + 1, by omega, by go_num, Lib.hid HFIN.out.1, Lib.hid HFIN.out.2.1, Lib.hid HFIN.out.2.2⟩
                      case measure => simp [intOf]; omega
                    · have e0 : ((y0 : Int) == (p : Int)) = false := by simp; omega
                      clear heq hy0
                      go_wp2
                      go_quiet (fail)
                      clear a0' a1' p0' p1'
                      have HX : Hid (Row (WQ.drewN nq) (WQ.drewN nq).heap.size (some ⟨b4, o4, none⟩) (ptsC L) ∧ Blk (WQ.drewN nq) GG 77 #[.int .u64 (p : Int), .int .i64 x] ∧ Blk (WQ.drewN nq) w.heap.size 30 #[.slice (some ⟨b, o, none⟩) n c, .int .i64 (e : Int), .int .i64 (k : Int)] ∧ Below w.heap.size w (WQ.drewN nq)) := Lib.hid ⟨HR3.out.drewN nq, HKP3.out.drewN nq, HKQ.out.drewN nq, (HBQ.out).trans (below_drew' _ _ _)⟩
                      clear HR3 HKP3 HKQ HBQ
                      generalize WQ.drewN nq = WR at HX ⊢
                      have HR3 := Lib.hid HX.out.1
                      have HKP3 := Lib.hid HX.out.2.1
                      have HKQ := Lib.hid HX.out.2.2.1
                      have HBQ := Lib.hid HX.out.2.2.2
                      clear HX
                      have HCUTH := Lib.hid (rowP_take HR3.out t)
                      have HCUTL := Lib.hid (rowP_tail HR3.out HLC.out HM.out)
                      have cut1 := fun W => cutPh W (some ⟨b4, o4, none⟩) L.length c2 t (by have := HLC.out; have := HM.out; omega)
                      have cut2 := fun W => cutP W (some ⟨b4, o4, none⟩) L.length c2 t (by have := HM.out; omega)
                      obtain ⟨A3, hA3⟩ : ∃ A3 : Option Addr, (if c2 = t then ((some ⟨b4, o4, none⟩) : Option Addr) else ((some ⟨b4, o4, none⟩) : Option Addr).map (·.add (t * 2))) = A3 := ⟨_, rfl⟩
                      rw [hA3] at HCUTL cut2
                      clear hA3
                      go_wp2_with (at_builtin; refine wpList_appS rfl _ _ 69 rfl WR.heap.size 77 i0 _ 2 16 Try.underlying69 hi0 hz0 hz1 hz2 rfl (by decide) (.slice none 0 0) 0 (ptsC []) rfl (World.ownsRow_nil _ _ _ _) WR.heap.size (some ⟨b4, o4, none⟩) t c2 (ptsC (L.take t)) rfl (by rw [ptsC_len, List.length_take]; have := HM.out; congr 1; omega) HCUTH.out (ptsC_one _) (by have := HM.out; have := HLL.out; unfold maxLen; omega) (by have := HM.out; have := HLL.out; omega) (Nat.le_refl _) ?_)
                      intro v1 w5 hown1 hgr1 _
                      have hb5 : Below WR.heap.size WR w5 := Below.grown (Below.refl _ _) hgr1 (Nat.le_refl _) (fun g hg => by cases hg)
                      have HO5 : Hid (OwnP WR.heap.size (L.take t) v1 w5) := Lib.hid (by
                        unfold OwnP
                        have e : (L.take t).length = t := by rw [List.length_take]; have := HM.out; omega
                        rw [e]
                        first
                          | exact hown1
                          | (have h2 := hown1; rw [Nat.zero_add] at h2; exact h2))
                      have HB5 := Lib.hid hb5
                      have HKP5 := Lib.hid (HKP3.out.below hb5 HKP3.out.lt)
                      have k0 : w5.cell? ⟨GG, 0, none⟩ = some (.int .u64 (p : Int)) := HKP5.out.cell 0
                      have k1 : w5.cell? ⟨GG, 1, none⟩ = some (.int .i64 x) := HKP5.out.cell 1
                      have HTL : Hid ((L.take t).length = t) := Lib.hid (by rw [List.length_take]; have := HM.out; omega)
                      clear hown1 hgr1 hb5
                      have HAL : Hid (Below w5.heap.size w5 (w5.alloc (.cells #[.int .u64 (p : Int), .int .i64 x] 77))) := Lib.hid ((Below.refl _ _).alloc (Nat.le_refl _) _)
                      have HO5' := Lib.hid (ownLater HO5.out HAL.out)
                      go_wp2_with (at_builtin; refine wpList_appS rfl _ _ 69 rfl WR.heap.size 77 i0 _ 2 16 Try.underlying69 hi0 hz0 hz1 hz2 rfl (by decide) v1 (L.take t).length (ptsC (L.take t)) rfl HO5'.out (w5.heap.size + 1) (some ⟨w5.heap.size, 0, none⟩) 1 1 (ptsC [(p, x)]) rfl rfl (pt_row w5 (p, x)) (ptsC_one _) (by have := HTL.out; have := HM.out; have := HLL.out; unfold maxLen; omega) (by have := HTL.out; have := HM.out; have := HLL.out; omega) (by have := HB5.out.size; simp; omega) ?_)
                      intro v2 w6 hown2 hgr2 _
                      have HO6 : Hid (OwnP WR.heap.size (L.take t ++ [(p, x)]) v2 w6) := Lib.hid (by simpa [OwnP, ptsC] using hown2)
                      have HB6 : Hid (Below WR.heap.size WR w6) := Lib.hid ((HB5.out.trans (HAL.out.mono HB5.out.size)).grown hgr2 (Nat.le_trans HB5.out.size HAL.out.size) fun g hg => (HO5'.out.lt g hg).1)
                      have HCL6 := Lib.hid (HCUTL.out.below HB6.out)
                      clear hown2 hgr2 k0 k1
                      go_wp2_with (at_builtin; refine wpList_appS rfl _ _ 69 rfl WR.heap.size 77 i0 _ 2 16 Try.underlying69 hi0 hz0 hz1 hz2 rfl (by decide) v2 (L.take t ++ [(p, x)]).length (ptsC (L.take t ++ [(p, x)])) rfl HO6.out WR.heap.size A3 (L.length - t) (c2 - t) (ptsC (L.drop t)) rfl (by rw [ptsC_len, List.length_drop]) HCL6.out (ptsC_one _) (by have := HTL.out; have := HM.out; have := HLL.out; simp; unfold maxLen; omega) (by have := HTL.out; have := HM.out; have := HLL.out; simp; omega) HB6.out.size ?_)
                      intro v3 w7 hown3 hgr3 _
                      have HO7 : Hid (OwnP WR.heap.size (insP (p, x) L) v3 w7) := Lib.hid (by
                        have e : insP (p, x) L = L.take t ++ [(p, x)] ++ L.drop t := by rw [HINS.out, if_neg HNEQ.out, List.append_assoc]; rfl
                        rw [e]
                        simpa [OwnP, ptsC, Nat.add_comm, Nat.add_left_comm] using hown3)
                      have HB7 : Hid (Below WR.heap.size WR w7) := Lib.hid (HB6.out.grown hgr3 HB6.out.size fun g hg => (HO6.out.lt g hg).1)
                      have HFIN : Hid (PtsR (foldP [] (rawP fP (ns.take q) e ++ (ofNode fP x e).take (j + 1))) v3 w7 ∧ Below w.heap.size w w7 ∧ Blk w7 w.heap.size 30 #[.slice (some ⟨b, o, none⟩) n c, .int .i64 (e : Int), .int .i64 (k : Int)]) := Lib.hid (by
                        have hbq : Below w.heap.size w WR := HBQ.out
                        rw [HNEXT.out]
                        obtain ⟨A7, c7, hv7, hc7, _⟩ := ownShape HO7.out
                        subst hv7
                        exact ⟨⟨A7, c7, rfl, ownRow HO7.out, hc7⟩, hbq.trans (HB7.out.mono hbq.size), HKQ.out.below HB7.out HKQ.out.lt⟩)
                      clear hown3 hgr3 cut1 cut2
                      go_wp2
                      go_roundw
                      case rel => exact ⟨j + 1, by omega, by go_num, Lib.hid HFIN.out.1, Lib.hid HFIN.out.2.1, Lib.hid HFIN.out.2.2⟩
                      case measure => simp [intOf]; omega
                · have htz : ¬ (t : Int) < (L.length : Int) := by omega
                  have HNEQ : Hid (L[t]? ≠ some (p, x)) := Lib.hid (by rw [List.getElem?_eq_none (by omega)]; intro h; cases h)
                  go_wp2_with fail
                  go_quiet (fail)
                  have HX : Hid (Row (wr.drewN nq) (wr.drewN nq).heap.size A2 (ptsC L) ∧ Blk (wr.drewN nq) GG 77 #[.int .u64 (p : Int), .int .i64 x] ∧ Blk (wr.drewN nq) w.heap.size 30 #[.slice (some ⟨b, o, none⟩) n c, .int .i64 (e : Int), .int .i64 (k : Int)] ∧ Below w.heap.size w (wr.drewN nq)) := Lib.hid ⟨HR3.out.drewN nq, HKP3.out.drewN nq, (HKQ0.out.below HB3.out HKQ0.out.lt).drewN nq, (HBQ0.out.trans (HB3.out.mono HBQ0.out.size)).trans (below_drew' _ _ _)⟩
                  clear p0 p1 HR3 HKP3
                  generalize wr.drewN nq = WQ at HX ⊢
                  have HR3 := Lib.hid HX.out.1
                  have HKP3 := Lib.hid HX.out.2.1
                  have HKQ := Lib.hid HX.out.2.2.1
                  have HBQ := Lib.hid HX.out.2.2.2
                  clear HX
                  go_wp2
                  go_quiet (fail)
                  have HX : Hid (Row (WQ.drewN nq) (WQ.drewN nq).heap.size A2 (ptsC L) ∧ Blk (WQ.drewN nq) GG 77 #[.int .u64 (p : Int), .int .i64 x] ∧ Blk (WQ.drewN nq) w.heap.size 30 #[.slice (some ⟨b, o, none⟩) n c, .int .i64 (e : Int), .int .i64 (k : Int)] ∧ Below w.heap.size w (WQ.drewN nq)) := Lib.hid ⟨HR3.out.drewN nq, HKP3.out.drewN nq, HKQ.out.drewN nq, (HBQ.out).trans (below_drew' _ _ _)⟩
                  clear HR3 HKP3 HKQ HBQ
                  generalize WQ.drewN nq = WR at HX ⊢
                  have HR3 := Lib.hid HX.out.1
                  have HKP3 := Lib.hid HX.out.2.1
                  have HKQ := Lib.hid HX.out.2.2.1
                  have HBQ := Lib.hid HX.out.2.2.2
                  clear HX
                  have HCUTH := Lib.hid (rowP_take HR3.out t)
                  have HCUTL := Lib.hid (rowP_tail HR3.out HLC.out HM.out)
                  have cut1 := fun W => cutPh W A2 L.length c2 t (by have := HLC.out; have := HM.out; omega)
                  have cut2 := fun W => cutP W A2 L.length c2 t (by have := HM.out; omega)
                  obtain ⟨A3, hA3⟩ : ∃ A3 : Option Addr, (if c2 = t then (A2 : Option Addr) else (A2 : Option Addr).map (·.add (t * 2))) = A3 := ⟨_, rfl⟩
                  rw [hA3] at HCUTL cut2
                  clear hA3
                  go_wp2_with (at_builtin; refine wpList_appS rfl _ _ 69 rfl WR.heap.size 77 i0 _ 2 16 Try.underlying69 hi0 hz0 hz1 hz2 rfl (by decide) (.slice none 0 0) 0 (ptsC []) rfl (World.ownsRow_nil _ _ _ _) WR.heap.size A2 t c2 (ptsC (L.take t)) rfl (by rw [ptsC_len, List.length_take]; have := HM.out; congr 1; omega) HCUTH.out (ptsC_one _) (by have := HM.out; have := HLL.out; unfold maxLen; omega) (by have := HM.out; have := HLL.out; omega) (Nat.le_refl _) ?_)
                  intro v1 w5 hown1 hgr1 _
                  have hb5 : Below WR.heap.size WR w5 := Below.grown (Below.refl _ _) hgr1 (Nat.le_refl _) (fun g hg => by cases hg)
                  have HO5 : Hid (OwnP WR.heap.size (L.take t) v1 w5) := Lib.hid (by
                    unfold OwnP
                    have e : (L.take t).length = t := by rw [List.length_take]; have := HM.out; omega
                    rw [e]
                    first
                      | exact hown1
                      | (have h2 := hown1; rw [Nat.zero_add] at h2; exact h2))
                  have HB5 := Lib.hid hb5
                  have HKP5 := Lib.hid (HKP3.out.below hb5 HKP3.out.lt)
                  have k0 : w5.cell? ⟨GG, 0, none⟩ = some (.int .u64 (p : Int)) := HKP5.out.cell 0
                  have k1 : w5.cell? ⟨GG, 1, none⟩ = some (.int .i64 x) := HKP5.out.cell 1
                  have HTL : Hid ((L.take t).length = t) := Lib.hid (by rw [List.length_take]; have := HM.out; omega)
                  clear hown1 hgr1 hb5
                  have HAL : Hid (Below w5.heap.size w5 (w5.alloc (.cells #[.int .u64 (p : Int), .int .i64 x] 77))) := Lib.hid ((Below.refl _ _).alloc (Nat.le_refl _) _)
                  have HO5' := Lib.hid (ownLater HO5.out HAL.out)
                  go_wp2_with (at_builtin; refine wpList_appS rfl _ _ 69 rfl WR.heap.size 77 i0 _ 2 16 Try.underlying69 hi0 hz0 hz1 hz2 rfl (by decide) v1 (L.take t).length (ptsC (L.take t)) rfl HO5'.out (w5.heap.size + 1) (some ⟨w5.heap.size, 0, none⟩) 1 1 (ptsC [(p, x)]) rfl rfl (pt_row w5 (p, x)) (ptsC_one _) (by have := HTL.out; have := HM.out; have := HLL.out; unfold maxLen; omega) (by have := HTL.out; have := HM.out; have := HLL.out; omega) (by have := HB5.out.size; simp; omega) ?_)
                  intro v2 w6 hown2 hgr2 _
                  have HO6 : Hid (OwnP WR.heap.size (L.take t ++ [(p, x)]) v2 w6) := Lib.hid (by simpa [OwnP, ptsC] using hown2)
                  have HB6 : Hid (Below WR.heap.size WR w6) := Lib.hid ((HB5.out.trans (HAL.out.mono HB5.out.size)).grown hgr2 (Nat.le_trans HB5.out.size HAL.out.size) fun g hg => (HO5'.out.lt g hg).1)
                  have HCL6 := Lib.hid (HCUTL.out.below HB6.out)
                  clear hown2 hgr2 k0 k1
                  go_wp2_with (at_builtin; refine wpList_appS rfl _ _ 69 rfl WR.heap.size 77 i0 _ 2 16 Try.underlying69 hi0 hz0 hz1 hz2 rfl (by decide) v2 (L.take t ++ [(p, x)]).length (ptsC (L.take t ++ [(p, x)])) rfl HO6.out WR.heap.size A3 (L.length - t) (c2 - t) (ptsC (L.drop t)) rfl (by rw [ptsC_len, List.length_drop]) HCL6.out (ptsC_one _) (by have := HTL.out; have := HM.out; have := HLL.out; simp; unfold maxLen; omega) (by have := HTL.out; have := HM.out; have := HLL.out; simp; omega) HB6.out.size ?_)
                  intro v3 w7 hown3 hgr3 _
                  have HO7 : Hid (OwnP WR.heap.size (insP (p, x) L) v3 w7) := Lib.hid (by
                    have e : insP (p, x) L = L.take t ++ [(p, x)] ++ L.drop t := by rw [HINS.out, if_neg HNEQ.out, List.append_assoc]; rfl
                    rw [e]
                    simpa [OwnP, ptsC, Nat.add_comm, Nat.add_left_comm] using hown3)
                  have HB7 : Hid (Below WR.heap.size WR w7) := Lib.hid (HB6.out.grown hgr3 HB6.out.size fun g hg => (HO6.out.lt g hg).1)
                  have HFIN : Hid (PtsR (foldP [] (rawP fP (ns.take q) e ++ (ofNode fP x e).take (j + 1))) v3 w7 ∧ Below w.heap.size w w7 ∧ Blk w7 w.heap.size 30 #[.slice (some ⟨b, o, none⟩) n c, .int .i64 (e : Int), .int .i64 (k : Int)]) := Lib.hid (by
                    have hbq : Below w.heap.size w WR := HBQ.out
                    rw [HNEXT.out]
                    obtain ⟨A7, c7, hv7, hc7, _⟩ := ownShape HO7.out
                    subst hv7
                    exact ⟨⟨A7, c7, rfl, ownRow HO7.out, hc7⟩, hbq.trans (HB7.out.mono hbq.size), HKQ.out.below HB7.out HKQ.out.lt⟩)
                  clear hown3 hgr3 cut1 cut2
                  go_wp2
                  go_roundw
                  case rel => exact ⟨j + 1, by omega, by go_num, Lib.hid HFIN.out.1, Lib.hid HFIN.out.2.1, Lib.hid HFIN.out.2.2⟩
                  case measure => simp [intOf]; omega
          · have HBW : Hid (Below wr.heap.size wr ((w2.setCell ⟨wr.heap.size, 0, none⟩ (.int .u64 (p : Int))).setCell ⟨wr.heap.size, 1, none⟩ (.int .i64 x))) := Lib.hid (below_set (below_set HB3.out (Nat.le_refl _) 0 _) (Nat.le_refl _) 1 _)
            have HKP : Hid (Blk ((w2.setCell ⟨wr.heap.size, 0, none⟩ (.int .u64 (p : Int))).setCell ⟨wr.heap.size, 1, none⟩ (.int .i64 x)) wr.heap.size 77 #[.int .u64 (p : Int), .int .i64 x]) := Lib.hid (blkSet2 HZ2.out _ _)
            clear f0 f1 z0 z1 y0 y1
            generalize (w2.setCell ⟨wr.heap.size, 0, none⟩ (.int .u64 (p : Int))).setCell ⟨wr.heap.size, 1, none⟩ (.int .i64 x) = W' at HBW HKP ⊢
            generalize hGG : wr.heap.size = GG at HKP ⊢
            clear hGG
            have HKQ0 : Hid (Blk W' w.heap.size 30 #[.slice (some ⟨b, o, none⟩) n c, .int .i64 (e : Int), .int .i64 (k : Int)]) := Lib.hid (HK2.out.below HBW.out HK2.out.lt)
            have HBQ0 : Hid (Below w.heap.size w W') := Lib.hid (HB2.out.trans (HBW.out.mono HB2.out.size))
            have HOQ0 := Lib.hid (ptsR_below HO2.out HBW.out)
            clear d0 d1 hcq hsz2
            obtain ⟨A2, c2, hv2, hr2, hc2⟩ := HOQ0.out
            have HR2 := Lib.hid hr2
            have HLC := Lib.hid hc2
            obtain ⟨m, hm⟩ : ∃ m, placeP (p, x) L = m := ⟨_, rfl⟩
            have HM : Hid (m ≤ L.length) := Lib.hid (by rw [← hm]; exact placeP_le _ _)
            have HPLT : Hid (∀ t (ht : t < L.length), t < m → ltB L[t] (p, x) = true) := Lib.hid fun t ht h => placeP_lt _ L t ht (by rw [hm]; exact h)
            have HPGE : Hid (∀ h : m < L.length, ltB L[m] (p, x) = false) := Lib.hid fun h => placeP_ge _ L m h hm.symm
            have HINS : Hid (insP (p, x) L = if L[m]? = some (p, x) then L else L.take m ++ (p, x) :: L.drop m) := Lib.hid (by rw [insP_place, hm])
            have hLl : (L.length : Int) ≤ 4096 := by have := HLL.out; omega
            clear hm hr2 hc2 HO2 HOQ0
            subst hv2
            go_wp2
            go_loopw [7] (fun i w3 => ∃ t : Nat, t ≤ m ∧ i = .int .i64 t ∧ Hid (Below W'.heap.size W' w3)) (fun i _ => m - (intOf i).toNat)
            case atStart => exact ⟨0, by omega, rfl, Lib.hid (Below.refl _ _)⟩
            case round =>
              obtain ⟨t, ht, rfl, HB3⟩ := hrel
              have HR3 := Lib.hid ((HR2.out.below HB3.out).more HB3.out.size)
              have HKP3 := Lib.hid (HKP.out.below HB3.out HKP.out.lt)
              have p0 := later_blk_cell HKP3.out 0 (.int .u64 (p : Int)) rfl
              have p1 := later_blk_cell HKP3.out 1 (.int .i64 x) rfl
              have ht0 : (0 : Int) ≤ (t : Int) := by omega
              by_cases htm : t < m
              · have htl : t < L.length := by have := HM.out; omega
                have HLT := Lib.hid (HPLT.out t htl htm)
                obtain ⟨b4, o4, rfl, _, hc4⟩ := pts_open HR3.out (by omega)
                obtain ⟨a0, a1⟩ := hc4 t htl
                obtain ⟨⟨y0, y1⟩, hy⟩ : ∃ y, L[t] = y := ⟨_, rfl⟩
                rw [hy] at a0 a1 HLT
                simp only at a0 a1
                have l0 := later_cell a0
                have l1 := later_cell a1
                have htz : (t : Int) < (L.length : Int) := by omega
                clear hc4 a0 a1 hy
                go_wp2_with fail
                refine wp_region_later (by kernel_rfl) (by kernel_rfl) ?_
                repeat (go_big_quiet_step (first | (go_at_call 57; exact later_of (refless_true (p := (y0, y1)) (q := (p, x)) HLT.out _))))
                refine wpQuiet_nil ?_
                intro w' hw'
                obtain ⟨p9, rfl⟩ := hw'
                go_wp2
                go_roundw
                case rel => exact ⟨t + 1, by omega, by go_num, Lib.hid (HB3.out.trans (p9.bel.mono HB3.out.size))⟩
                case measure => simp [intOf]; omega
              · obtain rfl : t = m := by omega
                clear htm
                by_cases htl : t < L.length
                · have HLT := Lib.hid (HPGE.out htl)
                  obtain ⟨b4, o4, hA4, hb4, hc4⟩ := pts_open HR3.out (by omega)
                  have HA4 := Lib.hid hA4
                  obtain ⟨a0, a1⟩ := hc4 t htl
                  have HGET : Hid (L[t]? = some L[t]) := Lib.hid (List.getElem?_eq_getElem htl)
                  obtain ⟨⟨y0, y1⟩, hy⟩ : ∃ y, L[t] = y := ⟨_, rfl⟩
                  rw [hy] at a0 a1 HLT HGET
                  simp only at a0 a1
                  have l0 := later_cell a0
                  have l1 := later_cell a1
                  have htz : (t : Int) < (L.length : Int) := by omega
                  clear hc4 hy
                  subst hA4
                  go_wp2_with fail
                  refine wp_region_later (by kernel_rfl) (by kernel_rfl) ?_
                  repeat (go_big_quiet_step (first | (go_at_call 57; exact later_of (refless_false (p := (y0, y1)) (q := (p, x)) HLT.out _))))
                  refine wpQuiet_nil ?_
                  intro w' hw'
                  obtain ⟨p9, rfl⟩ := hw'
                  have a0' := l0 p9
                  have a1' := l1 p9
                  have p0' := p0 p9
                  have p1' := p1 p9
                  have HBT : Hid (Below W'.heap.size W' p9.world) := Lib.hid (HB3.out.trans (p9.bel.mono HB3.out.size))
                  have HR4 := Lib.hid ((HR3.out.below p9.bel).more p9.bel.size)
                  have HKP4 := Lib.hid (later_blk HKP3.out p9)
                  have HKQ4 := Lib.hid (HKQ0.out.below HBT.out HKQ0.out.lt)
                  have HBQ4 := Lib.hid (HBQ0.out.trans (HBT.out.mono HBQ0.out.size))
                  clear l0 l1 p0 p1 a0 a1
                  generalize p9.world = WQ at a0' a1' p0' p1' HBT HR4 HKP4 HKQ4 HBQ4 ⊢
                  clear p9 HR3 HKP3
                  have HR3 := HR4
                  have HKP3 := HKP4
                  have HKQ := HKQ4
                  have HBQ := HBQ4
                  by_cases heq : y0 = p ∧ y1 = x
                  · have e0 : ((y0 : Int) == (p : Int)) = true := by simp; omega
                    have e1 : (y1 == x) = true := by simp; omega
                    have HFIN : Hid (PtsR (foldP [] (rawP fP (ns.take q) e ++ (ofNode fP x e).take (j + 1))) (.slice (some ⟨b4, o4, none⟩) L.length c2) WQ) := Lib.hid (by
                      rw [HNEXT.out, HINS.out, if_pos (by rw [HGET.out, heq.1, heq.2])]
                      exact ⟨_, c2, rfl, HR3.out, HLC.out⟩)
                    clear heq
                    go_wp2
                    go_quiet (fail)
                    go_wp2
                    go_roundw
                    case rel => exact ⟨j + 1, by omega, by go_num, Lib.hid (ptsR_below HFIN.out (below_drew' _ _ _)), Lib.hid (HBQ.out.trans (below_drew' _ _ _)), Lib.hid (HKQ.out.drewN _)⟩
                    case measure => simp [intOf]; omega
                  · have HNEQ : Hid (L[t]? ≠ some (p, x)) := Lib.hid (by
                      rw [HGET.out]
                      intro h
                      injection h with h
                      injection h with h1 h2
                      exact heq ⟨h1, h2⟩)
                    by_cases hy0 : y0 = p
                    · have e0 : ((y0 : Int) == (p : Int)) = true := by simp; omega
                      have e1 : (y1 == x) = false := by simp; omega
                      clear heq hy0
                      go_wp2
                      go_quiet (fail)
                      clear a0' a1' p0' p1'
                      have HX : Hid (Row (WQ.drewN nq) (WQ.drewN nq).heap.size (some ⟨b4, o4, none⟩) (ptsC L) ∧ Blk (WQ.drewN nq) GG 77 #[.int .u64 (p : Int), .int .i64 x] ∧ Blk (WQ.drewN nq) w.heap.size 30 #[.slice (some ⟨b, o, none⟩) n c, .int .i64 (e : Int), .int .i64 (k : Int)] ∧ Below w.heap.size w (WQ.drewN nq)) := Lib.hid ⟨HR3.out.drewN nq, HKP3.out.drewN nq, HKQ.out.drewN nq, (HBQ.out).trans (below_drew' _ _ _)⟩
                      clear HR3 HKP3 HKQ HBQ
                      generalize WQ.drewN nq = WR at HX ⊢
                      have HR3 := Lib.hid HX.out.1
                      have HKP3 := Lib.hid HX.out.2.1
                      have HKQ := Lib.hid HX.out.2.2.1
                      have HBQ := Lib.hid HX.out.2.2.2
                      clear HX
                      have HCUTH := Lib.hid (rowP_take HR3.out t)
                      have HCUTL := Lib.hid (rowP_tail HR3.out HLC.out HM.out)
                      have cut1 := fun W => cutPh W (some ⟨b4, o4, none⟩) L.length c2 t (by have := HLC.out; have := HM.out; omega)
                      have cut2 := fun W => cutP W (some ⟨b4, o4, none⟩) L.length c2 t (by have := HM.out; omega)
                      obtain ⟨A3, hA3⟩ : ∃ A3 : Option Addr, (if c2 = t then ((some ⟨b4, o4, none⟩) : Option Addr) else ((some ⟨b4, o4, none⟩) : Option Addr).map (·.add (t * 2))) = A3 := ⟨_, rfl⟩
                      rw [hA3] at HCUTL cut2
                      clear hA3
                      go_wp2_with (at_builtin; refine wpList_appS rfl _ _ 69 rfl WR.heap.size 77 i0 _ 2 16 Try.underlying69 hi0 hz0 hz1 hz2 rfl (by decide) (.slice none 0 0) 0 (ptsC []) rfl (World.ownsRow_nil _ _ _ _) WR.heap.size (some ⟨b4, o4, none⟩) t c2 (ptsC (L.take t)) rfl (by rw [ptsC_len, List.length_take]; have := HM.out; congr 1; omega) HCUTH.out (ptsC_one _) (by have := HM.out; have := HLL.out; unfold maxLen; omega) (by have := HM.out; have := HLL.out; omega) (Nat.le_refl _) ?_)
                      intro v1 w5 hown1 hgr1 _
                      have hb5 : Below WR.heap.size WR w5 := Below.grown (Below.refl _ _) hgr1 (Nat.le_refl _) (fun g hg => by cases hg)
                      have HO5 : Hid (OwnP WR.heap.size (L.take t) v1 w5) := Lib.hid (by
                        unfold OwnP
                        have e : (L.take t).length = t := by rw [List.length_take]; have := HM.out; omega
                        rw [e]
                        first
                          | exact hown1
                          | (have h2 := hown1; rw [Nat.zero_add] at h2; exact h2))
                      have HB5 := Lib.hid hb5
                      have HKP5 := Lib.hid (HKP3.out.below hb5 HKP3.out.lt)
                      have k0 : w5.cell? ⟨GG, 0, none⟩ = some (.int .u64 (p : Int)) := HKP5.out.cell 0
                      have k1 : w5.cell? ⟨GG, 1, none⟩ = some (.int .i64 x) := HKP5.out.cell 1
                      have HTL : Hid ((L.take t).length = t) := Lib.hid (by rw [List.length_take]; have := HM.out; omega)
                      clear hown1 hgr1 hb5
                      have HAL : Hid (Below w5.heap.size w5 (w5.alloc (.cells #[.int .u64 (p : Int), .int .i64 x] 77))) := Lib.hid ((Below.refl _ _).alloc (Nat.le_refl _) _)
                      have HO5' := Lib.hid (ownLater HO5.out HAL.out)
                      go_wp2_with (at_builtin; refine wpList_appS rfl _ _ 69 rfl WR.heap.size 77 i0 _ 2 16 Try.underlying69 hi0 hz0 hz1 hz2 rfl (by decide) v1 (L.take t).length (ptsC (L.take t)) rfl HO5'.out (w5.heap.size + 1) (some ⟨w5.heap.size, 0, none⟩) 1 1 (ptsC [(p, x)]) rfl rfl (pt_row w5 (p, x)) (ptsC_one _) (by have := HTL.out; have := HM.out; have := HLL.out; unfold maxLen; omega) (by have := HTL.out; have := HM.out; have := HLL.out; omega) (by have := HB5.out.size; simp; omega) ?_)
                      intro v2 w6 hown2 hgr2 _
                      have HO6 : Hid (OwnP WR.heap.size (L.take t ++ [(p, x)]) v2 w6) := Lib.hid (by simpa [OwnP, ptsC] using hown2)
                      have HB6 : Hid (Below WR.heap.size WR w6) := Lib.hid ((HB5.out.trans (HAL.out.mono HB5.out.size)).grown hgr2 (Nat.le_trans HB5.out.size HAL.out.size) fun g hg => (HO5'.out.lt g hg).1)
                      have HCL6 := Lib.hid (HCUTL.out.below HB6.out)
                      clear hown2 hgr2 k0 k1
                      go_wp2_with (at_builtin; refine wpList_appS rfl _ _ 69 rfl WR.heap.size 77 i0 _ 2 16 Try.underlying69 hi0 hz0 hz1 hz2 rfl (by decide) v2 (L.take t ++ [(p, x)]).length (ptsC (L.take t ++ [(p, x)])) rfl HO6.out WR.heap.size A3 (L.length - t) (c2 - t) (ptsC (L.drop t)) rfl (by rw [ptsC_len, List.length_drop]) HCL6.out (ptsC_one _) (by have := HTL.out; have := HM.out; have := HLL.out; simp; unfold maxLen; omega) (by have := HTL.out; have := HM.out; have := HLL.out; simp; omega) HB6.out.size ?_)
                      intro v3 w7 hown3 hgr3 _
                      have HO7 : Hid (OwnP WR.heap.size (insP (p, x) L) v3 w7) := Lib.hid (by
                        have e : insP (p, x) L = L.take t ++ [(p, x)] ++ L.drop t := by rw [HINS.out, if_neg HNEQ.out, List.append_assoc]; rfl
                        rw [e]
                        simpa [OwnP, ptsC, Nat.add_comm, Nat.add_left_comm] using hown3)
                      have HB7 : Hid (Below WR.heap.size WR w7) := Lib.hid (HB6.out.grown hgr3 HB6.out.size fun g hg => (HO6.out.lt g hg).1)
                      have HFIN : Hid (PtsR (foldP [] (rawP fP (ns.take q) e ++ (ofNode fP x e).take (j + 1))) v3 w7 ∧ Below w.heap.size w w7 ∧ Blk w7 w.heap.size 30 #[.slice (some ⟨b, o, none⟩) n c, .int .i64 (e : Int), .int .i64 (k : Int)]) := Lib.hid (by
                        have hbq : Below w.heap.size w WR := HBQ.out
                        rw [HNEXT.out]
                        obtain ⟨A7, c7, hv7, hc7, _⟩ := ownShape HO7.out
                        subst hv7
                        exact ⟨⟨A7, c7, rfl, ownRow HO7.out, hc7⟩, hbq.trans (HB7.out.mono hbq.size), HKQ.out.below HB7.out HKQ.out.lt⟩)
                      clear hown3 hgr3 cut1 cut2
                      go_wp2
                      go_roundw
                      case rel => exact ⟨j + 1, by omega, by go_num, Lib.hid HFIN.out.1, Lib.hid HFIN.out.2.1, Lib.hid HFIN.out.2.2⟩
                      case measure => simp [intOf]; omega
                    · have e0 : ((y0 : Int) == (p : Int)) = false := by simp; omega
                      clear heq hy0
                      go_wp2
                      go_quiet (fail)
                      clear a0' a1' p0' p1'
                      have HX : Hid (Row (WQ.drewN nq) (WQ.drewN nq).heap.size (some ⟨b4, o4, none⟩) (ptsC L) ∧ Blk (WQ.drewN nq) GG 77 #[.int .u64 (p : Int), .int .i64 x] ∧ Blk (WQ.drewN nq) w.heap.size 30 #[.slice (some ⟨b, o, none⟩) n c, .int .i64 (e : Int), .int .i64 (k : Int)] ∧ Below w.heap.size w (WQ.drewN nq)) := Lib.hid ⟨HR3.out.drewN nq, HKP3.out.drewN nq, HKQ.out.drewN nq, (HBQ.out).trans (below_drew' _ _ _)⟩
                      clear HR3 HKP3 HKQ HBQ
                      generalize WQ.drewN nq = WR at HX ⊢
                      have HR3 := Lib.hid HX.out.1
                      have HKP3 := Lib.hid HX.out.2.1
                      have HKQ := Lib.hid HX.out.2.2.1
                      have HBQ := Lib.hid HX.out.2.2.2
                      clear HX
                      have HCUTH := Lib.hid (rowP_take HR3.out t)
                      have HCUTL := Lib.hid (rowP_tail HR3.out HLC.out HM.out)
                      have cut1 := fun W => cutPh W (some ⟨b4, o4, none⟩) L.length c2 t (by have := HLC.out; have := HM.out; omega)
                      have cut2 := fun W => cutP W (some ⟨b4, o4, none⟩) L.length c2 t (by have := HM.out; omega)
                      obtain ⟨A3, hA3⟩ : ∃ A3 : Option Addr, (if c2 = t then ((some ⟨b4, o4, none⟩) : Option Addr) else ((some ⟨b4, o4, none⟩) : Option Addr).map (·.add (t * 2))) = A3 := ⟨_, rfl⟩
                      rw [hA3] at HCUTL cut2
                      clear hA3
                      go_wp2_with (at_builtin; refine wpList_appS rfl _ _ 69 rfl WR.heap.size 77 i0 _ 2 16 Try.underlying69 hi0 hz0 hz1 hz2 rfl (by decide) (.slice none 0 0) 0 (ptsC []) rfl (World.ownsRow_nil _ _ _ _) WR.heap.size (some ⟨b4, o4, none⟩) t c2 (ptsC (L.take t)) rfl (by rw [ptsC_len, List.length_take]; have := HM.out; congr 1; omega) HCUTH.out (ptsC_one _) (by have := HM.out; have := HLL.out; unfold maxLen; omega) (by have := HM.out; have := HLL.out; omega) (Nat.le_refl _) ?_)
                      intro v1 w5 hown1 hgr1 _
                      have hb5 : Below WR.heap.size WR w5 := Below.grown (Below.refl _ _) hgr1 (Nat.le_refl _) (fun g hg => by cases hg)
                      have HO5 : Hid (OwnP WR.heap.size (L.take t) v1 w5) := Lib.hid (by
                        unfold OwnP
                        have e : (L.take t).length = t := by rw [List.length_take]; have := HM.out; omega
                        rw [e]
                        first
                          | exact hown1
                          | (have h2 := hown1; rw [Nat.zero_add] at h2; exact h2))
                      have HB5 := Lib.hid hb5
                      have HKP5 := Lib.hid (HKP3.out.below hb5 HKP3.out.lt)
                      have k0 : w5.cell? ⟨GG, 0, none⟩ = some (.int .u64 (p : Int)) := HKP5.out.cell 0
                      have k1 : w5.cell? ⟨GG, 1, none⟩ = some (.int .i64 x) := HKP5.out.cell 1
                      have HTL : Hid ((L.take t).length = t) := Lib.hid (by rw [List.length_take]; have := HM.out; omega)
                      clear hown1 hgr1 hb5
                      have HAL : Hid (Below w5.heap.size w5 (w5.alloc (.cells #[.int .u64 (p : Int), .int .i64 x] 77))) := Lib.hid ((Below.refl _ _).alloc (Nat.le_refl _) _)
                      have HO5' := Lib.hid (ownLater HO5.out HAL.out)
                      go_wp2_with (at_builtin; refine wpList_appS rfl _ _ 69 rfl WR.heap.size 77 i0 _ 2 16 Try.underlying69 hi0 hz0 hz1 hz2 rfl (by decide) v1 (L.take t).length (ptsC (L.take t)) rfl HO5'.out (w5.heap.size + 1) (some ⟨w5.heap.size, 0, none⟩) 1 1 (ptsC [(p, x)]) rfl rfl (pt_row w5 (p, x)) (ptsC_one _) (by have := HTL.out; have := HM.out; have := HLL.out; unfold maxLen; omega) (by have := HTL.out; have := HM.out; have := HLL.out; omega) (by have := HB5.out.size; simp; omega) ?_)
                      intro v2 w6 hown2 hgr2 _
                      have HO6 : Hid (OwnP WR.heap.size (L.take t ++ [(p, x)]) v2 w6) := Lib.hid (by simpa [OwnP, ptsC] using hown2)
                      have HB6 : Hid (Below WR.heap.size WR w6) := Lib.hid ((HB5.out.trans (HAL.out.mono HB5.out.size)).grown hgr2 (Nat.le_trans HB5.out.size HAL.out.size) fun g hg => (HO5'.out.lt g hg).1)
                      have HCL6 := Lib.hid (HCUTL.out.below HB6.out)
                      clear hown2 hgr2 k0 k1
                      go_wp2_with (at_builtin; refine wpList_appS rfl _ _ 69 rfl WR.heap.size 77 i0 _ 2 16 Try.underlying69 hi0 hz0 hz1 hz2 rfl (by decide) v2 (L.take t ++ [(p, x)]).length (ptsC (L.take t ++ [(p, x)])) rfl HO6.out WR.heap.size A3 (L.length - t) (c2 - t) (ptsC (L.drop t)) rfl (by rw [ptsC_len, List.length_drop]) HCL6.out (ptsC_one _) (by have := HTL.out; have := HM.out; have := HLL.out; simp; unfold maxLen; omega) (by have := HTL.out; have := HM.out; have := HLL.out; simp; omega) HB6.out.size ?_)
                      intro v3 w7 hown3 hgr3 _
                      have HO7 : Hid (OwnP WR.heap.size (insP (p, x) L) v3 w7) := Lib.hid (by
                        have e : insP (p, x) L = L.take t ++ [(p, x)] ++ L.drop t := by rw [HINS.out, if_neg HNEQ.out, List.append_assoc]; rfl
                        rw [e]
                        simpa [OwnP, ptsC, Nat.add_comm, Nat.add_left_comm] using hown3)
                      have HB7 : Hid (Below WR.heap.size WR w7) := Lib.hid (HB6.out.grown hgr3 HB6.out.size fun g hg => (HO6.out.lt g hg).1)
                      have HFIN : Hid (PtsR (foldP [] (rawP fP (ns.take q) e ++ (ofNode fP x e).take (j + 1))) v3 w7 ∧ Below w.heap.size w w7 ∧ Blk w7 w.heap.size 30 #[.slice (some ⟨b, o, none⟩) n c, .int .i64 (e : Int), .int .i64 (k : Int)]) := Lib.hid (by
                        have hbq : Below w.heap.size w WR := HBQ.out
                        rw [HNEXT.out]
                        obtain ⟨A7, c7, hv7, hc7, _⟩ := ownShape HO7.out
                        subst hv7
                        exact ⟨⟨A7, c7, rfl, ownRow HO7.out, hc7⟩, hbq.trans (HB7.out.mono hbq.size), HKQ.out.below HB7.out HKQ.out.lt⟩)
                      clear hown3 hgr3 cut1 cut2
                      go_wp2
                      go_roundw
                      case rel => exact ⟨j + 1, by omega, by go_num, Lib.hid HFIN.out.1, Lib.hid HFIN.out.2.1, Lib.hid HFIN.out.2.2⟩
                      case measure => simp [intOf]; omega
                · have htz : ¬ (t : Int) < (L.length : Int) := by omega
                  have HNEQ : Hid (L[t]? ≠ some (p, x)) := Lib.hid (by rw [List.getElem?_eq_none (by omega)]; intro h; cases h)
                  go_wp2_with fail
                  go_quiet (fail)
                  have HX : Hid (Row (wr.drewN nq) (wr.drewN nq).heap.size A2 (ptsC L) ∧ Blk (wr.drewN nq) GG 77 #[.int .u64 (p : Int), .int .i64 x] ∧ Blk (wr.drewN nq) w.heap.size 30 #[.slice (some ⟨b, o, none⟩) n c, .int .i64 (e : Int), .int .i64 (k : Int)] ∧ Below w.heap.size w (wr.drewN nq)) := Lib.hid ⟨HR3.out.drewN nq, HKP3.out.drewN nq, (HKQ0.out.below HB3.out HKQ0.out.lt).drewN nq, (HBQ0.out.trans (HB3.out.mono HBQ0.out.size)).trans (below_drew' _ _ _)⟩
                  clear p0 p1 HR3 HKP3
                  generalize wr.drewN nq = WQ at HX ⊢
                  have HR3 := Lib.hid HX.out.1
                  have HKP3 := Lib.hid HX.out.2.1
                  have HKQ := Lib.hid HX.out.2.2.1
                  have HBQ := Lib.hid HX.out.2.2.2
                  clear HX
                  go_wp2
                  go_quiet (fail)
                  have HX : Hid (Row (WQ.drewN nq) (WQ.drewN nq).heap.size A2 (ptsC L) ∧ Blk (WQ.drewN nq) GG 77 #[.int .u64 (p : Int), .int .i64 x] ∧ Blk (WQ.drewN nq) w.heap.size 30 #[.slice (some ⟨b, o, none⟩) n c, .int .i64 (e : Int), .int .i64 (k : Int)] ∧ Below w.heap.size w (WQ.drewN nq)) := Lib.hid ⟨HR3.out.drewN nq, HKP3.out.drewN nq, HKQ.out.drewN nq, (HBQ.out).trans (below_drew' _ _ _)⟩
                  clear HR3 HKP3 HKQ HBQ
                  generalize WQ.drewN nq = WR at HX ⊢
                  have HR3 := Lib.hid HX.out.1
                  have HKP3 := Lib.hid HX.out.2.1
                  have HKQ := Lib.hid HX.out.2.2.1
                  have HBQ := Lib.hid HX.out.2.2.2
                  clear HX
                  have HCUTH := Lib.hid (rowP_take HR3.out t)
                  have HCUTL := Lib.hid (rowP_tail HR3.out HLC.out HM.out)
                  have cut1 := fun W => cutPh W A2 L.length c2 t (by have := HLC.out; have := HM.out; omega)
                  have cut2 := fun W => cutP W A2 L.length c2 t (by have := HM.out; omega)
                  obtain ⟨A3, hA3⟩ : ∃ A3 : Option Addr, (if c2 = t then (A2 : Option Addr) else (A2 : Option Addr).map (·.add (t * 2))) = A3 := ⟨_, rfl⟩
                  rw [hA3] at HCUTL cut2
                  clear hA3
                  go_wp2_with (at_builtin; refine wpList_appS rfl _ _ 69 rfl WR.heap.size 77 i0 _ 2 16 Try.underlying69 hi0 hz0 hz1 hz2 rfl (by decide) (.slice none 0 0) 0 (ptsC []) rfl (World.ownsRow_nil _ _ _ _) WR.heap.size A2 t c2 (ptsC (L.take t)) rfl (by rw [ptsC_len, List.length_take]; have := HM.out; congr 1; omega) HCUTH.out (ptsC_one _) (by have := HM.out; have := HLL.out; unfold maxLen; omega) (by have := HM.out; have := HLL.out; omega) (Nat.le_refl _) ?_)
                  intro v1 w5 hown1 hgr1 _
                  have hb5 : Below WR.heap.size WR w5 := Below.grown (Below.refl _ _) hgr1 (Nat.le_refl _) (fun g hg => by cases hg)
                  have HO5 : Hid (OwnP WR.heap.size (L.take t) v1 w5) := Lib.hid (by
                    unfold OwnP
                    have e : (L.take t).length = t := by rw [List.length_take]; have := HM.out; omega
                    rw [e]
                    first
                      | exact hown1
                      | (have h2 := hown1; rw [Nat.zero_add] at h2; exact h2))
                  have HB5 := Lib.hid hb5
                  have HKP5 := Lib.hid (HKP3.out.below hb5 HKP3.out.lt)
                  have k0 : w5.cell? ⟨GG, 0, none⟩ = some (.int .u64 (p : Int)) := HKP5.out.cell 0
                  have k1 : w5.cell? ⟨GG, 1, none⟩ = some (.int .i64 x) := HKP5.out.cell 1
                  have HTL : Hid ((L.take t).length = t) := Lib.hid (by rw [List.length_take]; have := HM.out; omega)
                  clear hown1 hgr1 hb5
                  have HAL : Hid (Below w5.heap.size w5 (w5.alloc (.cells #[.int .u64 (p : Int), .int .i64 x] 77))) := Lib.hid ((Below.refl _ _).alloc (Nat.le_refl _) _)
                  have HO5' := Lib.hid (ownLater HO5.out HAL.out)
                  go_wp2_with (at_builtin; refine wpList_appS rfl _ _ 69 rfl WR.heap.size 77 i0 _ 2 16 Try.underlying69 hi0 hz0 hz1 hz2 rfl (by decide) v1 (L.take t).length (ptsC (L.take t)) rfl HO5'.out (w5.heap.size + 1) (some ⟨w5.heap.size, 0, none⟩) 1 1 (ptsC [(p, x)]) rfl rfl (pt_row w5 (p, x)) (ptsC_one _) (by have := HTL.out; have := HM.out; have := HLL.out; unfold maxLen; omega) (by have := HTL.out; have := HM.out; have := HLL.out; omega) (by have := HB5.out.size; simp; omega) ?_)
                  intro v2 w6 hown2 hgr2 _
                  have HO6 : Hid (OwnP WR.heap.size (L.take t ++ [(p, x)]) v2 w6) := Lib.hid (by simpa [OwnP, ptsC] using hown2)
                  have HB6 : Hid (Below WR.heap.size WR w6) := Lib.hid ((HB5.out.trans (HAL.out.mono HB5.out.size)).grown hgr2 (Nat.le_trans HB5.out.size HAL.out.size) fun g hg => (HO5'.out.lt g hg).1)
                  have HCL6 := Lib.hid (HCUTL.out.below HB6.out)
                  clear hown2 hgr2 k0 k1
                  go_wp2_with (at_builtin; refine wpList_appS rfl _ _ 69 rfl WR.heap.size 77 i0 _ 2 16 Try.underlying69 hi0 hz0 hz1 hz2 rfl (by decide) v2 (L.take t ++ [(p, x)]).length (ptsC (L.take t ++ [(p, x)])) rfl HO6.out WR.heap.size A3 (L.length - t) (c2 - t) (ptsC (L.drop t)) rfl (by rw [ptsC_len, List.length_drop]) HCL6.out (ptsC_one _) (by have := HTL.out; have := HM.out; have := HLL.out; simp; unfold maxLen; omega) (by have := HTL.out; have := HM.out; have := HLL.out; simp; omega) HB6.out.size ?_)
                  intro v3 w7 hown3 hgr3 _
                  have HO7 : Hid (OwnP WR.heap.size (insP (p, x) L) v3 w7) := Lib.hid (by
                    have e : insP (p, x) L = L.take t ++ [(p, x)] ++ L.drop t := by rw [HINS.out, if_neg HNEQ.out, List.append_assoc]; rfl
                    rw [e]
                    simpa [OwnP, ptsC, Nat.add_comm, Nat.add_left_comm] using hown3)
                  have HB7 : Hid (Below WR.heap.size WR w7) := Lib.hid (HB6.out.grown hgr3 HB6.out.size fun g hg => (HO6.out.lt g hg).1)
                  have HFIN : Hid (PtsR (foldP [] (rawP fP (ns.take q) e ++ (ofNode fP x e).take (j + 1))) v3 w7 ∧ Below w.heap.size w w7 ∧ Blk w7 w.heap.size 30 #[.slice (some ⟨b, o, none⟩) n c, .int .i64 (e : Int), .int .i64 (k : Int)]) := Lib.hid (by
                    have hbq : Below w.heap.size w WR := HBQ.out
                    rw [HNEXT.out]
                    obtain ⟨A7, c7, hv7, hc7, _⟩ := ownShape HO7.out
                    subst hv7
                    exact ⟨⟨A7, c7, rfl, ownRow HO7.out, hc7⟩, hbq.trans (HB7.out.mono hbq.size), HKQ.out.below HB7.out HKQ.out.lt⟩)
                  clear hown3 hgr3 cut1 cut2
                  go_wp2
                  go_roundw
                  case rel => exact ⟨j + 1, by omega, by go_num, Lib.hid HFIN.out.1, Lib.hid HFIN.out.2.1, Lib.hid HFIN.out.2.2⟩
                  case measure => simp [intOf]; omega
        · obtain rfl : j = e := by omega
          have HO6 : Hid (PtsR (foldP [] (rawP fP (ns.take (q + 1)) j)) u3 wr) := Lib.hid (by
            have := HO2.out
            rw [List.take_of_length_le (l := ofNode fP x j) (by rw [ofNode_len]; omega)] at this
            rw [HSN.out]; exact this)
          go_wp2
          go_roundw
          case rel => exact ⟨q + 1, by omega, by go_num, HO6, HB2, HK2⟩
          case measure => simp [intOf]; omega
    · obtain rfl : q = n := by omega
      have d0 : wr.cell? ⟨w.heap.size, 0, none⟩ = some (.slice A q c) := HK.out.cell 0
      obtain ⟨A2, c2, hv2, hr2, hc2⟩ := HO.out
      subst hv2
      have HRES : Hid (∃ A c, Ending.returned (.slice A2 (foldP [] (rawP fP (ns.take q) e)).length c2) = .returned (.slice A (ptsP fP ns e).length c) ∧ Row wr wr.heap.size A (ptsC (ptsP fP ns e)) ∧ Below w.heap.size w wr) := Lib.hid (by
        rw [List.take_of_length_le (l := ns) (by have := HN.out; omega)] at hr2 ⊢
        exact ⟨A2, c2, rfl, hr2, HB.out⟩)
      clear hr2 hc2
      go_wp2
      go_ret
      exact HRES.out
end Go.Proofs.Ytafajikjojpaaaa
