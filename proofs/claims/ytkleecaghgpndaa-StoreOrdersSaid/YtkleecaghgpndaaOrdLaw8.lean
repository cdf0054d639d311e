/- The law StoreOrders, walked. -/
import Derived.Test.YtkleecaghgpndaaSameAll8
import Derived.Test.YtkleecaghgpndaaOrdP8
namespace Go.Proofs.Ytkleecaghgpndaa
open Go.RowKit Go.ChangeShapes Go.WideShapes Mem Be Word Frm Go.Maps
set_option maxRecDepth 100000
set_option maxHeartbeats 4000000
set_option linter.unusedVariables false
instance evInh8 : Inhabited EV := ⟨evN []⟩
/-- An entry that comes in. -/
structure EOk (w : World) (B : Nat) (x : EV) : Prop where
  row : Row w B x.2.1 (x.1.v.map byteV)
  cap : x.1.v.length ≤ x.2.2
  capm : x.2.2 ≤ maxLen
  key : x.1.k.length ≤ maxLen
def InE (w : World) (A : Option Addr) (es : List EV) : Prop := ∀ W, Below w.heap.size w W → Row W w.heap.size A (entsC es) ∧ ∀ x ∈ es, EOk W w.heap.size x
theorem EOk.below {w w' : World} {B : Nat} {x : EV} (h : EOk w B x) (hb : Below B w w') : EOk w' B x := ⟨h.row.below hb, h.cap, h.capm, h.key⟩
theorem inE_of {w : World} {A : Option Addr} {es : List EV} (h : Row w w.heap.size A (entsC es)) (hr : ∀ x ∈ es, EOk w w.heap.size x) : InE w A es := fun W hb => ⟨h.below hb, fun x hm => (hr x hm).below hb⟩
theorem EOk.len {w : World} {B : Nat} {x : EV} (h : EOk w B x) : (x.1.v.length : Int) ≤ 9223372036854775807 ∧ (x.1.k.length : Int) ≤ 9223372036854775807 := by
  have h1 := h.cap; have h2 := h.capm; have h3 := h.key
  unfold maxLen at h2 h3
  exact ⟨by omega, by omega⟩
theorem open_evs {H : Type} {enc : TypeId × Value → H} {w : World} {base : Nat} {held : Bool} {a : Option Addr} {len cap : Nat} {d : DataW H} {ps : List MemPlace} (h : DataW.Trod enc Try.prog w base (fun _ => true) held 22 (.slice a len cap) d ps) :
    ∃ es : List EV, len = es.length ∧ len ≤ cap ∧ cap ≤ maxLen ∧ Row w w.heap.size a (entsC es) ∧ (∀ x ∈ es, EOk w w.heap.size x) := by
  obtain ⟨fuel, hf⟩ := h
  rcases Go.Deep.open_slice Try.underlying22 (by simpa [Value.cells] using hf) with ⟨hcs, _⟩ | ⟨x, l, c, m, n, D, Pl, hcs, _, hl, hm, hmm, hd, hx⟩
  · simp only [List.cons.injEq, and_true] at hcs
    injection hcs with h1 h2 h3
    subst h1; subst h2; subst h3
    exact ⟨[], rfl, Nat.le_refl _, by unfold maxLen; omega, Row.nil _ _ _, by simp⟩
  · simp only [List.cons.injEq, and_true] at hcs
    injection hcs with h1 h2 h3
    subst h1; subst h2; subst h3
    simp only [if_true] at hmm
    subst hmm
    have hC : Try.prog.cellsOf 30 = 6 := by kernel_rfl
    rw [hC] at hx
    obtain ⟨V, hV⟩ := Go.Deep.choose_lt (n := len) (α := EV) (p := fun i r => (∀ j, j < 6 → w.cell? (x.add (i * 6 + j)) = (entC r)[j]?) ∧ EOk w w.heap.size r) (fun i hi => by
      obtain ⟨cs', h1, h2⟩ := hx i (by omega)
      obtain ⟨_, hlen, hat⟩ := World.cells?_some h1
      match cs', hlen with
      | [c0, c1, c2, c3, c4, c5], _ =>
        obtain ⟨r, hr, g1, g2, g3, g4⟩ := ent_cells8 h2
        refine ⟨r, fun j hj => ?_, ⟨g1, g2, g3, g4⟩⟩
        rw [← Go.Deep.add_add, hat j hj, hr])
    refine ⟨(List.range len).map V, by simp, hl, hm, ?_, ?_⟩
    · rcases Nat.eq_zero_or_pos len with h0 | h0
      · subst h0; exact Or.inl rfl
      · have hc0 := (hV 0 h0).1 0 (by omega)
        have hc0' : w.cell? x = some (.string ⟨(V 0).1.k.toArray⟩) := by
          have e : x.add (0 * 6 + 0) = x := by simp [Addr.add]
          rw [e] at hc0; exact hc0
        obtain ⟨b, o, spot⟩ := x
        have hspot : spot = none := World.cell?_spot hc0'
        subst hspot
        refine Or.inr ⟨b, o, rfl, block_lt hc0', fun j hj => ?_⟩
        have hj9 : j < len * 6 := by rw [entsC_len] at hj; simpa using hj
        have hi : j / 6 < len := by omega
        have hdd : j = j / 6 * 6 + j % 6 := by omega
        have hv := (hV (j / 6) hi).1 (j % 6) (by omega)
        rw [← hdd] at hv
        have e : (⟨b, o, none⟩ : Addr).add j = ⟨b, o + j, none⟩ := by
          unfold Addr.add; split
          · subst_vars; rfl
          · rfl
        rw [e] at hv
        have ht := entsC_at ((List.range len).map V) (j / 6) (by simpa using hi) (j % 6) (by omega)
        rw [← hdd, List.getElem?_eq_getElem hj] at ht
        rw [hv, ht, List.getElem_map, List.getElem_range]
    · intro r hr
      obtain ⟨i, hi, rfl⟩ := List.mem_map.1 hr
      exact (hV i (List.mem_range.1 hi)).2
theorem okT_lens9 {T : List EntP} {us : List EV} (h : OkT T) (he : us.map Prod.fst = T) : ∀ x ∈ us, x.1.v.length ≤ 60000 := fun x hx => by
  have := (rightE_yes (h.2 x.1 (by rw [← he]; exact List.mem_map.2 ⟨x, hx, rfl⟩))).2.2.1
  omega
def SameTag (x y : EntP) : Prop := x.k = y.k ∧ x.s = y.s ∧ x.u = y.u ∧ x.o = y.o
/-- No two of the first k have a key and a tag in common. -/
def Dist (es : List EV) (k : Nat) : Prop := ∀ i, ∀ hi : i < es.length, ∀ j, ∀ hj : j < es.length, i < k → j < i → ¬ SameTag es[i].1 es[j].1
theorem dist_all {es : List EV} (h : Dist es es.length) : ∀ a ∈ es.map Prod.fst, ∀ b ∈ es.map Prod.fst, a.k = b.k → a.s = b.s → a.u = b.u → a.o = b.o → a = b := by
  intro a ha b hb h1 h2 h3 h4
  obtain ⟨x, hx, rfl⟩ := List.mem_map.1 ha
  obtain ⟨y, hy, rfl⟩ := List.mem_map.1 hb
  obtain ⟨i, hi, rfl⟩ := List.mem_iff_getElem.1 hx
  obtain ⟨j, hj, rfl⟩ := List.mem_iff_getElem.1 hy
  rcases Nat.lt_trichotomy i j with g | g | g
  · exact absurd ⟨h1.symm, h2.symm, h3.symm, h4.symm⟩ (h j hj i hi hj g)
  · subst g; rfl
  · exact absurd ⟨h1, h2, h3, h4⟩ (h i hi j hj hi g)
/-- One of the two stores, with what was put. -/
structure OrdSt (w0 w : World) (F : Nat → Prop) (g : Nat) (S : St8) (X : List EntP) (k : Nat) : Prop where
  st : St1 w0 w F g S 0
  best : Best S.N X
  size : (allB S.rs).length ≤ k * 65546
  acks : S.acks.length ≤ k
theorem ord_put {w0 w : World} {F : Nat → Prop} {g k : Nat} {S : St8} {X : List EntP} {x : EV} (h : OrdSt w0 w F g S X k) (hk : k < 20) (hx : EOk w w0.heap.size x) :
    ∃ R : St8 × Int, (R.2 = 0 ∨ R.2 = 2) ∧ Calls Try.prog 6 #[.pointer (some ⟨g, 0, none⟩), .agg #[.string ⟨x.1.k.toArray⟩, .int .i64 x.1.s, .int .i64 x.1.u, .int .i64 x.1.o, .bool x.1.has, .slice x.2.1 x.1.v.length x.2.2], .int .i64 (k : Int)] w (StTo (.int .i64 R.2) F g R.1 0 w) ∧
      (∀ F' w', (∀ j, F' j → F j ∨ w.heap.size ≤ j) → StAt w' F' g R.1 0 → Touch F w w' → OrdSt w0 w' F' g R.1 (X ++ [x.1]) (k + 1)) := by
  have hs := h.st.bel.size
  have hb := best_step (who := (k : Int)) (e := x.1) h.best h.st.at_.ok (by omega) (by omega) h.size (by omega)
  have hl := hx.len
  refine ⟨putS S x.1 (k : Int), hb.2.2, put_any8 F g 0 S x (k : Int) (by have := h.acks; omega) hl.1 hl.2 w h.st.at_ (hx.row.more hs) hx.cap (RowN.of_low hx.row hs h.st.new), fun F' w' hf hst ht => ⟨h.st.to hf hst ht, hb.1, by have := hb.2.1; omega, ?_⟩⟩
  have := putS_acks S x.1 (k : Int)
  have := h.acks
  omega
theorem OrdSt.touch {w0 w w' : World} {F G : Nat → Prop} {g k : Nat} {S : St8} {X : List EntP} (h : OrdSt w0 w F g S X k) (ht : Touch G w w') (hd : ∀ j, F j → ¬ G j) (hG : ∀ j, G j → w0.heap.size ≤ j) : OrdSt w0 w' F g S X k :=
  ⟨⟨h.st.new, h.st.at_.touch ht hd, h.st.bel.trans (ht.below h.st.bel.size hG)⟩, h.best, h.size, h.acks⟩
theorem orders8_walk (A : Option Addr) (es : List EV) (n c t : Nat) (hn : n = es.length) (hnl : n ≤ maxLen) (ht : t ≤ 255) (w : World) (h : InE w A es) :
    Calls Try.prog 3 #[.slice A n c, .int .u8 (t : Int)] w (IsT true w) := by
  have HIN := Lib.hid h
  have HN := Lib.hid hn
  have hni : (n : Int) ≤ 9223372036854775807 := by unfold maxLen at hnl; omega
  have hni0 : (0 : Int) ≤ (n : Int) := by omega
  have ht0 : (0 : Int) ≤ (t : Int) := by omega
  have ht1 : (t : Int) ≤ 255 := by omega
  have fin : ∀ w1, Below w.heap.size w w1 → Calls Try.prog 4 #[] w1 (IsT true w) := fun w1 hb => (known8_any w1).mono fun e w2 ⟨he, hb2⟩ => ⟨he, hb.trans (hb2.mono hb.size)⟩
  have FIN := Lib.hid fin
  clear h hn hnl ht fin
  by_cases hbig : (20 : Int) < (n : Int)
  · go_enter Try.func3, Try.ntmps3
    go_wp2_with fail
    refine (FIN.out _ (Below.refl _ _)).mono ?_
    rintro e w1 ⟨rfl, hb⟩
    have HB := Lib.hid hb
    clear hb
    go_wp2
    go_ret
    exact ⟨rfl, HB.out⟩
  have hn20 : (n : Int) ≤ 20 := by omega
  clear hbig hni
  go_enter Try.func3, Try.ntmps3
  go_wp2_with fail
  go_loopw [5] (fun i wr => ∃ k : Nat, k ≤ n ∧ i = .int .i64 k ∧ Hid (Dist es k) ∧ Hid (Below w.heap.size w wr)) (fun i _ => n - (intOf i).toNat)
  case atStart => exact ⟨0, by omega, rfl, Lib.hid (fun i _ j _ h => by omega), Lib.hid (Below.refl _ _)⟩
  case round =>
    obtain ⟨k, hk, rfl, HDI, HB⟩ := hrel
    by_cases hlt : k < n
    · have hk1 : k < es.length := by rw [← HN.out]; exact hlt
      obtain ⟨hrow, hok⟩ := HIN.out wr HB.out
      obtain ⟨b, o, rfl, hbl, hc⟩ := ents_open hrow (by omega)
      obtain ⟨x0, x1, x2, x3, x4, x5⟩ := hc k hk1
      have hlen := (hok es[k] (List.getElem_mem hk1)).len
      have hne : Hid (∀ m, (∀ j, ∀ hj : j < es.length, j < m → ¬ SameTag es[k].1 es[j].1) → m = k → Dist es (k + 1)) := Lib.hid fun m hm hmk i hi j hj h1 h2 => by
        subst hmk
        by_cases hik : i = m
        · subst hik
          exact hm j hj h2
        · exact HDI.out i hi j hj (by omega) h2
      have HC := Lib.hid hc
      have HLC : Hid (∀ (q : Nat) (v : Value), wr.cell? ⟨b, q, none⟩ = some v → ∀ W, Below wr.heap.size wr W → W.cell? ⟨b, q, none⟩ = some v) := Lib.hid fun q v hv W hb => (hb.cell (p := ⟨b, q, none⟩) (block_lt hv)).trans hv
      obtain ⟨⟨x, xA, xc⟩, hx⟩ : ∃ p, es[k]'hk1 = p := ⟨_, rfl⟩
      rw [hx] at x0 x1 x2 x3 x5 hlen hne
      simp only at x0 x1 x2 x3 x5 hlen hne
      have HX := Lib.hid (And.intro x0 (And.intro x1 (And.intro x2 x3)))
      have hvl := hlen.1
      have hvl0 : (0 : Int) ≤ (x.v.length : Int) := by omega
      have hki : (0 : Int) ≤ (k : Int) := by omega
      have hki2 : (k : Int) < (n : Int) := by omega
      clear hc hx x0 x1 x2 x3 x4 hlen hrow hok
      by_cases h100 : (100 : Int) < (x.v.length : Int)
      · go_wp2_with fail
        refine (FIN.out _ HB.out).mono ?_
        rintro e w1 ⟨rfl, hb⟩
        have HB1 := Lib.hid hb
        clear hb
        go_wp2
        go_ret
        exact ⟨rfl, HB1.out⟩
      have h100b : (x.v.length : Int) ≤ 100 := by omega
      clear h100
      go_wp2_with fail
      go_loopw [6] (fun i wq => ∃ m : Nat, m ≤ k ∧ i = .int .i64 m ∧ Hid (∀ j, ∀ hj : j < es.length, j < m → ¬ SameTag x es[j].1) ∧ Hid (Below wr.heap.size wr wq)) (fun i _ => k - (intOf i).toNat)
      case atStart => exact ⟨0, Nat.zero_le _, rfl, Lib.hid (fun j _ h => by omega), Lib.hid (Below.refl _ _)⟩
      case round =>
        obtain ⟨m, hm, rfl, HM, HQ⟩ := hrel
        by_cases hlt2 : m < k
        · have hm1 : m < es.length := by omega
          obtain ⟨y0, y1, y2, y3, _, _⟩ := HC.out m hm1
          have hstep : Hid (¬ SameTag x es[m].1 → ∀ j, ∀ hj : j < es.length, j < m + 1 → ¬ SameTag x es[j].1) := Lib.hid fun hno j hj h1 => by
            by_cases hjm : j = m
            · subst hjm; exact hno
            · exact HM.out j hj (by omega)
          obtain ⟨⟨y, yA, yc⟩, hy⟩ : ∃ p, es[m]'hm1 = p := ⟨_, rfl⟩
          rw [hy] at y0 y1 y2 y3 hstep
          simp only at y0 y1 y2 y3 hstep
          have hca := fun (q : Nat) (v : Value) hv => later_cell (HLC.out q v hv wr HQ.out)
          have l0 := hca _ _ HX.out.1
          have l1 := hca _ _ HX.out.2.1
          have l2 := hca _ _ HX.out.2.2.1
          have l3 := hca _ _ HX.out.2.2.2
          have m0 := hca _ _ y0
          have m1 := hca _ _ y1
          have m2 := hca _ _ y2
          have m3 := hca _ _ y3
          have hmi : (0 : Int) ≤ (m : Int) := by omega
          have hmi2 : (m : Int) < (n : Int) := by omega
          have hmk : (m : Int) < (k : Int) := by omega
          clear hca y0 y1 y2 y3 hy
          obtain ⟨ky, us, uu, uo, uh, uv⟩ := y
          simp only at m0 m1 m2 m3 hstep
          by_cases hkey : x.k = ky
          · subst hkey
            have hq := run_eqT x.s x.u x.o us uu uo
            cases he : eqT x.s x.u x.o us uu uo
            · rw [he] at hq
              have HNX := Lib.hid (hstep.out (fun hs => by
                obtain ⟨_, g1, g2, g3⟩ := hs
                simp only at g1 g2 g3
                unfold eqT at he
                simp [g1, g2, g3] at he))
              clear he hstep
              go_wp2_with fail
              refine wp_region_later (by kernel_rfl) (by kernel_rfl) ?_
              repeat (go_big_quiet_step (fail))
              refine wpQuiet_nil ?_
              intro w' hw'
              obtain ⟨p, rfl⟩ := hw'
              go_wp2
              go_roundw
              case rel => exact ⟨m + 1, by omega, by go_num, HNX, Lib.hid (HQ.out.trans (p.bel.mono HQ.out.size))⟩
              case measure => simp [intOf]; omega
            · rw [he] at hq
              clear he hstep
              go_wp2_with fail
              refine wp_region_later (by kernel_rfl) (by kernel_rfl) ?_
              repeat (go_big_quiet_step (fail))
              refine wpQuiet_nil ?_
              intro w' hw'
              obtain ⟨p, rfl⟩ := hw'
              have HBP := Lib.hid ((HB.out.trans (HQ.out.mono HB.out.size)).trans (p.bel.mono (Nat.le_trans HB.out.size HQ.out.size)))
              go_wp2_with fail
              refine (FIN.out _ HBP.out).mono ?_
              rintro e w1 ⟨rfl, hb⟩
              have HB1 := Lib.hid hb
              clear hb
              go_wp2
              go_ret
              exact ⟨rfl, HB1.out⟩
          · have hb2 : ((⟨x.k.toArray⟩ : ByteArray).toList == (⟨ky.toArray⟩ : ByteArray).toList) = false := list_ne (fun e => hkey (by
              injection e with e
              have := congrArg Array.toList e
              simpa using this))
            have hb3 : (x.k == ky) = false := by simpa using hkey
            have HNX := Lib.hid (hstep.out (fun hs => hkey hs.1))
            clear hkey hstep
            go_wp2_with fail
            refine wp_region_later (by kernel_rfl) (by kernel_rfl) ?_
            repeat (go_big_quiet_step (fail))
            refine wpQuiet_nil ?_
            intro w' hw'
            obtain ⟨p, rfl⟩ := hw'
            go_wp2
            go_roundw
            case rel => exact ⟨m + 1, by omega, by go_num, HNX, Lib.hid (HQ.out.trans (p.bel.mono HQ.out.size))⟩
            case measure => simp [intOf]; omega
        · obtain rfl : m = k := by omega
          have HD2 := Lib.hid (hne.out m HM.out rfl)
          go_wp2
          go_roundw
          case rel => exact ⟨m + 1, by omega, by go_num, HD2, Lib.hid (HB.out.trans (HQ.out.mono HB.out.size))⟩
          case measure => simp [intOf]; omega
    · obtain rfl : k = n := by omega
      have HDA := Lib.hid (dist_all (es := es) (by rw [← HN.out]; exact HDI.out))
      go_wp2_with fail
      refine (newst_any wr).mono ?_
      rintro e w1 ⟨ga, Fa, rfl, hFa, hda, hb1⟩
      have HA1 : Hid (St1 w w1 Fa ga st0 0) := Lib.hid ⟨fun j hj => Nat.le_trans HB.out.size (hFa j hj), hda, HB.out.trans (hb1.mono HB.out.size)⟩
      simp only [id]
      clear hFa hda hb1
      go_wp2_with fail
      refine (newst_any w1).mono ?_
      rintro e w2 ⟨gb, Fb, rfl, hFb, hdb, hb2⟩
      have HA2 : Hid (OrdSt w w2 Fa ga st0 [] 0) := Lib.hid ⟨HA1.out.below hb2, best_nil, Nat.zero_le _, Nat.le_refl _⟩
      have HB2 : Hid (OrdSt w w2 Fb gb st0 [] 0) := Lib.hid ⟨⟨fun j hj => Nat.le_trans HA1.out.bel.size (hFb j hj), hdb, HA1.out.bel.trans (hb2.mono HA1.out.bel.size)⟩, best_nil, Nat.zero_le _, Nat.le_refl _⟩
      have HNM : Hid (∀ j, Fb j → ¬ Fa j) := Lib.hid fun j h1 h2 => by have g1 := hFb j h1; have g2 := HA1.out.at_.lt j h2; omega
      simp only [id]
      clear hFb hdb hb2 HA1 HDI HB
      go_wp2_with fail
      go_loopw [9] (fun i wr => ∃ m : Nat, m ≤ k ∧ i = .int .i64 m ∧ Hid (∃ Fa Sa Xa Fb Sb Xb, OrdSt w wr Fa ga Sa Xa m ∧ OrdSt w wr Fb gb Sb Xb m ∧ (∀ j, Fb j → ¬ Fa j) ∧ (∀ x ∈ Xa, x ∈ es.map Prod.fst) ∧ (∀ x ∈ Xb, x ∈ es.map Prod.fst) ∧
        (∀ i, ∀ hi : i < es.length, i < m → es[i].1 ∈ Xa) ∧ (∀ i, i < m → ∀ hi : (k - 1 - i + t) % k < es.length, es[(k - 1 - i + t) % k].1 ∈ Xb))) (fun i _ => k - (intOf i).toNat)
      case atStart => exact ⟨0, Nat.zero_le _, rfl, Lib.hid ⟨Fa, st0, [], Fb, st0, [], HA2.out, HB2.out, HNM.out, (fun x h => by cases h), (fun x h => by cases h), (fun i _ h => by omega), (fun i h => by omega)⟩⟩
      case round =>
        obtain ⟨m, hm, rfl, HK⟩ := hrel
        clear HA2 HB2 HNM
        obtain ⟨Fa, Sa, Xa, Fb, Sb, Xb, ha, hb, hnm, hxa, hxb, hca, hcb⟩ := HK.out
        have HA := Lib.hid ha
        have HB := Lib.hid hb
        have HNM := Lib.hid hnm
        have HXA := Lib.hid hxa
        have HXB := Lib.hid hxb
        have HCA := Lib.hid hca
        have HCB := Lib.hid hcb
        clear HK ha hb hnm hxa hxb hca hcb
        by_cases hlt : m < k
        · have hm1 : m < es.length := by rw [← HN.out]; exact hlt
          obtain ⟨hrow, hok⟩ := HIN.out wr HA.out.st.bel
          obtain ⟨b, o, rfl, hbl, hc⟩ := ents_open hrow (by omega)
          obtain ⟨x0, x1, x2, x3, x4, x5⟩ := hc m hm1
          obtain ⟨R, hr, hcall, hnext⟩ := ord_put HA.out (by omega) (hok es[m] (List.getElem_mem hm1))
          have HXM : Hid (es[m].1 ∈ es.map Prod.fst) := Lib.hid (List.mem_map.2 ⟨_, List.getElem_mem hm1, rfl⟩)
          have HCA2 : Hid (∀ i, ∀ hi : i < es.length, i < m + 1 → es[i].1 ∈ Xa ++ [es[m].1]) := Lib.hid fun i hi h1 => by
            by_cases him : i = m
            · subst him; simp
            · exact List.mem_append_left _ (HCA.out i hi (by omega))
          obtain ⟨⟨x, xA, xc⟩, hx⟩ : ∃ p, es[m]'hm1 = p := ⟨_, rfl⟩
          rw [hx] at x0 x1 x2 x3 x4 x5 hcall hnext HXM HCA2
          simp only at x0 x1 x2 x3 x4 x5 hcall hnext HXM HCA2
          have HCALL := Lib.hid hcall
          have HNEXT := Lib.hid hnext
          have hmi : (0 : Int) ≤ (m : Int) := by omega
          have hmi2 : (m : Int) < (k : Int) := by omega
          clear hc hx hrow hok hcall hnext
          go_wp2_with fail
          refine HCALL.out.mono ?_
          rintro e w3 ⟨rfl, F3, hf, hs, ht⟩
          have HA3 := Lib.hid (HNEXT.out F3 w3 hf hs ht)
          have HB3 := Lib.hid (HB.out.touch ht HNM.out HA.out.st.new)
          have HNM3 : Hid (∀ j, Fb j → ¬ F3 j) := Lib.hid fun j h1 h2 => by
            rcases hf j h2 with g | g
            · exact HNM.out j h1 g
            · have := HB.out.st.at_.lt j h1; omega
          clear hf hs ht HCALL HNEXT HA HB HNM x0 x1 x2 x3 x4 x5
          obtain ⟨z, hz⟩ : ∃ z, (k - 1 - m + t) % k = z := ⟨_, rfl⟩
          have hzk : z < k := by rw [← hz]; exact Nat.mod_lt _ (by omega)
          have hz1 : z < es.length := by rw [← HN.out]; exact hzk
          have hrem : ((k : Int) - 1 - (m : Int) + (t : Int)).tmod (k : Int) = (z : Int) := by
            have e : (k : Int) - 1 - (m : Int) + (t : Int) = ((k - 1 - m + t : Nat) : Int) := by omega
            rw [e, ← hz]; rfl
          have hzi : (0 : Int) ≤ (z : Int) := by omega
          have hzi2 : (z : Int) < (k : Int) := by omega
          have hk0 : (0 : Int) < (k : Int) := by omega
          have s1 : IntKind.i64.wrap ((k : Int) - 1) = (k : Int) - 1 := by rw [IntKind.wrap_i64]; omega
          have s2 : IntKind.i64.wrap ((k : Int) - 1 - (m : Int)) = (k : Int) - 1 - (m : Int) := by rw [IntKind.wrap_i64]; omega
          have s3 : IntKind.i64.wrap ((k : Int) - 1 - (m : Int) + (t : Int)) = (k : Int) - 1 - (m : Int) + (t : Int) := by rw [IntKind.wrap_i64]; omega
          have s4 : IntKind.i64.wrap (z : Int) = (z : Int) := by rw [IntKind.wrap_i64]; omega
          obtain ⟨hrow, hok⟩ := HIN.out w3 HA3.out.st.bel
          obtain ⟨b9, o9, e9, _, hc⟩ := ents_open hrow (by omega)
          injection e9 with e9
          injection e9 with e91 e92
          subst e91; subst e92
          obtain ⟨x0, x1, x2, x3, x4, x5⟩ := hc z hz1
          obtain ⟨R2, hr2, hcall, hnext⟩ := ord_put HB3.out (by omega) (hok es[z] (List.getElem_mem hz1))
          have HXM2 : Hid (es[z].1 ∈ es.map Prod.fst) := Lib.hid (List.mem_map.2 ⟨_, List.getElem_mem hz1, rfl⟩)
          have HCB2 : Hid (∀ i, i < m + 1 → ∀ hi : (k - 1 - i + t) % k < es.length, es[(k - 1 - i + t) % k].1 ∈ Xb ++ [es[z].1]) := Lib.hid fun i h1 hi => by
            by_cases him : i = m
            · subst him
              have : es[(k - 1 - i + t) % k] = es[z] := by congr 1
              rw [this]; simp
            · exact List.mem_append_left _ (HCB.out i (by omega) hi)
          obtain ⟨⟨y, yA, yc⟩, hy⟩ : ∃ p, es[z]'hz1 = p := ⟨_, rfl⟩
          rw [hy] at x0 x1 x2 x3 x4 x5 hcall hnext HXM2 HCB2
          simp only at x0 x1 x2 x3 x4 x5 hcall hnext HXM2 HCB2
          have HCALL := Lib.hid hcall
          have HNEXT := Lib.hid hnext
          clear hc hy hrow hok hcall hnext hz
          go_wp2_with fail
          refine HCALL.out.mono ?_
          rintro e w4 ⟨rfl, F4, hf, hs, ht⟩
          have HB4 := Lib.hid (HNEXT.out F4 w4 hf hs ht)
          have HA4 := Lib.hid (HA3.out.touch ht (fun j h1 h2 => HNM3.out j h2 h1) HB3.out.st.new)
          have HNM4 : Hid (∀ j, F4 j → ¬ F3 j) := Lib.hid fun j h1 h2 => by
            rcases hf j h1 with g | g
            · exact HNM3.out j g h2
            · have := HA3.out.st.at_.lt j h2; omega
          have HK2 : Hid (∃ Fa Sa Xa Fb Sb Xb, OrdSt w w4 Fa ga Sa Xa (m + 1) ∧ OrdSt w w4 Fb gb Sb Xb (m + 1) ∧ (∀ j, Fb j → ¬ Fa j) ∧ (∀ x ∈ Xa, x ∈ es.map Prod.fst) ∧ (∀ x ∈ Xb, x ∈ es.map Prod.fst) ∧
              (∀ i, ∀ hi : i < es.length, i < m + 1 → es[i].1 ∈ Xa) ∧ (∀ i, i < m + 1 → ∀ hi : (k - 1 - i + t) % k < es.length, es[(k - 1 - i + t) % k].1 ∈ Xb)) := Lib.hid
            ⟨F3, R.1, Xa ++ [x], F4, R2.1, Xb ++ [y], HA4.out, HB4.out, HNM4.out, (fun q hq => by
              rcases List.mem_append.1 hq with g | g
              · exact HXA.out q g
              · obtain rfl : q = x := by simpa using g
                exact HXM.out), (fun q hq => by
              rcases List.mem_append.1 hq with g | g
              · exact HXB.out q g
              · obtain rfl : q = y := by simpa using g
                exact HXM2.out), HCA2.out, HCB2.out⟩
          clear hf hs ht HCALL HNEXT HA3 HB3 HNM3 HCA HCB HXA HXB HCA2 HCB2 HXM HXM2 x0 x1 x2 x3 x4 x5 hrem s1 s2 s3 s4
          obtain ⟨r1, hr1⟩ : ∃ q, R.2 = q := ⟨_, rfl⟩
          obtain ⟨r2, hrr2⟩ : ∃ q, R2.2 = q := ⟨_, rfl⟩
          rw [hr1] at hr ⊢
          rw [hrr2] at hr2 ⊢
          clear hr1 hrr2
          rcases hr with rfl | rfl <;> rcases hr2 with rfl | rfl
          all_goals
            go_wp2
            go_roundw
            case rel => exact ⟨m + 1, by omega, by go_num, HK2⟩
            case measure => simp [intOf]; omega
        · obtain rfl : m = k := by omega
          have HEQ : Hid (Sa.N = Sb.N) := Lib.hid (by
            have hall : ∀ x ∈ es.map Prod.fst, x ∈ Xa ∧ x ∈ Xb := fun x hx => by
              obtain ⟨y, hy, rfl⟩ := List.mem_map.1 hx
              obtain ⟨i, hi, rfl⟩ := List.mem_iff_getElem.1 hy
              refine ⟨HCA.out i hi (by rw [HN.out]; exact hi), ?_⟩
              obtain ⟨j, hj, hj2⟩ := turn_onto m t i (by rw [HN.out]; exact hi)
              have h5 := HCB.out j hj (by rw [hj2]; exact hi)
              have : es[(m - 1 - j + t) % m]'(by rw [hj2]; exact hi) = es[i] := by congr 1
              rw [this] at h5
              exact h5
            exact best_same HA.out.st.at_.ok.nOk.srt HB.out.st.at_.ok.nOk.srt HA.out.best HB.out.best (fun x hx => (hall x (HXA.out x hx)).2) (fun x hx => (hall x (HXB.out x hx)).1) (fun a ha b hb => HDA.out a (HXA.out a ha) b (HXA.out b hb)))
          go_wp2_with fail
          refine (tick_any8 Fa ga 0 Sa (by omega) wr HA.out.st.at_).mono ?_
          rintro e w3 ⟨F3, A3, c3, q3, rfl, _, _, hf, hq3, hs, ht⟩
          have HA3 := Lib.hid (HA.out.st.to hf hs ht)
          have HB3 := Lib.hid (HB.out.touch ht HNM.out HA.out.st.new)
          have HNM3 : Hid (∀ j, Fb j → ¬ F3 j) := Lib.hid fun j h1 h2 => by
            rcases hf j h2 with g | g
            · exact HNM.out j h1 g
            · have := HB.out.st.at_.lt j h1; omega
          clear hf hq3 hs ht HA HB HNM
          go_wp2_with fail
          refine (tick_any8 Fb gb 0 Sb (by omega) w3 HB3.out.st.at_).mono ?_
          rintro e w4 ⟨F4, A4, c4, q4, rfl, _, _, hf, hq4, hs, ht⟩
          have HB4 := Lib.hid (HB3.out.st.to hf hs ht)
          have HA4 : Hid (St1 w w4 F3 ga (tickS Sa) q3) := Lib.hid ⟨HA3.out.new, HA3.out.at_.touch ht (fun j h1 h2 => HNM3.out j h2 h1), HA3.out.bel.trans (ht.below HA3.out.bel.size HB3.out.st.new)⟩
          have HTN := Lib.hid (tab_many HA4.out.at_).1
          clear hf hq4 hs ht HA3 HB3 HNM3
          go_wp2_with fail
          refine (all_any8 F3 ga q3 (tickS Sa) w4 HA4.out.at_).mono ?_
          rintro e w5 ⟨us, A5, c5, hus, rfl, ho, he, hb⟩
          have HUS : Hid (us.map Prod.fst = Sa.N) := Lib.hid hus
          have HV5 : Hid (EnV w5 A5 us) := Lib.hid (enV_of ho he (okT_lens9 HA4.out.at_.ok.lOk hus))
          have HB5 := Lib.hid (HB4.out.below hb)
          have HUL : Hid (us.length ≤ 8388608) := Lib.hid (by have h1 := congrArg List.length hus; rw [List.length_map] at h1; have := HTN.out; omega)
          clear hus ho he hb HA4 HB4
          go_wp2_with fail
          refine (all_any8 F4 gb q4 (tickS Sb) w5 HB5.out.at_).mono ?_
          rintro e w6 ⟨vs, A6, c6, hvs, rfl, ho, he, hb⟩
          have HVS : Hid (vs.map Prod.fst = Sb.N) := Lib.hid hvs
          have HV6 : Hid (EnV w6 A6 vs) := Lib.hid (enV_of ho he (okT_lens9 HB5.out.at_.ok.lOk hvs))
          have HU6 := Lib.hid (HV5.out.below hb)
          have HB6 := Lib.hid (HB5.out.below hb)
          clear hvs ho he hb HV5 HB5
          go_wp2_with fail
          refine (sameall_true us.length c5 vs.length c6 A5 A6 us vs rfl rfl (HUS.out.trans (HEQ.out.trans HVS.out.symm)) (by have := HUL.out; omega) w6 HU6.out HV6.out).mono ?_
          rintro e w7 ⟨rfl, hb⟩
          have HB7 := Lib.hid (HB6.out.below hb)
          clear hb HB6
          go_wp2_with fail
          refine (FIN.out w7 HB7.out.bel).mono ?_
          rintro e w8 ⟨rfl, hb8⟩
          have HB8 := Lib.hid hb8
          clear hb8
          go_wp2
          go_ret
          exact ⟨rfl, HB8.out⟩
end Go.Proofs.Ytkleecaghgpndaa
