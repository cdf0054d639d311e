/- The law StoreSilent, walked. -/
import Derived.Test.YtkleecaghgpndaaGreatSameAll8
import Derived.HandedShaped
namespace Go.Proofs.YtkleecaghgpndaaGreat
open Go.RowKit Go.ChangeShapes Mem Be Word Frm Go.Maps
set_option maxRecDepth 100000
set_option maxHeartbeats 4000000
set_option linter.unusedVariables false
theorem InD8.move {w w1 : World} {A : Option Addr} {rs : List D8} (h : InD8 w A rs) (hb : Below w.heap.size w w1) : InD8 w1 A rs := fun W hb2 => by
  obtain ⟨h1, h2⟩ := h W (hb.trans (hb2.mono hb.size))
  exact ⟨h1.more hb.size, fun r hr => by have := h2 r hr; exact ⟨this.row.more hb.size, this.cap, this.capm, this.key, this.k0, this.k1, this.p0, this.p1⟩⟩
theorem RowN.grow {F F' : Nat → Prop} {w w' : World} {A : Option Addr} {xs : List Value} (h : RowN F w A xs) (hf : ∀ k, F' k → F k ∨ w.heap.size ≤ k) (ht : Touch F w w') : RowN F' w' A xs := by
  have h2 := h.touch ht
  rcases h with h | ⟨b, o, rfl, hb, hl, hc⟩
  · exact Or.inl h
  · rcases h2 with h2 | ⟨b2, o2, e, hb2, hl2, hc2⟩
    · exact Or.inl h2
    · injection e with e
      injection e with e1 e2
      subst e1; subst e2
      refine Or.inr ⟨_, _, rfl, fun hF => ?_, hl2, hc2⟩
      rcases hf _ hF with h | h
      · exact hb h
      · omega
/-- Entries that lie in a row, apart from F. -/
structure EnN (F : Nat → Prop) (w : World) (A : Option Addr) (us : List EV) : Prop where
  row : RowN F w A (entsC us)
  val : ∀ x ∈ us, RowN F w x.2.1 (x.1.v.map byteV) ∧ x.1.v.length ≤ 60000 ∧ x.1.v.length ≤ x.2.2
theorem EnN.env {F : Nat → Prop} {w : World} {A : Option Addr} {us : List EV} (h : EnN F w A us) : EnV w A us :=
  ⟨h.row.row, fun x hx => ⟨(h.val x hx).1.row, by have := (h.val x hx).2.1; omega, (h.val x hx).2.2⟩⟩
theorem EnN.to {F F' : Nat → Prop} {w w' : World} {A : Option Addr} {us : List EV} (h : EnN F w A us) (hf : ∀ k, F' k → F k ∨ w.heap.size ≤ k) (ht : Touch F w w') : EnN F' w' A us :=
  ⟨h.row.grow hf ht, fun x hx => ⟨(h.val x hx).1.grow hf ht, (h.val x hx).2⟩⟩
theorem EnN.below {F : Nat → Prop} {w w' : World} {A : Option Addr} {us : List EV} (h : EnN F w A us) (hb : Below w.heap.size w w') : EnN F w' A us := h.to (fun k hk => Or.inl hk) (Touch.ofBelow hb)
theorem enN_of {F : Nat → Prop} {w w1 : World} {A : Option Addr} {n c : Nat} {us : List EV} (hF : ∀ k, F k → k < w.heap.size) (ho : w1.ownsRow w.heap.size 45 6 (.slice A n c) n (entsC us)) (he : EntsO w1 w.heap.size us) (hl : ∀ x ∈ us, x.1.v.length ≤ 60000) : EnN F w1 A us :=
  ⟨rowN_own hF ho, fun x hx => ⟨rowN_own hF (he x hx), hl x hx, (own_cap (he x hx)).1⟩⟩
theorem okT_lens {T : List EntP} {us : List EV} (h : OkT T) (he : us.map Prod.fst = T) : ∀ x ∈ us, x.1.v.length ≤ 60000 := fun x hx => by
  have := (rightE_yes (h.2 x.1 (by rw [← he]; exact List.mem_map.2 ⟨x, hx, rfl⟩))).2.2.1
  omega
/-- Bytes are written over, and nothing else. -/
structure Scr (w w' : World) : Prop where
  non : ∀ b o v, w.cell? ⟨b, o, none⟩ = some v → (∀ n, v ≠ .int .u8 n) → w'.cell? ⟨b, o, none⟩ = some v
  byt : ∀ b o n, w.cell? ⟨b, o, none⟩ = some (.int .u8 n) → ∃ n', w'.cell? ⟨b, o, none⟩ = some (.int .u8 n')
  frz : ∀ b o v, w.cell? ⟨b, o, none⟩ = some v → w.frozen? ⟨b, o, none⟩ = false → w'.frozen? ⟨b, o, none⟩ = false
theorem Scr.refl (w : World) : Scr w w := ⟨fun _ _ _ h _ => h, fun _ _ n h => ⟨n, h⟩, fun _ _ _ _ h => h⟩
theorem Scr.set {w w' : World} (h : Scr w w') {b o : Nat} {n : Int} (hc : w'.cell? ⟨b, o, none⟩ = some (.int .u8 n)) (m : Int) : Scr w (w'.setCell ⟨b, o, none⟩ (.int .u8 m)) := by
  refine ⟨fun b1 o1 v hv hn => ?_, fun b1 o1 n1 hv => ?_, fun b1 o1 v hv hf => ?_⟩
  · have h1 := h.non b1 o1 v hv hn
    have hne : (⟨b, o, none⟩ : Addr) ≠ ⟨b1, o1, none⟩ := fun e => by
      rw [← e, hc] at h1; injection h1 with h1; exact hn n h1.symm
    exact (World.cell?_setCell_other _ _ _ _ hne).trans h1
  · exact someInt_setCell (h.byt b1 o1 n1 hv) _ m
  · have h1 := h.frz b1 o1 v hv hf
    rw [← h1]; simp
theorem Scr.drew {w w' : World} (h : Scr w w') : Scr w w'.drew := ⟨h.non, h.byt, h.frz⟩
theorem notmay_neg (e : EntP) : ¬ mayP e (-1) := fun h => by have := h.2.2.1; omega
theorem notmay_none (k : List UInt8) (who : Int) : ¬ mayP ⟨k, 0, 0, 0, false, []⟩ who := fun h => h.2.1 rfl
theorem own_zero {w : World} {B s n m c : Nat} {e : TypeId} {b o : Nat} {xs : List Value} (h : w.ownsRow B e s (.slice (some ⟨b, o, none⟩) m c) n xs) (j : Nat) : w.frozen? ⟨b, j, none⟩ = false := by
  obtain ⟨_, _, cur, hc⟩ := ownIn h rfl
  simp only at hc
  simp [World.frozen?, hc]
theorem silent8_walk (A : Option Addr) (rs : List D8) (n c : Nat) (x : EV) (hn : n = rs.length) (hnl : n ≤ 1466015503701) (w : World) (h : InD8 w A rs) (hx : Row w w.heap.size x.2.1 (x.1.v.map byteV)) (hxk : x.1.k.length ≤ maxLen) (hxc : x.1.v.length ≤ x.2.2) (hxm : x.2.2 ≤ maxLen) :
    Calls Tryz.prog 8 #[.slice A n c, evV x] w (IsT true w) := by
  obtain ⟨⟨ek, es, eu, eo, eh, ev⟩, eA, ec⟩ := x
  simp only at hx hxk hxc hxm
  have hevl : (ev.length : Int) ≤ 9223372036854775807 := by unfold maxLen at hxm; omega
  have hekl : (ek.length : Int) ≤ 9223372036854775807 := by unfold maxLen at hxk; omega
  have HN := Lib.hid hn
  have HNL := Lib.hid hnl
  have hni : (n : Int) ≤ 1466015503701 := by omega
  have hni0 : (0 : Int) ≤ (n : Int) := by omega
  obtain ⟨W1, hW1⟩ : ∃ W1, w.alloc (.cells #[.string ⟨ek.toArray⟩, .int .i64 es, .int .i64 eu, .int .i64 eo, .bool eh, .slice eA ev.length ec] 45) = W1 := ⟨_, rfl⟩
  have hbw : Below w.heap.size w W1 := by rw [← hW1]; exact (Below.refl _ _).alloc (Nat.le_refl _) _
  have hblk : Blk W1 w.heap.size 45 #[.string ⟨ek.toArray⟩, .int .i64 es, .int .i64 eu, .int .i64 eo, .bool eh, .slice eA ev.length ec] := by rw [← hW1]; exact Blk.new w _ _
  have HIN := Lib.hid (h.move hbw)
  have HBW := Lib.hid hbw
  have HBLK := Lib.hid hblk
  have HX := Lib.hid ((hx.below hbw).more hbw.size)
  have HXC := Lib.hid hxc
  have HLG := Lib.hid (long8_any n c A rs hn (by unfold maxLen; omega) W1 (h.move hbw))
  have fin : ∀ w1, Below W1.heap.size W1 w1 → Calls Tryz.prog 10 #[] w1 (IsT true w) := fun w1 hb => (known8_any w1).mono fun e w2 ⟨he, hb2⟩ => ⟨he, (hbw.trans (hb.mono hbw.size)).trans (hb2.mono (Nat.le_trans hbw.size hb.size))⟩
  have FIN := Lib.hid fin
  clear h hn hnl hx hxk hxc hxm hbw hblk fin
  unfold evV entV
  simp only
  go_enter Tryz.func8, Tryz.ntmps8
  go_wp2_with fail
  refine HLG.out.mono ?_
  rintro e w0 ⟨⟨lb, rfl⟩, hb⟩
  have HB0 := Lib.hid hb
  have HBK0 := Lib.hid (HBLK.out.below hb HBLK.out.lt)
  have hk5 : w0.cell? ⟨w.heap.size, 5, none⟩ = some (.slice eA ev.length ec) := HBK0.out.cell 5
  clear HLG hb
  by_cases hlb : 1500 < lb
  · go_wp2_with fail
    refine (FIN.out _ HB0.out).mono ?_
    rintro e w1 ⟨rfl, hb⟩
    have HB := Lib.hid hb
    clear hb
    go_wp2
    go_ret
    exact ⟨rfl, HB.out⟩
  have hlb2 : lb ≤ 1500 := by omega
  clear hlb
  by_cases hkb : (300 : Int) < (ev.length : Int)
  · go_wp2_with fail
    refine (FIN.out _ HB0.out).mono ?_
    rintro e w1 ⟨rfl, hb⟩
    have HB := Lib.hid hb
    clear hb
    go_wp2
    go_ret
    exact ⟨rfl, HB.out⟩
  have hkb2 : (ev.length : Int) ≤ 300 := by omega
  clear hkb
  go_wp2_with fail
  refine (newst_any w0).mono ?_
  rintro e w1 ⟨g0, F0, rfl, hF, hd, hb⟩
  have HK0 : Hid (St1 W1 w1 F0 g0 st0 0) := Lib.hid ⟨fun k hk => Nat.le_trans HB0.out.size (hF k hk), hd, HB0.out.trans (hb.mono HB0.out.size)⟩
  simp only [id]
  clear hF hd hb hk5
  go_wp2_with fail
  go_loopw [5, 6] (fun z i wr => ∃ k : Nat, k ≤ n ∧ i = .int .i64 k ∧ ∃ g, z = .pointer (some ⟨g, 0, none⟩) ∧ Hid (∃ F S q, q ≤ k ∧ S.acks.length ≤ k ∧ St1 W1 wr F g S q)) (fun _ i _ => n - (intOf i).toNat)
  case atStart => exact ⟨0, by omega, rfl, g0, rfl, Lib.hid ⟨F0, st0, 0, by omega, Nat.le_refl _, HK0.out⟩⟩
  case round =>
    obtain ⟨k, hk, rfl, g, rfl, HK⟩ := hrel
    obtain ⟨F, S, q, hq, ha, hd⟩ := HK.out
    have HD := Lib.hid hd
    have HQ := Lib.hid hq
    have HA := Lib.hid ha
    clear HK hd hq ha HK0
    by_cases hlt : k < n
    · have hk1 : k < rs.length := by rw [← HN.out]; exact hlt
      obtain ⟨b, o, rfl, _, hc⟩ := d8s_open (HIN.out wr HD.out.bel).1 (by omega)
      have d0 := hc k hk1 0 _ rfl
      have d1 := hc k hk1 1 _ rfl
      have d2 := hc k hk1 2 _ rfl
      have d3 := hc k hk1 3 _ rfl
      have d4 := hc k hk1 4 _ rfl
      have d5 := hc k hk1 5 _ rfl
      have d6 := hc k hk1 6 _ rfl
      have d7 := hc k hk1 7 _ rfl
      have d8 := hc k hk1 8 _ rfl
      rw [Nat.add_zero] at d0
      have C := done8_round HIN.out HD.out hk1 (by have := HQ.out; have := HNL.out; omega) (by have := HA.out; have := HNL.out; omega)
      have hstep := d8S_acks S rs[k]
      obtain ⟨R, hR⟩ : ∃ R, d8S S rs[k] = R := ⟨_, rfl⟩
      rw [hR] at C hstep
      unfold dV at C
      obtain ⟨⟨kd, ⟨⟨xk, xs, xu, xo, xh, xv⟩, xA, xc⟩, ew, kp⟩, hy1⟩ : ∃ y, rs[k] = y := ⟨_, rfl⟩
      rw [hy1] at d0 d1 d2 d3 d4 d5 d6 d7 d8 C
      simp only at d0 d1 d2 d3 d4 d5 d6 d7 d8 C
      have HC := Lib.hid C
      have HAS : Hid (R.1.acks.length ≤ k + 1) := Lib.hid (by have := HA.out; omega)
      have hki : (0 : Int) ≤ (k : Int) := by omega
      have hki2 : (k : Int) < (n : Int) := by omega
      clear hc hy1 C hR hstep HA
      go_wp2_with fail
      refine HC.out.mono ?_
      intro e w2 hx
      obtain ⟨g2, F2, q2, A2, c2, rfl, hq2, hl2, _, _⟩ := HD.out.done hx
      have HK2 : Hid (∃ F S q, q ≤ k + 1 ∧ S.acks.length ≤ k + 1 ∧ St1 W1 w2 F g2 S q) := Lib.hid ⟨F2, R.1, q2, by have := HQ.out; omega, HAS.out, hl2⟩
      clear hx hq2 hl2 HC d0 d1 d2 d3 d4 d5 d6 d7 d8 HD HQ
      go_wp2
      go_roundw
      case rel => exact ⟨k + 1, by omega, by go_num, g2, rfl, HK2⟩
      case measure => simp [intOf]; omega
    · obtain rfl : k = n := by omega
      have hal : (S.acks.length : Int) ≤ 1466015503701 := by have := HA.out; omega
      have hal0 : (0 : Int) ≤ (S.acks.length : Int) := by omega
      have HTM := Lib.hid (tab_many HD.out.at_).1
      go_wp2_with fail
      refine (all_any8 F g q S wr HD.out.at_).mono ?_
      rintro e w2 ⟨us, A1, c1, hus, rfl, ho, he, hb⟩
      have HUS := Lib.hid hus
      have HW : Hid (EnN F w2 A1 us) := Lib.hid (enN_of HD.out.at_.lt ho he (okT_lens HD.out.at_.ok.lOk hus))
      have HL2 := Lib.hid (HD.out.below hb)
      clear hus ho he hb HD
      go_wp2_with fail
      refine (waiting_any8 F g q S w2 HL2.out.at_).mono ?_
      rintro e w' ⟨rfl, rfl⟩
      have HBK2 := Lib.hid (HBLK.out.below HL2.out.bel HBLK.out.lt)
      have t0 : w2.cell? ⟨w.heap.size, 0, none⟩ = some (.string ⟨ek.toArray⟩) := HBK2.out.cell 0
      have t1 : w2.cell? ⟨w.heap.size, 1, none⟩ = some (.int .i64 es) := HBK2.out.cell 1
      have t2 : w2.cell? ⟨w.heap.size, 2, none⟩ = some (.int .i64 eu) := HBK2.out.cell 2
      have t3 : w2.cell? ⟨w.heap.size, 3, none⟩ = some (.int .i64 eo) := HBK2.out.cell 3
      have t4 : w2.cell? ⟨w.heap.size, 4, none⟩ = some (.bool eh) := HBK2.out.cell 4
      have t5 : w2.cell? ⟨w.heap.size, 5, none⟩ = some (.slice eA ev.length ec) := HBK2.out.cell 5
      go_wp2_with fail
      refine (put_refused F g q S (⟨ek, es, eu, eo, eh, ev⟩, eA, ec) (-1) (notmay_neg _) hevl hekl w2 HL2.out.at_).mono ?_
      rintro e w3 ⟨rfl, F3, hf, hs, ht⟩
      have HL3 := Lib.hid (HL2.out.to hf hs ht)
      have HW3 := Lib.hid (HW.out.to hf ht)
      have HBK3 := Lib.hid (HBLK.out.below HL3.out.bel HBLK.out.lt)
      clear hf hs ht t0 t1 t2 t3 t4 t5 HL2 HW HBK2
      have t0 : w3.cell? ⟨w.heap.size, 0, none⟩ = some (.string ⟨ek.toArray⟩) := HBK3.out.cell 0
      go_wp2_with fail
      refine (put_refused F3 g q S (⟨ek, 0, 0, 0, false, []⟩, none, 0) 3 (notmay_none _ _) (by simp) hekl w3 HL3.out.at_).mono ?_
      rintro e w4 ⟨rfl, F4, hf, hs, ht⟩
      have HL4 := Lib.hid (HL3.out.to hf hs ht)
      have HW4 := Lib.hid (HW3.out.to hf ht)
      clear hf hs ht t0 HL3 HW3 HBK3
      go_wp2_with fail
      refine (all_any8 F4 g q S w4 HL4.out.at_).mono ?_
      rintro e w5 ⟨vs, A5, c5, hvs, rfl, ho, he, hb⟩
      have HO5 := Lib.hid ho
      have HE5 := Lib.hid he
      have HB5 := Lib.hid hb
      have HVL : Hid (vs.length ≤ 8388608) := Lib.hid (by have h1 := congrArg List.length hvs; rw [List.length_map] at h1; have := HTM.out; omega)
      have HVX := Lib.hid (okT_lens HL4.out.at_.ok.lOk hvs)
      have hvl : (vs.length : Int) ≤ 8388608 := by have := HVL.out; omega
      have hvl0 : (0 : Int) ≤ (vs.length : Int) := by omega
      clear ho he hb hvs
      go_wp2_with fail
      go_loopw [15] (fun i wr => ∃ j : Nat, j ≤ vs.length ∧ i = .int .i64 j ∧ Hid (Scr w5 wr) ∧ Hid (Below w4.heap.size w4 wr)) (fun i _ => vs.length - (intOf i).toNat)
      case atStart => exact ⟨0, Nat.zero_le _, rfl, Lib.hid (Scr.refl _), HB5⟩
      case round =>
        obtain ⟨j, hj, rfl, HS, HB⟩ := hrel
        by_cases hlt2 : j < vs.length
        · obtain ⟨b, o, rfl, hbl, hc⟩ := ents_open (ownRow HO5.out) (by omega)
          obtain ⟨_, _, _, _, _, a5⟩ := hc j hlt2
          have hxl := HVX.out vs[j] (List.getElem_mem hlt2)
          have hxo := HE5.out vs[j] (List.getElem_mem hlt2)
          obtain ⟨⟨y, yA, yc⟩, hy⟩ : ∃ p, vs[j]'hlt2 = p := ⟨_, rfl⟩
          rw [hy] at a5 hxl hxo
          simp only at a5 hxl hxo
          have HXO := Lib.hid hxo
          have HA5 := Lib.hid a5
          have hji : (0 : Int) ≤ (j : Int) := by omega
          have hji2 : (j : Int) < (vs.length : Int) := by omega
          have hyl : (y.v.length : Int) ≤ 60000 := by omega
          have hyl0 : (0 : Int) ≤ (y.v.length : Int) := by omega
          clear hc hy hxo a5
          go_wp2_with fail
          go_loopw [16] (fun i wr => ∃ m : Nat, m ≤ y.v.length ∧ i = .int .i64 m ∧ Hid (Scr w5 wr) ∧ Hid (Below w4.heap.size w4 wr)) (fun i _ => y.v.length - (intOf i).toNat)
          case atStart => exact ⟨0, Nat.zero_le _, rfl, HS, HB⟩
          case round =>
            clear HS HB
            obtain ⟨m, hm, rfl, HS, HB⟩ := hrel
            have a5 := HS.out.non _ _ _ HA5.out (fun n => by simp)
            by_cases hlt3 : m < y.v.length
            · obtain ⟨b3, o3, rfl, hb3, hc3⟩ := (ownRow HXO.out).open_ (by simp; omega)
              have hcell := hc3 m (by simpa using hlt3)
              rw [List.getElem_map] at hcell
              unfold byteV at hcell
              obtain ⟨z, hz⟩ := HS.out.byt _ _ _ hcell
              have hfz := HS.out.frz _ _ _ hcell (own_zero HXO.out _)
              have hB3 := (ownIn HXO.out rfl).1
              have HB3 := Lib.hid hB3
              have HZ := Lib.hid hz
              have hmi : (0 : Int) ≤ (m : Int) := by omega
              have hmi2 : (m : Int) < (y.v.length : Int) := by omega
              clear hc3 hcell hB3
              go_wp2_with fail
              go_region
              all_goals
                go_wp2
                go_roundw
                case rel => exact ⟨m + 1, by omega, by go_num, Lib.hid (HS.out.set HZ.out _).drew, Lib.hid ((HB.out.setCell HB3.out _).drew)⟩
                case measure => simp [intOf]; omega
            · obtain rfl : m = y.v.length := by omega
              go_wp2
              go_roundw
              case rel => exact ⟨j + 1, by omega, by go_num, HS, HB⟩
              case measure => simp [intOf]; omega
        · obtain rfl : j = vs.length := by omega
          have HL6 := Lib.hid (HL4.out.below HB.out)
          have HW6 := Lib.hid (HW4.out.below HB.out)
          clear HS HL4 HW4
          go_wp2_with fail
          refine (waiting_any8 F4 g q S wr HL6.out.at_).mono ?_
          rintro e w' ⟨rfl, rfl⟩
          go_wp2_with fail
          refine (all_any8 F4 g q S wr HL6.out.at_).mono ?_
          rintro e w7 ⟨xs, A7, c7, hxs, rfl, ho, he, hb⟩
          have HV7 : Hid (EnV w7 A7 xs) := Lib.hid (enV_of ho he (okT_lens HL6.out.at_.ok.lOk hxs))
          have HXS := Lib.hid hxs
          have HL7 := Lib.hid (HL6.out.below hb)
          have HW7 := Lib.hid (HW6.out.below hb)
          clear ho he hb hxs HL6 HW6
          go_wp2_with fail
          refine (sameall_true xs.length c7 us.length c1 A7 A1 xs us rfl rfl (HXS.out.trans HUS.out.symm) (by have h1 := congrArg List.length HXS.out; rw [List.length_map] at h1; have := HTM.out; omega) w7 HV7.out HW7.out.env).mono ?_
          rintro e w8 ⟨rfl, hb⟩
          have HL8 := Lib.hid (HL7.out.below hb)
          clear hb HL7
          go_wp2_with fail
          refine (FIN.out w8 HL8.out.bel).mono ?_
          rintro e w9 ⟨rfl, hb9⟩
          have HB9 := Lib.hid hb9
          clear hb9
          go_wp2
          go_ret
          exact ⟨rfl, HB9.out⟩
end Go.Proofs.YtkleecaghgpndaaGreat
