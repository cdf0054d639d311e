/- The law StoreAcks, walked. -/
import Derived.Test.YtkleecaghgpndaaGreatSameAll8
import Derived.Test.YtkleecaghgpndaaGreatInvA8
import Derived.Test.YtkleecaghgpndaaGreatSam8
import Derived.Deep.RegionHeld3
namespace Go.Proofs.YtkleecaghgpndaaGreat
open Go.RowKit Go.ChangeShapes Mem Be Word Frm Go.Maps
set_option maxRecDepth 100000
set_option maxHeartbeats 8000000
set_option linter.unusedVariables false
/-- Keys that were acknowledged, or wait for it, are no longer than 250 bytes. -/
def KeyA (S : St8) (told : List AckP) : Prop := (∀ a ∈ told, a.k.length ≤ 250) ∧ ∀ a ∈ S.acks, a.k.length ≤ 250
theorem keyA_put {S : St8} {told : List AckP} (h : KeyA S told) (e : EntP) (who : Int) : KeyA (putS S e who).1 told := by
  have push : mayP e who → ∀ a ∈ S.acks ++ [ackOf e who], a.k.length ≤ 250 := fun hm a ha => by
    rcases List.mem_append.1 ha with ha | ha
    · exact h.2 a ha
    · obtain rfl : a = ackOf e who := by simpa using ha
      exact (rightE_yes hm.1).2.1
  unfold putS
  split
  · rename_i hm
    split
    · split
      · refine ⟨h.1, ?_⟩
        unfold writeS
        split
        · exact push hm
        · exact push hm
      · exact h
    · exact ⟨h.1, push hm⟩
  · exact h
theorem keyA_step {S : St8} {told : List AckP} (h : KeyA S told) (d : D8) : KeyA (d8S S d).1 (told ++ (d8S S d).2.1) := by
  unfold d8S
  split
  · simp only [List.append_nil]; exact keyA_put h _ _
  split
  · refine ⟨fun a ha => ?_, fun a ha => by cases ha⟩
    rcases List.mem_append.1 ha with ha | ha
    · exact h.1 a ha
    · exact h.2 a ha
  split
  · simp only [List.append_nil]
    unfold compS
    split <;> exact h
  split
  · simp only [List.append_nil]; exact h
  · simp only [List.append_nil]; exact ⟨h.1, fun a ha => by cases ha⟩
theorem d8S_acks2 (S : St8) (d : D8) : (d8S S d).1.acks.length + (d8S S d).2.1.length ≤ S.acks.length + 1 := by
  unfold d8S
  split
  · exact putS_acks _ _ _
  split
  · simp [tickS]
  split
  · unfold compS; split <;> simp
  split
  · simp
  · simp [crashS]
/-- What was put, of the first k. -/
def PutK (rs : List D8) (k : Nat) (x : EntP) : Prop := ∃ i, ∃ h : i < rs.length, i < k ∧ rs[i].kind = 1 ∧ x = rs[i].e.1
/-- The acks that were told so far, beside a store. -/
structure ToldA (rs : List D8) (w0 w : World) (F : Nat → Prop) (S : St8) (k : Nat) (A : Option Addr) (c : Nat) (told : List AckP) : Prop where
  inv : InvA S told (PutK rs k)
  key : KeyA S told
  many : told.length + S.acks.length ≤ k
  own : w.ownsRow w0.heap.size 67 5 (.slice A told.length c) told.length (acksC told)
  off : ∀ a, A = some a → ¬ F a.block
theorem okT_lens8 {T : List EntP} {us : List EV} (h : OkT T) (he : us.map Prod.fst = T) : ∀ x ∈ us, x.1.v.length ≤ 60000 := fun x hx => by
  have := (rightE_yes (h.2 x.1 (by rw [← he]; exact List.mem_map.2 ⟨x, hx, rfl⟩))).2.2.1
  omega
theorem told_done {rs : List D8} {w0 w w1 : World} {F F' : Nat → Prop} {S : St8} {k : Nat} {A : Option Addr} {c : Nat} {told : List AckP} (h : ToldA rs w0 w F S k A c told) (ht : Touch F w w1) :
    w1.ownsRow w0.heap.size 67 5 (.slice A told.length c) told.length (acksC told) ∧ (∀ a, A = some a → a.block < w.heap.size ∧ ¬ F a.block) :=
  ⟨ownKeep h.own fun a ha => ht.block _ (ownIn h.own ha).2.1 (h.off a ha), fun a ha => ⟨(ownIn h.own ha).2.1, h.off a ha⟩⟩
theorem putK_step {rs : List D8} {k : Nat} (hk : k < rs.length) (x : EntP) (h : PutK rs k x ∨ (rs[k].kind = 1 ∧ x = rs[k].e.1)) : PutK rs (k + 1) x := by
  rcases h with ⟨i, hi, h1, h2, h3⟩ | ⟨h1, h2⟩
  · exact ⟨i, hi, by omega, h2, h3⟩
  · exact ⟨k, hk, by omega, h1, h2⟩
theorem acks8_walk (A : Option Addr) (rs : List D8) (n c : Nat) (hn : n = rs.length) (hnl : n ≤ 1466015503701) (w : World) (h : InD8 w A rs) :
    Calls Tryz.prog 5 #[.slice A n c] w (IsT true w) := by
  obtain ⟨i1, hi1, hk1, hk2, hk3⟩ := info_parts info_ack
  have HLG := Lib.hid (long8_any n c A rs hn (by unfold maxLen; omega) w h)
  have HIN := Lib.hid h
  have HN := Lib.hid hn
  have HNL := Lib.hid hnl
  have hni : (n : Int) ≤ 1466015503701 := by omega
  have hni0 : (0 : Int) ≤ (n : Int) := by omega
  clear h hn hnl
  have fin : ∀ w1, Below w.heap.size w w1 → Calls Tryz.prog 10 #[] w1 (IsT true w) := fun w1 hb => (known8_any w1).mono fun e w2 ⟨he, hb2⟩ => ⟨he, hb.trans (hb2.mono hb.size)⟩
  have FIN := Lib.hid fin
  clear fin
  go_enter Tryz.func5, Tryz.ntmps5
  go_wp2_with fail
  refine HLG.out.mono ?_
  rintro e w0 ⟨⟨lb, rfl⟩, hb⟩
  have HB0 := Lib.hid hb
  clear HLG hb
  by_cases hlb : 1500 < lb
  · go_wp2_with fail
    refine (FIN.out _ HB0.out).mono ?_
    rintro e w1 ⟨rfl, hb⟩
    have HB := Lib.hid hb
    clear hb
    go_wp2
    go_ret
    exact ⟨rfl, HB.out⟩
  have hlb2 : lb ≤ 1500 := by omega
  clear hlb
  go_wp2_with fail
  refine (newst_any w0).mono ?_
  rintro e w1 ⟨g0, F0, rfl, hF, hd, hb⟩
  have HK0 : Hid (St1 w w1 F0 g0 st0 0) := Lib.hid ⟨fun k hk => Nat.le_trans HB0.out.size (hF k hk), hd, HB0.out.trans (hb.mono HB0.out.size)⟩
  have HT0 : Hid (ToldA rs w w1 F0 st0 0 none 0 []) := Lib.hid ⟨invA_st0 _, ⟨(fun a h => by cases h), (fun a h => by cases h)⟩, Nat.le_refl _, World.ownsRow_nil _ _ _ _, fun a ha => by cases ha⟩
  simp only [id]
  clear hF hd hb
  go_wp2_with fail
  go_loopw [3, 4, 5] (fun z v i wr => ∃ k : Nat, k ≤ n ∧ i = .int .i64 k ∧ ∃ g A4 c4 N4, z = .pointer (some ⟨g, 0, none⟩) ∧ v = .slice A4 N4 c4 ∧ Hid (∃ F S q told, N4 = told.length ∧ q ≤ k ∧ St1 w wr F g S q ∧ ToldA rs w wr F S k A4 c4 told)) (fun _ _ i _ => n - (intOf i).toNat)
  case atStart => exact ⟨0, by omega, rfl, g0, none, 0, 0, rfl, rfl, Lib.hid ⟨F0, st0, 0, [], rfl, by omega, HK0.out, HT0.out⟩⟩
  case round =>
    obtain ⟨k, hk, rfl, g, A4, c4, N4, rfl, rfl, HK⟩ := hrel
    obtain ⟨F, S, q, told, hN4, hq, hd, hto⟩ := HK.out
    subst hN4
    have HD := Lib.hid hd
    have HQ := Lib.hid hq
    have HTO := Lib.hid hto
    clear HK hd hq hto HK0 HT0
    by_cases hlt : k < n
    · have hkr : k < rs.length := by rw [← HN.out]; exact hlt
      obtain ⟨b, o, rfl, _, hc⟩ := d8s_open (HIN.out wr HD.out.bel).1 (by omega)
      have d0 := hc k hkr 0 _ rfl
      have d1 := hc k hkr 1 _ rfl
      have d2 := hc k hkr 2 _ rfl
      have d3 := hc k hkr 3 _ rfl
      have d4 := hc k hkr 4 _ rfl
      have d5 := hc k hkr 5 _ rfl
      have d6 := hc k hkr 6 _ rfl
      have d7 := hc k hkr 7 _ rfl
      have d8 := hc k hkr 8 _ rfl
      rw [Nat.add_zero] at d0
      have C := done8_round HIN.out HD.out hkr (by have := HQ.out; have := HNL.out; omega) (by have := HTO.out.many; have := HNL.out; omega)
      have hstep := d8S_acks2 S rs[k]
      have hkey := keyA_step HTO.out.key rs[k]
      have hinv := (invA_step HTO.out.inv HD.out.at_.ok HD.out.at_.short rs[k]).more (putK_step hkr)
      obtain ⟨R, hR⟩ : ∃ R, d8S S rs[k] = R := ⟨_, rfl⟩
      rw [hR] at C hstep hkey hinv
      unfold dV at C
      have HKEY := Lib.hid hkey
      have HINV := Lib.hid hinv
      obtain ⟨⟨kd, ⟨⟨ek, es, eu, eo, eh, ev⟩, eA, ec⟩, ew, kp⟩, hy1⟩ : ∃ y, rs[k] = y := ⟨_, rfl⟩
      rw [hy1] at d0 d1 d2 d3 d4 d5 d6 d7 d8 C
      simp only at d0 d1 d2 d3 d4 d5 d6 d7 d8 C
      have HC := Lib.hid C
      have HMN : Hid (told.length + (R.1.acks.length + R.2.1.length) ≤ k + 1) := Lib.hid (by have := HTO.out.many; omega)
      have hki : (0 : Int) ≤ (k : Int) := by omega
      have hki2 : (k : Int) < (n : Int) := by omega
      clear hc hy1 C hR hstep hkey hinv
      go_wp2_with fail
      refine HC.out.mono ?_
      rintro e w2 ⟨g2, F2, q2, A2, c2, rfl, hf, hs, hq2, ht, ho2, hoff⟩
      have HL2 := Lib.hid (HD.out.to hf hs ht)
      have HQ2 : Hid (q2 ≤ k + 1) := Lib.hid (by have := HQ.out; omega)
      obtain ⟨ho4, hin4⟩ := told_done (F' := F2) HTO.out ht
      have HO4 := Lib.hid ho4
      have HO2 := Lib.hid ho2
      have HN4 : Hid (∀ a, A4 = some a → ¬ F2 a.block) := Lib.hid fun a ha hf2 => by
        obtain ⟨h1, h2⟩ := hin4 a ha
        rcases hf _ hf2 with h | h
        · exact h2 h
        · omega
      clear hf hs hq2 ht ho2 hoff ho4 hin4 HC d0 d1 d2 d3 d4 d5 d6 d7 d8 HD HQ HTO
      go_wp2_with (at_builtin; refine wpList_appS (P := Tryz.prog) (by rfl) _ _ _ (by rfl) w.heap.size 67 i1 (.agg #[.int .i64 0, .string .empty, .int .i64 0, .int .i64 0, .int .i64 0]) 5 48 Tryz.underlying34 hi1 hk1 hk2 hk3 rfl (by decide) _ told.length (acksC told) (by rfl) (by exact HO4.out) w2.heap.size A2 R.2.1.length c2 (acksC R.2.1) (by rfl) (by rw [acksC_len]) (by exact ownRow HO2.out) (acksC_one _) (by have := HMN.out; have := HNL.out; unfold maxLen; omega) (by have := HMN.out; have := HNL.out; omega) HL2.out.bel.size ?_)
      intro v' w5 hown hgr hat
      rw [← acksC_app] at hown
      have hln : told.length + R.2.1.length = (told ++ R.2.1).length := by rw [List.length_append]
      rw [hln] at hown
      obtain ⟨A5, c5, rfl, _, _⟩ := ownShape hown
      have hnb : ∀ j, F2 j → some j ≠ (Value.slice A4 told.length c4).ownBlock := fun j hj he => by
        cases A4 with
        | none => cases he
        | some a =>
          have e2 : j = a.block := by simpa [Value.ownBlock] using he
          subst e2
          exact HN4.out a rfl hj
      have HL5 : Hid (St1 w w5 F2 g2 R.1 q2) := Lib.hid ⟨HL2.out.new, HL2.out.at_.keep hgr.size (fun j hj => hgr.block j (HL2.out.at_.lt j hj) (hnb j hj)), HL2.out.bel.grown hgr HL2.out.bel.size fun j hj => (HO4.out.lt j hj).1⟩
      have HT5 : Hid (ToldA rs w w5 F2 R.1 (k + 1) A5 c5 (told ++ R.2.1)) := Lib.hid ⟨HINV.out, HKEY.out, by have := HMN.out; rw [List.length_append]; omega, hown, fun a ha hf => by
        subst ha
        rcases hat with h | h
        · have h9 : (Value.slice A4 told.length c4).ownBlock = some a.block := h.symm
          exact hnb _ hf h9.symm
        · have h9 : a.block = w2.heap.size := by simpa [Value.ownBlock] using h
          have := HL2.out.at_.lt _ hf
          omega⟩
      obtain ⟨T, hT⟩ : ∃ T, told ++ R.2.1 = T := ⟨_, rfl⟩
      rw [hT] at HT5 ⊢
      clear hown hgr hat hnb hln hT HN4 HO4 HO2 HL2 HINV HKEY
      have hTl : (T.length : Int) ≤ 1466015503701 := by have := HT5.out.many; omega
      have hTl0 : (0 : Int) ≤ (T.length : Int) := by omega
      have HCG : Hid (∀ (key : List UInt8), key.length ≤ 250 → ∀ W, Below w5.heap.size w5 W → Calls Tryz.prog 17 #[.pointer (some ⟨g2, 0, none⟩), .string ⟨key.toArray⟩] W (GetP (ofT R.1.L key) W)) := Lib.hid fun key hkey W hb => get_any8 F2 g2 q2 R.1 key (by unfold maxLen; omega) W (HL5.out.at_.below hb)
      go_wp2_with fail
      go_loopw [9] (fun i wr => ∃ j : Nat, j ≤ T.length ∧ i = .int .i64 j ∧ Hid (Below w5.heap.size w5 wr)) (fun i _ => T.length - (intOf i).toNat)
      case atStart => exact ⟨0, Nat.zero_le _, rfl, Lib.hid (Below.refl _ _)⟩
      case round =>
        obtain ⟨j, hj, rfl, HB⟩ := hrel
        by_cases hlt2 : j < T.length
        · obtain ⟨b5, o5, rfl, hb5, hc5⟩ := acks_open ((ownRow HT5.out.own).below HB.out) (by omega)
          obtain ⟨_, s1, s2, s3, s4⟩ := hc5 j hlt2
          have htag := ((HT5.out.inv.lasts HL5.out.at_.ok).2 T[j] (List.getElem_mem hlt2)).ge
          have hkl := HT5.out.key.1 T[j] (List.getElem_mem hlt2)
          obtain ⟨⟨aw, ak, sa, au, ao⟩, hy⟩ : ∃ p, T[j]'hlt2 = p := ⟨_, rfl⟩
          rw [hy] at s1 s2 s3 s4 htag hkl
          simp only at s1 s2 s3 s4 htag hkl
          have HSK : Hid (∀ W' : World, Below wr.heap.size wr W' → W'.cell? ⟨b5, o5 + j * 5 + 1, none⟩ = some (.string ⟨ak.toArray⟩) ∧ W'.cell? ⟨b5, o5 + j * 5 + 2, none⟩ = some (.int .i64 sa) ∧ W'.cell? ⟨b5, o5 + j * 5 + 3, none⟩ = some (.int .i64 au) ∧ W'.cell? ⟨b5, o5 + j * 5 + 4, none⟩ = some (.int .i64 ao)) := Lib.hid fun W' hw => by
            have hcc := fun (q : Nat) (v : Value) (hv : wr.cell? ⟨b5, q, none⟩ = some v) => (hw.cell (p := ⟨b5, q, none⟩) (block_lt hv)).trans hv
            exact ⟨hcc _ _ s1, hcc _ _ s2, hcc _ _ s3, hcc _ _ s4⟩
          have HGO := Lib.hid (HCG.out ak hkl)
          have HGL := Lib.hid (ofT_len HL5.out.at_.ok.lOk ak)
          have HGK := Lib.hid (ofT_key R.1.L ak)
          obtain ⟨x, hx⟩ : ∃ x, ofT R.1.L ak = x := ⟨_, rfl⟩
          rw [hx] at HGO HGL HGK htag
          obtain ⟨cc, hcc⟩ : ∃ q, cmpT x.s x.u x.o sa au ao = q := ⟨_, rfl⟩
          rw [hcc] at htag
          have HCC := Lib.hid hcc
          have HDR : Hid (Below wr.heap.size wr wr.drew) := Lib.hid (Below.refl _ _).drew
          have hji : (0 : Int) ≤ (j : Int) := by omega
          have hji2 : (j : Int) < (T.length : Int) := by omega
          clear hc5 hy hx hkl hcc
          go_wp2_with fail
          go_region_held3 (fun w' => w'.cell? ⟨b5, o5 + j * 5 + 1, none⟩ = some (.string ⟨ak.toArray⟩) ∧ w'.cell? ⟨b5, o5 + j * 5 + 2, none⟩ = some (.int .i64 sa) ∧ w'.cell? ⟨b5, o5 + j * 5 + 3, none⟩ = some (.int .i64 au) ∧ w'.cell? ⟨b5, o5 + j * 5 + 4, none⟩ = some (.int .i64 ao))
            (first | go_keep | exact HSK.out _ HWD.out | exact HSK.out _ HWC.out)
            (first
              | (go_at_call 17; refine (HGO.out _ (HB.out.trans (HDR.out.mono HB.out.size))).mono ?_; intro e w3 hx; obtain ⟨A3, c3, rfl, _, _, hb⟩ := getP_open HGK.out HGL.out hx; (have HWC : Hid (Below wr.heap.size wr w3) := Lib.hid (HDR.out.trans (hb.mono HDR.out.size))); (have hfld : ∀ W, (Instr.field 45 (.agg #[.string ⟨ak.toArray⟩, .int .i64 x.s, .int .i64 x.u, .int .i64 x.o, .bool x.has, .slice A3 x.v.length c3]) 1).run Tryz.prog W = .ok (.agg #[.int .i64 x.s, .int .i64 x.u, .int .i64 x.o]) W := fun W => field_tag _ _ _ _ _ _ _ _ W); clear hx hb)
              | (go_at_call 24; refine (refcompare_val _ _ _ _ _ _ _ HCC _).mono ?_; rintro e w4 ⟨rfl, hb⟩; (have HWD : Hid (Below wr.heap.size wr w4) := Lib.hid (HWC.out.trans (hb.mono HWC.out.size))); clear hb))
          go_wp2
          go_roundw
          case rel => exact ⟨j + 1, by omega, by go_num, Lib.hid (HB.out.trans (HWD.out.mono HB.out.size))⟩
          case measure => simp [intOf]; omega
        · obtain rfl : j = T.length := by omega
          have HL6 := Lib.hid (HL5.out.below HB.out)
          go_wp2_with fail
          refine (all_any8 F2 g2 q2 R.1 wr HL6.out.at_).mono ?_
          rintro e w6 ⟨vs, A6, c6, hvs, rfl, ho6, he6, hb6⟩
          have HVS := Lib.hid hvs
          have HV6 : Hid (EnV w6 A6 vs) := Lib.hid (enV_of ho6 he6 (okT_lens8 HL6.out.at_.ok.lOk hvs))
          have HL7 := Lib.hid (HL6.out.below hb6)
          have HVL : Hid (vs.length ≤ 8388608) := Lib.hid (by have h1 := congrArg List.length hvs; rw [List.length_map] at h1; have := (tab_many HL6.out.at_).1; omega)
          have HT7 : Hid (ToldA rs w w6 F2 R.1 (k + 1) A5 c5 T) := Lib.hid ⟨HT5.out.inv, HT5.out.key, HT5.out.many, ownLater (ownLater HT5.out.own HB.out) hb6, HT5.out.off⟩
          have HPU : Hid (∀ e ∈ R.1.L, PutK rs (k + 1) e) := Lib.hid (HT5.out.inv.lasts HL5.out.at_.ok).1
          have hvl : (vs.length : Int) ≤ 8388608 := by have := HVL.out; omega
          have hvl0 : (0 : Int) ≤ (vs.length : Int) := by omega
          clear hvs ho6 he6 hb6 HB HL5 HL6 HT5 HCG
          go_wp2_with fail
          go_loopw [11] (fun i wr => ∃ j : Nat, j ≤ vs.length ∧ i = .int .i64 j ∧ Hid (Below w6.heap.size w6 wr)) (fun i _ => vs.length - (intOf i).toNat)
          case atStart => exact ⟨0, Nat.zero_le _, rfl, Lib.hid (Below.refl _ _)⟩
          case round =>
            obtain ⟨j, hj, rfl, HB⟩ := hrel
            by_cases hlt3 : j < vs.length
            · have hput := HPU.out (vs[j]).1 (by rw [← HVS.out]; exact List.mem_map.2 ⟨_, List.getElem_mem hlt3, rfl⟩)
              obtain ⟨b6, o6, rfl, hb6, hc6⟩ := ents_open HV6.out.row (by omega)
              obtain ⟨a0, a1, a2, a3, a4, a5⟩ := hc6 j hlt3
              have hval := HV6.out.val vs[j] (List.getElem_mem hlt3)
              obtain ⟨⟨y, yA, yc⟩, hy⟩ : ∃ p, vs[j]'hlt3 = p := ⟨_, rfl⟩
              rw [hy] at a0 a1 a2 a3 a4 a5 hval hput
              simp only at a0 a1 a2 a3 a4 a5 hval hput
              have HVAL := Lib.hid hval
              have HPT := Lib.hid hput
              have HA := Lib.hid (And.intro a0 (And.intro a1 (And.intro a2 (And.intro a3 (And.intro a4 a5)))))
              have hji : (0 : Int) ≤ (j : Int) := by omega
              have hji2 : (j : Int) < (vs.length : Int) := by omega
              clear hc6 hy hval hput a0 a1 a2 a3 a4 a5
              go_wp2_with fail
              go_loopw [12, 13] (fun v i wr => ∃ (m : Nat) (bb : Bool), m ≤ k + 1 ∧ i = .int .i64 m ∧ v = .bool bb ∧ Hid (bb = true ∨ ∀ i, ∀ h : i < rs.length, i < m → ¬ (rs[i].kind = 1 ∧ y = rs[i].e.1)) ∧ Hid (Below w6.heap.size w6 wr)) (fun _ i _ => k + 1 - (intOf i).toNat)
              case atStart => exact ⟨0, false, Nat.zero_le _, rfl, rfl, Lib.hid (Or.inr fun i h hi => by omega), HB⟩
              case round =>
                clear HB
                obtain ⟨m, bb, hm, rfl, rfl, HW, HB⟩ := hrel
                by_cases hlt4 : m < k + 1
                · have hmr : m < rs.length := by omega
                  have hmi : (0 : Int) ≤ (m : Int) := by omega
                  have hmi2 : (m : Int) ≤ (k : Int) := by omega
                  have hmi3 : (m : Int) < (n : Int) := by omega
                  cases bb with
                  | true =>
                    go_wp2_with fail
                    refine wp_region_later (by kernel_rfl) (by kernel_rfl) ?_
                    repeat (go_big_quiet_step (fail))
                    refine wpQuiet_nil ?_
                    intro w' hw'
                    obtain ⟨p, rfl⟩ := hw'
                    go_wp2
                    go_roundw
                    case rel => exact ⟨m + 1, true, by omega, by go_num, rfl, Lib.hid (Or.inl rfl), Lib.hid (HB.out.trans (p.bel.mono HB.out.size))⟩
                    case measure => simp [intOf]; omega
                  | false =>
                    have HNO : Hid (∀ i, ∀ h : i < rs.length, i < m → ¬ (rs[i].kind = 1 ∧ y = rs[i].e.1)) := Lib.hid (HW.out.resolve_left (by decide))
                    obtain ⟨hrw, hokk⟩ := HIN.out wr (HL7.out.bel.trans (HB.out.mono HL7.out.bel.size))
                    obtain ⟨b7, o7, e7, _, hc⟩ := d8s_open hrw (by omega)
                    injection e7 with e7
                    injection e7 with e71 e72
                    subst e71; subst e72
                    have d0 := hc m hmr 0 _ rfl
                    have d1 := hc m hmr 1 _ rfl
                    have d2 := hc m hmr 2 _ rfl
                    have d3 := hc m hmr 3 _ rfl
                    have d4 := hc m hmr 4 _ rfl
                    have d5 := hc m hmr 5 _ rfl
                    have d6 := hc m hmr 6 _ rfl
                    rw [Nat.add_zero] at d0
                    have hok := hokk rs[m] (List.getElem_mem hmr)
                    have hvb : ValB wr rs[m].e.2.1 rs[m].e.1.v rs[m].e.2.2 := ⟨hok.row.more HL7.out.bel.size |>.more HB.out.size, (d8_len hok).1⟩
                    have hnext : ∀ r : Bool, (rs[m].kind = 1 → r = false → ¬ y = rs[m].e.1) → (rs[m].kind ≠ 1 → r = false) → (r = true ∨ ∀ i, ∀ h : i < rs.length, i < m + 1 → ¬ (rs[i].kind = 1 ∧ y = rs[i].e.1)) := fun r h1 h2 => by
                      cases r with
                      | true => exact Or.inl rfl
                      | false =>
                        refine Or.inr fun i hi hi2 hh => ?_
                        by_cases hie : i = m
                        · subst hie
                          exact h1 hh.1 rfl hh.2
                        · exact HNO.out i hi (by omega) hh
                    obtain ⟨⟨kd, ⟨e, eA, ec⟩, ew, kp⟩, hy1⟩ : ∃ y, rs[m] = y := ⟨_, rfl⟩
                    rw [hy1] at d0 d1 d2 d3 d4 d5 d6 hvb hnext
                    simp only at d0 d1 d2 d3 d4 d5 d6 hvb hnext
                    have l0 := later_cell d0
                    by_cases hkd : kd = 1
                    · subst hkd
                      have l1 := later_cell d1
                      have l2 := later_cell d2
                      have l3 := later_cell d3
                      have l4 := later_cell d4
                      have l5 := later_cell d5
                      have l6 := later_cell d6
                      have hca := fun (q : Nat) (v : Value) (hv : w6.cell? ⟨b6, q, none⟩ = some v) => later_cell ((HB.out.cell (p := ⟨b6, q, none⟩) (block_lt hv)).trans hv)
                      have m0 := hca _ _ HA.out.1
                      have m1 := hca _ _ HA.out.2.1
                      have m2 := hca _ _ HA.out.2.2.1
                      have m3 := hca _ _ HA.out.2.2.2.1
                      have m4 := hca _ _ HA.out.2.2.2.2.1
                      have m5 := hca _ _ HA.out.2.2.2.2.2
                      have HCS := Lib.hid (fun p : Later wr => refsame_big ⟨e.k.toArray⟩ ⟨y.k.toArray⟩ e.s e.u e.o y.s y.u y.o e.has y.has eA yA e.v y.v ec yc e.v.length y.v.length rfl rfl p.world (hvb.below p.bel) ((HVAL.out.big.below HB.out).below p.bel))
                      have hself : sameE ⟨e.k.toArray⟩ ⟨y.k.toArray⟩ e.s e.u e.o y.s y.u y.o e.has y.has e.v y.v = false → ¬ y = e := fun hf he => by
                        subst he
                        rw [sameE_self] at hf
                        cases hf
                      obtain ⟨r, hr⟩ : ∃ r, sameE ⟨e.k.toArray⟩ ⟨y.k.toArray⟩ e.s e.u e.o y.s y.u y.o e.has y.has e.v y.v = r := ⟨_, rfl⟩
                      rw [hr] at HCS hself
                      have HNX := Lib.hid (hnext r (fun _ hrf => hself hrf) (fun h => absurd rfl h))
                      clear hc hy1 hvb hnext hok hokk hrw hca hr hself d0 d1 d2 d3 d4 d5 d6
                      go_wp2_with fail
                      refine wp_region_later (by kernel_rfl) (by kernel_rfl) ?_
                      repeat (go_big_quiet_step (first
                        | (go_at_call 16; exact later_of (HCS.out _))))
                      refine wpQuiet_nil ?_
                      intro w' hw'
                      obtain ⟨p, rfl⟩ := hw'
                      go_wp2
                      go_roundw
                      case rel => exact ⟨m + 1, r, by omega, by go_num, rfl, HNX, Lib.hid (HB.out.trans (p.bel.mono HB.out.size))⟩
                      case measure => simp [intOf]; omega
                    · have hkd2 : (kd == 1) = false := by simpa using hkd
                      have HNX := Lib.hid (hnext false (fun h => absurd h hkd) (fun _ => rfl))
                      clear hc hy1 hvb hnext hok hokk hrw d0 d1 d2 d3 d4 d5 d6
                      go_wp2_with fail
                      refine wp_region_later (by kernel_rfl) (by kernel_rfl) ?_
                      repeat (go_big_quiet_step (fail))
                      refine wpQuiet_nil ?_
                      intro w' hw'
                      obtain ⟨p, rfl⟩ := hw'
                      go_wp2
                      go_roundw
                      case rel => exact ⟨m + 1, false, by omega, by go_num, rfl, HNX, Lib.hid (HB.out.trans (p.bel.mono HB.out.size))⟩
                      case measure => simp [intOf]; omega
                · obtain rfl : m = k + 1 := by omega
                  obtain rfl : bb = true := by
                    rcases HW.out with h | h
                    · exact h
                    · obtain ⟨i, hi, h1, h2, h3⟩ := HPT.out
                      exact absurd ⟨h2, h3⟩ (h i hi h1)
                  have hm9 : (k : Int) < ((k + 1 : Nat) : Int) := by omega
                  go_wp2
                  go_roundw
                  case rel => exact ⟨j + 1, by omega, by go_num, HB⟩
                  case measure => simp [intOf]; omega
            · obtain rfl : j = vs.length := by omega
              have HK2 : Hid (∃ F S q told, T.length = told.length ∧ q ≤ k + 1 ∧ St1 w wr F g2 S q ∧ ToldA rs w wr F S (k + 1) A5 c5 told) := Lib.hid ⟨F2, R.1, q2, T, rfl, HQ2.out, HL7.out.below HB.out, ⟨HT7.out.inv, HT7.out.key, HT7.out.many, ownLater HT7.out.own HB.out, HT7.out.off⟩⟩
              go_wp2
              go_roundw
              case rel => exact ⟨k + 1, by omega, by go_num, g2, A5, c5, T.length, rfl, rfl, HK2⟩
              case measure => simp [intOf]; omega
    · obtain rfl : k = n := by omega
      go_wp2_with fail
      refine (FIN.out wr HD.out.bel).mono ?_
      rintro e w8 ⟨rfl, hb8⟩
      have HB8 := Lib.hid hb8
      clear hb8
      go_wp2
      go_ret
      exact ⟨rfl, HB8.out⟩
end Go.Proofs.YtkleecaghgpndaaGreat
