/- Package wal: add, Append, settle, Sync, replace, Snapshot. -/
import Derived.Test.YtkagfjjocmjeoaaLogB
namespace Go.Proofs.Ytkagfjjocmjeoaa
open Go.RowKit Mem Be Word Frm
set_option maxRecDepth 10000
set_option maxHeartbeats 2000000
set_option linter.unusedVariables false
def newR (k : UInt8) (bs : List (List UInt8)) : List Rc := bs.map fun b => (k, b)
/-- What an append of records leaves, and tells. -/
def addS (rs : List Rc) (k : UInt8) (bs : List (List UInt8)) : List Rc × Int :=
  if (∀ b ∈ bs, b.length ≤ 65536) ∧ (allB (rs ++ newR k bs)).length ≤ 4194304 then (rs ++ newR k bs, 0) else (rs, 3)
def bytesR (rs : List RowV) : List (List UInt8) := rs.map fun r => r.2.1
theorem shortR_iff (rs : List RowV) : ShortR rs ↔ ∀ b ∈ bytesR rs, b.length ≤ 65536 := by
  constructor
  · intro h b hb
    obtain ⟨r, hr, rfl⟩ := List.mem_map.1 hb
    exact h r hr
  · exact fun h r hr => h _ (List.mem_map.2 ⟨r, hr, rfl⟩)
theorem cat_frs {k : UInt8} {fs rs : List RowV} (h : fs.map (fun r => r.2.1) = frsB k rs) : catB fs = allB (newR k (bytesR rs)) := by
  have h1 : catB fs = (fs.map (fun r => r.2.1)).flatten := by unfold catB; rw [List.flatMap_def]
  rw [h1, h]
  unfold frsB allB newR bytesR
  rw [List.flatMap_def, List.map_map, List.map_map]
  rfl
theorem rowN_own {F : Nat → Prop} {w w1 : World} {A : Option Addr} {n c s : Nat} {e : TypeId} {xs : List Value} (hF : ∀ k, F k → k < w.heap.size) (ho : w1.ownsRow w.heap.size e s (.slice A n c) n xs) : RowN F w1 A xs := by
  rcases ownRow ho with h | ⟨b, o, rfl, hb, hc⟩
  · exact Or.inl h
  · exact Or.inr ⟨b, o, rfl, fun hf => by have := hF b hf; have h2 := (ownIn ho rfl).1; simp only at h2; omega, hb, hc⟩
section
variable {w : World} {F FD FR : Nat → Prop} {g q m : Nat} {L T : List UInt8} {vs : List RecV} {R : Option Addr} {c : Nat}
theorem lgb_rowblk (h : LgB w F FD FR g L T q m vs R c) {n d k : Nat} (hk : (Value.slice R n d).ownBlock = some k) : FR k := by
  cases R with
  | none => cases hk
  | some a =>
    have : a.block = k := by simpa [Value.ownBlock] using hk
    subst this
    exact h.inR a rfl
/-- One record more. -/
theorem lg_push {w2 w3 : World} {k : UInt8} {A2 A3 : Option Addr} {c2 c3 : Nat} {y : List UInt8} (h : LgB w F FD FR g L T q m vs R c) (hb : Below w.heap.size w w2) (ho : w2.ownsRow w.heap.size 5 1 (.slice A2 y.length c2) y.length (y.map byteV)) (o : Obj)
    (hown : w3.ownsRow 0 64 2 (.slice A3 (vs.length + 1) c3) (vs.length + 1) (recsC (vs ++ [(k, A2, y, c2)]))) (hgr : (w2.alloc o).grownBy w3 (Value.slice R vs.length c).ownBlock)
    (hat : (Value.slice A3 (vs.length + 1) c3).ownBlock = (Value.slice R vs.length c).ownBlock ∨ (Value.slice A3 (vs.length + 1) c3).ownBlock = some (w2.alloc o).heap.size) :
    LgB (w3.setCell ⟨g, 3, none⟩ (.slice A3 (vs.length + 1) c3)) (fun k => (F k ∨ w.heap.size ≤ k) ∧ k < w3.heap.size) FD (fun k => (FR k ∨ w.heap.size ≤ k) ∧ k < w3.heap.size) g L T q m (vs ++ [(k, A2, y, c2)]) A3 c3 ∧ Touch F w (w3.setCell ⟨g, 3, none⟩ (.slice A3 (vs.length + 1) c3)) ∧ w3.cell? ⟨g, 3, none⟩ = some (.slice R vs.length c) ∧ w3.frozen? ⟨g, 3, none⟩ = false := by
  have hal : Below w2.heap.size w2 (w2.alloc o) := (Below.refl _ _).alloc (Nat.le_refl _) o
  have hb2 : Below w.heap.size w (w2.alloc o) := hb.trans (hal.mono hb.size)
  have ht : Touch FR w w3 := (Touch.ofBelow hb2).grown hgr fun k hk => Or.inl (lgb_rowblk h hk)
  have h2 : RecsO (w2.alloc o) 0 (vs ++ [(k, A2, y, c2)]) := recsO_below (recsO_app (recsO_below h.byt hb) (recsO_one (r := (k, A2, y, c2)) (ownBase ho (Nat.zero_le _)))) hal
  have h3 := recsO_grown h2 (ownLater h.own hb2) hgr
  have hl : (vs ++ [(k, A2, y, c2)]).length = vs.length + 1 := by simp
  have := h.setR (FR' := fun k => (FR k ∨ w.heap.size ≤ k) ∧ k < w3.heap.size) (vs' := vs ++ [(k, A2, y, c2)]) (R' := A3) (c' := c3) (w := w3) (h.dk.touch ht h.dis) (by rw [hl]; exact hown) h3 (fun a ha => ?_) (fun r hr a ha => ?_) (fun k hk => hk.1) (fun k hk => hk.2) ht
  · rw [hl] at this
    have hd := h.dk.touch ht h.dis
    exact ⟨this.1, this.2, dka_c3 hd, dka_z hd 3⟩
  · refine ⟨?_, (ownIn hown ha).2.1⟩
    subst ha
    rcases hat with h4 | h4
    · exact Or.inl (lgb_rowblk h h4.symm)
    · have e : a.block = (w2.alloc o).heap.size := by simpa [Value.ownBlock] using h4
      have := hb2.size
      exact Or.inr (by omega)
  · refine ⟨?_, (ownIn (h3 r hr) ha).2.1⟩
    rcases List.mem_append.1 hr with hr | hr
    · exact Or.inl (h.inB r hr a ha)
    · have : r = (k, A2, y, c2) := by simpa using hr
      subst this
      exact Or.inr (ownIn ho ha).1
end
theorem newR_snoc (k : UInt8) (rs : List RowV) (j : Nat) (h : j < rs.length) : newR k (bytesR (rs.take (j + 1))) = newR k (bytesR (rs.take j)) ++ [(k, rs[j].2.1)] := by
  rw [List.take_succ_eq_append_getElem h]; unfold newR bytesR; rw [List.map_append, List.map_append]; rfl
theorem all_parts (rs : List Rc) (m : Nat) : (allB rs).length = (allB (rs.take m)).length + (allB (rs.drop m)).length := by rw [← List.length_append, ← all_drop]
theorem many_of {rs : List Rc} {M : Nat} (h : (allB rs).length ≤ M) : rs.length * 10 ≤ M := by have := long_many rs; unfold longN at this; omega
theorem cell_al {w : World} {p : Addr} {v : Value} (o : Obj) (h : w.cell? p = some v) : (w.alloc o).cell? p = some v := (World.cell?_alloc_lt w o p (block_lt h)).trans h
/-- A log in the midst of an append: its disk has all frames, its records come one by one. -/
def MidP (w0 : World) (F0 : Nat → Prop) (g : Nat) (L T : List UInt8) (q m : Nat) (rs : List Rc) (w : World) : Prop :=
  ∃ F FD FR vs R c, vs.map rcOf = rs ∧ LgB w F FD FR g L T q m vs R c ∧ (∀ k, F k → F0 k ∨ w0.heap.size ≤ k) ∧ Touch F0 w0 w
theorem lgto_stay {v : Value} {F : Nat → Prop} {g q m : Nat} {rs : List Rc} {w w1 : World} (h : LgAt w F g rs m q) (hb : Below w.heap.size w w1) : LgTo v F g rs m q w (.returned v) w1 :=
  ⟨rfl, F, fun k hk => Or.inl hk, h.below hb, Touch.ofBelow hb⟩
theorem add_any (F : Nat → Prop) (g m q n c : Nat) (k : UInt8) (rs : List Rc) (A0 : Option Addr) (ls : List RowV) (hn : n = ls.length) (hnl : n ≤ 5864062014805) (hxl : ∀ r ∈ ls, r.2.1.length ≤ maxLen) (w : World) (h : LgAt w F g rs m q)
    (hr : RowN F w A0 (ls.map rowV)) (hrs : ∀ r ∈ ls, RowN F w r.1 (r.2.1.map byteV)) :
    Calls Try.prog 54 #[.pointer (some ⟨g, 0, none⟩), .int .u8 (k.toNat : Int), .slice A0 n c] w (LgTo (.int .i64 (addS rs k (bytesR ls)).2) F g (addS rs k (bytesR ls)).1 m q w) := by
  have HFR := Lib.hid (framesof_any k n c A0 ls hn hnl w hr.row (fun r hr => (hrs r hr).row))
  have HAT := Lib.hid h
  have HR := Lib.hid hr
  have HRS := Lib.hid hrs
  have HN := Lib.hid hn
  have HNL := Lib.hid hnl
  have hni : (n : Int) ≤ 5864062014805 := by omega
  obtain ⟨S, hS⟩ : ∃ S, addS rs k (bytesR ls) = S := ⟨_, rfl⟩
  have HSS := Lib.hid hS
  rw [hS]
  clear h hr hrs hn hnl hS hxl
  go_enter Try.func54, Try.ntmps54
  go_wp2_with fail
  refine HFR.out.mono ?_
  clear HFR
  rintro e w1 (⟨hsr, fs, A1, c1, hfs, rfl, ho1, hof, hb1⟩ | ⟨hsr, rfl, hb1⟩)
  · have HB1 := Lib.hid hb1
    have HAT1 := Lib.hid (HAT.out.below hb1)
    obtain ⟨FD, FR, vs, R, cR, h1, h2, h3, hlg⟩ := HAT1.out
    have hFDl : ∀ k, FD k → k < w.heap.size := fun j hj => HAT.out.lt j (hlg.sub j (Or.inl hj))
    have hcat := cat_frs hfs
    have hfl : fs.length = n := by have := congrArg List.length hfs; rw [List.length_map] at this; rw [this, HN.out]; simp [frsB]
    have hmxl : fs.length ≤ maxLen := by have := HNL.out; unfold maxLen; omega
    have hrow := rowN_own hFDl ho1
    have hrows : ∀ r ∈ fs, RowN FD w1 r.1 (r.2.1.map byteV) := fun r hr => rowN_own hFDl (hof r hr)
    by_cases hfit : (allB (rs ++ newR k (bytesR ls))).length ≤ 4194304
    · have hS2 : S = (rs ++ newR k (bytesR ls), 0) := by rw [← HSS.out]; exact if_pos ⟨(shortR_iff ls).1 hsr, hfit⟩
      have hlen : (allB (rs.take m)).length + (allB (rs.drop m)).length + (catB fs).length ≤ 4194304 := by
        rw [hcat]
        rw [all_app, List.length_append, all_drop rs m, List.length_append] at hfit
        exact hfit
      have HAP := Lib.hid (append_any FD g q fs.length c1 _ _ A1 fs rfl hmxl w1 hlg.dk hrow hrows hlen)
      have HLG := Lib.hid hlg
      have HV := Lib.hid h1
      have HSH := Lib.hid h2
      have HM := Lib.hid h3
      have HCAT := Lib.hid hcat
      have HSR := Lib.hid hsr
      have HMN : Hid ((rs ++ newR k (bytesR ls)).length ≤ 2000000) := Lib.hid (by have := many_of hfit; omega)
      subst hS2
      simp only
      clear hb1 hlg h1 h2 h3 hFDl hfs hfl hmxl hrow hrows hfit hlen ho1 hof hsr hcat HSS
      go_wp2_with fail
      refine HAP.out.mono ?_
      rintro e w2 ⟨rfl, F2, hf2, hd2, ht2⟩
      have hl2 := HLG.out.disk hf2 hd2 ht2
      have hnew : (newR k (bytesR ls)).length = n := by rw [HN.out]; simp [newR, bytesR]
      have hmany := HMN.out
      rw [List.length_append, hnew] at hmany
      have HMANY := Lib.hid hmany
      have HMID : Hid (MidP w F g (allB (rs.take m)) (allB (rs.drop m) ++ catB fs) q m rs w2) := Lib.hid ⟨_, F2, FR, vs, R, cR, HV.out, hl2.1, fun j hj => by
        rcases hj.1 with h | h
        · exact Or.inl h
        · exact Or.inr (Nat.le_trans HB1.out.size h), (Touch.ofBelow HB1.out).trans hl2.2 (fun k hk => Or.inl hk)⟩
      clear hf2 hd2 ht2 hl2 HLG HAP hmany hnew HV
      go_wp2_with fail
      go_loopw [30] (fun i wr => ∃ j : Nat, j ≤ n ∧ i = .int .i64 j ∧ Hid (MidP w F g (allB (rs.take m)) (allB (rs.drop m) ++ catB fs) q m (rs ++ newR k (bytesR (ls.take j))) wr)) (fun i _ => n - (intOf i).toNat)
      case atStart => exact ⟨0, by omega, rfl, Lib.hid (by simpa [newR, bytesR] using HMID.out)⟩
      case round =>
        obtain ⟨j, hj, rfl, HK⟩ := hrel
        by_cases hlt : j < n
        · have hj1 : j < ls.length := by rw [← HN.out]; exact hlt
          obtain ⟨Fx, FD', FR', vs', R', c', hv', hlg', hFx, hto⟩ := HK.out
          obtain ⟨b, o, rfl, _, hc⟩ := (HR.out.touch hto).row.open_ (by simp; omega)
          have hcell : wr.cell? ⟨b, o + j, none⟩ = some (rowV ls[j]) := (hc j (by simpa using hj1)).trans (congrArg some (List.getElem_map (f := rowV) (h := by simpa using hj1)))
          have hrow := ((HRS.out ls[j] (List.getElem_mem hj1)).touch hto).row
          have hsn := newR_snoc k ls j hj1
          obtain ⟨⟨A4, y, c4⟩, hy1⟩ : ∃ y, ls[j] = y := ⟨_, rfl⟩
          rw [hy1] at hcell hrow hsn
          unfold rowV at hcell
          simp only at hcell hrow hsn
          have hvl : vs'.length ≤ 1000000000 := by
            have h1 := congrArg List.length hv'
            have h2 := HMANY.out
            rw [List.length_map, List.length_append] at h1
            have h3 : (newR k (bytesR (ls.take j))).length ≤ n := by simp [newR, bytesR]; omega
            omega
          have hyl : y.length ≤ 140737488355328 := by
            have h1 := hrow
            have h2 : y.length ≤ (catB fs).length := by
              rw [HCAT.out]
              have hm : (k, y) ∈ newR k (bytesR ls) := by
                refine List.mem_map.2 ⟨y, ?_, rfl⟩
                exact List.mem_map.2 ⟨ls[j], List.getElem_mem hj1, by rw [hy1]⟩
              have := long_each hm
              unfold longN at this
              simp only at this
              omega
            have h3 := hlg'.dk.mx
            rw [List.length_append] at h3
            omega
          have HCL : Hid (∀ W, Below wr.heap.size wr W → Calls Try.prog 53 #[.slice A4 y.length c4] W (Made W.heap.size y W)) := Lib.hid fun W hb =>
            clone_any wr.heap.size c4 A4 y y.length rfl W (hrow.below hb) hb.size hyl
          have HDR : Hid (Below wr.heap.size wr wr.drew) := Lib.hid (Below.refl _ _).drew
          have HLG := Lib.hid hlg'
          have HVV := Lib.hid hv'
          have HFX := Lib.hid hFx
          have HTO := Lib.hid hto
          have HSN := Lib.hid hsn
          have HVL := Lib.hid hvl
          have d3 : wr.cell? ⟨g, 3, none⟩ = some (.slice R' vs'.length c') := dka_c3 hlg'.dk
          have hgl : g < wr.heap.size := block_lt d3
          have hji : (0 : Int) ≤ (j : Int) := by omega
          have hji2 : (j : Int) < (n : Int) := by omega
          clear hc hy1 hrow hto hlg' hv' hFx hsn HK hvl hyl
          go_wp2_with fail
          go_region_law (first
            | (go_simp; go_at_call 53; refine (HCL.out _ HDR.out).mono ?_; rintro e w4 ⟨A5, c5, rfl, ho, hb⟩; have HB4 := Lib.hid (HDR.out.trans (hb.mono HDR.out.size)); have HO4 := Lib.hid (ownBase ho HDR.out.size); (have d4 : w4.cell? ⟨g, 3, none⟩ = some (.slice R' vs'.length c') := (HB4.out.cell (p := ⟨g, 3, none⟩) hgl).trans d3); (have d5 : (w4.alloc (.cells #[.int .u8 (k.toNat : Int), .slice A5 y.length c5] 64)).cell? ⟨g, 3, none⟩ = some (.slice R' vs'.length c') := cell_al _ d4); (have HOA : Hid ((w4.alloc (.cells #[.int .u8 (k.toNat : Int), .slice A5 y.length c5] 64)).ownsRow 0 64 2 (.slice R' vs'.length c') vs'.length (recsC vs')) := Lib.hid (ownLater HLG.out.own (HB4.out.alloc HB4.out.size _))); (have HRL : Hid (Row (w4.alloc (.cells #[.int .u8 (k.toNat : Int), .slice A5 y.length c5] 64)) (w4.heap.size + 1) (some ⟨w4.heap.size, 0, none⟩) (recsC [(k, A5, y, c5)])) := Lib.hid (rec_lit (r := (k, A5, y, c5)) rfl rfl rfl)); clear ho hb)
            | (refine step_appR (by rfl) _ _ (by rfl) 0 (.slice R' vs'.length c') vs'.length vs' (by rfl) (show World.ownsRow _ _ _ _ _ _ _ from HOA.out) (w4.heap.size + 1) (some ⟨w4.heap.size, 0, none⟩) 1 1 [(k, A5, y, c5)] (by rfl) rfl (show Row _ _ _ _ from HRL.out) (by have := HVL.out; omega) (Nat.zero_le _) ?_; intro v' w5 hown hgr hat; obtain ⟨A6, c6, rfl, _, _⟩ := ownShape hown; have HPU := Lib.hid (lg_push HLG.out HB4.out HO4.out (.cells #[.int .u8 (k.toNat : Int), .slice A5 y.length c5] 64) hown hgr hat); have e3 := HPU.out.2.2.1; have z3 := HPU.out.2.2.2; clear hown hgr hat))
          all_goals
            have HM2 : Hid (MidP w F g (allB (rs.take m)) (allB (rs.drop m) ++ catB fs) q m (rs ++ newR k (bytesR (ls.take (j + 1)))) (w5.setCell ⟨g, 3, none⟩ (.slice A6 (vs'.length + 1) c6))) := Lib.hid (by
              refine ⟨_, _, _, vs' ++ [(k, A5, y, c5)], A6, c6, ?_, HPU.out.1, fun i hi => ?_, HTO.out.trans HPU.out.2.1 (fun i hi => HFX.out i hi)⟩
              · rw [List.map_append, HVV.out, HSN.out, List.append_assoc]; rfl
              · rcases hi.1 with h | h
                · exact HFX.out i h
                · exact Or.inr (Nat.le_trans HTO.out.size h))
            clear HPU
            go_wp2
            go_roundw
            case rel => exact ⟨j + 1, by omega, by go_num, HM2⟩
            case measure => simp [intOf]; omega
        · obtain rfl : j = n := by omega
          have ht : ls.take j = ls := List.take_of_length_le (by rw [← HN.out]; omega)
          rw [ht] at HK
          go_wp2
          go_ret
          obtain ⟨Fx, FD', FR', vs', R', c', hv', hlg', hFx, hto⟩ := HK.out
          refine ⟨rfl, Fx, hFx, ⟨FD', FR', vs', R', c', hv', ?_, ?_, ?_⟩, hto⟩
          · intro r hr
            rcases List.mem_append.1 hr with hr | hr
            · exact HSH.out r hr
            · obtain ⟨b, hb, rfl⟩ := List.mem_map.1 hr
              obtain ⟨r0, hr0, rfl⟩ := List.mem_map.1 hb
              exact HSR.out r0 hr0
          · rw [List.length_append]; have := HM.out; omega
          · rw [List.take_append_of_le_length HM.out, List.drop_append_of_le_length HM.out, all_app, ← HCAT.out]
            exact hlg'
    · have hS2 : S = (rs, 3) := by rw [← HSS.out]; exact if_neg fun hx => hfit hx.2
      have hlong : 4194304 < (allB (rs.take m)).length + (allB (rs.drop m)).length + (catB fs).length := by
        rw [hcat]
        rw [all_app, List.length_append, all_drop rs m, List.length_append] at hfit
        omega
      have HAP := Lib.hid (append_long FD g q fs.length c1 _ _ A1 fs rfl hmxl (fun r hr => by
        have h1 := List.mem_map_of_mem (f := fun r : RowV => r.2.1) hr
        rw [hfs] at h1
        obtain ⟨r0, hr0, h4⟩ := List.mem_map.1 h1
        have h5 := hsr r0 hr0
        have h6 := congrArg List.length h4
        rw [fr_len] at h6
        simp only at h6
        unfold maxLen; omega) w1 hlg.dk hrow.row hlong)
      subst hS2
      simp only
      clear hb1 hlg h1 h2 h3 hFDl hfs hfl hmxl hrow hrows hfit hlong ho1 hof hsr hcat HSS
      go_wp2_with fail
      refine HAP.out.mono ?_
      rintro e w2 ⟨rfl, hb2⟩
      have HB2 := Lib.hid (HB1.out.trans (hb2.mono HB1.out.size))
      clear hb2 HAP
      go_wp2
      go_ret
      exact lgto_stay HAT.out HB2.out
  · have hS2 : S = (rs, 3) := by rw [← HSS.out]; exact if_neg fun hx => hsr ((shortR_iff ls).2 hx.1)
    have HB1 := Lib.hid hb1
    subst hS2
    simp only
    clear hb1 hsr HSS
    go_wp2
    go_ret
    exact lgto_stay HAT.out HB1.out
end Go.Proofs.Ytkagfjjocmjeoaa
