/- MsWb: The walk of the law of kinds, of a message that may be (NOT CLEAN: its loop's rounds: see NOTES 3b). -/
import Derived.Test.YtacfjagkcdnalaaDoorMsW
import Derived.Test.YtacfjagkcdnalaaDoorMsO
import Derived.BigFrame
import Derived.BigQuiet
import Derived.Great.BuildSlice
namespace Go.Proofs.YtacfjagkcdnalaaDoor
open Go.RowKit Mem Be Rg
set_option maxRecDepth 100000
set_option maxHeartbeats 8000000
set_option linter.unusedVariables false
theorem info_s12 : ∃ ie, Tryd.prog.info? 9 = some ie ∧ ie.zero = some (.string ⟨#[]⟩) ∧ ie.size = 1 := by
  have h : (Tryd.prog.info? 9).map (fun i => (i.zero, i.size)) = some (some (.string ⟨#[]⟩), 1) := by kernel_rfl
  cases hh : Tryd.prog.info? 9 with
  | none => rw [hh] at h; cases h
  | some ie =>
    rw [hh] at h
    injection h with h
    injection h with h1 h2
    exact ⟨ie, rfl, h1, h2⟩
theorem all_f {L : List Bool} {k : Nat} (h : false = (L.take k).all id) : false = (L.take (k + 1)).all id := by
  rw [List.take_add_one, List.all_append, ← h]; rfl
theorem all_t {L : List Bool} {k : Nat} (hk : k < L.length) (h : true = (L.take k).all id) : L[k] = (L.take (k + 1)).all id := by
  rw [List.take_succ_eq_append_getElem hk, List.all_append, ← h]; simp
def kfs (kd k : Int) : List Bool := [hasN kd == hasN k, hasF kd == hasF k, hasE kd == hasE k, hasL kd == hasL k, hasR kd == hasR k]
theorem kinds_yes (x : MV) (kd : Int) (h0 : okM (mP x) = true) (w : World) (ht : KT w) (h : MsgM w x) : Calls Tryd.prog 8 #[.agg #[.int .i64 x.kind, .int .i64 x.fr, .int .i64 x.dst, .int .i64 x.ep, .int .i64 x.op, .int .i64 x.n, .bool x.flag, .string ⟨x.e.1.k.toArray⟩, .int .i64 x.e.1.s, .int .i64 x.e.1.u, .int .i64 x.e.1.o, .bool x.e.1.has, .slice x.e.2.1 x.e.1.v.length x.e.2.2, .slice x.lA x.l.length x.lc, .slice x.rA x.ns.length x.rc, .int .i64 x.each, .int .i64 x.keep], .int .i64 kd] w (IsT12 w) := by
  have hb : Below w.heap.size w (w.alloc (.cells #[.int .i64 x.kind, .int .i64 x.fr, .int .i64 x.dst, .int .i64 x.ep, .int .i64 x.op, .int .i64 x.n, .bool x.flag, .string ⟨x.e.1.k.toArray⟩, .int .i64 x.e.1.s, .int .i64 x.e.1.u, .int .i64 x.e.1.o, .bool x.e.1.has, .slice x.e.2.1 x.e.1.v.length x.e.2.2, .slice x.lA x.l.length x.lc, .slice x.rA x.ns.length x.rc, .int .i64 x.each, .int .i64 x.keep] 34)) := (Below.refl _ _).alloc (Nat.le_refl _) _
  have HL := Lib.hid (long12 x _ (h.below hb))
  have HK := Lib.hid (Blk.new w 34 #[.int .i64 x.kind, .int .i64 x.fr, .int .i64 x.dst, .int .i64 x.ep, .int .i64 x.op, .int .i64 x.n, .bool x.flag, .string ⟨x.e.1.k.toArray⟩, .int .i64 x.e.1.s, .int .i64 x.e.1.u, .int .i64 x.e.1.o, .bool x.e.1.has, .slice x.e.2.1 x.e.1.v.length x.e.2.2, .slice x.lA x.l.length x.lc, .slice x.rA x.ns.length x.rc, .int .i64 x.each, .int .i64 x.keep])
  have HB := Lib.hid hb
  have HT := Lib.hid (ht.below hb)
  have HM := Lib.hid (h.below hb)
  have HOK := Lib.hid h0
  have hc : checkM (mP x) = 0 := by unfold checkM; rw [h0]; rfl
  have HC : Hid (∀ W, KT W → MsgM W x → Calls Tryd.prog 15 #[.agg #[.int .i64 x.kind, .int .i64 x.fr, .int .i64 x.dst, .int .i64 x.ep, .int .i64 x.op, .int .i64 x.n, .bool x.flag, .string ⟨x.e.1.k.toArray⟩, .int .i64 x.e.1.s, .int .i64 x.e.1.u, .int .i64 x.e.1.o, .bool x.e.1.has, .slice x.e.2.1 x.e.1.v.length x.e.2.2, .slice x.lA x.l.length x.lc, .slice x.rA x.ns.length x.rc, .int .i64 x.each, .int .i64 x.keep]] W (fun e w' => e = .returned (.int .i64 0) ∧ Below W.heap.size W w')) := Lib.hid fun W a b => by
    have := checkm_any x W a b
    rw [hc] at this; exact this
  obtain ⟨rest, hrest, hk1, hk17⟩ := putM_head h0
  have HBY : Hid (∀ W, KT W → MsgM W x → Calls Tryd.prog 12 #[.agg #[.int .i64 x.kind, .int .i64 x.fr, .int .i64 x.dst, .int .i64 x.ep, .int .i64 x.op, .int .i64 x.n, .bool x.flag, .string ⟨x.e.1.k.toArray⟩, .int .i64 x.e.1.s, .int .i64 x.e.1.u, .int .i64 x.e.1.o, .bool x.e.1.has, .slice x.e.2.1 x.e.1.v.length x.e.2.2, .slice x.lA x.l.length x.lc, .slice x.rA x.ns.length x.rc, .int .i64 x.each, .int .i64 x.keep]] W (Made2 W.heap.size (1 :: UInt8.ofNat x.kind.toNat :: rest) 0 W)) := Lib.hid fun W a b => by
    have := bytes_any12 x W a b
    unfold BytE bytesM at this
    rw [if_pos h0, hrest] at this; exact this
  have hkn : ((UInt8.ofNat x.kind.toNat).toNat : Int) = x.kind := by rw [UInt8.toNat_ofNat']; omega
  have HKN := Lib.hid hkn
  have HK1 := Lib.hid hk1
  have HK17 := Lib.hid hk17
  have HRS : Hid (∀ kd', exK kd' = false → checkM (mP { x with kind := kd' }) = 2) := Lib.hid fun kd' hx => checkM_no (headno_1 (m := mP { x with kind := kd' }) hx)
  have HCO : Hid (∀ W, KT W → MsgM W x → Calls Tryd.prog 15 #[.agg #[.int .i64 kd, .int .i64 x.fr, .int .i64 x.dst, .int .i64 x.ep, .int .i64 x.op, .int .i64 x.n, .bool x.flag, .string ⟨x.e.1.k.toArray⟩, .int .i64 x.e.1.s, .int .i64 x.e.1.u, .int .i64 x.e.1.o, .bool x.e.1.has, .slice x.e.2.1 x.e.1.v.length x.e.2.2, .slice x.lA x.l.length x.lc, .slice x.rA x.ns.length x.rc, .int .i64 x.each, .int .i64 x.keep]] W (fun e w' => e = .returned (.int .i64 (checkM (mP { x with kind := kd }))) ∧ Below W.heap.size W w')) := Lib.hid fun W a b => checkm_any { x with kind := kd } W a ⟨b.ev, b.en, b.ln, b.rn, b.rl⟩
  clear hb ht h h0 hc hrest hkn hk1 hk17
  go_enter Tryd.func8, Tryd.ntmps8
  go_wp2_with (refine wpList_load_row rfl 34 _ rfl _ rfl _ _ _ _ (show _ = _ from HK.out) Tryd.underlying34 rfl (by kernel_rfl) ?_)
  refine HL.out.mono ?_
  rintro e w1 ⟨b, rfl, hb1⟩
  have HKa := Lib.hid (HK.out.below hb1 HK.out.lt)
  have HB1 := Lib.hid (HB.out.trans (hb1.mono HB.out.size))
  have HT1 := Lib.hid (HT.out.below hb1)
  have HM1 := Lib.hid (HM.out.below hb1)
  clear hb1 HK HB HT HM HL
  cases b
  case true =>
    go_wp2_with fail
    refine (known12 w1 HT1.out).mono ?_
    rintro e w3 ⟨rfl, hb3⟩
    have HB3 := Lib.hid (HB1.out.trans (hb3.mono HB1.out.size))
    clear hb3
    go_wp2
    go_ret
    exact ⟨rfl, HB3.out⟩
  case false =>
    go_wp2_with (refine load_rowG rfl 34 _ rfl _ rfl _ _ _ _ (show _ = _ from HKa.out) Tryd.underlying34 rfl (by kernel_rfl) ?_)
    refine (HC.out w1 HT1.out HM1.out).mono ?_
    rintro e w2 ⟨rfl, hb2⟩
    have HB2 := Lib.hid (HB1.out.trans (hb2.mono HB1.out.size))
    have HT2 := Lib.hid (HT1.out.below hb2)
    have HM2 := Lib.hid (HM1.out.below hb2)
    have HKb := Lib.hid (HKa.out.below hb2 HKa.out.lt)
    clear hb2 HC HKa HB1 HT1 HM1
    go_wp2_with (refine wpList_load_row rfl 34 _ rfl _ rfl _ _ _ _ (show _ = _ from HKb.out) Tryd.underlying34 rfl (by kernel_rfl) ?_)
    refine (HBY.out w2 HT2.out HM2.out).mono ?_
    rintro e w3 ⟨A3, c3, rfl, ho3, hb3⟩
    have HB3 := Lib.hid (HB2.out.trans (hb3.mono HB2.out.size))
    have HT3 := Lib.hid (HT2.out.below hb3)
    have HM3 := Lib.hid (HM2.out.below hb3)
    have HKc := Lib.hid (HKb.out.below hb3 HKb.out.lt)
    obtain ⟨bb, oo, rfl, _, hcc⟩ := (ownRow ho3).open_ (by simp)
    have hz0 : w3.cell? ⟨bb, oo, none⟩ = some (.int .u8 1) := hcc 0 (by simp)
    have hz1 : w3.cell? ⟨bb, oo + 1, none⟩ = some (.int .u8 x.kind) := by
      have := hcc 1 (by simp)
      rw [this]
      simp only [List.map_cons, List.getElem_cons_succ, List.getElem_cons_zero]
      unfold byteV
      rw [HKN.out]
    have hzk : w3.cell? ⟨w.heap.size, 0, none⟩ = some (.int .i64 x.kind) := HKc.out.cell 0
    have l0 := later_cell hz0
    have l1 := later_cell hz1
    have lk := later_cell hzk
    have hcap := (own_cap ho3).1
    obtain ⟨n, hn⟩ : ∃ n, (1 :: UInt8.ofNat x.kind.toNat :: rest).length = n := ⟨_, rfl⟩
    have hn2 : 2 ≤ n := by rw [← hn]; simp
    have hmx := (own_cap ho3).2
    unfold maxLen at hmx
    rw [hn] at hcap
    simp only [hn]
    clear hb3 HBY HKb HB2 HT2 HM2 hcc ho3 hn hz0 hz1 hzk
    have hn2i : (2 : Int) ≤ (n : Int) := by omega
    have hnmi : (n : Int) ≤ 9223372036854775807 := by omega
    have hlt2 : decide ((n : Int) < 2) = false := decide_eq_false (by omega)
    have hk1 := HK1.out
    have hk17 := HK17.out
    go_wp2_with fail
    refine wp_region_later (by kernel_rfl) (by kernel_rfl) ?_
    repeat (go_big_quiet_step (fail))
    refine wpQuiet_nil ?_
    intro w4 hw4
    obtain ⟨p, rfl⟩ := hw4
    have HB4 := Lib.hid (HB3.out.trans (p.bel.mono HB3.out.size))
    have HT4 := Lib.hid (HT3.out.below p.bel)
    have HM4 := Lib.hid (HM3.out.below p.bel)
    have HKd := Lib.hid (HKc.out.below p.bel HKc.out.lt)
    clear l0 l1 lk HB3 HT3 HM3 HKc
    go_wp2_with (refine wpList_load_row rfl 34 _ rfl _ rfl _ _ _ _ (show _ = _ from HKd.out) Tryd.underlying34 rfl (by kernel_rfl) ?_)
    obtain ⟨W5, hW5⟩ : ∃ W5, p.world.alloc (.cells #[.int .i64 kd, .int .i64 x.fr, .int .i64 x.dst, .int .i64 x.ep, .int .i64 x.op, .int .i64 x.n, .bool x.flag, .string ⟨x.e.1.k.toArray⟩, .int .i64 x.e.1.s, .int .i64 x.e.1.u, .int .i64 x.e.1.o, .bool x.e.1.has, .slice x.e.2.1 x.e.1.v.length x.e.2.2, .slice x.lA x.l.length x.lc, .slice x.rA x.ns.length x.rc, .int .i64 x.each, .int .i64 x.keep] 34) = W5 := ⟨_, rfl⟩
    have hal : Below p.world.heap.size p.world W5 := by rw [← hW5]; exact (Below.refl _ _).alloc (Nat.le_refl _) _
    have HKo : Hid (Blk W5 p.world.heap.size 34 #[.int .i64 kd, .int .i64 x.fr, .int .i64 x.dst, .int .i64 x.ep, .int .i64 x.op, .int .i64 x.n, .bool x.flag, .string ⟨x.e.1.k.toArray⟩, .int .i64 x.e.1.s, .int .i64 x.e.1.u, .int .i64 x.e.1.o, .bool x.e.1.has, .slice x.e.2.1 x.e.1.v.length x.e.2.2, .slice x.lA x.l.length x.lc, .slice x.rA x.ns.length x.rc, .int .i64 x.each, .int .i64 x.keep]) := Lib.hid (by rw [← hW5]; exact Blk.new _ _ _)
    have HB5 := Lib.hid (HB4.out.trans (hal.mono HB4.out.size))
    have HT5 := Lib.hid (HT4.out.below hal)
    have HM5 := Lib.hid (HM4.out.below hal)
    have HKe := Lib.hid (HKd.out.below hal HKd.out.lt)
    simp only [hW5]
    clear hW5 hal HB4 HT4 HM4 HKd hlt2 hn2i hnmi hn2 hcap hmx
    generalize (Value.agg #[.int .i64 x.kind, .int .i64 x.fr, .int .i64 x.dst, .int .i64 x.ep, .int .i64 x.op, .int .i64 x.n, .bool x.flag, .string ⟨x.e.1.k.toArray⟩, .int .i64 x.e.1.s, .int .i64 x.e.1.u, .int .i64 x.e.1.o, .bool x.e.1.has, .slice x.e.2.1 x.e.1.v.length x.e.2.2, .slice x.lA x.l.length x.lc, .slice x.rA x.ns.length x.rc, .int .i64 x.each, .int .i64 x.keep]) = V1
    go_loopw [8, 9] (fun z i wr => ∃ (k : Nat) (b : Bool), k ≤ 5 ∧ i = .int .i64 k ∧ z = .bool b ∧ Hid (b = ((kfs kd x.kind).take k).all id) ∧ Hid (Below W5.heap.size W5 wr)) (fun _ i _ => 5 - (intOf i).toNat)
    case atStart => exact ⟨0, true, by omega, rfl, rfl, Lib.hid rfl, Lib.hid (Below.refl _ _)⟩
    case round =>
      obtain ⟨k, b, hk, rfl, rfl, HBQ, HBR⟩ := hrel
      have hkk : wr.cell? ⟨w.heap.size, 0, none⟩ = some (.int .i64 x.kind) := (HKe.out.below HBR.out HKe.out.lt).cell 0
      match k, hk, HBQ with
      | 0, _, HBQ =>
        as_aux_lemma =>
        obtain ⟨ie, hie, hiz, hi1⟩ := info_s12
        clear hkk
        go_upto_region 12 with (fail)
        go_wp2_with (refine wpList_buildSlice rfl 61 9 5 _ rfl #[.string ⟨#[110]⟩, .string ⟨#[102]⟩, .string ⟨#[101]⟩, .string ⟨#[108]⟩, .string ⟨#[114]⟩] _ (.string ⟨#[]⟩) Tryd.underlying61 hie hiz (by rw [hi1]; decide) (by rw [hi1]; decide) (by rw [hi1]; kernel_rfl) ?_)
        obtain ⟨W6, hW6⟩ : ∃ W6, wr.alloc (.cells #[.string ⟨#[110]⟩, .string ⟨#[102]⟩, .string ⟨#[101]⟩, .string ⟨#[108]⟩, .string ⟨#[114]⟩] 9) = W6 := ⟨_, rfl⟩
        have hal : Below wr.heap.size wr W6 := by rw [← hW6]; exact (Below.refl _ _).alloc (Nat.le_refl _) _
        have HB6 := Lib.hid (HBR.out.trans (hal.mono HBR.out.size))
        have hkc : W6.cell? ⟨w.heap.size, 0, none⟩ = some (.int .i64 x.kind) := (HKe.out.below HB6.out HKe.out.lt).cell 0
        have lk := later_cell hkc
        simp only [hW6]
        clear hkc hal hW6 hie hiz hi1
        cases b
        · refine wp_region_later (by kernel_rfl) (by kernel_rfl) ?_
          repeat (go_big_quiet_step (fail))
          refine wpQuiet_nil ?_
          intro w7 hw7
          obtain ⟨p7, rfl⟩ := hw7
          go_wp2
          go_roundw
          case rel => exact ⟨1, false, by omega, rfl, rfl, Lib.hid (all_f HBQ.out), Lib.hid (HB6.out.trans (p7.bel.mono HB6.out.size))⟩
          case measure => simp [intOf]
        · refine wp_region_later (by kernel_rfl) (by kernel_rfl) ?_
          repeat (go_big_quiet_step (first | (go_at_call 22; with_reducible exact later_of (rhasN_any kd _)) | (go_at_call 22; with_reducible exact later_of (rhasN_any x.kind _))))
          refine wpQuiet_nil ?_
          intro w7 hw7
          obtain ⟨p7, rfl⟩ := hw7
          go_wp2
          go_roundw
          case rel => exact ⟨1, _, by omega, rfl, rfl, Lib.hid (all_t (L := kfs kd x.kind) (k := 0) (show 0 < (kfs kd x.kind).length from (by decide : 0 < 5)) HBQ.out), Lib.hid (HB6.out.trans (p7.bel.mono HB6.out.size))⟩
          case measure => simp [intOf]
      | 1, _, HBQ =>
        as_aux_lemma =>
        obtain ⟨ie, hie, hiz, hi1⟩ := info_s12
        clear hkk
        go_upto_region 12 with (fail)
        go_wp2_with (refine wpList_buildSlice rfl 61 9 5 _ rfl #[.string ⟨#[110]⟩, .string ⟨#[102]⟩, .string ⟨#[101]⟩, .string ⟨#[108]⟩, .string ⟨#[114]⟩] _ (.string ⟨#[]⟩) Tryd.underlying61 hie hiz (by rw [hi1]; decide) (by rw [hi1]; decide) (by rw [hi1]; kernel_rfl) ?_)
        obtain ⟨W6, hW6⟩ : ∃ W6, wr.alloc (.cells #[.string ⟨#[110]⟩, .string ⟨#[102]⟩, .string ⟨#[101]⟩, .string ⟨#[108]⟩, .string ⟨#[114]⟩] 9) = W6 := ⟨_, rfl⟩
        have hal : Below wr.heap.size wr W6 := by rw [← hW6]; exact (Below.refl _ _).alloc (Nat.le_refl _) _
        have HB6 := Lib.hid (HBR.out.trans (hal.mono HBR.out.size))
        have hkc : W6.cell? ⟨w.heap.size, 0, none⟩ = some (.int .i64 x.kind) := (HKe.out.below HB6.out HKe.out.lt).cell 0
        have lk := later_cell hkc
        simp only [hW6]
        clear hkc hal hW6 hie hiz hi1
        cases b
        · refine wp_region_later (by kernel_rfl) (by kernel_rfl) ?_
          repeat (go_big_quiet_step (fail))
          refine wpQuiet_nil ?_
          intro w7 hw7
          obtain ⟨p7, rfl⟩ := hw7
          go_wp2
          go_roundw
          case rel => exact ⟨2, false, by omega, rfl, rfl, Lib.hid (all_f HBQ.out), Lib.hid (HB6.out.trans (p7.bel.mono HB6.out.size))⟩
          case measure => simp [intOf]
        · refine wp_region_later (by kernel_rfl) (by kernel_rfl) ?_
          repeat (go_big_quiet_step (first | (go_at_call 22; with_reducible exact later_of (rhasF_any kd _)) | (go_at_call 22; with_reducible exact later_of (rhasF_any x.kind _))))
          refine wpQuiet_nil ?_
          intro w7 hw7
          obtain ⟨p7, rfl⟩ := hw7
          go_wp2
          go_roundw
          case rel => exact ⟨2, _, by omega, rfl, rfl, Lib.hid (all_t (L := kfs kd x.kind) (k := 1) (show 1 < (kfs kd x.kind).length from (by decide : 1 < 5)) HBQ.out), Lib.hid (HB6.out.trans (p7.bel.mono HB6.out.size))⟩
          case measure => simp [intOf]
      | 2, _, HBQ =>
        as_aux_lemma =>
        obtain ⟨ie, hie, hiz, hi1⟩ := info_s12
        clear hkk
        go_upto_region 12 with (fail)
        go_wp2_with (refine wpList_buildSlice rfl 61 9 5 _ rfl #[.string ⟨#[110]⟩, .string ⟨#[102]⟩, .string ⟨#[101]⟩, .string ⟨#[108]⟩, .string ⟨#[114]⟩] _ (.string ⟨#[]⟩) Tryd.underlying61 hie hiz (by rw [hi1]; decide) (by rw [hi1]; decide) (by rw [hi1]; kernel_rfl) ?_)
        obtain ⟨W6, hW6⟩ : ∃ W6, wr.alloc (.cells #[.string ⟨#[110]⟩, .string ⟨#[102]⟩, .string ⟨#[101]⟩, .string ⟨#[108]⟩, .string ⟨#[114]⟩] 9) = W6 := ⟨_, rfl⟩
        have hal : Below wr.heap.size wr W6 := by rw [← hW6]; exact (Below.refl _ _).alloc (Nat.le_refl _) _
        have HB6 := Lib.hid (HBR.out.trans (hal.mono HBR.out.size))
        have hkc : W6.cell? ⟨w.heap.size, 0, none⟩ = some (.int .i64 x.kind) := (HKe.out.below HB6.out HKe.out.lt).cell 0
        have lk := later_cell hkc
        simp only [hW6]
        clear hkc hal hW6 hie hiz hi1
        cases b
        · refine wp_region_later (by kernel_rfl) (by kernel_rfl) ?_
          repeat (go_big_quiet_step (fail))
          refine wpQuiet_nil ?_
          intro w7 hw7
          obtain ⟨p7, rfl⟩ := hw7
          go_wp2
          go_roundw
          case rel => exact ⟨3, false, by omega, rfl, rfl, Lib.hid (all_f HBQ.out), Lib.hid (HB6.out.trans (p7.bel.mono HB6.out.size))⟩
          case measure => simp [intOf]
        · refine wp_region_later (by kernel_rfl) (by kernel_rfl) ?_
          repeat (go_big_quiet_step (first | (go_at_call 22; with_reducible exact later_of (rhasE_any kd _)) | (go_at_call 22; with_reducible exact later_of (rhasE_any x.kind _))))
          refine wpQuiet_nil ?_
          intro w7 hw7
          obtain ⟨p7, rfl⟩ := hw7
          go_wp2
          go_roundw
          case rel => exact ⟨3, _, by omega, rfl, rfl, Lib.hid (all_t (L := kfs kd x.kind) (k := 2) (show 2 < (kfs kd x.kind).length from (by decide : 2 < 5)) HBQ.out), Lib.hid (HB6.out.trans (p7.bel.mono HB6.out.size))⟩
          case measure => simp [intOf]
      | 3, _, HBQ =>
        as_aux_lemma =>
        obtain ⟨ie, hie, hiz, hi1⟩ := info_s12
        clear hkk
        go_upto_region 12 with (fail)
        go_wp2_with (refine wpList_buildSlice rfl 61 9 5 _ rfl #[.string ⟨#[110]⟩, .string ⟨#[102]⟩, .string ⟨#[101]⟩, .string ⟨#[108]⟩, .string ⟨#[114]⟩] _ (.string ⟨#[]⟩) Tryd.underlying61 hie hiz (by rw [hi1]; decide) (by rw [hi1]; decide) (by rw [hi1]; kernel_rfl) ?_)
        obtain ⟨W6, hW6⟩ : ∃ W6, wr.alloc (.cells #[.string ⟨#[110]⟩, .string ⟨#[102]⟩, .string ⟨#[101]⟩, .string ⟨#[108]⟩, .string ⟨#[114]⟩] 9) = W6 := ⟨_, rfl⟩
        have hal : Below wr.heap.size wr W6 := by rw [← hW6]; exact (Below.refl _ _).alloc (Nat.le_refl _) _
        have HB6 := Lib.hid (HBR.out.trans (hal.mono HBR.out.size))
        have hkc : W6.cell? ⟨w.heap.size, 0, none⟩ = some (.int .i64 x.kind) := (HKe.out.below HB6.out HKe.out.lt).cell 0
        have lk := later_cell hkc
        simp only [hW6]
        clear hkc hal hW6 hie hiz hi1
        cases b
        · refine wp_region_later (by kernel_rfl) (by kernel_rfl) ?_
          repeat (go_big_quiet_step (fail))
          refine wpQuiet_nil ?_
          intro w7 hw7
          obtain ⟨p7, rfl⟩ := hw7
          go_wp2
          go_roundw
          case rel => exact ⟨4, false, by omega, rfl, rfl, Lib.hid (all_f HBQ.out), Lib.hid (HB6.out.trans (p7.bel.mono HB6.out.size))⟩
          case measure => simp [intOf]
        · refine wp_region_later (by kernel_rfl) (by kernel_rfl) ?_
          repeat (go_big_quiet_step (first | (go_at_call 22; with_reducible exact later_of (rhasL_any kd _)) | (go_at_call 22; with_reducible exact later_of (rhasL_any x.kind _))))
          refine wpQuiet_nil ?_
          intro w7 hw7
          obtain ⟨p7, rfl⟩ := hw7
          go_wp2
          go_roundw
          case rel => exact ⟨4, _, by omega, rfl, rfl, Lib.hid (all_t (L := kfs kd x.kind) (k := 3) (show 3 < (kfs kd x.kind).length from (by decide : 3 < 5)) HBQ.out), Lib.hid (HB6.out.trans (p7.bel.mono HB6.out.size))⟩
          case measure => simp [intOf]
      | 4, _, HBQ =>
        as_aux_lemma =>
        obtain ⟨ie, hie, hiz, hi1⟩ := info_s12
        clear hkk
        go_upto_region 12 with (fail)
        go_wp2_with (refine wpList_buildSlice rfl 61 9 5 _ rfl #[.string ⟨#[110]⟩, .string ⟨#[102]⟩, .string ⟨#[101]⟩, .string ⟨#[108]⟩, .string ⟨#[114]⟩] _ (.string ⟨#[]⟩) Tryd.underlying61 hie hiz (by rw [hi1]; decide) (by rw [hi1]; decide) (by rw [hi1]; kernel_rfl) ?_)
        obtain ⟨W6, hW6⟩ : ∃ W6, wr.alloc (.cells #[.string ⟨#[110]⟩, .string ⟨#[102]⟩, .string ⟨#[101]⟩, .string ⟨#[108]⟩, .string ⟨#[114]⟩] 9) = W6 := ⟨_, rfl⟩
        have hal : Below wr.heap.size wr W6 := by rw [← hW6]; exact (Below.refl _ _).alloc (Nat.le_refl _) _
        have HB6 := Lib.hid (HBR.out.trans (hal.mono HBR.out.size))
        have hkc : W6.cell? ⟨w.heap.size, 0, none⟩ = some (.int .i64 x.kind) := (HKe.out.below HB6.out HKe.out.lt).cell 0
        have lk := later_cell hkc
        simp only [hW6]
        clear hkc hal hW6 hie hiz hi1
        cases b
        · refine wp_region_later (by kernel_rfl) (by kernel_rfl) ?_
          repeat (go_big_quiet_step (fail))
          refine wpQuiet_nil ?_
          intro w7 hw7
          obtain ⟨p7, rfl⟩ := hw7
          go_wp2
          go_roundw
          case rel => exact ⟨5, false, by omega, rfl, rfl, Lib.hid (all_f HBQ.out), Lib.hid (HB6.out.trans (p7.bel.mono HB6.out.size))⟩
          case measure => simp [intOf]
        · refine wp_region_later (by kernel_rfl) (by kernel_rfl) ?_
          repeat (go_big_quiet_step (first | (go_at_call 22; with_reducible exact later_of (rhasR_any kd _)) | (go_at_call 22; with_reducible exact later_of (rhasR_any x.kind _))))
          refine wpQuiet_nil ?_
          intro w7 hw7
          obtain ⟨p7, rfl⟩ := hw7
          go_wp2
          go_roundw
          case rel => exact ⟨5, _, by omega, rfl, rfl, Lib.hid (all_t (L := kfs kd x.kind) (k := 4) (show 4 < (kfs kd x.kind).length from (by decide : 4 < 5)) HBQ.out), Lib.hid (HB6.out.trans (p7.bel.mono HB6.out.size))⟩
          case measure => simp [intOf]
      | 5, _, HBQ =>
        have HTr := Lib.hid (HT5.out.below HBR.out)
        have HMr := Lib.hid (HM5.out.below HBR.out)
        have HBr := Lib.hid (HB5.out.trans (HBR.out.mono HB5.out.size))
        have HKr := Lib.hid (HKo.out.below HBR.out HKo.out.lt)
        clear hkk HB5 HT5 HM5 HKo HKe HBR
        have HF : Hid ((exK kd = false → checkM (mP { x with kind := kd }) = 2) ∧ (exK kd = true → b = true → checkM (mP { x with kind := kd }) = 0)) := Lib.hid ⟨HRS.out kd, fun hx hb => by
          have hq := HBQ.out
          rw [hb] at hq
          simp [kfs] at hq
          obtain ⟨q1, q2, q3, q4, q5⟩ := hq
          have := okM_kind HOK.out hx q1 q2 q3 q4 q5
          unfold checkM
          rw [if_pos this]⟩
        generalize checkM (mP { x with kind := kd }) = FF at HF HCO
        have HCX := Lib.hid (HCO.out wr HTr.out HMr.out)
        clear HCO HBQ HOK HRS HKN HK1 HK17
        cases hx : exK kd
        · have hff : FF = 2 := HF.out.1 hx
          subst hff
          rcases exK_no hx with h1 | h1
          · clear hx HF
            cases b
            all_goals
              as_aux_lemma =>
              go_wp2_with (refine wpList_load_row rfl 34 _ rfl _ rfl _ _ _ _ (show _ = _ from HKr.out) Tryd.underlying34 rfl (by kernel_rfl) ?_)
              refine HCX.out.mono ?_
              rintro e w8 ⟨rfl, hb8⟩
              have HB8 := Lib.hid (HBr.out.trans (hb8.mono HBr.out.size))
              have HT8 := Lib.hid (HTr.out.below hb8)
              clear hb8 HCX HKr HTr HMr HBr
              go_wp2_with fail
              refine (known12 w8 HT8.out).mono ?_
              rintro e w9 ⟨rfl, hb9⟩
              have HB9 := Lib.hid (HB8.out.trans (hb9.mono HB8.out.size))
              clear hb9
              go_wp2
              go_ret
              exact ⟨rfl, HB9.out⟩
          · have h2 : 1 ≤ kd := by omega
            clear hx HF
            cases b
            all_goals
              as_aux_lemma =>
              go_wp2_with (refine wpList_load_row rfl 34 _ rfl _ rfl _ _ _ _ (show _ = _ from HKr.out) Tryd.underlying34 rfl (by kernel_rfl) ?_)
              refine HCX.out.mono ?_
              rintro e w8 ⟨rfl, hb8⟩
              have HB8 := Lib.hid (HBr.out.trans (hb8.mono HBr.out.size))
              have HT8 := Lib.hid (HTr.out.below hb8)
              clear hb8 HCX HKr HTr HMr HBr
              go_wp2_with fail
              refine (known12 w8 HT8.out).mono ?_
              rintro e w9 ⟨rfl, hb9⟩
              have HB9 := Lib.hid (HB8.out.trans (hb9.mono HB8.out.size))
              clear hb9
              go_wp2
              go_ret
              exact ⟨rfl, HB9.out⟩
        · obtain ⟨h1, h2⟩ := exK_yes hx
          cases b
          · clear hx HF
            as_aux_lemma =>
            go_wp2_with (refine wpList_load_row rfl 34 _ rfl _ rfl _ _ _ _ (show _ = _ from HKr.out) Tryd.underlying34 rfl (by kernel_rfl) ?_)
            refine HCX.out.mono ?_
            rintro e w8 ⟨rfl, hb8⟩
            have HB8 := Lib.hid (HBr.out.trans (hb8.mono HBr.out.size))
            have HT8 := Lib.hid (HTr.out.below hb8)
            clear hb8 HCX HKr HTr HMr HBr
            go_wp2_with fail
            refine (known12 w8 HT8.out).mono ?_
            rintro e w9 ⟨rfl, hb9⟩
            have HB9 := Lib.hid (HB8.out.trans (hb9.mono HB8.out.size))
            clear hb9
            go_wp2
            go_ret
            exact ⟨rfl, HB9.out⟩
          · have hff : FF = 0 := HF.out.2 hx rfl
            subst hff
            clear hx HF
            as_aux_lemma =>
            go_wp2_with (refine wpList_load_row rfl 34 _ rfl _ rfl _ _ _ _ (show _ = _ from HKr.out) Tryd.underlying34 rfl (by kernel_rfl) ?_)
            refine HCX.out.mono ?_
            rintro e w8 ⟨rfl, hb8⟩
            have HB8 := Lib.hid (HBr.out.trans (hb8.mono HBr.out.size))
            have HT8 := Lib.hid (HTr.out.below hb8)
            clear hb8 HCX HKr HTr HMr HBr
            go_wp2_with fail
            refine (known12 w8 HT8.out).mono ?_
            rintro e w9 ⟨rfl, hb9⟩
            have HB9 := Lib.hid (HB8.out.trans (hb9.mono HB8.out.size))
            clear hb9
            go_wp2
            go_ret
            exact ⟨rfl, HB9.out⟩
theorem kinds_any (x : MV) (kd : Int) (w : World) (ht : KT w) (h : MsgM w x) : Calls Tryd.prog 8 #[.agg #[.int .i64 x.kind, .int .i64 x.fr, .int .i64 x.dst, .int .i64 x.ep, .int .i64 x.op, .int .i64 x.n, .bool x.flag, .string ⟨x.e.1.k.toArray⟩, .int .i64 x.e.1.s, .int .i64 x.e.1.u, .int .i64 x.e.1.o, .bool x.e.1.has, .slice x.e.2.1 x.e.1.v.length x.e.2.2, .slice x.lA x.l.length x.lc, .slice x.rA x.ns.length x.rc, .int .i64 x.each, .int .i64 x.keep], .int .i64 kd] w (IsT12 w) := by
  cases h0 : okM (mP x)
  · exact kinds_no x kd h0 w ht h
  · exact kinds_yes x kd h0 w ht h
end Go.Proofs.YtacfjagkcdnalaaDoor
