/- SvLk: The law DepotLooks, walked (written by tools/gen_svl.py). -/
import Derived.Test.YtkdpfjenjcpcfaaGreatDoorSZ4
import Derived.Test.YtkdpfjenjcpcfaaGreatDoorRely
import Derived.Deep.MidRow
namespace Go.Proofs.YtkdpfjenjcpcfaaGreatDoor
open Go.RowKit Go.ChangeShapes Mem Be Word Frm Go.Maps Rg
set_option maxRecDepth 100000
set_option maxHeartbeats 12000000
set_option linter.unusedVariables false
set_option linter.unusedSimpArgs false
/-- What All told of a store. -/
def AllAt (S : St8) (w : World) (A : Option Addr) : Prop := ∃ xs : List EV, xs.length = S.L.length ∧ xs.map Prod.fst = S.L ∧ EnV w A xs
theorem made_later {S : St8} {w1 w2 : World} {A : Option Addr} (h : AllAt S w1 A) (hb : Below w1.heap.size w1 w2) : AllAt S w2 A := by
  obtain ⟨xs, h1, h2, h3⟩ := h
  exact ⟨xs, h1, h2, h3.below hb⟩
theorem row_later {w1 w2 : World} {A : Option Addr} {xs : List Value} (h : Row w1 w1.heap.size A xs) (hb : Below w1.heap.size w1 w2) : Row w2 w2.heap.size A xs := (h.below hb).more hb.size
def rgLk0 (S : St8) (Y : List UInt8) (A8 A9 A5 A7 : Option Addr) (c8 N9 c9 N5 c5 N7 c7 g gd2 : Nat) : Nat → Value → World → Prop
  | 0, v, _ => v = .slice A8 0 c8
  | 1, v, _ => v = .slice A9 N9 c9
  | 2, v, _ => v = .bool true
  | 3, v, _ => v = .bool true
  | 4, v, _ => v = .slice A8 0 c8
  | 5, v, _ => v = .int .i64 0
  | 6, v, _ => v = .bool true
  | 7, v, _ => v = .bool true
  | 8, v, _ => v = .bool true
  | 9, v, _ => v = .slice A8 0 c8
  | 10, v, _ => v = .int .i64 0
  | 11, v, _ => v = .bool true
  | 12, v, _ => v = .bool true
  | 13, v, _ => v = undef
  | 14, v, _ => v = undef
  | 15, v, _ => v = undef
  | 16, v, _ => v = undef
  | 17, v, _ => v = undef
  | 18, v, _ => v = undef
  | 19, v, _ => v = undef
  | 20, v, _ => v = undef
  | 21, v, _ => v = undef
  | 22, v, _ => v = undef
  | 23, v, _ => v = undef
  | 24, v, _ => v = undef
  | 25, v, _ => v = undef
  | 26, v, _ => v = undef
  | 27, v, _ => v = undef
  | 28, v, _ => v = undef
  | 29, v, _ => v = undef
  | 30, v, _ => v = undef
  | 31, v, _ => v = undef
  | 32, v, _ => v = undef
  | 33, v, _ => v = undef
  | 34, v, _ => v = undef
  | 35, v, _ => v = undef
  | 36, v, _ => v = undef
  | 37, v, _ => v = undef
  | 38, v, _ => v = .bool true
  | 39, v, _ => v = .bool true
  | 40, v, _ => v = .bool true
  | 41, v, _ => v = .pointer (some ⟨g, 0, none⟩)
  | 42, v, w => ∃ A' c', v = .slice A' S.L.length c' ∧ AllAt S w A'
  | 43, v, _ => v = .slice A5 N5 c5
  | 44, v, _ => v = .bool true
  | 45, v, _ => v = .bool true
  | 46, v, _ => v = .bool true
  | 47, v, _ => v = .pointer (some ⟨gd2, 0, none⟩)
  | 48, v, w => ∃ A' c', v = .slice A' Y.length c' ∧ Row w w.heap.size A' (Y.map byteV)
  | 49, v, _ => v = .slice A7 N7 c7
  | 50, v, _ => v = .bool true
  | 51, v, _ => v = .bool true
  | 52, v, _ => v = .bool true
  | 53, v, _ => v = .bool true
  | 54, v, _ => v = .bool true
  | _, v, _ => v = .bool true
theorem rgLk0_later (S : St8) (Y : List UInt8) (A8 A9 A5 A7 : Option Addr) (c8 N9 c9 N5 c5 N7 c7 g gd2 : Nat) : ∀ i v w1 w2, rgLk0 S Y A8 A9 A5 A7 c8 N9 c9 N5 c5 N7 c7 g gd2 i v w1 → Below w1.heap.size w1 w2 → rgLk0 S Y A8 A9 A5 A7 c8 N9 c9 N5 c5 N7 c7 g gd2 i v w2 := by
  intro i v w1 w2 h hb
  unfold rgLk0 at h ⊢
  split at h <;> first | exact h | (obtain ⟨p, e, hk⟩ := h; exact ⟨p, e, hk.below hb hk.lt⟩) | (obtain ⟨a, b, e, hk⟩ := h; exact ⟨a, b, e, own_later hk hb⟩) | (obtain ⟨a, b, e, hk⟩ := h; exact ⟨a, b, e, made_later hk hb⟩) | (obtain ⟨a, b, e, hk⟩ := h; exact ⟨a, b, e, row_later hk hb⟩)

def rgLk1 (S : St8) (Y : List UInt8) (A9 A5 A7 : Option Addr) (b8 o8 c8 N9 c9 N5 c5 N7 c7 g gd2 bx : Nat) (fr : Int) (key : List UInt8) : Nat → Value → World → Prop
  | 0, v, _ => v = .slice (some ⟨b8, o8, none⟩) 1 c8
  | 1, v, _ => v = .slice A9 N9 c9
  | 2, v, _ => v = .bool true
  | 3, v, _ => v = .bool true
  | 4, v, _ => v = .slice (some ⟨b8, o8, none⟩) 1 c8
  | 5, v, _ => v = .int .i64 1
  | 6, v, _ => v = .bool true
  | 7, v, _ => v = .bool true
  | 8, v, _ => v = .bool true
  | 9, v, _ => v = .slice (some ⟨b8, o8, none⟩) 1 c8
  | 10, v, _ => v = .int .i64 1
  | 11, v, _ => v = .bool false
  | 12, v, _ => v = .bool false
  | 13, v, _ => v = .slice (some ⟨b8, o8, none⟩) 1 c8
  | 14, v, _ => v = .pointer (some ⟨b8, o8, none⟩)
  | 15, v, _ => v = .pointer (some ⟨b8, o8, none⟩)
  | 16, v, _ => v = .int .i64 8
  | 17, v, _ => v = .bool true
  | 18, v, _ => v = .bool true
  | 19, v, _ => v = .slice (some ⟨b8, o8, none⟩) 1 c8
  | 20, v, _ => v = .pointer (some ⟨b8, o8, none⟩)
  | 21, v, _ => v = .pointer (some ⟨b8, o8 + 7, none⟩)
  | 22, v, _ => v = .pointer (some ⟨b8, o8 + 7, none⟩)
  | 23, v, _ => v = .string ⟨key.toArray⟩
  | 24, v, _ => v = .pointer (some ⟨bx, 7, none⟩)
  | 25, v, _ => v = .pointer (some ⟨bx, 7, none⟩)
  | 26, v, _ => v = .string ⟨key.toArray⟩
  | 27, v, _ => v = .bool true
  | 28, v, _ => v = .bool true
  | 29, v, _ => v = .bool true
  | 30, v, _ => v = .slice (some ⟨b8, o8, none⟩) 1 c8
  | 31, v, _ => v = .pointer (some ⟨b8, o8, none⟩)
  | 32, v, _ => v = .pointer (some ⟨b8, o8 + 2, none⟩)
  | 33, v, _ => v = .int .i64 fr
  | 34, v, _ => v = .pointer (some ⟨bx, 1, none⟩)
  | 35, v, _ => v = .int .i64 fr
  | 36, v, _ => v = .bool true
  | 37, v, _ => v = .bool true
  | 38, v, _ => v = .bool true
  | 39, v, _ => v = .bool true
  | 40, v, _ => v = .bool true
  | 41, v, _ => v = .pointer (some ⟨g, 0, none⟩)
  | 42, v, w => ∃ A' c', v = .slice A' S.L.length c' ∧ AllAt S w A'
  | 43, v, _ => v = .slice A5 N5 c5
  | 44, v, _ => v = .bool true
  | 45, v, _ => v = .bool true
  | 46, v, _ => v = .bool true
  | 47, v, _ => v = .pointer (some ⟨gd2, 0, none⟩)
  | 48, v, w => ∃ A' c', v = .slice A' Y.length c' ∧ Row w w.heap.size A' (Y.map byteV)
  | 49, v, _ => v = .slice A7 N7 c7
  | 50, v, _ => v = .bool true
  | 51, v, _ => v = .bool true
  | 52, v, _ => v = .bool true
  | 53, v, _ => v = .bool true
  | 54, v, _ => v = .bool true
  | _, v, _ => v = .bool true
theorem rgLk1_later (S : St8) (Y : List UInt8) (A9 A5 A7 : Option Addr) (b8 o8 c8 N9 c9 N5 c5 N7 c7 g gd2 bx : Nat) (fr : Int) (key : List UInt8) : ∀ i v w1 w2, rgLk1 S Y A9 A5 A7 b8 o8 c8 N9 c9 N5 c5 N7 c7 g gd2 bx fr key i v w1 → Below w1.heap.size w1 w2 → rgLk1 S Y A9 A5 A7 b8 o8 c8 N9 c9 N5 c5 N7 c7 g gd2 bx fr key i v w2 := by
  intro i v w1 w2 h hb
  unfold rgLk1 at h ⊢
  split at h <;> first | exact h | (obtain ⟨p, e, hk⟩ := h; exact ⟨p, e, hk.below hb hk.lt⟩) | (obtain ⟨a, b, e, hk⟩ := h; exact ⟨a, b, e, own_later hk hb⟩) | (obtain ⟨a, b, e, hk⟩ := h; exact ⟨a, b, e, made_later hk hb⟩) | (obtain ⟨a, b, e, hk⟩ := h; exact ⟨a, b, e, row_later hk hb⟩)

theorem looks14_walk (A : Option Addr) (rs : List O14) (n c : Nat) (x : MV) (hn : n = rs.length) (hnl : n ≤ 676622540150) (w : World) (ht : KT w) (h : InO w A rs) (hm : MsgM w x) :
    Calls Tryz.prog 6 #[.slice A n c, .agg #[.int .i64 x.kind, .int .i64 x.fr, .int .i64 x.dst, .int .i64 x.ep, .int .i64 x.op, .int .i64 x.n, .bool x.flag, .string ⟨x.e.1.k.toArray⟩, .int .i64 x.e.1.s, .int .i64 x.e.1.u, .int .i64 x.e.1.o, .bool x.e.1.has, .slice x.e.2.1 x.e.1.v.length x.e.2.2, .slice x.lA x.l.length x.lc, .slice x.rA x.ns.length x.rc, .int .i64 x.each, .int .i64 x.keep]] w (IsT14 w) := by
  have hb1 : Below w.heap.size w (w.alloc (.cells #[.int .i64 x.kind, .int .i64 x.fr, .int .i64 x.dst, .int .i64 x.ep, .int .i64 x.op, .int .i64 x.n, .bool x.flag, .string ⟨x.e.1.k.toArray⟩, .int .i64 x.e.1.s, .int .i64 x.e.1.u, .int .i64 x.e.1.o, .bool x.e.1.has, .slice x.e.2.1 x.e.1.v.length x.e.2.2, .slice x.lA x.l.length x.lc, .slice x.rA x.ns.length x.rc, .int .i64 x.each, .int .i64 x.keep] 51)) := (Below.refl _ _).alloc (Nat.le_refl _) _
  have HX1 := Lib.hid (Blk.new w 51 #[.int .i64 x.kind, .int .i64 x.fr, .int .i64 x.dst, .int .i64 x.ep, .int .i64 x.op, .int .i64 x.n, .bool x.flag, .string ⟨x.e.1.k.toArray⟩, .int .i64 x.e.1.s, .int .i64 x.e.1.u, .int .i64 x.e.1.o, .bool x.e.1.has, .slice x.e.2.1 x.e.1.v.length x.e.2.2, .slice x.lA x.l.length x.lc, .slice x.rA x.ns.length x.rc, .int .i64 x.each, .int .i64 x.keep])
  have HB1 := Lib.hid hb1
  have HN := Lib.hid hn
  have HNL := Lib.hid hnl
  have HLG := Lib.hid (long14_any n c A rs hn (by unfold maxLen; omega) _ (h.move hb1))
  have HLM : Hid (∀ W, Below w.heap.size w W → Calls Tryz.prog 26 #[.agg #[.int .i64 x.kind, .int .i64 x.fr, .int .i64 x.dst, .int .i64 x.ep, .int .i64 x.op, .int .i64 x.n, .bool x.flag, .string ⟨x.e.1.k.toArray⟩, .int .i64 x.e.1.s, .int .i64 x.e.1.u, .int .i64 x.e.1.o, .bool x.e.1.has, .slice x.e.2.1 x.e.1.v.length x.e.2.2, .slice x.lA x.l.length x.lc, .slice x.rA x.ns.length x.rc, .int .i64 x.each, .int .i64 x.keep]] W (SomeI12 W)) := Lib.hid fun W hb => reflong12 x W (hm.below hb)
  have HIN0 := Lib.hid h
  have HT0 := Lib.hid ht
  have HM0 := Lib.hid hm
  have hni : (n : Int) ≤ 676622540150 := by omega
  have hni0 : (0 : Int) ≤ (n : Int) := by omega
  have fin : ∀ w1, Below w.heap.size w w1 → Calls Tryz.prog 10 #[] w1 (IsT14 w) := fun w1 hb => (known14_any w1 (ht.below hb)).mono fun e w2 ⟨he, hb2⟩ => ⟨he, hb.trans (hb2.mono hb.size)⟩
  have FIN := Lib.hid fin
  clear fin h hn hnl ht hm hb1
  go_enter Tryz.func6, Tryz.ntmps6
  go_wp2_with fail
  refine HLG.out.mono ?_
  rintro e w2 ⟨lb, rfl, hb⟩
  have HB2 := Lib.hid (HB1.out.trans (hb.mono HB1.out.size))
  have HX2 := Lib.hid (HX1.out.below hb HX1.out.lt)
  clear hb HLG HX1 HB1
  by_cases hlb : 2000 < lb
  · go_wp2_with fail
    refine (FIN.out _ HB2.out).mono ?_
    rintro e wf ⟨rfl, hbf⟩
    have HBF := Lib.hid hbf
    clear hbf
    go_wp2
    go_ret
    exact ⟨rfl, HBF.out⟩
  have hlb2 : decide (2000 < lb) = false := decide_eq_false hlb
  clear hlb
  go_wp2_with (refine load_rowG rfl 51 _ rfl _ rfl _ _ _ _ (show _ = _ from HX2.out) Tryz.underlying51 rfl (by kernel_rfl) ?_)
  refine (HLM.out _ HB2.out).mono ?_
  rintro e w3 ⟨mb, rfl, hb⟩
  have HB3 := Lib.hid (HB2.out.trans (hb.mono HB2.out.size))
  have HX3 := Lib.hid (HX2.out.below hb HX2.out.lt)
  clear hb HX2 HB2 HLM
  by_cases hmb : 500 < mb
  · go_wp2_with fail
    refine (FIN.out _ HB3.out).mono ?_
    rintro e wf ⟨rfl, hbf⟩
    have HBF := Lib.hid hbf
    clear hbf
    go_wp2
    go_ret
    exact ⟨rfl, HBF.out⟩
  have hmb2 : mb ≤ 500 := by omega
  clear hmb
  have HIN := Lib.hid (HIN0.out.move HB3.out)
  have HT := Lib.hid (HT0.out.below HB3.out)
  have HM := Lib.hid (HM0.out.below HB3.out)
  clear HIN0 HT0 HM0
  go_wp2_with fail
  refine (newsv_any w3).mono ?_
  rintro e w4 ⟨g0, F0, rfl, hF, hd, hb⟩
  have HK0 : Hid (Sv1 w3 w4 F0 g0 st0 [] 0) := Lib.hid ⟨hF, hd, hb⟩
  simp only [id]
  clear hF hd hb
  go_wp2_with fail
  go_loopw [5, 6] (fun z i wr => ∃ k : Nat, k ≤ n ∧ i = .int .i64 k ∧ ∃ g, z = .pointer (some ⟨g, 0, none⟩) ∧ Hid (∃ F S ps q, q ≤ k ∧ Sv1 w3 wr F g S ps q ∧ RunI S ps k)) (fun _ i _ => n - (intOf i).toNat)
  case atStart => exact ⟨0, by omega, rfl, g0, rfl, Lib.hid ⟨F0, st0, [], 0, Nat.le_refl _, HK0.out, runI_new⟩⟩
  case round =>
    obtain ⟨k, hk, rfl, g, rfl, HK⟩ := hrel
    obtain ⟨F, S, ps, q, hq, hd, hr⟩ := HK.out
    have HD := Lib.hid hd
    have HR := Lib.hid hr
    have HQ := Lib.hid hq
    clear HK hd hr hq HK0
    by_cases hlt : k < n
    · have hkr : k < rs.length := by rw [← HN.out]; exact hlt
      obtain ⟨b, o, rfl, _, hc0⟩ := os_open (HIN.out.rowAt HD.out.bel) (by omega)
      have hc := hc0 k hkr
      have C := done14_round HIN.out HT.out HD.out hkr (by have := HQ.out; have := HNL.out; omega) HR.out (by have := HNL.out; omega)
      obtain ⟨r, hr1⟩ : ∃ r, rs[k]'hkr = r := ⟨_, rfl⟩
      rw [hr1] at hc C
      have hrs := fun w1 F1 g1 q1 h => runI_step (w1 := w1) (F1 := F1) (g1 := g1) (q1 := q1) HR.out r.kind (mP r.m) r.kept HD.out.at_ h
      obtain ⟨R, hR⟩ : ∃ R, opS S ps r.kind (mP r.m) r.kept = R := ⟨_, rfl⟩
      rw [hR] at C hrs
      have HC := Lib.hid C
      have HCE : Hid (wr.rangeAt b (o + k * 19) (oC r)) := Lib.hid hc
      have HRS := Lib.hid hrs
      have hki : (0 : Int) ≤ (k : Int) := by omega
      have hki2 : (k : Int) < (n : Int) := by omega
      clear hc hc0 C hrs hR hr1
      go_wp2_with (refine wpList_load_mid rfl 53 _ rfl b (o + k * 19) rfl (oC r) _ (show _ from HCE.out) Tryz.underlying53 rfl (by kernel_rfl) ?_)
      refine HC.out.mono ?_
      rintro e w9 ⟨g2, F2, q2, us, A2, c2, rfl, hu, hn, hf, hq2, hs, htt⟩
      have HK9 : Hid (∃ F S ps q, q ≤ k + 1 ∧ Sv1 w3 w9 F g2 S ps q ∧ RunI S ps (k + 1)) := Lib.hid ⟨F2, R.S, R.ps, q2, by have := HQ.out; omega, HD.out.to hf hs htt, HRS.out _ _ _ _ hs⟩
      obtain ⟨N2, hN2⟩ : ∃ N, us.length = N := ⟨_, rfl⟩
      obtain ⟨e2, he2⟩ : ∃ e, R.err = e := ⟨_, rfl⟩
      rw [hN2, he2]
      clear hu hn hf hq2 hs htt hN2 he2 HC HRS HCE
      go_wp2
      go_roundw
      case rel => exact ⟨k + 1, by omega, by go_num, g2, rfl, HK9⟩
      case measure => simp [intOf]; omega
    · obtain rfl : k = n := by omega
      have HFIN : Hid (∀ W, Below w3.heap.size w3 W → Below w.heap.size w W) := Lib.hid fun W hb => HB3.out.trans (hb.mono HB3.out.size)
      go_wp2_with fail
      refine (svall_any F g q S ps wr HD.out.at_).mono ?_
      rintro e w5 ⟨vs, A5, c5, hvs, rfl, ho, hes, hb⟩
      have HW5 : Hid (EnN F w5 A5 vs) := Lib.hid (enN_of HD.out.at_.lt ho hes (okT_lens HD.out.at_.ok.lOk hvs))
      have HVS := Lib.hid hvs
      have HVL : Hid (vs.length ≤ 1073741824) := Lib.hid (by have h1 := congrArg List.length hvs; rw [List.length_map] at h1; have := sv_len HD.out.at_; omega)
      have HD5 := Lib.hid (HD.out.below hb)
      obtain ⟨N5, hN5⟩ : ∃ N, vs.length = N := ⟨_, rfl⟩
      have HN5 := Lib.hid hN5
      rw [hN5]
      clear hvs ho hes hb hN5 HD
      go_wp2_with fail
      refine (svdisk_any F g q S ps w5 HD5.out.at_).mono ?_
      rintro e w6 ⟨gd, Fd, rfl, hFd, hdk, hb⟩
      have HD6 := Lib.hid (HD5.out.below hb)
      have HW6 := Lib.hid (HW5.out.below hb)
      have HDK := Lib.hid hdk
      simp only [id]
      obtain ⟨Y, hY⟩ : ∃ Y, allB (S.rs.take S.m) ++ allB (S.rs.drop S.m) = Y := ⟨_, rfl⟩
      have HBY := bytes_any Fd gd q (allB (S.rs.take S.m)) (allB (S.rs.drop S.m)) w6 hdk
      rw [hY] at HBY
      have HY := Lib.hid hY
      have HBYH := Lib.hid HBY
      clear hFd hdk hb HD5 HW5 hY HBY HDK
      go_wp2_with fail
      refine HBYH.out.mono ?_
      rintro e w7 ⟨A7, c7', rfl, ho, hb⟩
      have HD7 := Lib.hid (HD6.out.below hb)
      have HW7 := Lib.hid (HW6.out.below hb)
      have HR7 : Hid (RowN F w7 A7 (Y.map byteV)) := Lib.hid (rowN_own HD6.out.at_.lt ho)
      obtain ⟨N7, hN7⟩ : ∃ N, Y.length = N := ⟨_, rfl⟩
      have HN7 := Lib.hid hN7
      rw [hN7]
      have HX7 := Lib.hid (HX3.out.below HD7.out.bel HX3.out.lt)
      clear ho hb HD6 HW6 HBYH hN7
      have k0 : w7.cell? ⟨w.heap.size, 0, none⟩ = some (.int .i64 x.kind) := HX7.out.cell 0
      have k2 : w7.cell? ⟨w.heap.size, 2, none⟩ = some (.int .i64 x.dst) := HX7.out.cell 2
      by_cases hkd : x.kind = 10 ∧ x.dst = 1
      · obtain ⟨h10, h1⟩ := hkd
        rw [h10] at k0
        rw [h1] at k2
        go_wp2_with fail
        refine (FIN.out _ (HFIN.out _ HD7.out.bel)).mono ?_
        rintro e wf ⟨rfl, hbf⟩
        have HBF := Lib.hid hbf
        clear hbf
        go_wp2
        go_ret
        exact ⟨rfl, HBF.out⟩
      have hhs : handS S ps (mP x) = (S, ps) := if_neg fun hh => hkd ⟨hh.2.2, hh.2.1⟩
      have HHA0 : ∀ F g q W, SvAt W F g S ps q → Below w3.heap.size w3 W → (∀ k, F k → w3.heap.size ≤ k) → Calls Tryz.prog 20 #[.pointer (some ⟨g, 0, none⟩), .agg #[.int .i64 x.kind, .int .i64 x.fr, .int .i64 x.dst, .int .i64 x.ep, .int .i64 x.op, .int .i64 x.n, .bool x.flag, .string ⟨x.e.1.k.toArray⟩, .int .i64 x.e.1.s, .int .i64 x.e.1.u, .int .i64 x.e.1.o, .bool x.e.1.has, .slice x.e.2.1 x.e.1.v.length x.e.2.2, .slice x.lA x.l.length x.lc, .slice x.rA x.ns.length x.rc, .int .i64 x.each, .int .i64 x.keep]] W (HandP F g S ps q (handM S (mP x)) S ps W) := fun F g q W hsv hbW hnew => by
        have h1 := svhand_any F g q S ps x (by have := HR.out.acks; have := HNL.out; omega) (by have := HR.out.put; have := HNL.out; omega) W (HT.out.below hbW) hsv (HM.out.below hbW) (RowN.of_low (HM.out.ev.row.below hbW) hbW.size hnew)
        rw [hhs] at h1
        exact h1
      obtain ⟨OUT, hOUT⟩ : ∃ o, handM S (mP x) = o := ⟨_, rfl⟩
      have hone : OUT = [] ∨ (OUT = [foundM S (mP x)]) := by
        rw [← hOUT]
        unfold handM
        split
        · exact Or.inr rfl
        · exact Or.inl rfl
      rw [hOUT] at HHA0
      have HHA := Lib.hid HHA0
      have HONE := Lib.hid hone
      have hkk : (x.kind == 10 && x.dst == 1) = false := by
        cases h1 : (x.kind == 10)
        · rfl
        · cases h2 : (x.dst == 1)
          · rfl
          · exact absurd ⟨by simpa using h1, by simpa using h2⟩ hkd
      have HKK := Lib.hid hkk
      clear HHA0 hone hhs hOUT hkk
      go_upto_region 14 with fail
      go_cut [58] (fun v wx => v = .bool false ∧ wx = w7)
      case first =>
        cases h1 : (x.kind == 10)
        · go_wp2_with fail
          go_meet
          exact ⟨rfl, rfl⟩
        · have h2 : (x.dst == 1) = false := by have h3 := HKK.out; rw [h1] at h3; simpa using h3
          go_wp2_with fail
          go_meet
          exact ⟨rfl, rfl⟩
      case rest =>
      obtain ⟨rfl, hc1⟩ := hcut
      have hc2 := hc1.symm
      subst hc2
      have HC1 := Lib.hid (HHA.out F g q w7 HD7.out.at_ HD7.out.bel HD7.out.new)
      go_wp2_with (refine wpList_load_row rfl 51 _ rfl _ rfl _ _ _ _ (show _ = _ from HX7.out) Tryz.underlying51 rfl (by kernel_rfl) ?_)
      refine HC1.out.mono ?_
      rintro e w8 ⟨F8, us, A8, c8, rfl, hu, hnn, hf, hs, htt⟩
      have HD8 := Lib.hid (HD7.out.to hf hs htt)
      have HUS := Lib.hid hu
      have HM8 := Lib.hid (hnn.mono (G := F8) fun k hk => Or.inl hk)
      have HX8 := Lib.hid (HX3.out.below HD8.out.bel HX3.out.lt)
      have HW8 := Lib.hid (HW7.out.to hf htt)
      have HR8 := Lib.hid (HR7.out.grow hf htt)
      obtain ⟨N8, hN8⟩ : ∃ N, us.length = N := ⟨_, rfl⟩
      have HN8 := Lib.hid hN8
      rw [hN8]
      have HC2 := Lib.hid (HHA.out F8 g q w8 HD8.out.at_ HD8.out.bel HD8.out.new)
      clear hu hnn hf hs htt hN8 HC1 HD7 HW7 HR7 HX7
      go_wp2_with (refine wpList_load_row rfl 51 _ rfl _ rfl _ _ _ _ (show _ = _ from HX8.out) Tryz.underlying51 rfl (by kernel_rfl) ?_)
      refine HC2.out.mono ?_
      rintro e w9 ⟨F9, ut, A9, c9, rfl, hu, hnn, hf, hs, htt⟩
      have HD9 := Lib.hid (HD8.out.to hf hs htt)
      have HUT := Lib.hid hu
      have HM9 := Lib.hid (hnn.mono (G := F9) fun k hk => Or.inl hk)
      have HM89 := Lib.hid (HM8.out.to hf htt)
      have HW9 := Lib.hid (HW8.out.to hf htt)
      have HR9 := Lib.hid (HR8.out.grow hf htt)
      obtain ⟨N9, hN9⟩ : ∃ N, ut.length = N := ⟨_, rfl⟩
      have HN9 := Lib.hid hN9
      rw [hN9]
      clear hu hnn hf hs htt hN9 HC2 HD8 HW8 HR8 HM8 HX8 HHA
      go_wp2_with fail
      refine (svdisk_any F9 g q S ps w9 HD9.out.at_).mono ?_
      rintro e w10 ⟨gd2, Fd2, rfl, hFd, hdk, hb⟩
      have HD10 := Lib.hid (HD9.out.below hb)
      have HW10 := Lib.hid (HW9.out.below hb)
      have HR10 := Lib.hid (HR9.out.grow (fun k hk => Or.inl hk) (Touch.ofBelow hb))
      have HMA := Lib.hid (HM89.out.below hb)
      have HMB := Lib.hid (HM9.out.below hb)
      have HX10 := Lib.hid (HX3.out.below HD10.out.bel HX3.out.lt)
      have HBY2 : Hid (∀ W, Below w10.heap.size w10 W → Calls Tryz.prog 28 #[.pointer (some ⟨gd2, 0, none⟩)] W (Made W.heap.size Y W)) := Lib.hid fun W hW => by
        have h1 := bytes_any Fd2 gd2 q (allB (S.rs.take S.m)) (allB (S.rs.drop S.m)) W (hdk.below hW)
        rw [HY.out] at h1
        exact h1
      have HALL : Hid (∀ W, Below w10.heap.size w10 W → Calls Tryz.prog 23 #[.pointer (some ⟨g, 0, none⟩)] W (fun e w' => ∃ A' c', e = .returned (.slice A' S.L.length c') ∧ AllAt S w' A' ∧ Below W.heap.size W w')) := Lib.hid fun W hW => (svall_any F9 g q S ps W (HD10.out.at_.below hW)).mono fun e w' hp => by
        obtain ⟨xs, A', n', c', he, hn', hxs, hl', henv, hb'⟩ := svall_env (HD10.out.at_.below hW) hp
        have hlen : xs.length = S.L.length := by rw [← hxs, List.length_map]
        exact ⟨A', c', by rw [he, hn', hlen], ⟨xs, hlen, hxs, henv⟩, hb'⟩
      have HSE : Hid (∀ W, Below w10.heap.size w10 W → ∀ (a : Option Addr) (ca : Nat), AllAt S W a → Calls Tryz.prog 25 #[.slice a S.L.length ca, .slice A5 N5 c5] W (IsT8 true W)) := Lib.hid fun W hW a ca hh => by
        obtain ⟨xs, h1, h2, h3⟩ := hh
        have h4 := HVL.out
        have h5 : S.L.length = vs.length := by have := congrArg List.length HVS.out; rw [List.length_map] at this; exact this.symm
        exact sameall_true S.L.length ca N5 c5 a A5 xs vs h1.symm HN5.out.symm (h2.trans HVS.out.symm) (by omega) W h3 (HW10.out.env.below hW)
      have HSB : Hid (∀ W, Below w10.heap.size w10 W → ∀ (a : Option Addr) (ca : Nat), Row W W.heap.size a (Y.map byteV) → Calls Tryz.prog 29 #[.slice a Y.length ca, .slice A7 N7 c7'] W (fun e w' => e = .returned (.bool true) ∧ W = w')) := Lib.hid fun W hW a ca hr => same_true W.heap.size W.heap.size ca c7' Y.length N7 a A7 Y Y rfl W hr ((HR10.out.row.below hW).more hW.size) rfl HN7.out.symm
      have HKN : Hid (∀ W, Below w10.heap.size w10 W → Calls Tryz.prog 10 #[] W (IsT14 W)) := Lib.hid fun W hW => known14_any W (HT.out.below (HD10.out.bel.trans (hW.mono HD10.out.bel.size)))
      have hN89 : us.map mP = ut.map mP := HUS.out.trans HUT.out.symm
      have HSM : Hid (∀ W, Below w10.heap.size w10 W → Calls Tryz.prog 14 #[.slice A8 N8 c8, .slice A9 N9 c9] W (IsB true W)) := Lib.hid fun W hW => refsameallm N8 c8 N9 c9 A8 A9 us ut HN8.out.symm HN9.out.symm (by
        have h1 := HUS.out
        have h2 := congrArg List.length h1
        rw [List.length_map, HN8.out] at h2
        rcases HONE.out with h3 | h3 <;> rw [h3] at h2 <;> simp at h2 <;> unfold maxLen <;> omega) hN89 W (HMA.out.msR.below hW) (HMB.out.msR.below hW)
      have HBD : Hid (Below w10.heap.size w10 w10.drew) := Lib.hid (Below.refl _ _).drew
      have hg10 : g < w10.heap.size := HD10.out.lt
      simp only [id]
      clear hFd hdk hb hN89 HD9 HW9 HR9 HM89 HM9
      rcases HONE.out with hone | hone
      · have hN0 : N8 = 0 := by
          have h2 := congrArg List.length HUS.out
          rw [List.length_map, HN8.out, hone] at h2
          exact h2
        subst hN0
        clear hone
        go_wp2_with fail
        refine Rely.wp_region_by [[], [], [(0, 68), (1, 69)], [(2, 70)], [(3, 71)], [(3, 71), (4, 72)], [(3, 71), (5, 73)], [(3, 71), (6, 74)], [(7, 75)], [(8, 76)], [(8, 76), (9, 77)], [(8, 76), (10, 78)], [(8, 76), (11, 79)], [(12, 80)], [(12, 80), (13, 81)], [(12, 80), (14, 82)], [(12, 80), (15, 83)], [(12, 80), (16, 84)], [(12, 80), (17, 85)], [(18, 86)], [(18, 86), (19, 87)], [(18, 86), (20, 88)], [(18, 86), (21, 89)], [(18, 86), (22, 90)], [(18, 86)], [(18, 86), (24, 92)], [(18, 86), (25, 93)], [(18, 86), (23, 91), (26, 94)], [(12, 80), (18, 86), (27, 95)], [(12, 80), (28, 96)], [(29, 97)], [(29, 97), (30, 98)], [(29, 97), (31, 99)], [(29, 97), (32, 100)], [(29, 97)], [(29, 97), (34, 102)], [(29, 97), (33, 101), (35, 103)], [(12, 80), (29, 97), (36, 104)], [(8, 76), (12, 80), (37, 105)], [(8, 76), (38, 106)], [(39, 107)], [(40, 108)], [(40, 108), (41, 109)], [(40, 108)], [(40, 108), (42, 110), (43, 111)], [(40, 108), (44, 112)], [(45, 113)], [(46, 114)], [(46, 114), (47, 115)], [(46, 114)], [(46, 114), (48, 116), (49, 117)], [(46, 114), (50, 118)], [(51, 119)], [(52, 120)], [(52, 120), (53, 121)], [(54, 122)]] [(0, 68), (1, 69), (2, 70), (3, 71), (4, 72), (5, 73), (6, 74), (7, 75), (8, 76), (9, 77), (10, 78), (11, 79), (12, 80), (13, 81), (14, 82), (15, 83), (16, 84), (17, 85), (18, 86), (19, 87), (20, 88), (21, 89), (22, 90), (23, 91), (24, 92), (25, 93), (26, 94), (27, 95), (28, 96), (29, 97), (30, 98), (31, 99), (32, 100), (33, 101), (34, 102), (35, 103), (36, 104), (37, 105), (38, 106), (39, 107), (40, 108), (41, 109), (42, 110), (43, 111), (44, 112), (45, 113), (46, 114), (47, 115), (48, 116), (49, 117), (50, 118), (51, 119), (52, 120), (53, 121), (54, 122), (55, 4)] [] (rgLk0 S Y A8 A9 A5 A7 c8 N9 c9 N5 c5 N7 c7' g gd2) (by kernel_rfl) (by kernel_rfl) (by kernel_rfl) (by kernel_rfl) (by kernel_rfl) (by kernel_rfl) (rgLk0_later S Y A8 A9 A5 A7 c8 N9 c9 N5 c5 N7 c7' g gd2) ?_ ?_
        · skip
          refine Rely.stepsZ_cons (by
            intro vs w' hb hp
            simp only [Rely.Pre, rgLk0] at hp
            unfold Rely.gives
            simp only [Rely.sel, List.foldl_cons, List.foldl_nil]
            go_simp
            exact ⟨Below.refl _ _, rfl⟩) ?_
          refine Rely.stepsZ_cons (by
            intro vs w' hb hp
            simp only [Rely.Pre, rgLk0] at hp
            unfold Rely.gives
            simp only [Rely.sel, List.foldl_cons, List.foldl_nil]
            go_simp
            exact ⟨Below.refl _ _, rfl⟩) ?_
          refine Rely.stepsZ_cons (by
            intro vs w' hb hp
            simp only [Rely.Pre, rgLk0] at hp
            obtain ⟨h68, h69, _⟩ := hp
            unfold Rely.gives
            simp only [Rely.sel, List.foldl_cons, List.foldl_nil]
            go_simp
            simp only [Rely.GivesR]
            refine (HSM.out w' hb).mono ?_
            rintro e w3 ⟨rfl, hb3⟩
            exact ⟨_, rfl, hb3, rfl⟩) ?_
          refine Rely.stepsZ_cons (by
            intro vs w' hb hp
            simp only [Rely.Pre, rgLk0] at hp
            obtain ⟨h70, _⟩ := hp
            unfold Rely.gives
            simp only [Rely.sel, List.foldl_cons, List.foldl_nil]
            go_simp
            exact ⟨Below.refl _ _, rfl⟩) ?_
          refine Rely.stepsZ_cons (by
            intro vs w' hb hp
            simp only [Rely.Pre, rgLk0] at hp
            obtain ⟨h71, _⟩ := hp
            unfold Rely.gives
            simp only [Rely.sel, List.foldl_cons, List.foldl_nil]
            go_simp
            exact ⟨Below.refl _ _, rfl⟩) ?_
          refine Rely.stepsZ_cons (by
            intro vs w' hb hp
            simp only [Rely.Pre, rgLk0] at hp
            obtain ⟨h71, h72, _⟩ := hp
            unfold Rely.gives
            simp only [Rely.sel, List.foldl_cons, List.foldl_nil]
            go_simp
            exact ⟨Below.refl _ _, rfl⟩) ?_
          refine Rely.stepsZ_cons (by
            intro vs w' hb hp
            simp only [Rely.Pre, rgLk0] at hp
            obtain ⟨h71, h73, _⟩ := hp
            unfold Rely.gives
            simp only [Rely.sel, List.foldl_cons, List.foldl_nil]
            go_simp
            exact ⟨Below.refl _ _, rfl⟩) ?_
          refine Rely.stepsZ_cons (by
            intro vs w' hb hp
            simp only [Rely.Pre, rgLk0] at hp
            obtain ⟨h71, h74, _⟩ := hp
            unfold Rely.gives
            simp only [Rely.sel, List.foldl_cons, List.foldl_nil]
            go_simp
            exact ⟨Below.refl _ _, rfl⟩) ?_
          refine Rely.stepsZ_cons (by
            intro vs w' hb hp
            simp only [Rely.Pre, rgLk0] at hp
            obtain ⟨h75, _⟩ := hp
            unfold Rely.gives
            simp only [Rely.sel, List.foldl_cons, List.foldl_nil]
            go_simp
            exact ⟨Below.refl _ _, rfl⟩) ?_
          refine Rely.stepsZ_cons (by
            intro vs w' hb hp
            simp only [Rely.Pre, rgLk0] at hp
            obtain ⟨h76, _⟩ := hp
            unfold Rely.gives
            simp only [Rely.sel, List.foldl_cons, List.foldl_nil]
            go_simp
            exact ⟨Below.refl _ _, rfl⟩) ?_
          refine Rely.stepsZ_cons (by
            intro vs w' hb hp
            simp only [Rely.Pre, rgLk0] at hp
            obtain ⟨h76, h77, _⟩ := hp
            unfold Rely.gives
            simp only [Rely.sel, List.foldl_cons, List.foldl_nil]
            go_simp
            exact ⟨Below.refl _ _, rfl⟩) ?_
          refine Rely.stepsZ_cons (by
            intro vs w' hb hp
            simp only [Rely.Pre, rgLk0] at hp
            obtain ⟨h76, h78, _⟩ := hp
            unfold Rely.gives
            simp only [Rely.sel, List.foldl_cons, List.foldl_nil]
            go_simp
            exact ⟨Below.refl _ _, rfl⟩) ?_
          refine Rely.stepsZ_cons (by
            intro vs w' hb hp
            simp only [Rely.Pre, rgLk0] at hp
            obtain ⟨h76, h79, _⟩ := hp
            unfold Rely.gives
            simp only [Rely.sel, List.foldl_cons, List.foldl_nil]
            go_simp
            exact ⟨Below.refl _ _, rfl⟩) ?_
          refine Rely.stepsZ_cons (by
            intro vs w' hb hp
            simp only [Rely.Pre, rgLk0] at hp
            obtain ⟨h80, _⟩ := hp
            split
            · rename_i hw; exact absurd hw (by simp only [Rely.sel, List.foldl_cons, List.foldl_nil]; first | (go_simp; done) | (go_simp; intro hh; cases hh))
            · rfl) ?_
          refine Rely.stepsZ_cons (by
            intro vs w' hb hp
            simp only [Rely.Pre, rgLk0] at hp
            obtain ⟨h80, h81, _⟩ := hp
            split
            · rename_i hw; exact absurd hw (by simp only [Rely.sel, List.foldl_cons, List.foldl_nil]; first | (go_simp; done) | (go_simp; intro hh; cases hh))
            · rfl) ?_
          refine Rely.stepsZ_cons (by
            intro vs w' hb hp
            simp only [Rely.Pre, rgLk0] at hp
            obtain ⟨h80, h82, _⟩ := hp
            split
            · rename_i hw; exact absurd hw (by simp only [Rely.sel, List.foldl_cons, List.foldl_nil]; first | (go_simp; done) | (go_simp; intro hh; cases hh))
            · rfl) ?_
          refine Rely.stepsZ_cons (by
            intro vs w' hb hp
            simp only [Rely.Pre, rgLk0] at hp
            obtain ⟨h80, h83, _⟩ := hp
            split
            · rename_i hw; exact absurd hw (by simp only [Rely.sel, List.foldl_cons, List.foldl_nil]; first | (go_simp; done) | (go_simp; intro hh; cases hh))
            · rfl) ?_
          refine Rely.stepsZ_cons (by
            intro vs w' hb hp
            simp only [Rely.Pre, rgLk0] at hp
            obtain ⟨h80, h84, _⟩ := hp
            split
            · rename_i hw; exact absurd hw (by simp only [Rely.sel, List.foldl_cons, List.foldl_nil]; first | (go_simp; done) | (go_simp; intro hh; cases hh))
            · rfl) ?_
          refine Rely.stepsZ_cons (by
            intro vs w' hb hp
            simp only [Rely.Pre, rgLk0] at hp
            obtain ⟨h80, h85, _⟩ := hp
            split
            · rename_i hw; exact absurd hw (by simp only [Rely.sel, List.foldl_cons, List.foldl_nil]; first | (go_simp; done) | (go_simp; intro hh; cases hh))
            · rfl) ?_
          refine Rely.stepsZ_cons (by
            intro vs w' hb hp
            simp only [Rely.Pre, rgLk0] at hp
            obtain ⟨h86, _⟩ := hp
            split
            · rename_i hw; exact absurd hw (by simp only [Rely.sel, List.foldl_cons, List.foldl_nil]; first | (go_simp; done) | (go_simp; intro hh; cases hh))
            · rfl) ?_
          refine Rely.stepsZ_cons (by
            intro vs w' hb hp
            simp only [Rely.Pre, rgLk0] at hp
            obtain ⟨h86, h87, _⟩ := hp
            split
            · rename_i hw; exact absurd hw (by simp only [Rely.sel, List.foldl_cons, List.foldl_nil]; first | (go_simp; done) | (go_simp; intro hh; cases hh))
            · rfl) ?_
          refine Rely.stepsZ_cons (by
            intro vs w' hb hp
            simp only [Rely.Pre, rgLk0] at hp
            obtain ⟨h86, h88, _⟩ := hp
            split
            · rename_i hw; exact absurd hw (by simp only [Rely.sel, List.foldl_cons, List.foldl_nil]; first | (go_simp; done) | (go_simp; intro hh; cases hh))
            · rfl) ?_
          refine Rely.stepsZ_cons (by
            intro vs w' hb hp
            simp only [Rely.Pre, rgLk0] at hp
            obtain ⟨h86, h89, _⟩ := hp
            split
            · rename_i hw; exact absurd hw (by simp only [Rely.sel, List.foldl_cons, List.foldl_nil]; first | (go_simp; done) | (go_simp; intro hh; cases hh))
            · rfl) ?_
          refine Rely.stepsZ_cons (by
            intro vs w' hb hp
            simp only [Rely.Pre, rgLk0] at hp
            obtain ⟨h86, h90, _⟩ := hp
            split
            · rename_i hw; exact absurd hw (by simp only [Rely.sel, List.foldl_cons, List.foldl_nil]; first | (go_simp; done) | (go_simp; intro hh; cases hh))
            · rfl) ?_
          refine Rely.stepsZ_cons (by
            intro vs w' hb hp
            simp only [Rely.Pre, rgLk0] at hp
            obtain ⟨h86, _⟩ := hp
            split
            · rename_i hw; exact absurd hw (by simp only [Rely.sel, List.foldl_cons, List.foldl_nil]; first | (go_simp; done) | (go_simp; intro hh; cases hh))
            · rfl) ?_
          refine Rely.stepsZ_cons (by
            intro vs w' hb hp
            simp only [Rely.Pre, rgLk0] at hp
            obtain ⟨h86, h92, _⟩ := hp
            split
            · rename_i hw; exact absurd hw (by simp only [Rely.sel, List.foldl_cons, List.foldl_nil]; first | (go_simp; done) | (go_simp; intro hh; cases hh))
            · rfl) ?_
          refine Rely.stepsZ_cons (by
            intro vs w' hb hp
            simp only [Rely.Pre, rgLk0] at hp
            obtain ⟨h86, h93, _⟩ := hp
            split
            · rename_i hw; exact absurd hw (by simp only [Rely.sel, List.foldl_cons, List.foldl_nil]; first | (go_simp; done) | (go_simp; intro hh; cases hh))
            · rfl) ?_
          refine Rely.stepsZ_cons (by
            intro vs w' hb hp
            simp only [Rely.Pre, rgLk0] at hp
            obtain ⟨h86, h91, h94, _⟩ := hp
            split
            · rename_i hw; exact absurd hw (by simp only [Rely.sel, List.foldl_cons, List.foldl_nil]; first | (go_simp; done) | (go_simp; intro hh; cases hh))
            · rfl) ?_
          refine Rely.stepsZ_cons (by
            intro vs w' hb hp
            simp only [Rely.Pre, rgLk0] at hp
            obtain ⟨h80, h86, h95, _⟩ := hp
            split
            · rename_i hw; exact absurd hw (by simp only [Rely.sel, List.foldl_cons, List.foldl_nil]; first | (go_simp; done) | (go_simp; intro hh; cases hh))
            · rfl) ?_
          refine Rely.stepsZ_cons (by
            intro vs w' hb hp
            simp only [Rely.Pre, rgLk0] at hp
            obtain ⟨h80, h96, _⟩ := hp
            split
            · rename_i hw; exact absurd hw (by simp only [Rely.sel, List.foldl_cons, List.foldl_nil]; first | (go_simp; done) | (go_simp; intro hh; cases hh))
            · rfl) ?_
          refine Rely.stepsZ_cons (by
            intro vs w' hb hp
            simp only [Rely.Pre, rgLk0] at hp
            obtain ⟨h97, _⟩ := hp
            split
            · rename_i hw; exact absurd hw (by simp only [Rely.sel, List.foldl_cons, List.foldl_nil]; first | (go_simp; done) | (go_simp; intro hh; cases hh))
            · rfl) ?_
          refine Rely.stepsZ_cons (by
            intro vs w' hb hp
            simp only [Rely.Pre, rgLk0] at hp
            obtain ⟨h97, h98, _⟩ := hp
            split
            · rename_i hw; exact absurd hw (by simp only [Rely.sel, List.foldl_cons, List.foldl_nil]; first | (go_simp; done) | (go_simp; intro hh; cases hh))
            · rfl) ?_
          refine Rely.stepsZ_cons (by
            intro vs w' hb hp
            simp only [Rely.Pre, rgLk0] at hp
            obtain ⟨h97, h99, _⟩ := hp
            split
            · rename_i hw; exact absurd hw (by simp only [Rely.sel, List.foldl_cons, List.foldl_nil]; first | (go_simp; done) | (go_simp; intro hh; cases hh))
            · rfl) ?_
          refine Rely.stepsZ_cons (by
            intro vs w' hb hp
            simp only [Rely.Pre, rgLk0] at hp
            obtain ⟨h97, h100, _⟩ := hp
            split
            · rename_i hw; exact absurd hw (by simp only [Rely.sel, List.foldl_cons, List.foldl_nil]; first | (go_simp; done) | (go_simp; intro hh; cases hh))
            · rfl) ?_
          refine Rely.stepsZ_cons (by
            intro vs w' hb hp
            simp only [Rely.Pre, rgLk0] at hp
            obtain ⟨h97, _⟩ := hp
            split
            · rename_i hw; exact absurd hw (by simp only [Rely.sel, List.foldl_cons, List.foldl_nil]; first | (go_simp; done) | (go_simp; intro hh; cases hh))
            · rfl) ?_
          refine Rely.stepsZ_cons (by
            intro vs w' hb hp
            simp only [Rely.Pre, rgLk0] at hp
            obtain ⟨h97, h102, _⟩ := hp
            split
            · rename_i hw; exact absurd hw (by simp only [Rely.sel, List.foldl_cons, List.foldl_nil]; first | (go_simp; done) | (go_simp; intro hh; cases hh))
            · rfl) ?_
          refine Rely.stepsZ_cons (by
            intro vs w' hb hp
            simp only [Rely.Pre, rgLk0] at hp
            obtain ⟨h97, h101, h103, _⟩ := hp
            split
            · rename_i hw; exact absurd hw (by simp only [Rely.sel, List.foldl_cons, List.foldl_nil]; first | (go_simp; done) | (go_simp; intro hh; cases hh))
            · rfl) ?_
          refine Rely.stepsZ_cons (by
            intro vs w' hb hp
            simp only [Rely.Pre, rgLk0] at hp
            obtain ⟨h80, h97, h104, _⟩ := hp
            split
            · rename_i hw; exact absurd hw (by simp only [Rely.sel, List.foldl_cons, List.foldl_nil]; first | (go_simp; done) | (go_simp; intro hh; cases hh))
            · rfl) ?_
          refine Rely.stepsZ_cons (by
            intro vs w' hb hp
            simp only [Rely.Pre, rgLk0] at hp
            obtain ⟨h76, h80, h105, _⟩ := hp
            unfold Rely.gives
            simp only [Rely.sel, List.foldl_cons, List.foldl_nil]
            go_simp
            exact ⟨Below.refl _ _, rfl⟩) ?_
          refine Rely.stepsZ_cons (by
            intro vs w' hb hp
            simp only [Rely.Pre, rgLk0] at hp
            obtain ⟨h76, h106, _⟩ := hp
            unfold Rely.gives
            simp only [Rely.sel, List.foldl_cons, List.foldl_nil]
            go_simp
            exact ⟨Below.refl _ _, rfl⟩) ?_
          refine Rely.stepsZ_cons (by
            intro vs w' hb hp
            simp only [Rely.Pre, rgLk0] at hp
            obtain ⟨h107, _⟩ := hp
            unfold Rely.gives
            simp only [Rely.sel, List.foldl_cons, List.foldl_nil]
            go_simp
            exact ⟨Below.refl _ _, rfl⟩) ?_
          refine Rely.stepsZ_cons (by
            intro vs w' hb hp
            simp only [Rely.Pre, rgLk0] at hp
            obtain ⟨h108, _⟩ := hp
            unfold Rely.gives
            simp only [Rely.sel, List.foldl_cons, List.foldl_nil]
            go_simp
            exact ⟨Below.refl _ _, rfl⟩) ?_
          refine Rely.stepsZ_cons (by
            intro vs w' hb hp
            simp only [Rely.Pre, rgLk0] at hp
            obtain ⟨h108, h109, _⟩ := hp
            unfold Rely.gives
            simp only [Rely.sel, List.foldl_cons, List.foldl_nil]
            go_simp
            simp only [Rely.GivesR]
            refine (HALL.out w' hb).mono ?_
            rintro e w3 ⟨A3, c3, rfl, ho3, hb3⟩
            exact ⟨_, rfl, hb3, A3, c3, rfl, ho3⟩) ?_
          refine Rely.stepsZ_cons (by
            intro vs w' hb hp
            simp only [Rely.Pre, rgLk0] at hp
            obtain ⟨h108, _⟩ := hp
            unfold Rely.gives
            simp only [Rely.sel, List.foldl_cons, List.foldl_nil]
            go_simp
            exact ⟨Below.refl _ _, rfl⟩) ?_
          refine Rely.stepsZ_cons (by
            intro vs w' hb hp
            simp only [Rely.Pre, rgLk0] at hp
            obtain ⟨h108, ⟨a110, c110, e110, ho110⟩, h111, _⟩ := hp
            unfold Rely.gives
            simp only [Rely.sel, List.foldl_cons, List.foldl_nil]
            go_simp
            simp only [Rely.GivesR]
            refine (HSE.out w' hb a110 c110 ho110).mono ?_
            rintro e w3 ⟨rfl, hb3⟩
            exact ⟨_, rfl, hb3, rfl⟩) ?_
          refine Rely.stepsZ_cons (by
            intro vs w' hb hp
            simp only [Rely.Pre, rgLk0] at hp
            obtain ⟨h108, h112, _⟩ := hp
            unfold Rely.gives
            simp only [Rely.sel, List.foldl_cons, List.foldl_nil]
            go_simp
            exact ⟨Below.refl _ _, rfl⟩) ?_
          refine Rely.stepsZ_cons (by
            intro vs w' hb hp
            simp only [Rely.Pre, rgLk0] at hp
            obtain ⟨h113, _⟩ := hp
            unfold Rely.gives
            simp only [Rely.sel, List.foldl_cons, List.foldl_nil]
            go_simp
            exact ⟨Below.refl _ _, rfl⟩) ?_
          refine Rely.stepsZ_cons (by
            intro vs w' hb hp
            simp only [Rely.Pre, rgLk0] at hp
            obtain ⟨h114, _⟩ := hp
            unfold Rely.gives
            simp only [Rely.sel, List.foldl_cons, List.foldl_nil]
            go_simp
            exact ⟨Below.refl _ _, rfl⟩) ?_
          refine Rely.stepsZ_cons (by
            intro vs w' hb hp
            simp only [Rely.Pre, rgLk0] at hp
            obtain ⟨h114, h115, _⟩ := hp
            unfold Rely.gives
            simp only [Rely.sel, List.foldl_cons, List.foldl_nil]
            go_simp
            simp only [Rely.GivesR]
            refine (HBY2.out w' hb).mono ?_
            rintro e w3 ⟨A3, c3, rfl, ho3, hb3⟩
            exact ⟨_, rfl, hb3, A3, c3, rfl, ownRow ho3⟩) ?_
          refine Rely.stepsZ_cons (by
            intro vs w' hb hp
            simp only [Rely.Pre, rgLk0] at hp
            obtain ⟨h114, _⟩ := hp
            unfold Rely.gives
            simp only [Rely.sel, List.foldl_cons, List.foldl_nil]
            go_simp
            exact ⟨Below.refl _ _, rfl⟩) ?_
          refine Rely.stepsZ_cons (by
            intro vs w' hb hp
            simp only [Rely.Pre, rgLk0] at hp
            obtain ⟨h114, ⟨a116, c116, e116, ho116⟩, h117, _⟩ := hp
            unfold Rely.gives
            simp only [Rely.sel, List.foldl_cons, List.foldl_nil]
            go_simp
            simp only [Rely.GivesR]
            refine (HSB.out w' hb a116 c116 ho116).mono ?_
            rintro e w3 ⟨rfl, rfl⟩
            exact ⟨_, rfl, Below.refl _ _, rfl⟩) ?_
          refine Rely.stepsZ_cons (by
            intro vs w' hb hp
            simp only [Rely.Pre, rgLk0] at hp
            obtain ⟨h114, h118, _⟩ := hp
            unfold Rely.gives
            simp only [Rely.sel, List.foldl_cons, List.foldl_nil]
            go_simp
            exact ⟨Below.refl _ _, rfl⟩) ?_
          refine Rely.stepsZ_cons (by
            intro vs w' hb hp
            simp only [Rely.Pre, rgLk0] at hp
            obtain ⟨h119, _⟩ := hp
            unfold Rely.gives
            simp only [Rely.sel, List.foldl_cons, List.foldl_nil]
            go_simp
            exact ⟨Below.refl _ _, rfl⟩) ?_
          refine Rely.stepsZ_cons (by
            intro vs w' hb hp
            simp only [Rely.Pre, rgLk0] at hp
            obtain ⟨h120, _⟩ := hp
            unfold Rely.gives
            simp only [Rely.sel, List.foldl_cons, List.foldl_nil]
            go_simp
            simp only [Rely.GivesR]
            refine (HKN.out w' hb).mono ?_
            rintro e w3 ⟨rfl, hb3⟩
            exact ⟨_, rfl, hb3, rfl⟩) ?_
          refine Rely.stepsZ_cons (by
            intro vs w' hb hp
            simp only [Rely.Pre, rgLk0] at hp
            obtain ⟨h120, h121, _⟩ := hp
            unfold Rely.gives
            simp only [Rely.sel, List.foldl_cons, List.foldl_nil]
            go_simp
            exact ⟨Below.refl _ _, rfl⟩) ?_
          refine Rely.stepsZ_cons (by
            intro vs w' hb hp
            simp only [Rely.Pre, rgLk0] at hp
            obtain ⟨h122, _⟩ := hp
            unfold Rely.gives
            simp only [Rely.sel, List.foldl_cons, List.foldl_nil]
            go_simp
            exact ⟨Below.refl _ _, rfl⟩) ?_
          exact Rely.stepsZ_nil
        intro vs w1 hb1 hp _
        simp only [Rely.Pre, rgLk0] at hp
        obtain ⟨h0, h1, h2, h3, h4, h5, h6, h7, h8, h9, h10, h11, h12, h13, h14, h15, h16, h17, h18, h19, h20, h21, h22, h23, h24, h25, h26, h27, h28, h29, h30, h31, h32, h33, h34, h35, h36, h37, h38, h39, h40, h41, ⟨a42, b42, h42, ho42⟩, h43, h44, h45, h46, h47, ⟨a48, b48, h48, ho48⟩, h49, h50, h51, h52, h53, h54, h55, _⟩ := hp
        simp only [Rely.sel, List.foldl_cons, List.foldl_nil, h0, h1, h2, h3, h4, h5, h6, h7, h8, h9, h10, h11, h12, h13, h14, h15, h16, h17, h18, h19, h20, h21, h22, h23, h24, h25, h26, h27, h28, h29, h30, h31, h32, h33, h34, h35, h36, h37, h38, h39, h40, h41, h42, h43, h44, h45, h46, h47, h48, h49, h50, h51, h52, h53, h54, h55]
        clear h0 h1 h2 h3 h4 h5 h6 h7 h8 h9 h10 h11 h12 h13 h14 h15 h16 h17 h18 h19 h20 h21 h22 h23 h24 h25 h26 h27 h28 h29 h30 h31 h32 h33 h34 h35 h36 h37 h38 h39 h40 h41 h42 h43 h44 h45 h46 h47 h48 h49 h50 h51 h52 h53 h54 h55
        simp only [Act.put, List.setIfInBounds_toArray, List.set_cons_succ, List.set_cons_zero]
        go_wp2
        go_ret
        exact ⟨rfl, HFIN.out _ (HD10.out.bel.trans (hb1.mono HD10.out.bel.size))⟩
      · have hone2 := msN_one HMA.out (m := foundM S (mP x)) (HUS.out.trans hone)
        have hN1 : N8 = 1 := by rw [← HN8.out]; exact hone2.1
        obtain ⟨_, b8, o8, hA8, q0, _, q2, q7, _⟩ := hone2
        subst hA8
        subst hN1
        have e0 : (foundM S (mP x)).kind = 8 := rfl
        have e2 : (foundM S (mP x)).dst = x.fr := rfl
        have e7 : (foundM S (mP x)).e.k = x.e.1.k := ofT_key S.L x.e.1.k
        rw [e0] at q0
        rw [e2] at q2
        rw [e7] at q7
        have HCL : Hid (∀ W, Below w10.heap.size w10 W → W.cell? ⟨b8, o8, none⟩ = some (.int .i64 8) ∧ W.cell? ⟨b8, o8 + 2, none⟩ = some (.int .i64 x.fr) ∧ W.cell? ⟨b8, o8 + 7, none⟩ = some (.string ⟨x.e.1.k.toArray⟩) ∧ W.cell? ⟨w.heap.size, 1, none⟩ = some (.int .i64 x.fr) ∧ W.cell? ⟨w.heap.size, 7, none⟩ = some (.string ⟨x.e.1.k.toArray⟩)) := Lib.hid fun W hW => by
          have hcc := fun (p q : Nat) (v : Value) (hv : w10.cell? ⟨p, q, none⟩ = some v) => (hW.cell (p := ⟨p, q, none⟩) (block_lt hv)).trans hv
          exact ⟨hcc _ _ _ q0, hcc _ _ _ q2, hcc _ _ _ q7, hcc _ _ _ (HX10.out.cell 1), hcc _ _ _ (HX10.out.cell 7)⟩
        clear hone q0 q2 q7 e0 e2 e7
        go_wp2_with fail
        refine Rely.wp_region_by [[], [], [(0, 68), (1, 69)], [(2, 70)], [(3, 71)], [(3, 71), (4, 72)], [(3, 71), (5, 73)], [(3, 71), (6, 74)], [(7, 75)], [(8, 76)], [(8, 76), (9, 77)], [(8, 76), (10, 78)], [(8, 76), (11, 79)], [(12, 80)], [(12, 80), (13, 81)], [(12, 80), (14, 82)], [(12, 80), (15, 83)], [(12, 80), (16, 84)], [(12, 80), (17, 85)], [(18, 86)], [(18, 86), (19, 87)], [(18, 86), (20, 88)], [(18, 86), (21, 89)], [(18, 86), (22, 90)], [(18, 86)], [(18, 86), (24, 92)], [(18, 86), (25, 93)], [(18, 86), (23, 91), (26, 94)], [(12, 80), (18, 86), (27, 95)], [(12, 80), (28, 96)], [(29, 97)], [(29, 97), (30, 98)], [(29, 97), (31, 99)], [(29, 97), (32, 100)], [(29, 97)], [(29, 97), (34, 102)], [(29, 97), (33, 101), (35, 103)], [(12, 80), (29, 97), (36, 104)], [(8, 76), (12, 80), (37, 105)], [(8, 76), (38, 106)], [(39, 107)], [(40, 108)], [(40, 108), (41, 109)], [(40, 108)], [(40, 108), (42, 110), (43, 111)], [(40, 108), (44, 112)], [(45, 113)], [(46, 114)], [(46, 114), (47, 115)], [(46, 114)], [(46, 114), (48, 116), (49, 117)], [(46, 114), (50, 118)], [(51, 119)], [(52, 120)], [(52, 120), (53, 121)], [(54, 122)]] [(0, 68), (1, 69), (2, 70), (3, 71), (4, 72), (5, 73), (6, 74), (7, 75), (8, 76), (9, 77), (10, 78), (11, 79), (12, 80), (13, 81), (14, 82), (15, 83), (16, 84), (17, 85), (18, 86), (19, 87), (20, 88), (21, 89), (22, 90), (23, 91), (24, 92), (25, 93), (26, 94), (27, 95), (28, 96), (29, 97), (30, 98), (31, 99), (32, 100), (33, 101), (34, 102), (35, 103), (36, 104), (37, 105), (38, 106), (39, 107), (40, 108), (41, 109), (42, 110), (43, 111), (44, 112), (45, 113), (46, 114), (47, 115), (48, 116), (49, 117), (50, 118), (51, 119), (52, 120), (53, 121), (54, 122), (55, 4)] [] (rgLk1 S Y A9 A5 A7 b8 o8 c8 N9 c9 N5 c5 N7 c7' g gd2 w.heap.size x.fr x.e.1.k) (by kernel_rfl) (by kernel_rfl) (by kernel_rfl) (by kernel_rfl) (by kernel_rfl) (by kernel_rfl) (rgLk1_later S Y A9 A5 A7 b8 o8 c8 N9 c9 N5 c5 N7 c7' g gd2 w.heap.size x.fr x.e.1.k) ?_ ?_
        · skip
          refine Rely.stepsZ_cons (by
            intro vs w' hb hp
            simp only [Rely.Pre, rgLk1] at hp
            unfold Rely.gives
            simp only [Rely.sel, List.foldl_cons, List.foldl_nil]
            go_simp
            exact ⟨Below.refl _ _, rfl⟩) ?_
          refine Rely.stepsZ_cons (by
            intro vs w' hb hp
            simp only [Rely.Pre, rgLk1] at hp
            unfold Rely.gives
            simp only [Rely.sel, List.foldl_cons, List.foldl_nil]
            go_simp
            exact ⟨Below.refl _ _, rfl⟩) ?_
          refine Rely.stepsZ_cons (by
            intro vs w' hb hp
            simp only [Rely.Pre, rgLk1] at hp
            obtain ⟨h68, h69, _⟩ := hp
            unfold Rely.gives
            simp only [Rely.sel, List.foldl_cons, List.foldl_nil]
            go_simp
            simp only [Rely.GivesR]
            refine (HSM.out w' hb).mono ?_
            rintro e w3 ⟨rfl, hb3⟩
            exact ⟨_, rfl, hb3, rfl⟩) ?_
          refine Rely.stepsZ_cons (by
            intro vs w' hb hp
            simp only [Rely.Pre, rgLk1] at hp
            obtain ⟨h70, _⟩ := hp
            unfold Rely.gives
            simp only [Rely.sel, List.foldl_cons, List.foldl_nil]
            go_simp
            exact ⟨Below.refl _ _, rfl⟩) ?_
          refine Rely.stepsZ_cons (by
            intro vs w' hb hp
            simp only [Rely.Pre, rgLk1] at hp
            obtain ⟨h71, _⟩ := hp
            unfold Rely.gives
            simp only [Rely.sel, List.foldl_cons, List.foldl_nil]
            go_simp
            exact ⟨Below.refl _ _, rfl⟩) ?_
          refine Rely.stepsZ_cons (by
            intro vs w' hb hp
            simp only [Rely.Pre, rgLk1] at hp
            obtain ⟨h71, h72, _⟩ := hp
            unfold Rely.gives
            simp only [Rely.sel, List.foldl_cons, List.foldl_nil]
            go_simp
            exact ⟨Below.refl _ _, rfl⟩) ?_
          refine Rely.stepsZ_cons (by
            intro vs w' hb hp
            simp only [Rely.Pre, rgLk1] at hp
            obtain ⟨h71, h73, _⟩ := hp
            unfold Rely.gives
            simp only [Rely.sel, List.foldl_cons, List.foldl_nil]
            go_simp
            exact ⟨Below.refl _ _, rfl⟩) ?_
          refine Rely.stepsZ_cons (by
            intro vs w' hb hp
            simp only [Rely.Pre, rgLk1] at hp
            obtain ⟨h71, h74, _⟩ := hp
            unfold Rely.gives
            simp only [Rely.sel, List.foldl_cons, List.foldl_nil]
            go_simp
            exact ⟨Below.refl _ _, rfl⟩) ?_
          refine Rely.stepsZ_cons (by
            intro vs w' hb hp
            simp only [Rely.Pre, rgLk1] at hp
            obtain ⟨h75, _⟩ := hp
            unfold Rely.gives
            simp only [Rely.sel, List.foldl_cons, List.foldl_nil]
            go_simp
            exact ⟨Below.refl _ _, rfl⟩) ?_
          refine Rely.stepsZ_cons (by
            intro vs w' hb hp
            simp only [Rely.Pre, rgLk1] at hp
            obtain ⟨h76, _⟩ := hp
            unfold Rely.gives
            simp only [Rely.sel, List.foldl_cons, List.foldl_nil]
            go_simp
            exact ⟨Below.refl _ _, rfl⟩) ?_
          refine Rely.stepsZ_cons (by
            intro vs w' hb hp
            simp only [Rely.Pre, rgLk1] at hp
            obtain ⟨h76, h77, _⟩ := hp
            unfold Rely.gives
            simp only [Rely.sel, List.foldl_cons, List.foldl_nil]
            go_simp
            exact ⟨Below.refl _ _, rfl⟩) ?_
          refine Rely.stepsZ_cons (by
            intro vs w' hb hp
            simp only [Rely.Pre, rgLk1] at hp
            obtain ⟨h76, h78, _⟩ := hp
            unfold Rely.gives
            simp only [Rely.sel, List.foldl_cons, List.foldl_nil]
            go_simp
            exact ⟨Below.refl _ _, rfl⟩) ?_
          refine Rely.stepsZ_cons (by
            intro vs w' hb hp
            simp only [Rely.Pre, rgLk1] at hp
            obtain ⟨h76, h79, _⟩ := hp
            unfold Rely.gives
            simp only [Rely.sel, List.foldl_cons, List.foldl_nil]
            go_simp
            exact ⟨Below.refl _ _, rfl⟩) ?_
          refine Rely.stepsZ_cons (by
            intro vs w' hb hp
            simp only [Rely.Pre, rgLk1] at hp
            obtain ⟨h80, _⟩ := hp
            unfold Rely.gives
            simp only [Rely.sel, List.foldl_cons, List.foldl_nil]
            go_simp
            exact ⟨Below.refl _ _, rfl⟩) ?_
          refine Rely.stepsZ_cons (by
            intro vs w' hb hp
            simp only [Rely.Pre, rgLk1] at hp
            obtain ⟨h80, h81, _⟩ := hp
            unfold Rely.gives
            simp only [Rely.sel, List.foldl_cons, List.foldl_nil]
            go_simp
            exact ⟨Below.refl _ _, rfl⟩) ?_
          refine Rely.stepsZ_cons (by
            intro vs w' hb hp
            simp only [Rely.Pre, rgLk1] at hp
            obtain ⟨h80, h82, _⟩ := hp
            unfold Rely.gives
            simp only [Rely.sel, List.foldl_cons, List.foldl_nil]
            go_simp
            exact ⟨Below.refl _ _, rfl⟩) ?_
          refine Rely.stepsZ_cons (by
            intro vs w' hb hp
            simp only [Rely.Pre, rgLk1] at hp
            obtain ⟨h80, h83, _⟩ := hp
            have hfact := (HCL.out w' hb).1
            unfold Rely.gives
            simp only [Rely.sel, List.foldl_cons, List.foldl_nil]
            go_simp
            exact ⟨Below.refl _ _, rfl⟩) ?_
          refine Rely.stepsZ_cons (by
            intro vs w' hb hp
            simp only [Rely.Pre, rgLk1] at hp
            obtain ⟨h80, h84, _⟩ := hp
            unfold Rely.gives
            simp only [Rely.sel, List.foldl_cons, List.foldl_nil]
            go_simp
            exact ⟨Below.refl _ _, rfl⟩) ?_
          refine Rely.stepsZ_cons (by
            intro vs w' hb hp
            simp only [Rely.Pre, rgLk1] at hp
            obtain ⟨h80, h85, _⟩ := hp
            unfold Rely.gives
            simp only [Rely.sel, List.foldl_cons, List.foldl_nil]
            go_simp
            exact ⟨Below.refl _ _, rfl⟩) ?_
          refine Rely.stepsZ_cons (by
            intro vs w' hb hp
            simp only [Rely.Pre, rgLk1] at hp
            obtain ⟨h86, _⟩ := hp
            unfold Rely.gives
            simp only [Rely.sel, List.foldl_cons, List.foldl_nil]
            go_simp
            exact ⟨Below.refl _ _, rfl⟩) ?_
          refine Rely.stepsZ_cons (by
            intro vs w' hb hp
            simp only [Rely.Pre, rgLk1] at hp
            obtain ⟨h86, h87, _⟩ := hp
            unfold Rely.gives
            simp only [Rely.sel, List.foldl_cons, List.foldl_nil]
            go_simp
            exact ⟨Below.refl _ _, rfl⟩) ?_
          refine Rely.stepsZ_cons (by
            intro vs w' hb hp
            simp only [Rely.Pre, rgLk1] at hp
            obtain ⟨h86, h88, _⟩ := hp
            unfold Rely.gives
            simp only [Rely.sel, List.foldl_cons, List.foldl_nil]
            go_simp
            exact ⟨Below.refl _ _, rfl⟩) ?_
          refine Rely.stepsZ_cons (by
            intro vs w' hb hp
            simp only [Rely.Pre, rgLk1] at hp
            obtain ⟨h86, h89, _⟩ := hp
            unfold Rely.gives
            simp only [Rely.sel, List.foldl_cons, List.foldl_nil]
            go_simp
            exact ⟨Below.refl _ _, rfl⟩) ?_
          refine Rely.stepsZ_cons (by
            intro vs w' hb hp
            simp only [Rely.Pre, rgLk1] at hp
            obtain ⟨h86, h90, _⟩ := hp
            have hfact := (HCL.out w' hb).2.2.1
            unfold Rely.gives
            simp only [Rely.sel, List.foldl_cons, List.foldl_nil]
            go_simp
            exact ⟨Below.refl _ _, rfl⟩) ?_
          refine Rely.stepsZ_cons (by
            intro vs w' hb hp
            simp only [Rely.Pre, rgLk1] at hp
            obtain ⟨h86, _⟩ := hp
            unfold Rely.gives
            simp only [Rely.sel, List.foldl_cons, List.foldl_nil]
            go_simp
            exact ⟨Below.refl _ _, rfl⟩) ?_
          refine Rely.stepsZ_cons (by
            intro vs w' hb hp
            simp only [Rely.Pre, rgLk1] at hp
            obtain ⟨h86, h92, _⟩ := hp
            unfold Rely.gives
            simp only [Rely.sel, List.foldl_cons, List.foldl_nil]
            go_simp
            exact ⟨Below.refl _ _, rfl⟩) ?_
          refine Rely.stepsZ_cons (by
            intro vs w' hb hp
            simp only [Rely.Pre, rgLk1] at hp
            obtain ⟨h86, h93, _⟩ := hp
            have hfact := (HCL.out w' hb).2.2.2.2
            unfold Rely.gives
            simp only [Rely.sel, List.foldl_cons, List.foldl_nil]
            go_simp
            exact ⟨Below.refl _ _, rfl⟩) ?_
          refine Rely.stepsZ_cons (by
            intro vs w' hb hp
            simp only [Rely.Pre, rgLk1] at hp
            obtain ⟨h86, h91, h94, _⟩ := hp
            unfold Rely.gives
            simp only [Rely.sel, List.foldl_cons, List.foldl_nil]
            go_simp
            exact ⟨Below.refl _ _, rfl⟩) ?_
          refine Rely.stepsZ_cons (by
            intro vs w' hb hp
            simp only [Rely.Pre, rgLk1] at hp
            obtain ⟨h80, h86, h95, _⟩ := hp
            unfold Rely.gives
            simp only [Rely.sel, List.foldl_cons, List.foldl_nil]
            go_simp
            exact ⟨Below.refl _ _, rfl⟩) ?_
          refine Rely.stepsZ_cons (by
            intro vs w' hb hp
            simp only [Rely.Pre, rgLk1] at hp
            obtain ⟨h80, h96, _⟩ := hp
            unfold Rely.gives
            simp only [Rely.sel, List.foldl_cons, List.foldl_nil]
            go_simp
            exact ⟨Below.refl _ _, rfl⟩) ?_
          refine Rely.stepsZ_cons (by
            intro vs w' hb hp
            simp only [Rely.Pre, rgLk1] at hp
            obtain ⟨h97, _⟩ := hp
            unfold Rely.gives
            simp only [Rely.sel, List.foldl_cons, List.foldl_nil]
            go_simp
            exact ⟨Below.refl _ _, rfl⟩) ?_
          refine Rely.stepsZ_cons (by
            intro vs w' hb hp
            simp only [Rely.Pre, rgLk1] at hp
            obtain ⟨h97, h98, _⟩ := hp
            unfold Rely.gives
            simp only [Rely.sel, List.foldl_cons, List.foldl_nil]
            go_simp
            exact ⟨Below.refl _ _, rfl⟩) ?_
          refine Rely.stepsZ_cons (by
            intro vs w' hb hp
            simp only [Rely.Pre, rgLk1] at hp
            obtain ⟨h97, h99, _⟩ := hp
            unfold Rely.gives
            simp only [Rely.sel, List.foldl_cons, List.foldl_nil]
            go_simp
            exact ⟨Below.refl _ _, rfl⟩) ?_
          refine Rely.stepsZ_cons (by
            intro vs w' hb hp
            simp only [Rely.Pre, rgLk1] at hp
            obtain ⟨h97, h100, _⟩ := hp
            have hfact := (HCL.out w' hb).2.1
            unfold Rely.gives
            simp only [Rely.sel, List.foldl_cons, List.foldl_nil]
            go_simp
            exact ⟨Below.refl _ _, rfl⟩) ?_
          refine Rely.stepsZ_cons (by
            intro vs w' hb hp
            simp only [Rely.Pre, rgLk1] at hp
            obtain ⟨h97, _⟩ := hp
            unfold Rely.gives
            simp only [Rely.sel, List.foldl_cons, List.foldl_nil]
            go_simp
            exact ⟨Below.refl _ _, rfl⟩) ?_
          refine Rely.stepsZ_cons (by
            intro vs w' hb hp
            simp only [Rely.Pre, rgLk1] at hp
            obtain ⟨h97, h102, _⟩ := hp
            have hfact := (HCL.out w' hb).2.2.2.1
            unfold Rely.gives
            simp only [Rely.sel, List.foldl_cons, List.foldl_nil]
            go_simp
            exact ⟨Below.refl _ _, rfl⟩) ?_
          refine Rely.stepsZ_cons (by
            intro vs w' hb hp
            simp only [Rely.Pre, rgLk1] at hp
            obtain ⟨h97, h101, h103, _⟩ := hp
            unfold Rely.gives
            simp only [Rely.sel, List.foldl_cons, List.foldl_nil]
            go_simp
            exact ⟨Below.refl _ _, rfl⟩) ?_
          refine Rely.stepsZ_cons (by
            intro vs w' hb hp
            simp only [Rely.Pre, rgLk1] at hp
            obtain ⟨h80, h97, h104, _⟩ := hp
            unfold Rely.gives
            simp only [Rely.sel, List.foldl_cons, List.foldl_nil]
            go_simp
            exact ⟨Below.refl _ _, rfl⟩) ?_
          refine Rely.stepsZ_cons (by
            intro vs w' hb hp
            simp only [Rely.Pre, rgLk1] at hp
            obtain ⟨h76, h80, h105, _⟩ := hp
            unfold Rely.gives
            simp only [Rely.sel, List.foldl_cons, List.foldl_nil]
            go_simp
            exact ⟨Below.refl _ _, rfl⟩) ?_
          refine Rely.stepsZ_cons (by
            intro vs w' hb hp
            simp only [Rely.Pre, rgLk1] at hp
            obtain ⟨h76, h106, _⟩ := hp
            unfold Rely.gives
            simp only [Rely.sel, List.foldl_cons, List.foldl_nil]
            go_simp
            exact ⟨Below.refl _ _, rfl⟩) ?_
          refine Rely.stepsZ_cons (by
            intro vs w' hb hp
            simp only [Rely.Pre, rgLk1] at hp
            obtain ⟨h107, _⟩ := hp
            unfold Rely.gives
            simp only [Rely.sel, List.foldl_cons, List.foldl_nil]
            go_simp
            exact ⟨Below.refl _ _, rfl⟩) ?_
          refine Rely.stepsZ_cons (by
            intro vs w' hb hp
            simp only [Rely.Pre, rgLk1] at hp
            obtain ⟨h108, _⟩ := hp
            unfold Rely.gives
            simp only [Rely.sel, List.foldl_cons, List.foldl_nil]
            go_simp
            exact ⟨Below.refl _ _, rfl⟩) ?_
          refine Rely.stepsZ_cons (by
            intro vs w' hb hp
            simp only [Rely.Pre, rgLk1] at hp
            obtain ⟨h108, h109, _⟩ := hp
            unfold Rely.gives
            simp only [Rely.sel, List.foldl_cons, List.foldl_nil]
            go_simp
            simp only [Rely.GivesR]
            refine (HALL.out w' hb).mono ?_
            rintro e w3 ⟨A3, c3, rfl, ho3, hb3⟩
            exact ⟨_, rfl, hb3, A3, c3, rfl, ho3⟩) ?_
          refine Rely.stepsZ_cons (by
            intro vs w' hb hp
            simp only [Rely.Pre, rgLk1] at hp
            obtain ⟨h108, _⟩ := hp
            unfold Rely.gives
            simp only [Rely.sel, List.foldl_cons, List.foldl_nil]
            go_simp
            exact ⟨Below.refl _ _, rfl⟩) ?_
          refine Rely.stepsZ_cons (by
            intro vs w' hb hp
            simp only [Rely.Pre, rgLk1] at hp
            obtain ⟨h108, ⟨a110, c110, e110, ho110⟩, h111, _⟩ := hp
            unfold Rely.gives
            simp only [Rely.sel, List.foldl_cons, List.foldl_nil]
            go_simp
            simp only [Rely.GivesR]
            refine (HSE.out w' hb a110 c110 ho110).mono ?_
            rintro e w3 ⟨rfl, hb3⟩
            exact ⟨_, rfl, hb3, rfl⟩) ?_
          refine Rely.stepsZ_cons (by
            intro vs w' hb hp
            simp only [Rely.Pre, rgLk1] at hp
            obtain ⟨h108, h112, _⟩ := hp
            unfold Rely.gives
            simp only [Rely.sel, List.foldl_cons, List.foldl_nil]
            go_simp
            exact ⟨Below.refl _ _, rfl⟩) ?_
          refine Rely.stepsZ_cons (by
            intro vs w' hb hp
            simp only [Rely.Pre, rgLk1] at hp
            obtain ⟨h113, _⟩ := hp
            unfold Rely.gives
            simp only [Rely.sel, List.foldl_cons, List.foldl_nil]
            go_simp
            exact ⟨Below.refl _ _, rfl⟩) ?_
          refine Rely.stepsZ_cons (by
            intro vs w' hb hp
            simp only [Rely.Pre, rgLk1] at hp
            obtain ⟨h114, _⟩ := hp
            unfold Rely.gives
            simp only [Rely.sel, List.foldl_cons, List.foldl_nil]
            go_simp
            exact ⟨Below.refl _ _, rfl⟩) ?_
          refine Rely.stepsZ_cons (by
            intro vs w' hb hp
            simp only [Rely.Pre, rgLk1] at hp
            obtain ⟨h114, h115, _⟩ := hp
            unfold Rely.gives
            simp only [Rely.sel, List.foldl_cons, List.foldl_nil]
            go_simp
            simp only [Rely.GivesR]
            refine (HBY2.out w' hb).mono ?_
            rintro e w3 ⟨A3, c3, rfl, ho3, hb3⟩
            exact ⟨_, rfl, hb3, A3, c3, rfl, ownRow ho3⟩) ?_
          refine Rely.stepsZ_cons (by
            intro vs w' hb hp
            simp only [Rely.Pre, rgLk1] at hp
            obtain ⟨h114, _⟩ := hp
            unfold Rely.gives
            simp only [Rely.sel, List.foldl_cons, List.foldl_nil]
            go_simp
            exact ⟨Below.refl _ _, rfl⟩) ?_
          refine Rely.stepsZ_cons (by
            intro vs w' hb hp
            simp only [Rely.Pre, rgLk1] at hp
            obtain ⟨h114, ⟨a116, c116, e116, ho116⟩, h117, _⟩ := hp
            unfold Rely.gives
            simp only [Rely.sel, List.foldl_cons, List.foldl_nil]
            go_simp
            simp only [Rely.GivesR]
            refine (HSB.out w' hb a116 c116 ho116).mono ?_
            rintro e w3 ⟨rfl, rfl⟩
            exact ⟨_, rfl, Below.refl _ _, rfl⟩) ?_
          refine Rely.stepsZ_cons (by
            intro vs w' hb hp
            simp only [Rely.Pre, rgLk1] at hp
            obtain ⟨h114, h118, _⟩ := hp
            unfold Rely.gives
            simp only [Rely.sel, List.foldl_cons, List.foldl_nil]
            go_simp
            exact ⟨Below.refl _ _, rfl⟩) ?_
          refine Rely.stepsZ_cons (by
            intro vs w' hb hp
            simp only [Rely.Pre, rgLk1] at hp
            obtain ⟨h119, _⟩ := hp
            unfold Rely.gives
            simp only [Rely.sel, List.foldl_cons, List.foldl_nil]
            go_simp
            exact ⟨Below.refl _ _, rfl⟩) ?_
          refine Rely.stepsZ_cons (by
            intro vs w' hb hp
            simp only [Rely.Pre, rgLk1] at hp
            obtain ⟨h120, _⟩ := hp
            unfold Rely.gives
            simp only [Rely.sel, List.foldl_cons, List.foldl_nil]
            go_simp
            simp only [Rely.GivesR]
            refine (HKN.out w' hb).mono ?_
            rintro e w3 ⟨rfl, hb3⟩
            exact ⟨_, rfl, hb3, rfl⟩) ?_
          refine Rely.stepsZ_cons (by
            intro vs w' hb hp
            simp only [Rely.Pre, rgLk1] at hp
            obtain ⟨h120, h121, _⟩ := hp
            unfold Rely.gives
            simp only [Rely.sel, List.foldl_cons, List.foldl_nil]
            go_simp
            exact ⟨Below.refl _ _, rfl⟩) ?_
          refine Rely.stepsZ_cons (by
            intro vs w' hb hp
            simp only [Rely.Pre, rgLk1] at hp
            obtain ⟨h122, _⟩ := hp
            unfold Rely.gives
            simp only [Rely.sel, List.foldl_cons, List.foldl_nil]
            go_simp
            exact ⟨Below.refl _ _, rfl⟩) ?_
          exact Rely.stepsZ_nil
        intro vs w1 hb1 hp _
        simp only [Rely.Pre, rgLk1] at hp
        obtain ⟨h0, h1, h2, h3, h4, h5, h6, h7, h8, h9, h10, h11, h12, h13, h14, h15, h16, h17, h18, h19, h20, h21, h22, h23, h24, h25, h26, h27, h28, h29, h30, h31, h32, h33, h34, h35, h36, h37, h38, h39, h40, h41, ⟨a42, b42, h42, ho42⟩, h43, h44, h45, h46, h47, ⟨a48, b48, h48, ho48⟩, h49, h50, h51, h52, h53, h54, h55, _⟩ := hp
        simp only [Rely.sel, List.foldl_cons, List.foldl_nil, h0, h1, h2, h3, h4, h5, h6, h7, h8, h9, h10, h11, h12, h13, h14, h15, h16, h17, h18, h19, h20, h21, h22, h23, h24, h25, h26, h27, h28, h29, h30, h31, h32, h33, h34, h35, h36, h37, h38, h39, h40, h41, h42, h43, h44, h45, h46, h47, h48, h49, h50, h51, h52, h53, h54, h55]
        clear h0 h1 h2 h3 h4 h5 h6 h7 h8 h9 h10 h11 h12 h13 h14 h15 h16 h17 h18 h19 h20 h21 h22 h23 h24 h25 h26 h27 h28 h29 h30 h31 h32 h33 h34 h35 h36 h37 h38 h39 h40 h41 h42 h43 h44 h45 h46 h47 h48 h49 h50 h51 h52 h53 h54 h55
        simp only [Act.put, List.setIfInBounds_toArray, List.set_cons_succ, List.set_cons_zero]
        go_wp2
        go_ret
        exact ⟨rfl, HFIN.out _ (HD10.out.bel.trans (hb1.mono HD10.out.bel.size))⟩
end Go.Proofs.YtkdpfjenjcpcfaaGreatDoor
