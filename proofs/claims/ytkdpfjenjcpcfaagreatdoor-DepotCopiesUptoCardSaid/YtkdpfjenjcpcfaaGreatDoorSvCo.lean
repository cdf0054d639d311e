/- SvCo: The law DepotCopies, walked (written by tools/gen_svco.py). -/
import Derived.Test.YtkdpfjenjcpcfaaGreatDoorSZ4
import Derived.Test.YtkdpfjenjcpcfaaGreatDoorRely
import Derived.Deep.MidRow
namespace Go.Proofs.YtkdpfjenjcpcfaaGreatDoor
open Go.RowKit Go.ChangeShapes Mem Be Word Frm Go.Maps Rg
set_option maxRecDepth 100000
set_option maxHeartbeats 1500000
set_option linter.unusedVariables false
set_option linter.unusedSimpArgs false
/-- Things that are done, one behind the other. -/
def runF (X : St8 × Ps14) (rs : List O14) : St8 × Ps14 := rs.foldl (fun X r => ((opS X.1 X.2 r.kind (mP r.m) r.kept).S, (opS X.1 X.2 r.kind (mP r.m) r.kept).ps)) X
theorem runF_take (X : St8 × Ps14) {rs : List O14} {k : Nat} (h : k < rs.length) : runF X (rs.take (k + 1)) = ((opS (runF X (rs.take k)).1 (runF X (rs.take k)).2 rs[k].kind (mP rs[k].m) rs[k].kept).S, (opS (runF X (rs.take k)).1 (runF X (rs.take k)).2 rs[k].kind (mP rs[k].m) rs[k].kept).ps) := by
  unfold runF
  rw [List.take_succ_eq_append_getElem h, List.foldl_append]
  rfl
theorem RowN.keepM {F : Nat → Prop} {w W : World} {A : Option Addr} {xs : List Value} (h : RowN F w A xs) (hk : ∀ b, ¬ F b → b < w.heap.size → W.heap[b]? = w.heap[b]?) (hs : w.heap.size ≤ W.heap.size) : RowN F W A xs := by
  rcases h with h | ⟨b, o, rfl, hf, hb, hc⟩
  · exact Or.inl h
  · refine Or.inr ⟨b, o, rfl, hf, by omega, fun j hj => ?_⟩
    rw [← hc j hj]
    unfold World.cell?
    rw [hk b hf hb]
theorem MsN.keepM {F : Nat → Prop} {w W : World} {A : Option Addr} {us : List MV} (h : MsN F w A us) (hk : ∀ b, ¬ F b → b < w.heap.size → W.heap[b]? = w.heap[b]?) (hs : w.heap.size ≤ W.heap.size) : MsN F W A us := ⟨h.row.keepM hk hs, fun x hx => ⟨(h.val x hx).1.keepM hk hs, (h.val x hx).2⟩⟩
/-- A copy that goes on, while two others stand still. -/
def CoA (w0 : World) (ts : List O14) (F Fc : Nat → Prop) (g gc q n : Nat) (S : St8) (ps : Ps14) (A : Option Addr) (vs : List EV) (W : World) (k ge : Nat) : Prop :=
  ∃ Fe qe, qe ≤ n + k ∧ Sv1 w0 W Fe ge (runF (S, ps) (ts.take k)).1 (runF (S, ps) (ts.take k)).2 qe ∧ RunI (runF (S, ps) (ts.take k)).1 (runF (S, ps) (ts.take k)).2 (n + k) ∧ Sv1 w0 W F g S ps q ∧ Sv1 w0 W Fc gc S ps q ∧ EnN Fe W A vs ∧ (∀ j, F j → ¬ Fe j) ∧ (∀ j, Fc j → ¬ Fe j)
theorem coA_step {w0 W W1 : World} {ts : List O14} {F Fc Fe F2 : Nat → Prop} {g gc q n k ge g2 qe q2 : Nat} {S : St8} {ps : Ps14} {A : Option Addr} {vs : List EV} (hk : k < ts.length) (hq : qe ≤ n + k) (he : Sv1 w0 W Fe ge (runF (S, ps) (ts.take k)).1 (runF (S, ps) (ts.take k)).2 qe) (hr : RunI (runF (S, ps) (ts.take k)).1 (runF (S, ps) (ts.take k)).2 (n + k)) (hs : Sv1 w0 W F g S ps q) (hc : Sv1 w0 W Fc gc S ps q) (hw : EnN Fe W A vs) (ha : ∀ j, F j → ¬ Fe j) (hb : ∀ j, Fc j → ¬ Fe j)
    (hf : ∀ j, F2 j → Fe j ∨ W.heap.size ≤ j) (hq2 : q2 ≤ qe + 1) (hs2 : SvAt W1 F2 g2 (opS (runF (S, ps) (ts.take k)).1 (runF (S, ps) (ts.take k)).2 ts[k].kind (mP ts[k].m) ts[k].kept).S (opS (runF (S, ps) (ts.take k)).1 (runF (S, ps) (ts.take k)).2 ts[k].kind (mP ts[k].m) ts[k].kept).ps q2) (ht : Touch Fe W W1) : CoA w0 ts F Fc g gc q n S ps A vs W1 (k + 1) g2 := by
  have h1 := runI_step hr ts[k].kind (mP ts[k].m) ts[k].kept he.at_ hs2
  have h2 := he.to hf hs2 ht
  have e := runF_take (S, ps) hk
  refine ⟨F2, q2, by omega, ?_, ?_, hs.touch ht ha he.new, hc.touch ht hb he.new, hw.to hf ht, fun j h3 h4 => ?_, fun j h3 h4 => ?_⟩
  · rw [e]; exact h2
  · rw [e]; exact h1
  · rcases hf j h4 with h5 | h5
    · exact ha j h3 h5
    · have := hs.at_.lt j h3; omega
  · rcases hf j h4 with h5 | h5
    · exact hb j h3 h5
    · have := hc.at_.lt j h3; omega
/-- Two that go on alike, while a third stands still. -/
def CoB (w0 : World) (ts : List O14) (Fd : Nat → Prop) (gd qd n : Nat) (S : St8) (ps : Ps14) (Z : St8 × Ps14) (W : World) (k g1 g2 : Nat) : Prop :=
  ∃ F1 F2 q1 q2, q1 ≤ n + k ∧ q2 ≤ n + k ∧ Sv1 w0 W F1 g1 (runF (S, ps) (ts.take k)).1 (runF (S, ps) (ts.take k)).2 q1 ∧ Sv1 w0 W F2 g2 (runF (S, ps) (ts.take k)).1 (runF (S, ps) (ts.take k)).2 q2 ∧ RunI (runF (S, ps) (ts.take k)).1 (runF (S, ps) (ts.take k)).2 (n + k) ∧ Sv1 w0 W Fd gd Z.1 Z.2 qd ∧ (∀ j, F1 j → ¬ F2 j) ∧ (∀ j, F1 j → ¬ Fd j) ∧ (∀ j, F2 j → ¬ Fd j)
theorem coB_step {w0 W W1 W2 : World} {ts : List O14} {Fd F1 F2 G1 G2 : Nat → Prop} {gd qd n k g1 g2 q1 q2 y1 y2 p1 p2 : Nat} {S : St8} {ps : Ps14} {Z : St8 × Ps14} (hk : k < ts.length) (hq1 : q1 ≤ n + k) (hq2 : q2 ≤ n + k)
    (h1 : Sv1 w0 W F1 g1 (runF (S, ps) (ts.take k)).1 (runF (S, ps) (ts.take k)).2 q1) (h2 : Sv1 w0 W F2 g2 (runF (S, ps) (ts.take k)).1 (runF (S, ps) (ts.take k)).2 q2) (hr : RunI (runF (S, ps) (ts.take k)).1 (runF (S, ps) (ts.take k)).2 (n + k)) (h3 : Sv1 w0 W Fd gd Z.1 Z.2 qd) (a1 : ∀ j, F1 j → ¬ F2 j) (a2 : ∀ j, F1 j → ¬ Fd j) (a3 : ∀ j, F2 j → ¬ Fd j)
    (hf : ∀ j, G1 j → F1 j ∨ W.heap.size ≤ j) (hp1 : p1 ≤ q1 + 1) (hs : SvAt W1 G1 y1 (opS (runF (S, ps) (ts.take k)).1 (runF (S, ps) (ts.take k)).2 ts[k].kind (mP ts[k].m) ts[k].kept).S (opS (runF (S, ps) (ts.take k)).1 (runF (S, ps) (ts.take k)).2 ts[k].kind (mP ts[k].m) ts[k].kept).ps p1) (ht : Touch F1 W W1)
    (hf2 : ∀ j, G2 j → F2 j ∨ W1.heap.size ≤ j) (hp2 : p2 ≤ q2 + 1) (hs2 : SvAt W2 G2 y2 (opS (runF (S, ps) (ts.take k)).1 (runF (S, ps) (ts.take k)).2 ts[k].kind (mP ts[k].m) ts[k].kept).S (opS (runF (S, ps) (ts.take k)).1 (runF (S, ps) (ts.take k)).2 ts[k].kind (mP ts[k].m) ts[k].kept).ps p2) (ht2 : Touch F2 W1 W2) : CoB w0 ts Fd gd qd n S ps Z W2 (k + 1) y1 y2 := by
  have hi := runI_step hr ts[k].kind (mP ts[k].m) ts[k].kept h1.at_ hs
  have s1 := h1.to hf hs ht
  have e := runF_take (S, ps) hk
  have g12 : ∀ j, G1 j → ¬ F2 j := apart_step a1 hf h2.at_.lt
  have g1d : ∀ j, G1 j → ¬ Fd j := apart_step a2 hf h3.at_.lt
  have h2' : Sv1 w0 W1 F2 g2 _ _ q2 := h2.touch ht (fun j x y => a1 j y x) h1.new
  have h3' : Sv1 w0 W1 Fd gd Z.1 Z.2 qd := h3.touch ht (fun j x y => a2 j y x) h1.new
  have s2 := h2'.to hf2 hs2 ht2
  have s1' := s1.touch ht2 g12 h2.new
  have g2d : ∀ j, G2 j → ¬ Fd j := apart_step a3 hf2 h3'.at_.lt
  have gg : ∀ j, G2 j → ¬ G1 j := apart_step (fun j x y => g12 j y x) hf2 s1.at_.lt
  refine ⟨G1, G2, p1, p2, by omega, by omega, ?_, ?_, ?_, h3'.touch ht2 (fun j x y => a3 j y x) h2.new, fun j x y => gg j y x, g1d, g2d⟩
  · rw [e]; exact s1'
  · rw [e]; exact s2
  · rw [e]; exact hi
/-- What All told of a store. -/
def AllAt (S : St8) (w : World) (A : Option Addr) : Prop := ∃ xs : List EV, xs.length = S.L.length ∧ xs.map Prod.fst = S.L ∧ EnV w A xs
theorem made_later {S : St8} {w1 w2 : World} {A : Option Addr} (h : AllAt S w1 A) (hb : Below w1.heap.size w1 w2) : AllAt S w2 A := by
  obtain ⟨xs, h1, h2, h3⟩ := h
  exact ⟨xs, h1, h2, h3.below hb⟩
theorem opS_out_le (S : St8) (ps : Ps14) (kind : Int) (m : MsgP) (kept : Int) : (opS S ps kind m kept).out.length ≤ S.acks.length + 1 := by
  unfold opS
  split
  · unfold handM
    split
    · show 1 ≤ _; omega
    · exact Nat.zero_le _
  split
  · show (S.acks.map toldM).length ≤ _
    rw [List.length_map]; omega
  split
  · exact Nat.zero_le _
  split
  · exact Nat.zero_le _
  · exact Nat.zero_le _
theorem copies14_walk (A B : Option Addr) (rs ts : List O14) (n c m c2 : Nat) (hn : n = rs.length) (hm : m = ts.length) (hnl : n ≤ 1048576) (hml : m ≤ 1048576) (w : World) (ht : KT w) (h : InO w A rs) (h' : InO w B ts) :
    Calls Tryz.prog 5 #[.slice A n c, .slice B m c2] w (IsT14 w) := by
  have HN := Lib.hid hn
  have HM := Lib.hid hm
  have HNL := Lib.hid hnl
  have HML := Lib.hid hml
  have HLG := Lib.hid (long14_any n c A rs hn (by unfold maxLen; omega) _ h)
  have HLM : Hid (∀ W, Below w.heap.size w W → Calls Tryz.prog 9 #[.slice B m c2] W (SomeI12 W)) := Lib.hid fun W hb => long14_any m c2 B ts hm (by unfold maxLen; omega) W (h'.move hb)
  have HIN0 := Lib.hid h
  have HJN0 := Lib.hid h'
  have HT0 := Lib.hid ht
  have hni : (n : Int) ≤ 1048576 := by omega
  have hni0 : (0 : Int) ≤ (n : Int) := by omega
  have hmi : (m : Int) ≤ 1048576 := by omega
  have hmi0 : (0 : Int) ≤ (m : Int) := by omega
  have fin : ∀ w1, Below w.heap.size w w1 → Calls Tryz.prog 10 #[] w1 (IsT14 w) := fun w1 hb => (known14_any w1 (ht.below hb)).mono fun e w2 ⟨he, hb2⟩ => ⟨he, hb.trans (hb2.mono hb.size)⟩
  have FIN := Lib.hid fin
  clear fin h h' hn hm hnl hml ht
  go_enter Tryz.func5, Tryz.ntmps5
  go_wp2_with fail
  refine HLG.out.mono ?_
  rintro e w2 ⟨lb, rfl, hb⟩
  have HB2 := Lib.hid hb
  clear hb HLG
  go_wp2_with fail
  refine (HLM.out _ HB2.out).mono ?_
  rintro e w3 ⟨mb, rfl, hb⟩
  have HB3 := Lib.hid (HB2.out.trans (hb.mono HB2.out.size))
  obtain ⟨tb, htb⟩ : ∃ t, IntKind.i64.wrap (lb + mb) = t := ⟨_, rfl⟩
  clear hb HB2 HLM
  by_cases hlb : 2000 < tb
  · go_wp2_with fail
    refine (FIN.out _ HB3.out).mono ?_
    rintro e wf ⟨rfl, hbf⟩
    have HBF := Lib.hid hbf
    clear hbf
    go_wp2
    go_ret
    exact ⟨rfl, HBF.out⟩
  have hlb2 : decide (2000 < tb) = false := decide_eq_false hlb
  clear hlb
  have HIN := Lib.hid (HIN0.out.move HB3.out)
  have HJN := Lib.hid (HJN0.out.move HB3.out)
  have HT := Lib.hid (HT0.out.below HB3.out)
  clear HIN0 HJN0 HT0
  go_wp2_with fail
  refine (newsv_any w3).mono ?_
  rintro e w4 ⟨g0, F0, rfl, hF, hd, hb⟩
  have HK0 : Hid (Sv1 w3 w4 F0 g0 st0 [] 0) := Lib.hid ⟨hF, hd, hb⟩
  simp only [id]
  clear hF hd hb hlb2 htb
  go_wp2_with fail
  go_loopw [5, 6] (fun z i wr => ∃ k : Nat, k ≤ n ∧ i = .int .i64 k ∧ ∃ g, z = .pointer (some ⟨g, 0, none⟩) ∧ Hid (∃ F S ps q, q ≤ k ∧ Sv1 w3 wr F g S ps q ∧ RunI S ps k)) (fun _ i _ => n - (intOf i).toNat)
  case atStart => exact ⟨0, by omega, rfl, g0, rfl, Lib.hid ⟨F0, st0, [], 0, Nat.le_refl _, HK0.out, runI_new⟩⟩
  case round =>
    obtain ⟨k, hk, rfl, g, rfl, HK⟩ := hrel
    obtain ⟨F, S, ps, q, hq, hd, hr⟩ := HK.out
    have HD := Lib.hid hd
    have HR := Lib.hid hr
    have HQ := Lib.hid hq
    clear HK hd hr hq HK0
    by_cases hlt : k < n
    · have hkr : k < rs.length := by rw [← HN.out]; exact hlt
      obtain ⟨b, o, rfl, _, hc0⟩ := os_open (HIN.out.rowAt HD.out.bel) (by omega)
      have hc := hc0 k hkr
      have C := done14_round HIN.out HT.out HD.out hkr (by have := HQ.out; have := HNL.out; omega) HR.out (by have := HNL.out; omega)
      obtain ⟨r, hr1⟩ : ∃ r, rs[k]'hkr = r := ⟨_, rfl⟩
      rw [hr1] at hc C
      have hrs := fun w1 F1 g1 q1 h => runI_step (w1 := w1) (F1 := F1) (g1 := g1) (q1 := q1) HR.out r.kind (mP r.m) r.kept HD.out.at_ h
      obtain ⟨R, hR⟩ : ∃ R, opS S ps r.kind (mP r.m) r.kept = R := ⟨_, rfl⟩
      rw [hR] at C hrs
      have HC := Lib.hid C
      have HCE : Hid (wr.rangeAt b (o + k * 19) (oC r)) := Lib.hid hc
      have HRS := Lib.hid hrs
      have hki : (0 : Int) ≤ (k : Int) := by omega
      have hki2 : (k : Int) < (n : Int) := by omega
      clear hc hc0 C hrs hR hr1
      go_wp2_with (refine wpList_load_mid rfl 53 _ rfl b (o + k * 19) rfl (oC r) _ (show _ from HCE.out) Tryz.underlying53 rfl (by kernel_rfl) ?_)
      refine HC.out.mono ?_
      rintro e w9 ⟨g2, F2, q2, us, A2, c9, rfl, hu, hn, hf, hq2, hs, htt⟩
      have HK9 : Hid (∃ F S ps q, q ≤ k + 1 ∧ Sv1 w3 w9 F g2 S ps q ∧ RunI S ps (k + 1)) := Lib.hid ⟨F2, R.S, R.ps, q2, by have := HQ.out; omega, HD.out.to hf hs htt, HRS.out _ _ _ _ hs⟩
      obtain ⟨N2, hN2⟩ : ∃ N, us.length = N := ⟨_, rfl⟩
      obtain ⟨e2, he2⟩ : ∃ e, R.err = e := ⟨_, rfl⟩
      rw [hN2, he2]
      clear hu hn hf hq2 hs htt hN2 he2 HC HRS HCE
      go_wp2
      go_roundw
      case rel => exact ⟨k + 1, by omega, by go_num, g2, rfl, HK9⟩
      case measure => simp [intOf]; omega
    · obtain rfl : k = n := by omega
      have HFIN : Hid (∀ W, Below w3.heap.size w3 W → Below w.heap.size w W) := Lib.hid fun W hb => HB3.out.trans (hb.mono HB3.out.size)
      go_wp2_with fail
      refine (svall_any F g q S ps wr HD.out.at_).mono ?_
      rintro e w5 ⟨vs, A5, c5, hvs, rfl, ho, hes, hb⟩
      have HW5 : Hid (EnN F w5 A5 vs) := Lib.hid (enN_of HD.out.at_.lt ho hes (okT_lens HD.out.at_.ok.lOk hvs))
      have HVS := Lib.hid hvs
      have HVL : Hid (vs.length ≤ 1073741824) := Lib.hid (by have h1 := congrArg List.length hvs; rw [List.length_map] at h1; have := sv_len HD.out.at_; omega)
      have HD5 := Lib.hid (HD.out.below hb)
      obtain ⟨N5, hN5⟩ : ∃ N, vs.length = N := ⟨_, rfl⟩
      have HN5 := Lib.hid hN5
      rw [hN5]
      have HCC := Lib.hid (svcopy_any F g q S ps HR.out.cp (by have := HR.out.put; omega) w5 HD5.out.at_)
      clear hvs ho hes hb hN5 HD
      go_wp2_with fail
      refine HCC.out.mono ?_
      rintro e w6 ⟨gc, Fc, rfl, hFc, hsc, hb⟩
      have HC6 : Hid (Sv1 w3 w6 Fc gc S ps q) := Lib.hid (HD5.out.new_ hFc hsc hb)
      have HA6 : Hid (∀ j, F j → ¬ Fc j) := Lib.hid fun j h1 h2 => by have h3 := hFc j h2; have h4 := HD5.out.at_.lt j h1; omega
      have HD6 := Lib.hid (HD5.out.below hb)
      have HW6 := Lib.hid (HW5.out.below hb)
      have HCD := Lib.hid (svcopy_any F g q S ps HR.out.cp (by have := HR.out.put; omega) w6 HD6.out.at_)
      simp only [id]
      clear hFc hsc hb HD5 HW5 HCC
      go_wp2_with fail
      refine HCD.out.mono ?_
      rintro e w7 ⟨gd0, Fd0, rfl, hFd, hsd, hb⟩
      have HK7 : Hid (CoA w3 ts F Fc g gc q k S ps A5 vs w7 0 gd0) := Lib.hid ⟨Fd0, q, HQ.out, HD6.out.new_ hFd hsd hb, HR.out, HD6.out.below hb, HC6.out.below hb, HW6.out.to (fun j hj => Or.inr (hFd j hj)) (Touch.ofBelow hb), fun j h1 h2 => (by have h3 := hFd j h2; have h4 := HD6.out.at_.lt j h1; omega), fun j h1 h2 => (by have h3 := hFd j h2; have h4 := HC6.out.at_.lt j h1; omega)⟩
      simp only [id]
      have HQN := Lib.hid HQ.out
      have HRN := Lib.hid HR.out
      clear hFd hsd hb HD6 HW6 HCD HC6 HR HQ hlt
      go_wp2_with fail
      go_loopw [12, 13] (fun z i wr => ∃ k2 : Nat, k2 ≤ m ∧ i = .int .i64 k2 ∧ ∃ ge, z = .pointer (some ⟨ge, 0, none⟩) ∧ Hid (CoA w3 ts F Fc g gc q k S ps A5 vs wr k2 ge)) (fun _ i _ => m - (intOf i).toNat)
      case atStart => exact ⟨0, by omega, rfl, gd0, rfl, HK7⟩
      case round =>
        obtain ⟨w8, hw8⟩ : ∃ W, W = wr := ⟨_, rfl⟩
        subst hw8
        obtain ⟨n2, hn2⟩ : ∃ N, N = k := ⟨_, rfl⟩
        subst hn2
        obtain ⟨k, hk2, rfl, ge, rfl, HK⟩ := hrel
        obtain ⟨Fe, qe, hqe, he, hre, hs8, hc8, hw8, ha8, hb8⟩ := HK.out
        have HE := Lib.hid he
        have HRE := Lib.hid hre
        have HQE := Lib.hid hqe
        have HS8 := Lib.hid hs8
        have HC8 := Lib.hid hc8
        have HW8 := Lib.hid hw8
        have HA8 := Lib.hid ha8
        have HA9 := Lib.hid hb8
        clear HK HK7 he hre hqe hs8 hc8 hw8 ha8 hb8
        by_cases hlt : k < m
        · have hkr : k < ts.length := by rw [← HM.out]; exact hlt
          obtain ⟨b, o, rfl, _, hc0⟩ := os_open (HJN.out.rowAt HE.out.bel) (by omega)
          have hc := hc0 k hkr
          have C := done14_round HJN.out HT.out HE.out hkr (by have := HQE.out; omega) HRE.out (by omega)
          have hst := fun W1 F2 g2 q2 => coA_step (W1 := W1) (F2 := F2) (g2 := g2) (q2 := q2) hkr HQE.out HE.out HRE.out HS8.out HC8.out HW8.out HA8.out HA9.out
          obtain ⟨X, hX⟩ : ∃ X, runF (S, ps) (ts.take k) = X := ⟨_, rfl⟩
          rw [hX] at C hst
          obtain ⟨r, hr1⟩ : ∃ r, ts[k]'hkr = r := ⟨_, rfl⟩
          rw [hr1] at hc C hst
          obtain ⟨R, hR⟩ : ∃ R, opS X.1 X.2 r.kind (mP r.m) r.kept = R := ⟨_, rfl⟩
          rw [hR] at C hst
          have HC := Lib.hid C
          have HCE : Hid (w8.rangeAt b (o + k * 19) (oC r)) := Lib.hid hc
          have HST := Lib.hid hst
          have hki : (0 : Int) ≤ (k : Int) := by omega
          have hki2 : (k : Int) < (m : Int) := by omega
          clear hc hc0 C hst hR hr1 hX
          go_wp2_with (refine wpList_load_mid rfl 53 _ rfl b (o + k * 19) rfl (oC r) _ (show _ from HCE.out) Tryz.underlying53 rfl (by kernel_rfl) ?_)
          refine HC.out.mono ?_
          rintro e w9 ⟨g2, F2, q2, us, A2, c9, rfl, hu, hn, hf, hq2, hs, htt⟩
          have HK9 := Lib.hid (HST.out _ _ _ _ hf hq2 hs htt)
          obtain ⟨N2, hN2⟩ : ∃ N, us.length = N := ⟨_, rfl⟩
          obtain ⟨e2, he2⟩ : ∃ e, R.err = e := ⟨_, rfl⟩
          rw [hN2, he2]
          clear hu hn hf hq2 hs htt hN2 he2 HC HST HCE
          go_wp2
          go_roundw
          case rel => exact ⟨k + 1, by omega, by go_num, g2, rfl, HK9⟩
          case measure => simp [intOf]; omega
        · have hkm : k = m := by omega
          have HZ : Hid (ts.take k = ts) := Lib.hid (by rw [hkm, HM.out]; exact List.take_length)
          subst hkm
          obtain ⟨Z, hZ⟩ : ∃ Z, runF (S, ps) ts = Z := ⟨_, rfl⟩
          have HZZ := Lib.hid hZ
          have HE2 : Hid (Sv1 w3 w8 Fe ge Z.1 Z.2 qe) := Lib.hid (by have h1 := HE.out; rw [HZ.out, hZ] at h1; exact h1)
          have HAL := Lib.hid (svall_any F g q S ps w8 HS8.out.at_)
          clear hZ HE HRE HQE hlt
          go_wp2_with fail
          refine HAL.out.mono ?_
          rintro e w10 hp
          obtain ⟨us, A6, n6, c6, rfl, hl6, hus, hnl6, henv, hb⟩ := svall_env HS8.out.at_ hp
          have HSM := Lib.hid (sameall_true n6 c6 N5 c5 A6 A5 us vs hl6 HN5.out.symm (hus.trans HVS.out.symm) hnl6 w10 henv (HW8.out.env.below hb))
          have HS10 := Lib.hid (HS8.out.below hb)
          have HC10 := Lib.hid (HC8.out.below hb)
          have HE10 := Lib.hid (HE2.out.below hb)
          clear hp hl6 hus hnl6 henv hb HAL HS8 HC8 HE2 HW8
          go_wp2_with fail
          refine HSM.out.mono ?_
          rintro e w11 ⟨rfl, hb⟩
          have HK11 : Hid (CoB w3 ts Fe ge qe n2 S ps Z w11 0 g gc) := Lib.hid ⟨F, Fc, q, q, HQN.out, HQN.out, HS10.out.below hb, HC10.out.below hb, HRN.out, HE10.out.below hb, HA6.out, HA8.out, HA9.out⟩
          clear hb HSM HS10 HC10 HE10 HVS HVL HN5
          go_wp2_with fail
          go_loopw [5, 11, 17] (fun z y i wr => ∃ k3 : Nat, k3 ≤ k ∧ i = .int .i64 k3 ∧ ∃ g1 g2, z = .pointer (some ⟨g1, 0, none⟩) ∧ y = .pointer (some ⟨g2, 0, none⟩) ∧ Hid (CoB w3 ts Fe ge qe n2 S ps Z wr k3 g1 g2)) (fun _ _ i _ => k - (intOf i).toNat)
          case atStart => exact ⟨0, by omega, rfl, g, gc, rfl, rfl, HK11⟩
          case round =>
            obtain ⟨w8b, hw8⟩ : ∃ W, W = wr := ⟨_, rfl⟩
            subst hw8
            obtain ⟨m2, hm2⟩ : ∃ N, N = k := ⟨_, rfl⟩
            subst hm2
            obtain ⟨k, hk3, rfl, g1, g2, rfl, rfl, HK⟩ := hrel
            obtain ⟨F1, F2, q1, q2, hq1, hq2, hs1, hs2, hri, hsd, ha1, ha2, ha3⟩ := HK.out
            have H1 := Lib.hid hs1
            have H2 := Lib.hid hs2
            have H3 := Lib.hid hsd
            have HRI := Lib.hid hri
            have HQ12 := Lib.hid (And.intro hq1 hq2)
            have HA12 := Lib.hid ha1
            have HA13 := Lib.hid ha2
            have HA23 := Lib.hid ha3
            clear HK HK11 hs1 hs2 hsd hri hq1 hq2 ha1 ha2 ha3
            by_cases hlt : k < m2
            · have hkr : k < ts.length := by rw [← HM.out]; exact hlt
              obtain ⟨b, o, rfl, _, hc0⟩ := os_open (HJN.out.rowAt H1.out.bel) (by omega)
              have hc := hc0 k hkr
              have C := done14_round HJN.out HT.out H1.out hkr (by have := HQ12.out; omega) HRI.out (by omega)
              have hst := fun W1 W2 G1 G2 y1 y2 p1 p2 => coB_step (W1 := W1) (W2 := W2) (G1 := G1) (G2 := G2) (y1 := y1) (y2 := y2) (p1 := p1) (p2 := p2) hkr HQ12.out.1 HQ12.out.2 H1.out H2.out HRI.out H3.out HA12.out HA13.out HA23.out
              have hc2 : ∀ W1, Touch F1 w8b W1 → Calls Tryz.prog 12 #[.pointer (some ⟨g2, 0, none⟩), .agg ⟨oC ts[k]⟩] W1 (DoneV F2 g2 (opS (runF (S, ps) (ts.take k)).1 (runF (S, ps) (ts.take k)).2 ts[k].kind (mP ts[k].m) ts[k].kept) q2 W1) := fun W1 htt =>
                done14_round HJN.out HT.out (H2.out.touch htt (fun j x y => HA12.out j y x) H1.out.new) hkr (by have := HQ12.out; omega) HRI.out (by omega)
              have hrow : ∀ W1, Touch F1 w8b W1 → W1.rangeAt b (o + k * 19) (oC ts[k]) := fun W1 htt i v hv => by
                obtain ⟨b', o', hA', _, hc0'⟩ := os_open (HJN.out.rowAt (H1.out.bel.trans (htt.below H1.out.bel.size H1.out.new))) (by omega)
                injection hA' with hA'
                injection hA' with h1 h2
                subst h1; subst h2
                exact hc0' k hkr i v hv
              have hra := HRI.out.acks
              obtain ⟨X, hX⟩ : ∃ X, runF (S, ps) (ts.take k) = X := ⟨_, rfl⟩
              rw [hX] at C hst hc2 hra
              obtain ⟨r, hr1⟩ : ∃ r, ts[k]'hkr = r := ⟨_, rfl⟩
              rw [hr1] at hc C hst hc2 hrow
              have hol : (opS X.1 X.2 r.kind (mP r.m) r.kept).out.length ≤ 2097153 := by
                have h1 := opS_out_le X.1 X.2 r.kind (mP r.m) r.kept
                omega
              obtain ⟨R, hR⟩ : ∃ R, opS X.1 X.2 r.kind (mP r.m) r.kept = R := ⟨_, rfl⟩
              rw [hR] at C hst hc2 hol
              have HC := Lib.hid C
              have HC2 := Lib.hid hc2
              have HOL := Lib.hid hol
              have HROW := Lib.hid hrow
              have HCE : Hid (w8b.rangeAt b (o + k * 19) (oC r)) := Lib.hid hc
              have HST := Lib.hid hst
              have hki : (0 : Int) ≤ (k : Int) := by omega
              have hki2 : (k : Int) < (m2 : Int) := by omega
              clear hc hc0 C hst hR hr1 hX hc2 hrow hol hra
              go_wp2_with (refine wpList_load_mid rfl 53 _ rfl b (o + k * 19) rfl (oC r) _ (show _ from HCE.out) Tryz.underlying53 rfl (by kernel_rfl) ?_)
              refine HC.out.mono ?_
              rintro e w9 ⟨g3, F3, q3, us, A3, c3, rfl, hu, hn, hf, hq3, hs, htt⟩
              have HC3 := Lib.hid (HC2.out _ htt)
              have HCE9 := Lib.hid (HROW.out _ htt)
              have HST9 := Lib.hid (fun W2 G2 y2 p2 => HST.out w9 W2 F3 G2 g3 y2 q3 p2 hf hq3 hs htt)
              have HF2L : Hid (∀ j, F2 j → OldB F3 w8b j) := Lib.hid fun j hj => Or.inr (H2.out.at_.lt j hj)
              have HUS := Lib.hid hu
              have HMS := Lib.hid hn
              obtain ⟨N3, hN3⟩ : ∃ N, us.length = N := ⟨_, rfl⟩
              have HN3 := Lib.hid hN3
              obtain ⟨e2, he2⟩ : ∃ e, R.err = e := ⟨_, rfl⟩
              rw [hN3, he2]
              have HE2 := Lib.hid he2
              clear hu hn hf hq3 hs htt hN3 he2 HC HC2 HST HCE HROW
              go_wp2_with (refine wpList_load_mid rfl 53 _ rfl b (o + k * 19) rfl (oC r) _ (show _ from HCE9.out) Tryz.underlying53 rfl (by kernel_rfl) ?_)
              refine HC3.out.mono ?_
              rintro e w10 ⟨g4, F4, q4, vt, A4, c4, rfl, hu, hn, hf, hq4, hs, htt⟩
              have HK10 := Lib.hid (HST9.out _ _ _ _ hf hq4 hs htt)
              have HB10 := Lib.hid (show Below w3.heap.size w3 w10 from by obtain ⟨_, _, _, _, _, _, h1, _⟩ := HK10.out; exact h1.bel)
              have hm1 := (HMS.out.keepM (fun j h1 h2 => htt.block j h2 fun h3 => h1 (HF2L.out j h3)) htt.size).msR
              have hm2 := hn.msR
              obtain ⟨N4, hN4⟩ : ∃ N, vt.length = N := ⟨_, rfl⟩
              have HSM := Lib.hid (refsameallm N3 c3 N4 c4 A3 A4 us vt HN3.out.symm hN4.symm (by
                have h1 := congrArg List.length HUS.out
                rw [List.length_map, HN3.out] at h1
                have := HOL.out
                unfold maxLen; omega) (HUS.out.trans hu.symm) w10 hm1 hm2)
              rw [hN4, HE2.out]
              clear hu hn hf hq4 hs htt hm1 hm2 hN4 HC3 HST9 HCE9 HMS HUS HF2L
              go_wp2_with fail
              refine HSM.out.mono ?_
              rintro e w11b ⟨rfl, hb⟩
              have HK12 : Hid (CoB w3 ts Fe ge qe n2 S ps Z w11b (k + 1) g3 g4) := Lib.hid (by
                obtain ⟨G1, G2, p1, p2, x1, x2, x3, x4, x5, x6, x7⟩ := HK10.out
                exact ⟨G1, G2, p1, p2, x1, x2, x3.below hb, x4.below hb, x5, x6.below hb, x7⟩)
              clear hb HSM HK10 HB10
              go_wp2
              go_roundw
              case rel => exact ⟨k + 1, by omega, by go_num, g3, g4, rfl, rfl, HK12⟩
              case measure => simp [intOf]; omega
            · have hkm : k = m2 := by omega
              have HZ2 : Hid (runF (S, ps) (ts.take k) = Z) := Lib.hid (by rw [hkm, HZ.out]; exact HZZ.out)
              subst hkm
              have hx1 := H1.out
              have hx2 := H2.out
              rw [HZ2.out] at hx1 hx2
              have HX1 := Lib.hid hx1
              have HX2 := Lib.hid hx2
              have hz := HZ2.out
              obtain ⟨ZS, zp⟩ := Z
              have HALL0 : ∀ (F : Nat → Prop) (g q : Nat) (ps : Ps14), SvAt w8b F g ZS ps q → ∀ W, Below w8b.heap.size w8b W → Calls Tryz.prog 23 #[.pointer (some ⟨g, 0, none⟩)] W (fun e w' => ∃ A' c', e = .returned (.slice A' ZS.L.length c') ∧ AllAt ZS w' A' ∧ Below W.heap.size W w') := fun F g q ps hsv W hW => (svall_any F g q ZS ps W (hsv.below hW)).mono fun e w' hp => by
                obtain ⟨xs, A', n', c', he, hn', hxs, hl', henv, hb'⟩ := svall_env (hsv.below hW) hp
                have hlen : xs.length = ZS.L.length := by rw [← hxs, List.length_map]
                exact ⟨A', c', by rw [he, hn', hlen], ⟨xs, hlen, hxs, henv⟩, hb'⟩
              have HA1 := Lib.hid (HALL0 F1 g1 q1 _ HX1.out.at_)
              have HA2 := Lib.hid (HALL0 F2 g2 q2 _ HX2.out.at_)
              have HA3 := Lib.hid (HALL0 Fe ge qe _ H3.out.at_)
              have hzl : ZS.L.length ≤ 8388608 := sv_len HX1.out.at_
              have HSE : Hid (∀ W (a : Option Addr) (ca : Nat) (a' : Option Addr) (ca' : Nat), AllAt ZS W a → AllAt ZS W a' → Calls Tryz.prog 25 #[.slice a ZS.L.length ca, .slice a' ZS.L.length ca'] W (IsT8 true W)) := Lib.hid fun W a ca a' ca' hh hh' => by
                obtain ⟨xs, h1, h2, h3⟩ := hh
                obtain ⟨ys, h4, h5, h6⟩ := hh'
                exact sameall_true ZS.L.length ca ZS.L.length ca' a a' xs ys h1.symm h4.symm (h2.trans h5.symm) (by omega) W h3 h6
              have HKN : Hid (∀ W, Below w8b.heap.size w8b W → Calls Tryz.prog 10 #[] W (IsT14 W)) := Lib.hid fun W hW => known14_any W (HT.out.below (HX1.out.bel.trans (hW.mono HX1.out.bel.size)))
              have HBD : Hid (Below w.heap.size w w8b) := Lib.hid (HFIN.out _ HX1.out.bel)
              have hg1 : g1 < w8b.heap.size := HX1.out.lt
              have hg2 : g2 < w8b.heap.size := HX2.out.lt
              have hg3 : ge < w8b.heap.size := H3.out.lt
              clear hx1 hx2 hz HALL0 hzl H1 H2 H3 HRI HQ12 HA12 HA13 HA23 HX1 HX2
              go_wp2_with fail
              refine (HA1.out w8b (Below.refl w8b.heap.size w8b)).mono ?_
              rintro e vw1 ⟨ap, cp, rfl, ho, hb⟩
              have vHB1 : Hid (Below w8b.heap.size w8b vw1) := Lib.hid ((Below.refl w8b.heap.size w8b).trans (hb.mono (Below.refl w8b.heap.size w8b).size))
              have Hp := Lib.hid ho
              clear hb ho  
              go_wp2_with fail
              refine (HA2.out vw1 vHB1.out).mono ?_
              rintro e vw2 ⟨aq2, cq2, rfl, ho, hb⟩
              have vHB2 : Hid (Below w8b.heap.size w8b vw2) := Lib.hid (vHB1.out.trans (hb.mono vHB1.out.size))
              have Hpx := Lib.hid (made_later Hp.out hb)
              have Hq2 := Lib.hid ho
              clear hb ho Hp vHB1
              have Hp := Lib.hid Hpx.out
              clear Hpx
              go_wp2_with fail
              refine (HSE.out vw2 _ _ _ _ Hp.out Hq2.out).mono ?_
              rintro e vw3 ⟨rfl, hb⟩
              have vHB3 : Hid (Below w8b.heap.size w8b vw3) := Lib.hid (vHB2.out.trans (hb.mono vHB2.out.size))
              clear hb  Hp Hq2 vHB2
              go_wp2_with fail
              refine (HA1.out vw3 vHB3.out).mono ?_
              rintro e vw4 ⟨ar, cr, rfl, ho, hb⟩
              have vHB4 : Hid (Below w8b.heap.size w8b vw4) := Lib.hid (vHB3.out.trans (hb.mono vHB3.out.size))
              have Hr := Lib.hid ho
              clear hb ho  vHB3
              go_wp2_with fail
              refine (HA3.out vw4 vHB4.out).mono ?_
              rintro e vw5 ⟨az5, cz5, rfl, ho, hb⟩
              have vHB5 : Hid (Below w8b.heap.size w8b vw5) := Lib.hid (vHB4.out.trans (hb.mono vHB4.out.size))
              have Hrx := Lib.hid (made_later Hr.out hb)
              have Hz5 := Lib.hid ho
              clear hb ho Hr vHB4
              have Hr := Lib.hid Hrx.out
              clear Hrx
              go_wp2_with fail
              refine (HSE.out vw5 _ _ _ _ Hr.out Hz5.out).mono ?_
              rintro e vw6 ⟨rfl, hb⟩
              have vHB6 : Hid (Below w8b.heap.size w8b vw6) := Lib.hid (vHB5.out.trans (hb.mono vHB5.out.size))
              clear hb  Hr Hz5 vHB5
              go_wp2_with fail
              refine (HKN.out vw6 vHB6.out).mono ?_
              rintro e vw7 ⟨rfl, hb⟩
              have vHB7 : Hid (Below w8b.heap.size w8b vw7) := Lib.hid (vHB6.out.trans (hb.mono vHB6.out.size))
              clear hb   vHB6
              go_wp2
              go_ret
              exact ⟨rfl, HBD.out.trans (vHB7.out.mono HBD.out.size)⟩
end Go.Proofs.YtkdpfjenjcpcfaaGreatDoor
