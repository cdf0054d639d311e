/- SvAk: The law DepotAcks, walked (written by tools/gen_sva.py). -/
/- SvLa: The law DepotLasts, walked (written by tools/gen_svla.py). -/
import Derived.Test.YtkdpfjenjcpcfaaGreatDoorSZ4
import Derived.Test.YtkdpfjenjcpcfaaGreatDoorCkZ
import Derived.Deep.DeepCutAuto
import Derived.Deep.RegionHeld3
import Derived.Deep.MidRow
namespace Go.Proofs.YtkdpfjenjcpcfaaGreatDoor
open Go.RowKit Go.ChangeShapes Mem Be Word Frm Go.Maps Rg
set_option maxRecDepth 100000
set_option maxHeartbeats 2000000
set_option linter.unusedVariables false
/-- Acks that are wanted, beside a server. -/
structure WantA (w0 w : World) (F : Nat → Prop) (S : St8) (ps : Ps14) (k : Nat) (A : Option Addr) (c N : Nat) : Prop where
  len : N = S.acks.length
  room : (allB S.rs).length ≤ k * 65546
  many : S.acks.length ≤ k
  pm : ps.length ≤ k
  keys : KeyS S
  own : w.ownsRow w0.heap.size 51 17 (.slice A N c) N (fmsC S.acks)
  off : ∀ a, A = some a → ¬ F a.block
theorem own_touch14 {w0 w w1 : World} {F F' : Nat → Prop} {A : Option Addr} {c N : Nat} {xs : List Value} (ho : w.ownsRow w0.heap.size 51 17 (.slice A N c) N xs) (hoff : ∀ a, A = some a → ¬ F a.block) (hf : ∀ k, F' k → F k ∨ w.heap.size ≤ k) (ht : Touch F w w1) :
    w1.ownsRow w0.heap.size 51 17 (.slice A N c) N xs ∧ ∀ a, A = some a → ¬ F' a.block := by
  refine ⟨ownKeep ho fun a ha => ht.block _ (ownIn ho ha).2.1 (hoff a ha), fun a ha hf' => ?_⟩
  rcases hf _ hf' with h | h
  · exact hoff a ha h
  · have := (ownIn ho ha).2.1; omega
end Go.Proofs.YtkdpfjenjcpcfaaGreatDoor
namespace Go.Proofs.YtkdpfjenjcpcfaaGreatDoor
open Go.RowKit Go.ChangeShapes Mem Be Word Frm Go.Maps Rg
set_option maxRecDepth 100000
set_option maxHeartbeats 800000
set_option linter.unusedVariables false
theorem RowN.keepN {F : Nat → Prop} {w W : World} {A : Option Addr} {xs : List Value} (h : RowN F w A xs) (hk : ∀ b, ¬ F b → b < w.heap.size → W.heap[b]? = w.heap[b]?) (hs : w.heap.size ≤ W.heap.size) : RowN F W A xs := by
  rcases h with h | ⟨b, o, rfl, hf, hb, hc⟩
  · exact Or.inl h
  · refine Or.inr ⟨b, o, rfl, hf, by omega, fun j hj => ?_⟩
    rw [← hc j hj]
    unfold World.cell?
    rw [hk b hf hb]
theorem MsN.keepN {F : Nat → Prop} {w W : World} {A : Option Addr} {us : List MV} (h : MsN F w A us) (hk : ∀ b, ¬ F b → b < w.heap.size → W.heap[b]? = w.heap[b]?) (hs : w.heap.size ≤ W.heap.size) : MsN F W A us := ⟨h.row.keepN hk hs, fun x hx => ⟨(h.val x hx).1.keepN hk hs, (h.val x hx).2⟩⟩
/-- What was told, in a row of its own. -/
def TvR (w0 w : World) (F : Nat → Prop) (tl : List AckP) (A : Option Addr) (c N : Nat) : Prop :=
  ∃ tv : List MV, N = tv.length ∧ tv.map mP = tl.map toldM ∧ w.ownsRow w0.heap.size 51 17 (.slice A N c) N (msC tv) ∧ ∀ a, A = some a → ¬ F a.block
theorem TvR.to {w0 w w1 : World} {F F' : Nat → Prop} {tl : List AckP} {A : Option Addr} {c N : Nat} (h : TvR w0 w F tl A c N) (hf : ∀ k, F' k → F k ∨ w.heap.size ≤ k) (ht : Touch F w w1) : TvR w0 w1 F' tl A c N := by
  obtain ⟨tv, h1, h2, h3, h4⟩ := h
  obtain ⟨h5, h6⟩ := own_touch14 h3 h4 hf ht
  exact ⟨tv, h1, h2, h5, h6⟩
theorem TvR.below {w0 w w1 : World} {F : Nat → Prop} {tl : List AckP} {A : Option Addr} {c N : Nat} (h : TvR w0 w F tl A c N) (hb : Below w.heap.size w w1) : TvR w0 w1 F tl A c N := h.to (fun k hk => Or.inl hk) (Touch.ofBelow hb)
theorem TvR.len {w0 w : World} {F : Nat → Prop} {tl : List AckP} {A : Option Addr} {c N : Nat} (h : TvR w0 w F tl A c N) : N = tl.length := by
  obtain ⟨tv, h1, h2, _, _⟩ := h
  have := congrArg List.length h2
  rw [List.length_map, List.length_map] at this
  omega
theorem tvR_nil (w0 w : World) (F : Nat → Prop) : TvR w0 w F [] none 0 0 := ⟨[], rfl, rfl, World.ownsRow_nil _ _ _ _, fun a ha => by cases ha⟩
/-- The cells of one that was told. -/
theorem TvR.cells {w0 w : World} {F : Nat → Prop} {tl : List AckP} {A : Option Addr} {c N : Nat} (h : TvR w0 w F tl A c N) {j : Nat} (hj : j < tl.length) :
    ∃ b o, A = some ⟨b, o, none⟩ ∧ b < w.heap.size ∧ w.cell? ⟨b, o + j * 17 + 7, none⟩ = some (.string ⟨tl[j].k.toArray⟩) ∧ w.cell? ⟨b, o + j * 17 + 8, none⟩ = some (.int .i64 tl[j].s) ∧ w.cell? ⟨b, o + j * 17 + 9, none⟩ = some (.int .i64 tl[j].u) ∧ w.cell? ⟨b, o + j * 17 + 10, none⟩ = some (.int .i64 tl[j].o) := by
  have hlen := h.len
  obtain ⟨tv, h1, h2, h3, _⟩ := h
  have hjt : j < tv.length := by omega
  obtain ⟨b, o, hA, hb, hc⟩ := ms_open (ownRow h3) (by omega)
  have hm : mP tv[j] = toldM tl[j] := by
    have h5 : (tv.map mP)[j]'(by simpa using hjt) = (tl.map toldM)[j]'(by simpa using hj) := List.getElem_of_eq h2 _
    simpa using h5
  have k7 := hc j hjt 7 _ rfl
  have k8 := hc j hjt 8 _ rfl
  have k9 := hc j hjt 9 _ rfl
  have k10 := hc j hjt 10 _ rfl
  have e1 : tv[j].e.1 = (toldM tl[j]).e := congrArg MsgP.e hm
  rw [e1] at k7 k8 k9 k10
  exact ⟨b, o, hA, hb, k7, k8, k9, k10⟩
theorem ms_lit {w : World} {x : MV} {g B : Nat} (h : Blk w g 51 ⟨mL x⟩) (hB : g < B) : Row w B (some ⟨g, 0, none⟩) (msC [x]) := by
  refine Or.inr ⟨g, 0, rfl, hB, fun j hj => ?_⟩
  have e : msC [x] = mL x := by simp [msC]
  have h1 := h.cell (0 + j)
  rw [h1]
  have hj2 : j < (mL x).length := by rw [← e]; exact hj
  rw [Nat.zero_add]
  rw [List.getElem_of_eq e hj]
  show (⟨mL x⟩ : Array Value)[j]? = _
  rw [List.getElem?_toArray, List.getElem?_eq_getElem hj2]
/-- What holds at the head of each round. -/
def LastV (w0 w : World) (g k : Nat) (A : Option Addr) (c N : Nat) : Prop := ∃ F S ps q tl, q ≤ k ∧ Sv1 w0 w F g S ps q ∧ RunI S ps k ∧ LastI S tl k ∧ TvR w0 w F tl A c N
/-- A message of those that are sent, in the midst. -/
theorem out_at {us : List MV} {S : St8} {ps : Ps14} {kind kept : Int} {m : MsgP} {j : Nat} (hu : us.map mP = (opS S ps kind m kept).out) (hj : j < us.length) (ok : OkT S.L) (ha : ∀ a ∈ S.acks, AckOk a) :
    checkM (mP us[j]) = 0 ∧ us[j].fr = 1 ∧ ((us[j].kind = 11 ∧ ∃ hja : j < (tellS S kind).length, mP us[j] = toldM ((tellS S kind)[j])) ∨ (us[j].kind = 8 ∧ tellS S kind = [])) := by
  have h5 : ∀ l : List MsgP, us.map mP = l → ∃ h : j < l.length, mP us[j] = l[j] := fun l hl => by
    have hlen := congrArg List.length hl
    rw [List.length_map] at hlen
    refine ⟨by omega, ?_⟩
    have h6 : (us.map mP)[j]'(by simpa using hj) = l[j]'(by omega) := List.getElem_of_eq hl _
    simpa using h6
  rcases @out_kinds S ps kind kept m with ⟨h2, h⟩ | ⟨h2, h | ⟨h3, h4, h7, h⟩⟩
  · obtain ⟨hl, he⟩ := h5 _ (hu.trans h)
    have hja : j < S.acks.length := by simpa using hl
    have e2 : mP us[j] = toldM S.acks[j] := by rw [he, List.getElem_map]
    have htl : tellS S kind = S.acks := if_pos h2
    refine ⟨by rw [e2]; exact told_check (ha _ (List.getElem_mem hja)), (congrArg MsgP.fr e2 : us[j].fr = (toldM S.acks[j]).fr), Or.inl ⟨(congrArg MsgP.kind e2 : us[j].kind = (toldM S.acks[j]).kind), by rw [htl]; exact hja, ?_⟩⟩
    simp only [htl]
    exact e2
  · obtain ⟨hl, _⟩ := h5 _ (hu.trans h)
    exact absurd hl (Nat.not_lt_zero _)
  · obtain ⟨hl, he⟩ := h5 _ (hu.trans h)
    have hj0 : j = 0 := by simpa using hl
    subst hj0
    have e2 : mP us[0] = foundM S m := he
    refine ⟨by rw [e2]; exact found_check ok h3 h4 h7, ?_, Or.inr ⟨(congrArg MsgP.kind e2 : us[0].kind = (foundM S m).kind), if_neg h2⟩⟩
    have h8 : us[0].fr = (foundM S m).fr := congrArg MsgP.fr e2
    rw [h8]
    exact h4
/-- One more was told. -/
theorem want_push2 {w0 W w7 : World} {F : Nat → Prop} {g q c4 N4 c7 : Nat} {S : St8} {ps : Ps14} {A4 A7 : Option Addr} {xs ys : List Value} (h : Sv1 w0 W F g S ps q) (ho : W.ownsRow w0.heap.size 51 17 (.slice A4 N4 c4) N4 xs) (hoff : ∀ a, A4 = some a → ¬ F a.block)
    (hown : w7.ownsRow w0.heap.size 51 17 (.slice A7 (N4 + 1) c7) (N4 + 1) ys) (hgr : W.grownBy w7 (Value.slice A4 N4 c4).ownBlock) (hat : (Value.slice A7 (N4 + 1) c7).ownBlock = (Value.slice A4 N4 c4).ownBlock ∨ (Value.slice A7 (N4 + 1) c7).ownBlock = some W.heap.size) :
    Sv1 w0 w7 F g S ps q ∧ ∀ a, A7 = some a → ¬ F a.block := by
  have hnb : ∀ j, F j → some j ≠ (Value.slice A4 N4 c4).ownBlock := fun j hj he => by
    cases A4 with
    | none => cases he
    | some a =>
      have e2 : j = a.block := by simpa [Value.ownBlock] using he
      subst e2
      exact hoff a rfl hj
  refine ⟨⟨h.new, h.at_.keep hgr.size (fun j hj => hgr.block j (h.at_.lt j hj) (hnb j hj)), h.bel.grown hgr h.bel.size fun j hj => (ho.lt j hj).1⟩, fun a ha hf => ?_⟩
  subst ha
  rcases hat with h1 | h1
  · have h9 : (Value.slice A4 N4 c4).ownBlock = some a.block := h1.symm
    exact hnb _ hf h9.symm
  · have h9 : a.block = W.heap.size := by simpa [Value.ownBlock] using h1
    have := h.at_.lt _ hf
    omega
theorem lasts14_walk (A : Option Addr) (rs : List O14) (n c : Nat) (hn : n = rs.length) (hnl : n ≤ 676622540150) (w : World) (ht : KT w) (h : InO w A rs) :
    Calls Tryz.prog 4 #[.slice A n c] w (IsT14 w) := by
  obtain ⟨i1, hi1, hk1, hk2, hk3⟩ := info_parts info_msg14
  have HN := Lib.hid hn
  have HNL := Lib.hid hnl
  have HLG := Lib.hid (long14_any n c A rs hn (by unfold maxLen; omega) w h)
  have HIN0 := Lib.hid h
  have HT0 := Lib.hid ht
  have hni : (n : Int) ≤ 676622540150 := by omega
  have hni0 : (0 : Int) ≤ (n : Int) := by omega
  have fin : ∀ w1, Below w.heap.size w w1 → Calls Tryz.prog 10 #[] w1 (IsT14 w) := fun w1 hb => (known14_any w1 (ht.below hb)).mono fun e w2 ⟨he, hb2⟩ => ⟨he, hb.trans (hb2.mono hb.size)⟩
  have FIN := Lib.hid fin
  clear fin h hn hnl ht
  go_enter Tryz.func4, Tryz.ntmps4
  go_wp2_with fail
  refine HLG.out.mono ?_
  rintro e w3 ⟨lb, rfl, hb⟩
  have HB3 := Lib.hid hb
  clear hb HLG
  by_cases hlb : 2000 < lb
  · go_wp2_with fail
    refine (FIN.out _ HB3.out).mono ?_
    rintro e wf ⟨rfl, hbf⟩
    have HBF := Lib.hid hbf
    clear hbf
    go_wp2
    go_ret
    exact ⟨rfl, HBF.out⟩
  have hlb2 : decide (2000 < lb) = false := decide_eq_false hlb
  clear hlb
  have HIN := Lib.hid (HIN0.out.move HB3.out)
  have HT := Lib.hid (HT0.out.below HB3.out)
  clear HIN0 HT0
  go_wp2_with fail
  refine (newsv_any w3).mono ?_
  rintro e w4 ⟨g0, F0, rfl, hF, hd, hb⟩
  have HK0 : Hid (LastV w3 w4 g0 0 none 0 0) := Lib.hid ⟨F0, st0, [], 0, [], Nat.le_refl _, ⟨hF, hd, hb⟩, runI_new, lastI_new, tvR_nil _ _ _⟩
  simp only [id]
  clear hF hd hb
  go_wp2_with fail
  go_loopw [3, 4, 5] (fun z v i wr => ∃ k : Nat, k ≤ n ∧ i = .int .i64 k ∧ ∃ g A4 c4 N4, z = .pointer (some ⟨g, 0, none⟩) ∧ v = .slice A4 N4 c4 ∧ Hid (LastV w3 wr g k A4 c4 N4)) (fun _ _ i _ => n - (intOf i).toNat)
  case atStart => exact ⟨0, by omega, rfl, g0, none, 0, 0, rfl, rfl, HK0⟩
  case round =>
    obtain ⟨w8, hw8⟩ : ∃ W, W = wr := ⟨_, rfl⟩
    subst hw8
    obtain ⟨k, hk, rfl, g, A4, c4, N4, rfl, rfl, HK⟩ := hrel
    obtain ⟨F, S, ps, q, tl, hq, hd, hr, hli, htv⟩ := HK.out
    have HD := Lib.hid hd
    have HR := Lib.hid hr
    have HQ := Lib.hid hq
    have HLI := Lib.hid hli
    have HTV := Lib.hid htv
    clear HK hd hr hq hli htv HK0
    by_cases hlt : k < n
    · have hkr : k < rs.length := by rw [← HN.out]; exact hlt
      obtain ⟨b, o, rfl, _, hc0⟩ := os_open (HIN.out.rowAt HD.out.bel) (by omega)
      have hc := hc0 k hkr
      have C := done14_round HIN.out HT.out HD.out hkr (by have := HQ.out; have := HNL.out; omega) HR.out (by have := HNL.out; omega)
      obtain ⟨r, hr1⟩ : ∃ r, rs[k]'hkr = r := ⟨_, rfl⟩
      rw [hr1] at hc C
      have hrs := fun w1 F1 g1 q1 h => runI_step (w1 := w1) (F1 := F1) (g1 := g1) (q1 := q1) HR.out r.kind (mP r.m) r.kept HD.out.at_ h
      have hls := lastI_step (ps := ps) HLI.out HD.out.at_.ok HD.out.at_.short r.kind (mP r.m) r.kept
      have hout := fun (us : List MV) (j : Nat) (hu : us.map mP = (opS S ps r.kind (mP r.m) r.kept).out) (hj : j < us.length) => out_at hu hj HD.out.at_.ok.lOk HLI.out.ok
      have hulen : (opS S ps r.kind (mP r.m) r.kept).out.length ≤ k + 1 ∧ ((opS S ps r.kind (mP r.m) r.kept).out.length = (tellS S r.kind).length ∨ tellS S r.kind = []) := by
        rcases @out_kinds S ps r.kind r.kept (mP r.m) with ⟨h2, h⟩ | ⟨h2, h | ⟨h3, h4, h7, h⟩⟩
        · rw [h, List.length_map]
          have := HLI.out.many
          exact ⟨by omega, Or.inl (by rw [show tellS S r.kind = S.acks from if_pos h2])⟩
        · rw [h]; exact ⟨Nat.zero_le _, Or.inr (if_neg h2)⟩
        · rw [h]; exact ⟨by show 1 ≤ k + 1; omega, Or.inr (if_neg h2)⟩
      obtain ⟨R, hR⟩ : ∃ R, opS S ps r.kind (mP r.m) r.kept = R := ⟨_, rfl⟩
      rw [hR] at C hrs hls hout hulen
      obtain ⟨TS, hTS⟩ : ∃ T, tellS S r.kind = T := ⟨_, rfl⟩
      rw [hTS] at hls hout hulen
      have HC := Lib.hid C
      have HRS := Lib.hid hrs
      have HLS := Lib.hid hls
      have HOUT := Lib.hid hout
      have HUL := Lib.hid hulen
      have HCE : Hid (w8.rangeAt b (o + k * 19) (oC r)) := Lib.hid hc
      have hki : (0 : Int) ≤ (k : Int) := by omega
      have hki2 : (k : Int) < (n : Int) := by omega
      clear hc hc0 C hrs hls hout hulen hR hTS hr1
      go_wp2_with (refine wpList_load_mid rfl 53 _ rfl b (o + k * 19) rfl (oC r) _ (show _ from HCE.out) Tryz.underlying53 rfl (by kernel_rfl) ?_)
      refine HC.out.mono ?_
      rintro e w9 ⟨g2, F2, q2, us, A2, c2, rfl, hu, hn, hf, hq2, hs, htt⟩
      have HD9 := Lib.hid (HD.out.to hf hs htt)
      have HRR := Lib.hid (HRS.out _ _ _ _ hs)
      have HQ9 : Hid (q2 ≤ k + 1) := Lib.hid (by have := HQ.out; omega)
      have HTV9 := Lib.hid (HTV.out.to hf htt)
      have HTLT : Hid (∀ a, A4 = some a → a.block < w8.heap.size) := Lib.hid fun a ha => by
        obtain ⟨tv, _, _, h3, _⟩ := HTV.out
        exact (ownIn h3 ha).2.1
      have HUS := Lib.hid hu
      have HMS := Lib.hid hn
      have HW9 : Hid (w8.heap.size ≤ w9.heap.size) := Lib.hid htt.size
      obtain ⟨N2, hN2⟩ : ∃ N, us.length = N := ⟨_, rfl⟩
      have HN2 := Lib.hid hN2
      have HUL2 : Hid (N2 ≤ k + 1 ∧ (N2 = TS.length ∨ TS = [])) := Lib.hid (by
        have h1 := congrArg List.length hu
        rw [List.length_map, hN2] at h1
        have := HUL.out
        rw [h1]; exact this)
      obtain ⟨e2, he2⟩ : ∃ e, R.err = e := ⟨_, rfl⟩
      rw [hN2, he2]
      have hN2i : (N2 : Int) ≤ 676622540151 := by have := HUL2.out.1; omega
      have hN2i0 : (0 : Int) ≤ (N2 : Int) := by omega
      clear hu hn hf hq2 hs htt hN2 he2 HC HRS HCE HUL HTV
      go_wp2_with fail
      go_loopw [4, 9] (fun v i wq => ∃ j : Nat, j ≤ N2 ∧ i = .int .i64 j ∧ ∃ A5 c5 N5, v = .slice A5 N5 c5 ∧ Hid (Sv1 w3 wq F2 g2 R.S R.ps q2) ∧ Hid (TvR w3 wq F2 (tl ++ TS.take j) A5 c5 N5) ∧ Hid ((∀ b, ¬ OldB F2 w8 b → b < w9.heap.size → wq.heap[b]? = w9.heap[b]?) ∧ w9.heap.size ≤ wq.heap.size) ∧ Hid (∀ a, A5 = some a → a.block < w8.heap.size ∨ w9.heap.size ≤ a.block)) (fun _ i _ => N2 - (intOf i).toNat)
      case atStart => exact ⟨0, Nat.zero_le _, rfl, A4, c4, N4, rfl, HD9, Lib.hid (by rw [List.take_zero, List.append_nil]; exact HTV9.out), Lib.hid ⟨fun b _ _ => rfl, Nat.le_refl _⟩, Lib.hid fun a ha => Or.inl (HTLT.out a ha)⟩
      case round =>
        obtain ⟨j, hj, rfl, A5, c5, N5, rfl, HDq, HTq, HKq, HAq⟩ := hrel
        by_cases hltj : j < N2
        · have hju : j < us.length := by rw [HN2.out]; exact hltj
          have hmsq := HMS.out.keepN HKq.out.1 HKq.out.2
          obtain ⟨b2, o2, rfl, hb2, hcu0⟩ := ms_open hmsq.row.row (by omega)
          have hcu := hcu0 j hju
          have hmu := hmsq.msR.val us[j] (List.getElem_mem hju)
          obtain ⟨hchk, hfr, hkinds⟩ := HOUT.out us j HUS.out hju
          have hfar : ¬ OldB F2 w8 b2 := by
            rcases HMS.out.row with h6 | ⟨b6, o6, h7, h8, _⟩
            · have h9 := congrArg List.length h6
              rw [msC_len] at h9
              exact absurd h9 (by simp; omega)
            · injection h7 with h7
              injection h7 with h7 _
              rw [h7]; exact h8
          obtain ⟨u, hu1⟩ : ∃ u, us[j]'hju = u := ⟨_, rfl⟩
          rw [hu1] at hcu hmu hchk hfr hkinds
          have HCU : Hid (wr.rangeAt b2 (o2 + j * 17) (mL u)) := Lib.hid hcu
          have HCK0 := refcheck12 u wr hmu
          rw [hchk] at HCK0
          have HCK := Lib.hid HCK0
          have HKN := Lib.hid hkinds
          have l1 : wr.cell? ⟨b2, o2 + j * 17 + 1, none⟩ = some (.int .i64 1) := by have h6 := hcu 1 _ rfl; rw [hfr] at h6; exact h6
          have HC0 : Hid (wr.cell? ⟨b2, o2 + j * 17, none⟩ = some (.int .i64 u.kind)) := Lib.hid (by have h6 := hcu 0 _ rfl; rw [Nat.add_zero] at h6; exact h6)
          have HL1 := Lib.hid l1
          have HB2L : Hid (b2 < wr.heap.size) := Lib.hid hb2
          have hji : (0 : Int) ≤ (j : Int) := by omega
          have hji2 : (j : Int) < (N2 : Int) := by omega
          clear hmsq hcu0 hcu hmu hchk hfr hkinds HCK0 hu1 l1
          go_wp2_with (refine wpList_load_mid rfl 51 _ rfl b2 (o2 + j * 17) rfl (mL u) _ (show _ from HCU.out) Tryz.underlying51 rfl (by kernel_rfl) ?_)
          refine HCK.out.mono ?_
          rintro e wv ⟨rfl, hbv⟩
          have HDv := Lib.hid (HDq.out.below hbv)
          have HTv := Lib.hid (HTq.out.below hbv)
          have HKv : Hid ((∀ b, ¬ OldB F2 w8 b → b < w9.heap.size → wv.heap[b]? = w9.heap[b]?) ∧ w9.heap.size ≤ wv.heap.size) := Lib.hid ⟨fun b h1 h2 => (hbv.block b (Nat.lt_of_lt_of_le h2 HKq.out.2)).trans (HKq.out.1 b h1 h2), Nat.le_trans HKq.out.2 hbv.size⟩
          have l1 : wv.cell? ⟨b2, o2 + j * 17 + 1, none⟩ = some (.int .i64 1) := (hbv.cell (p := ⟨b2, o2 + j * 17 + 1, none⟩) HB2L.out).trans HL1.out
          have l0 : wv.cell? ⟨b2, o2 + j * 17, none⟩ = some (.int .i64 u.kind) := (hbv.cell (p := ⟨b2, o2 + j * 17, none⟩) HB2L.out).trans HC0.out
          have HCV : Hid (wv.rangeAt b2 (o2 + j * 17) (mL u)) := Lib.hid fun i v hv => (hbv.cell (p := ⟨b2, o2 + j * 17 + i, none⟩) HB2L.out).trans (HCU.out i v hv)
          clear hbv HCK HCU HDq HTq HKq HC0 HL1
          rcases HKN.out with ⟨h11, hja, hmu⟩ | ⟨h8, hnil⟩
          · rw [h11] at l0
            have HMU := Lib.hid hmu
            have HJA := Lib.hid hja
            have H11 := Lib.hid h11
            have HNB : Hid (N5 ≤ 1353245080301) := Lib.hid (by
              have h1 := HTv.out.len
              rw [List.length_append, List.length_take] at h1
              have h2 := HLI.out.many
              have h3 := HUL2.out.1
              have := HNL.out
              omega)
            have HNB2 : Hid (N5 + 1 ≤ 676622540151) := Lib.hid (by
              have h1 := HTv.out.len
              rw [List.length_append, List.length_take] at h1
              have h2 := HLS.out.many
              rw [List.length_append] at h2
              have := HNL.out
              omega)
            obtain ⟨tv, hl1, hl2, hown5, hoff5⟩ := HTv.out
            have HOW5 := Lib.hid hown5
            have HOF5 := Lib.hid hoff5
            have HTL := Lib.hid (And.intro hl1 hl2)
            have hal : Below wv.heap.size wv (wv.alloc (.cells #[.int .i64 u.kind, .int .i64 u.fr, .int .i64 u.dst, .int .i64 u.ep, .int .i64 u.op, .int .i64 u.n, .bool u.flag, .string ⟨u.e.1.k.toArray⟩, .int .i64 u.e.1.s, .int .i64 u.e.1.u, .int .i64 u.e.1.o, .bool u.e.1.has, .slice u.e.2.1 u.e.1.v.length u.e.2.2, .slice u.lA u.l.length u.lc, .slice u.rA u.ns.length u.rc, .int .i64 u.each, .int .i64 u.keep] 51)) := (Below.refl _ _).alloc (Nat.le_refl _) _
            have HOA : Hid ((wv.alloc (.cells #[.int .i64 u.kind, .int .i64 u.fr, .int .i64 u.dst, .int .i64 u.ep, .int .i64 u.op, .int .i64 u.n, .bool u.flag, .string ⟨u.e.1.k.toArray⟩, .int .i64 u.e.1.s, .int .i64 u.e.1.u, .int .i64 u.e.1.o, .bool u.e.1.has, .slice u.e.2.1 u.e.1.v.length u.e.2.2, .slice u.lA u.l.length u.lc, .slice u.rA u.ns.length u.rc, .int .i64 u.each, .int .i64 u.keep] 51)).ownsRow w3.heap.size 51 17 (.slice A5 N5 c5) N5 (msC tv)) := Lib.hid (ownLater hown5 hal)
            have HRL : Hid (Row (wv.alloc (.cells #[.int .i64 u.kind, .int .i64 u.fr, .int .i64 u.dst, .int .i64 u.ep, .int .i64 u.op, .int .i64 u.n, .bool u.flag, .string ⟨u.e.1.k.toArray⟩, .int .i64 u.e.1.s, .int .i64 u.e.1.u, .int .i64 u.e.1.o, .bool u.e.1.has, .slice u.e.2.1 u.e.1.v.length u.e.2.2, .slice u.lA u.l.length u.lc, .slice u.rA u.ns.length u.rc, .int .i64 u.each, .int .i64 u.keep] 51)) (wv.heap.size + 1) (some ⟨wv.heap.size, 0, none⟩) (msC [u])) := Lib.hid (ms_lit (by exact Blk.new wv 51 ⟨mL u⟩) (Nat.lt_succ_self _))
            have HDD := Lib.hid (HDv.out.below hal)
            have HALH := Lib.hid hal
            clear hmu h11 hl1 hl2 hown5 hoff5 HKN hal
            go_wp2_with (first
              | (refine wpList_load_mid rfl 51 _ rfl b2 (o2 + j * 17) rfl [.int .i64 u.kind, .int .i64 u.fr, .int .i64 u.dst, .int .i64 u.ep, .int .i64 u.op, .int .i64 u.n, .bool u.flag, .string ⟨u.e.1.k.toArray⟩, .int .i64 u.e.1.s, .int .i64 u.e.1.u, .int .i64 u.e.1.o, .bool u.e.1.has, .slice u.e.2.1 u.e.1.v.length u.e.2.2, .slice u.lA u.l.length u.lc, .slice u.rA u.ns.length u.rc, .int .i64 u.each, .int .i64 u.keep] _ (show _ from HCV.out) Tryz.underlying51 rfl (by kernel_rfl) ?_)
              | (at_builtin; refine wpList_appS (P := Tryz.prog) (by rfl) _ _ _ (by rfl) w3.heap.size 51 i1 (.agg #[.int .i64 0, .int .i64 0, .int .i64 0, .int .i64 0, .int .i64 0, .int .i64 0, .bool false, .string .empty, .int .i64 0, .int .i64 0, .int .i64 0, .bool false, .slice none 0 0, .slice none 0 0, .slice none 0 0, .int .i64 0, .int .i64 0]) 17 192 Tryz.underlying37 hi1 hk1 hk2 hk3 rfl (by decide) (.slice A5 N5 c5) N5 (msC tv) (by rfl) (by exact HOA.out) (wv.heap.size + 1) (some ⟨wv.heap.size, 0, none⟩) 1 1 (msC [u]) (by rfl) (by rfl) (by exact HRL.out) (msC_one _) (by have := HNB2.out; unfold maxLen; omega) (by have := HNB2.out; omega) (by exact HDD.out.bel.size) ?_))
            intro v' w7 hown hgr hat
            obtain ⟨A7, c7, rfl, _, _⟩ := ownShape hown
            have hat2 : (Value.slice A7 (N5 + 1) c7).ownBlock = (Value.slice A5 N5 c5).ownBlock ∨ (Value.slice A7 (N5 + 1) c7).ownBlock = some (wv.alloc (.cells #[.int .i64 u.kind, .int .i64 u.fr, .int .i64 u.dst, .int .i64 u.ep, .int .i64 u.op, .int .i64 u.n, .bool u.flag, .string ⟨u.e.1.k.toArray⟩, .int .i64 u.e.1.s, .int .i64 u.e.1.u, .int .i64 u.e.1.o, .bool u.e.1.has, .slice u.e.2.1 u.e.1.v.length u.e.2.2, .slice u.lA u.l.length u.lc, .slice u.rA u.ns.length u.rc, .int .i64 u.each, .int .i64 u.keep] 51)).heap.size := by
              rw [World.size_alloc]; first | exact hat | (rw [World.size_alloc] at hat; exact hat)
            have HP7 := Lib.hid (want_push2 HDD.out HOA.out HOF5.out hown hgr hat2)
            have HT7 : Hid (TvR w3 w7 F2 (tl ++ TS.take (j + 1)) A7 c7 (N5 + 1)) := Lib.hid (by
              refine ⟨tv ++ [u], by rw [List.length_append, HTL.out.1]; rfl, ?_, ?_, HP7.out.2⟩
              · rw [List.map_append, HTL.out.2, List.take_succ_eq_append_getElem HJA.out, ← List.append_assoc, List.map_append, List.map_append, List.map_append]
                congr 1
                show [mP u] = [toldM _]
                rw [HMU.out]
              · show w7.ownsRow _ _ _ _ _ ((tv ++ [u]).flatMap mL)
                rw [List.flatMap_append]
                exact hown)
            have HK7 : Hid ((∀ b, ¬ OldB F2 w8 b → b < w9.heap.size → w7.heap[b]? = w9.heap[b]?) ∧ w9.heap.size ≤ w7.heap.size) := Lib.hid ⟨fun b h1 h2 => by
              have hbv : b < wv.heap.size := Nat.lt_of_lt_of_le h2 HKv.out.2
              have hne : some b ≠ (Value.slice A5 N5 c5).ownBlock := fun he => by
                cases A5 with
                | none => cases he
                | some a =>
                  have e2 : b = a.block := by simpa [Value.ownBlock] using he
                  rcases HAq.out a rfl with h5 | h5
                  · exact h1 (Or.inr (by omega))
                  · omega
              exact ((hgr.block b (by rw [World.size_alloc]; omega) hne).trans (HALH.out.block b hbv)).trans (HKv.out.1 b h1 h2), Nat.le_trans (Nat.le_trans HKv.out.2 HALH.out.size) hgr.size⟩
            have HA7 : Hid (∀ a, A7 = some a → a.block < w8.heap.size ∨ w9.heap.size ≤ a.block) := Lib.hid fun a ha => by
              subst ha
              rcases hat2 with h5 | h5
              · cases A5 with
                | none => cases h5
                | some a5 =>
                  have e2 : a.block = a5.block := by simpa [Value.ownBlock] using h5
                  rw [e2]; exact HAq.out a5 rfl
              · have e2 : a.block = (wv.alloc (.cells #[.int .i64 u.kind, .int .i64 u.fr, .int .i64 u.dst, .int .i64 u.ep, .int .i64 u.op, .int .i64 u.n, .bool u.flag, .string ⟨u.e.1.k.toArray⟩, .int .i64 u.e.1.s, .int .i64 u.e.1.u, .int .i64 u.e.1.o, .bool u.e.1.has, .slice u.e.2.1 u.e.1.v.length u.e.2.2, .slice u.lA u.l.length u.lc, .slice u.rA u.ns.length u.rc, .int .i64 u.each, .int .i64 u.keep] 51)).heap.size := by simpa [Value.ownBlock] using h5
                have := HKv.out.2
                have := HALH.out.size
                exact Or.inr (by omega)
            clear hown hgr hat hat2 l0 l1
            go_wp2
            go_roundw
            case rel => exact ⟨j + 1, by omega, by go_num, A7, c7, N5 + 1, rfl, Lib.hid HP7.out.1, HT7, HK7, HA7⟩
            case measure => simp [intOf]; omega
          · rw [h8] at l0
            have HTn : Hid (TvR w3 wv F2 (tl ++ TS.take (j + 1)) A5 c5 N5) := Lib.hid (by
              have h5 := HTv.out
              rw [hnil, List.take_nil] at h5 ⊢
              exact h5)
            clear h8 hnil HKN
            go_wp2
            go_roundw
            case rel => exact ⟨j + 1, by omega, by go_num, A5, c5, N5, rfl, HDv, HTn, HKv, HAq⟩
            case measure => simp [intOf]; omega
        · obtain ⟨w10, hw10⟩ : ∃ W, W = wr := ⟨_, rfl⟩
          subst hw10
          have hjN : j = N2 := by omega
          have HTf : Hid (TvR w3 w10 F2 (tl ++ TS) A5 c5 N5) := Lib.hid (by
            have h5 := HTq.out
            have h6 : TS.take j = TS := by
              rcases HUL2.out.2 with h7 | h7
              · rw [hjN, h7]; exact List.take_length
              · rw [h7]; exact List.take_nil
            rw [h6] at h5
            exact h5)
          obtain ⟨TL, hTL⟩ : ∃ T, tl ++ TS = T := ⟨_, rfl⟩
          rw [hTL] at HTf
          have HLT : Hid (LastI R.S TL (k + 1)) := Lib.hid (by rw [← hTL]; exact HLS.out)
          subst hjN
          have hN5i : (N5 : Int) ≤ 676622540151 := by
            have h1 := HTf.out.len
            have h2 := HLT.out.many
            have h3 := HNL.out
            omega
          have hN5i0 : (0 : Int) ≤ (N5 : Int) := by omega
          clear HTq HKq HAq hTL
          go_wp2_with fail
          go_loopw [10] (fun i wq => ∃ j2 : Nat, j2 ≤ N5 ∧ i = .int .i64 j2 ∧ Hid (∃ F5, Sv1 w3 wq F5 g2 R.S R.ps q2 ∧ TvR w3 wq F5 TL A5 c5 N5)) (fun i _ => N5 - (intOf i).toNat)
          case atStart => exact ⟨0, Nat.zero_le _, rfl, Lib.hid ⟨F2, HDq.out, HTf.out⟩⟩
          case round =>
            obtain ⟨j2, hj2, rfl, HX⟩ := hrel
            obtain ⟨F5, hd5, ht5⟩ := HX.out
            have HD5 := Lib.hid hd5
            have HT5 := Lib.hid ht5
            clear HX hd5 ht5 HDq HTf
            by_cases hlt5 : j2 < N5
            · have hjt : j2 < TL.length := by rw [← HT5.out.len]; exact hlt5
              obtain ⟨b5, o5, rfl, hb5, k7, k8, k9, k10⟩ := HT5.out.cells hjt
              have hak := HLT.out.okt TL[j2] (List.getElem_mem hjt)
              have hge := ((HLT.out.inv.lasts HD5.out.at_.ok).2 TL[j2] (List.getElem_mem hjt)).ge
              obtain ⟨a, ha⟩ : ∃ a, TL[j2]'hjt = a := ⟨_, rfl⟩
              rw [ha] at k7 k8 k9 k10 hak hge
              have HAK := Lib.hid hak
              have HJT := Lib.hid (And.intro hjt ha)
              have hgk := ofT_key R.S.L a.k
              obtain ⟨y, hy⟩ : ∃ y, ofT R.S.L a.k = y := ⟨_, rfl⟩
              rw [hy] at hge
              obtain ⟨cc, hcc⟩ : ∃ q, cmpT y.s y.u y.o a.s a.u a.o = q := ⟨_, rfl⟩
              rw [hcc] at hge
              have HCC := Lib.hid hcc
              have HY := Lib.hid hy
              have hji : (0 : Int) ≤ (j2 : Int) := by omega
              have hji2 : (j2 : Int) < (N5 : Int) := by omega
              clear hak ha hgk hy hcc k8 k9 k10
              go_wp2_with fail
              refine (look14 a.k wr).mono ?_
              rintro e wl ⟨rfl, hbl⟩
              have HDl := Lib.hid (HD5.out.below hbl)
              have HTl := Lib.hid (HT5.out.below hbl)
              have HLK := Lib.hid (svlook_any F5 g2 q2 R.S R.ps a.k HAK.out.key.1 HAK.out.key.2 wl (HT.out.below HDl.out.bel) HDl.out.at_)
              clear hbl HD5 HT5 k7
              go_wp2_with fail
              refine HLK.out.mono ?_
              rintro e wm ⟨F6, ur, A6, c6, rfl, hu, hn, hf, hs, htt⟩
              have HDm := Lib.hid (HDl.out.to hf hs htt)
              have HTm := Lib.hid (HTl.out.to hf htt)
              obtain ⟨hl1, b6, o6, rfl, x0, _, _, _, x8, x9, x10⟩ := msN_one hn hu
              have e0 : (foundM R.S (mP (lkMV a.k))).kind = 8 := rfl
              have e1 : (foundM R.S (mP (lkMV a.k))).e = y := HY.out
              rw [e0] at x0
              rw [e1] at x8 x9 x10
              rw [hl1]
              obtain ⟨b7, o7, hA7, _, _, y8, y9, y10⟩ := HTm.out.cells HJT.out.1
              rw [HJT.out.2] at y8 y9 y10
              injection hA7 with hA7
              injection hA7 with hA7 hA8
              subst hA7
              subst hA8
              have l0 := later_cell x0
              have l8 := later_cell x8
              have l9 := later_cell x9
              have l10 := later_cell x10
              have m8 := later_cell y8
              have m9 := later_cell y9
              have m10 := later_cell y10
              have hccn : decide (cc < 0) = false := decide_eq_false (by omega)
              clear hu hn hf hs htt hl1 x0 x8 x9 x10 y8 y9 y10 e0 e1 HDl HTl HLK
              go_wp2_with fail
              refine wp_region_later (by kernel_rfl) (by kernel_rfl) ?_
              repeat (go_big_quiet_step (first
                | (go_at_call 22; exact later_of (refcompare_val _ _ _ _ _ _ _ HCC _))))
              refine wpQuiet_nil ?_
              intro w' hw'
              obtain ⟨p, rfl⟩ := hw'
              have HDp := Lib.hid (HDm.out.below p.bel)
              have HTp := Lib.hid (HTm.out.below p.bel)
              clear l0 l8 l9 l10 m8 m9 m10
              go_wp2
              go_roundw
              case rel => exact ⟨j2 + 1, by omega, by go_num, Lib.hid ⟨F6, HDp.out, HTp.out⟩⟩
              case measure => simp [intOf]; omega
            · have HKE : Hid (LastV w3 wr g2 (k + 1) A5 c5 N5) := Lib.hid ⟨F5, R.S, R.ps, q2, TL, HQ9.out, HD5.out, HRR.out, HLT.out, HT5.out⟩
              go_wp2
              go_roundw
              case rel => exact ⟨k + 1, by omega, by go_num, g2, A5, c5, N5, rfl, rfl, HKE⟩
              case measure => simp [intOf]; omega
    · obtain rfl : k = n := by omega
      go_wp2_with fail
      refine (FIN.out _ (HB3.out.trans (HD.out.bel.mono HB3.out.size))).mono ?_
      rintro e wf ⟨rfl, hbf⟩
      have HBF := Lib.hid hbf
      clear hbf
      go_wp2
      go_ret
      exact ⟨rfl, HBF.out⟩
end Go.Proofs.YtkdpfjenjcpcfaaGreatDoor
