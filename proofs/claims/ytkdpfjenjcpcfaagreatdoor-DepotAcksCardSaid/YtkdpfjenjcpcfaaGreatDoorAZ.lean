/- Which entries may be, told by the reference: whatever lengths (written by tools/gen_rrg8.py). -/
/- SvAk: The law DepotAcks, walked (written by tools/gen_sva.py). -/
import Derived.Test.YtkdpfjenjcpcfaaGreatDoorTg
import Derived.Test.YtkdpfjenjcpcfaaGreatDoorSZ4
import Derived.Deep.DeepCutAuto
import Derived.Deep.RegionHeld3
namespace Go.Proofs.YtkdpfjenjcpcfaaGreatDoor
open Go.RowKit Mem
set_option maxRecDepth 10000
set_option maxHeartbeats 4000000
theorem refright_big (key : ByteArray) (s u o : Int) (has : Bool) (A : Option Addr) (m c : Nat) (hm : (m : Int) ≤ 9223372036854775807) (hsz : (key.size : Int) ≤ 9223372036854775807) (w : World) :
    Calls Tryz.prog 30 #[entV key s u o has A m c] w (IsI (rightE key.size m s u o has) w) := by
  have HB : Hid (Below w.heap.size w (w.alloc (entO key s u o has A m c))) := Lib.hid ((Below.refl _ _).alloc (Nat.le_refl _) _)
  obtain ⟨hk, hv⟩ := ways key.size m has
  rcases hk with hk | hk | ⟨hk, hk2⟩
  · clear hv
    go_enter Tryz.func30, Tryz.ntmps30
    go_wp2
    go_ret
    exact isI_of (rightE_no (by rintro ⟨h1, _⟩; omega)).symm HB.out
  · clear hv
    go_enter Tryz.func30, Tryz.ntmps30
    go_wp2
    go_ret
    exact isI_of (rightE_no (by rintro ⟨_, h1, _⟩; omega)).symm HB.out
  rcases hv with hv | ⟨hv, rfl⟩ | ⟨hv, rfl, rfl⟩ | ⟨hv, hv2, rfl⟩
  · go_enter Tryz.func30, Tryz.ntmps30
    go_wp2
    go_ret
    exact isI_of (rightE_no (by rintro ⟨_, _, h1, _⟩; omega)).symm HB.out
  · rcases checkT_02 s u o with h0 | h0
    · have H0 := Lib.hid h0
      clear h0
      cases h1 : (s == 0)
      · have hq : (s == 0) = false := h1
        have H1 : Hid ((s == 0) = false) := Lib.hid h1
        clear h1
        go_enter Tryz.func30, Tryz.ntmps30
        go_wp2_with (go_at_call 57; refine (refcheck_val _ _ _ _ (by assumption) _).mono ?_; rintro e w2 ⟨rfl, hb⟩; obtain ⟨hc, hf⟩ := bcell hb; have HB2 := Lib.hid (HB.out.trans (hb.mono HB.out.size)); clear hb)
        go_ret
        exact isI_of ((rightE_check (by refine ⟨by omega, by omega, by omega, by simp, ?_⟩; rintro ⟨h1, h2⟩; exact hid_some H1 h1)).trans H0.out).symm HB2.out
      · have H1 : Hid ((s == 0) = true) := Lib.hid h1
        go_enter Tryz.func30, Tryz.ntmps30
        go_wp2_with (go_at_call 57; refine (refcheck_val _ _ _ _ (by assumption) _).mono ?_; rintro e w2 ⟨rfl, hb⟩; obtain ⟨hc, hf⟩ := bcell hb; have HB2 := Lib.hid (HB.out.trans (hb.mono HB.out.size)); clear hb)
        go_ret
        exact isI_of (rightE_no (by rintro ⟨h1, h2, h3, h4, h5, h6⟩; exact h6 ⟨hid_nought H1, rfl⟩)).symm HB2.out
    · have H0 := Lib.hid h0
      clear h0
      go_enter Tryz.func30, Tryz.ntmps30
      go_wp2_with (go_at_call 57; refine (refcheck_val _ _ _ _ (by assumption) _).mono ?_; rintro e w2 ⟨rfl, hb⟩; obtain ⟨hc, hf⟩ := bcell hb; have HB2 := Lib.hid (HB.out.trans (hb.mono HB.out.size)); clear hb)
      go_ret
      exact isI_of (rightE_no (by rintro ⟨_, _, _, _, h1, _⟩; have := H0.out; omega)).symm HB2.out
  · rcases checkT_02 s u o with h0 | h0
    · have H0 := Lib.hid h0
      clear h0
      cases h1 : (s == 0)
      all_goals
        go_enter Tryz.func30, Tryz.ntmps30
        go_wp2_with (go_at_call 57; refine (refcheck_val _ _ _ _ (by assumption) _).mono ?_; rintro e w2 ⟨rfl, hb⟩; obtain ⟨hc, hf⟩ := bcell hb; have HB2 := Lib.hid (HB.out.trans (hb.mono HB.out.size)); clear hb)
        go_ret
        exact isI_of ((rightE_check (by refine ⟨by omega, by omega, by omega, by simp, ?_⟩; rintro ⟨h1, h2⟩; simp at h2)).trans H0.out).symm HB2.out
    · have H0 := Lib.hid h0
      clear h0
      go_enter Tryz.func30, Tryz.ntmps30
      go_wp2_with (go_at_call 57; refine (refcheck_val _ _ _ _ (by assumption) _).mono ?_; rintro e w2 ⟨rfl, hb⟩; obtain ⟨hc, hf⟩ := bcell hb; have HB2 := Lib.hid (HB.out.trans (hb.mono HB.out.size)); clear hb)
      go_ret
      exact isI_of (rightE_no (by rintro ⟨_, _, _, _, h1, _⟩; have := H0.out; omega)).symm HB2.out
  · go_enter Tryz.func30, Tryz.ntmps30
    go_wp2
    go_ret
    exact isI_of (rightE_no (by rintro ⟨_, _, _, h1, _⟩; simp at h1; omega)).symm HB.out
end Go.Proofs.YtkdpfjenjcpcfaaGreatDoor
namespace Go.Proofs.YtkdpfjenjcpcfaaGreatDoor
open Go.RowKit Go.ChangeShapes Mem Be Word Frm Go.Maps Rg
set_option maxRecDepth 100000
set_option maxHeartbeats 2000000
set_option linter.unusedVariables false
def flMV (x : EV) (ff : Int) : MV := ⟨10, ff, 1, 0, 0, 0, false, x, none, [], 0, none, [], 0, 0, 0⟩
theorem fl_check (x : EV) (ff : Int) (h : okE x.1) (h0 : 0 ≤ ff) (h1 : ff ≤ 255) : checkM (mP (flMV x ff)) = 0 := by
  have h2 : rE (mP (flMV x ff)) = true := decide_eq_true h
  have h3 : inR ff 1048575 = true := decide_eq_true ⟨h0, by omega⟩
  have h4 : headR (mP (flMV x ff)) = true := by
    show (exK 10 && inR ff 1048575 && inR 1 1048575 && inR 0 1099511627775 && inR 0 1099511627775) = true
    rw [h3]; rfl
  have hm : okM (mP (flMV x ff)) = true := by
    unfold okM
    rw [h4, show fldB (hasE (mP (flMV x ff)).kind) (rE (mP (flMV x ff))) (bE (mP (flMV x ff))) = true from h2]
    rfl
  unfold checkM
  rw [if_pos hm]
theorem flush_acks {S : St8} {ps : Ps14} (x : EV) (ff : Int) (h0 : 0 ≤ ff) (h1 : ff ≤ 255) (hb : (allB S.rs).length + 65546 ≤ 4194304) :
    (handS S ps (mP (flMV x ff))).1.acks = S.acks ++ (if mayP x.1 ff then [ackOf x.1 ff] else []) ∧ (allB (handS S ps (mP (flMV x ff))).1.rs).length ≤ (allB S.rs).length + 65546 ∧ (handS S ps (mP (flMV x ff))).2.length ≤ ps.length + 1 ∧ handM S (mP (flMV x ff)) = [] := by
  have hm : handM S (mP (flMV x ff)) = [] := if_neg fun h => absurd h.2.2 (by show ¬ ((10 : Int) = 7); decide)
  by_cases hc : checkM (mP (flMV x ff)) = 0
  · have e : handS S ps (mP (flMV x ff)) = ((putS S x.1 ff).1, putP S ps x.1 ff) := if_pos ⟨hc, rfl, rfl⟩
    rw [e]
    have h2 := put_acks (S := S) x.1 ff hb
    exact ⟨h2.1, h2.2, putP_le _ _ _ _, hm⟩
  · have e : handS S ps (mP (flMV x ff)) = (S, ps) := if_neg fun h => hc h.1
    have hn : ¬ mayP x.1 ff := fun h => hc (fl_check x ff h.1 h0 h1)
    rw [e, if_neg hn, List.append_nil]
    exact ⟨rfl, by show (allB S.rs).length ≤ _; omega, by show ps.length ≤ _; omega, hm⟩
theorem flMV_m (x : EV) (ff : Int) {w : World} (h : EvB w x) : MsgM w (flMV x ff) := ⟨h, ⟨Row.nil _ _ _, by intro x hx; cases hx⟩, by show (0 : Nat) ≤ _; omega, Row.nil _ _ _, by show (0 : Nat) ≤ _; omega⟩
/-- Acks that are wanted, beside a server. -/
structure WantA (w0 w : World) (F : Nat → Prop) (S : St8) (ps : Ps14) (k : Nat) (A : Option Addr) (c N : Nat) : Prop where
  len : N = S.acks.length
  room : (allB S.rs).length ≤ k * 65546
  many : S.acks.length ≤ k
  pm : ps.length ≤ k
  keys : KeyS S
  own : w.ownsRow w0.heap.size 51 17 (.slice A N c) N (fmsC S.acks)
  off : ∀ a, A = some a → ¬ F a.block
theorem own_touch14 {w0 w w1 : World} {F F' : Nat → Prop} {A : Option Addr} {c N : Nat} {xs : List Value} (ho : w.ownsRow w0.heap.size 51 17 (.slice A N c) N xs) (hoff : ∀ a, A = some a → ¬ F a.block) (hf : ∀ k, F' k → F k ∨ w.heap.size ≤ k) (ht : Touch F w w1) :
    w1.ownsRow w0.heap.size 51 17 (.slice A N c) N xs ∧ ∀ a, A = some a → ¬ F' a.block := by
  refine ⟨ownKeep ho fun a ha => ht.block _ (ownIn ho ha).2.1 (hoff a ha), fun a ha hf' => ?_⟩
  rcases hf _ hf' with h | h
  · exact hoff a ha h
  · have := (ownIn ho ha).2.1; omega
/-- One more is wanted. -/
theorem want_push {w0 W w7 : World} {F : Nat → Prop} {g c4 N4 c7 : Nat} {S : St8} {ps : Ps14} {A4 A7 : Option Addr} {xs ys : List Value} (h : Sv1 w0 W F g S ps 0) (ho : W.ownsRow w0.heap.size 51 17 (.slice A4 N4 c4) N4 xs) (hoff : ∀ a, A4 = some a → ¬ F a.block)
    (hown : w7.ownsRow w0.heap.size 51 17 (.slice A7 (N4 + 1) c7) (N4 + 1) ys) (hgr : W.grownBy w7 (Value.slice A4 N4 c4).ownBlock) (hat : (Value.slice A7 (N4 + 1) c7).ownBlock = (Value.slice A4 N4 c4).ownBlock ∨ (Value.slice A7 (N4 + 1) c7).ownBlock = some W.heap.size) :
    Sv1 w0 w7 F g S ps 0 ∧ ∀ a, A7 = some a → ¬ F a.block := by
  have hnb : ∀ j, F j → some j ≠ (Value.slice A4 N4 c4).ownBlock := fun j hj he => by
    cases A4 with
    | none => cases he
    | some a =>
      have e2 : j = a.block := by simpa [Value.ownBlock] using he
      subst e2
      exact hoff a rfl hj
  refine ⟨⟨h.new, h.at_.keep hgr.size (fun j hj => hgr.block j (h.at_.lt j hj) (hnb j hj)), h.bel.grown hgr h.bel.size fun j hj => (ho.lt j hj).1⟩, fun a ha hf => ?_⟩
  subst ha
  rcases hat with h1 | h1
  · have h9 : (Value.slice A4 N4 c4).ownBlock = some a.block := h1.symm
    exact hnb _ hf h9.symm
  · have h9 : a.block = W.heap.size := by simpa [Value.ownBlock] using h1
    have := h.at_.lt _ hf
    omega
theorem acks14_walk (A A' : Option Addr) (es : List EV) (fr : List UInt8) (n c m c' : Nat) (hn : n = es.length) (hm : m = fr.length) (hl : n ≤ maxLen) (hl' : m ≤ maxLen) (w : World) (ht : KT w) (h : EntsB w A es) (h' : Row w w.heap.size A' (fr.map byteV)) :
    Calls Tryz.prog 7 #[.slice A n c, .slice A' m c'] w (IsT14 w) := by
  obtain ⟨i1, hi1, hk1, hk2, hk3⟩ := info_parts info_msg14
  unfold maxLen at hl hl'
  have HIN := Lib.hid h
  have HFR := Lib.hid h'
  have HN := Lib.hid hn
  have HM := Lib.hid hm
  have HT := Lib.hid ht
  have hni0 : (0 : Int) ≤ (n : Int) := by omega
  have hmi0 : (0 : Int) ≤ (m : Int) := by omega
  have hni1 : (n : Int) ≤ 9223372036854775807 := by omega
  have hmi1 : (m : Int) ≤ 9223372036854775807 := by omega
  have fin : ∀ w1, Below w.heap.size w w1 → Calls Tryz.prog 10 #[] w1 (IsT14 w) := fun w1 hb => (known14_any w1 (ht.below hb)).mono fun e w2 ⟨he, hb2⟩ => ⟨he, hb.trans (hb2.mono hb.size)⟩
  have FIN := Lib.hid fin
  clear fin h h' ht hn hm hl hl'
  by_cases h20 : 20 < n
  · have h20i : (20 : Int) < (n : Int) := by omega
    go_enter Tryz.func7, Tryz.ntmps7
    go_wp2_with fail
    refine (FIN.out _ (Below.refl _ _)).mono ?_
    rintro e wf ⟨rfl, hbf⟩
    have HBF := Lib.hid hbf
    clear hbf
    go_wp2
    go_ret
    exact ⟨rfl, HBF.out⟩
  have h20i : (n : Int) ≤ 20 := by omega
  by_cases hm0 : m = 0
  · have hm0i : ((m : Int) == 0) = true := by rw [hm0]; rfl
    go_enter Tryz.func7, Tryz.ntmps7
    go_wp2_with fail
    refine (FIN.out _ (Below.refl _ _)).mono ?_
    rintro e wf ⟨rfl, hbf⟩
    have HBF := Lib.hid hbf
    clear hbf
    go_wp2
    go_ret
    exact ⟨rfl, HBF.out⟩
  have hm0i : ((m : Int) == 0) = false := by rw [beq_eq_false_iff_ne]; omega
  by_cases hm40 : 40 < m
  · have hm40i : (40 : Int) < (m : Int) := by omega
    go_enter Tryz.func7, Tryz.ntmps7
    go_wp2_with fail
    refine (FIN.out _ (Below.refl _ _)).mono ?_
    rintro e wf ⟨rfl, hbf⟩
    have HBF := Lib.hid hbf
    clear hbf
    go_wp2
    go_ret
    exact ⟨rfl, HBF.out⟩
  have hm40i : (m : Int) ≤ 40 := by omega
  have HN20 : Hid (n ≤ 20) := Lib.hid (by omega)
  have HM0 : Hid (0 < m) := Lib.hid (by omega)
  clear h20 hm40
  go_enter Tryz.func7, Tryz.ntmps7
  go_wp2_with fail
  refine (newsv_any w).mono ?_
  rintro e w1 ⟨g, F0, rfl, hF, hd, hb⟩
  have HK0 : Hid (Sv1 w w1 F0 g st0 [] 0) := Lib.hid ⟨hF, hd, hb⟩
  have HW0 : Hid (WantA w w1 F0 st0 [] 0 none 0 0) := Lib.hid ⟨rfl, by decide, by decide, by decide, keyS_st0, World.ownsRow_nil _ _ _ _, fun a ha => by cases ha⟩
  simp only [id]
  clear hF hd hb hm0
  go_wp2_with fail
  go_loopw [6, 7] (fun v i wr => ∃ k : Nat, k ≤ n ∧ i = .int .i64 k ∧ ∃ A4 c4 N4, v = .slice A4 N4 c4 ∧ Hid (∃ F S ps, Sv1 w wr F g S ps 0 ∧ WantA w wr F S ps k A4 c4 N4)) (fun _ i _ => n - (intOf i).toNat)
  case atStart => exact ⟨0, by omega, rfl, none, 0, 0, rfl, Lib.hid ⟨F0, st0, [], HK0.out, HW0.out⟩⟩
  case round =>
    obtain ⟨k, hk, rfl, A4, c4, N4, rfl, HK⟩ := hrel
    obtain ⟨F, S, ps, hd, hw⟩ := HK.out
    have HD := Lib.hid hd
    have HW := Lib.hid hw
    clear HK hd hw HK0 HW0
    by_cases hlt : k < n
    · have hkr : k < es.length := by rw [← HN.out]; exact hlt
      obtain ⟨b, o, rfl, _, hc⟩ := ents_open HIN.out.row (by omega)
      have hev := (HIN.out.below HD.out.bel).val es[k] (List.getElem_mem hkr)
      have hap := RowN.of_low (F := F) ((HIN.out.val es[k] (List.getElem_mem hkr)).row.below HD.out.bel) HD.out.bel.size HD.out.new
      have hck := hc k hkr
      obtain ⟨x, hx⟩ : ∃ p, es[k]'hkr = p := ⟨_, rfl⟩
      rw [hx] at hck hev hap
      have HX : Hid (∀ W, Below w.heap.size w W → W.cell? ⟨b, o + k * 6, none⟩ = some (.string ⟨x.1.k.toArray⟩) ∧ W.cell? ⟨b, o + k * 6 + 1, none⟩ = some (.int .i64 x.1.s) ∧ W.cell? ⟨b, o + k * 6 + 2, none⟩ = some (.int .i64 x.1.u) ∧ W.cell? ⟨b, o + k * 6 + 3, none⟩ = some (.int .i64 x.1.o) ∧ W.cell? ⟨b, o + k * 6 + 4, none⟩ = some (.bool x.1.has) ∧ W.cell? ⟨b, o + k * 6 + 5, none⟩ = some (.slice x.2.1 x.1.v.length x.2.2)) := Lib.hid fun W' hw => by
        obtain ⟨b0, b1, b2, b3, b4, b5⟩ := hck
        have hcc := fun (q : Nat) (v : Value) (hv : w.cell? ⟨b, q, none⟩ = some v) => (hw.cell (p := ⟨b, q, none⟩) (block_lt hv)).trans hv
        exact ⟨hcc _ _ b0, hcc _ _ b1, hcc _ _ b2, hcc _ _ b3, hcc _ _ b4, hcc _ _ b5⟩
      obtain ⟨a0, a1, a2, a3, a4, a5⟩ := HX.out wr HD.out.bel
      have hki : (0 : Int) ≤ (k : Int) := by omega
      have hki2 : (k : Int) < (n : Int) := by omega
      by_cases h100 : (100 : Int) < (x.1.v.length : Int)
      · clear hc hck hx
        go_wp2_with fail
        refine (FIN.out _ HD.out.bel).mono ?_
        rintro e wf ⟨rfl, hbf⟩
        have HBF := Lib.hid hbf
        clear hbf
        go_wp2
        go_ret
        exact ⟨rfl, HBF.out⟩
      have hv100 : (x.1.v.length : Int) ≤ 100 := by omega
      obtain ⟨j, hj⟩ : ∃ j, k % m = j := ⟨_, rfl⟩
      have hjm : j < fr.length := by rw [← HM.out, ← hj]; exact Nat.mod_lt _ HM0.out
      have hmod : ((k : Int)).tmod (m : Int) = (j : Int) := by rw [← hj]; exact (Int.ofNat_tmod k m).symm
      obtain ⟨b', o', hA', _, hcf⟩ := (HFR.out.below HD.out.bel).open_ (by rw [List.length_map]; omega)
      have q0 := hcf j (by rw [List.length_map]; exact hjm)
      rw [List.getElem_map] at q0
      unfold byteV at q0
      obtain ⟨ff, hff⟩ : ∃ z : Int, ((fr[j]'hjm).toNat : Int) = z := ⟨_, rfl⟩
      rw [hff] at q0
      have hf0 : 0 ≤ ff := by omega
      have hf1 : ff ≤ 255 := by have := (fr[j]'hjm).toNat_lt; omega
      have hji : (0 : Int) ≤ (j : Int) := by omega
      have hji2 : (j : Int) < (m : Int) := by have := HM.out; omega
      subst hA'
      have HEV := Lib.hid hev
      have HAP := Lib.hid hap
      have HJE : Hid (j = k % m) := Lib.hid hj.symm
      have hwrap : IntKind.i64.wrap ff = ff := IntWalk.i64_in _ (by omega)
      have hb1 : b < wr.heap.size := block_lt a0
      have hb2 : b' < wr.heap.size := block_lt q0
      have a0z := cell_al (.cells #[.int .i64 0, .int .i64 0, .int .i64 0, .int .i64 0, .int .i64 0, .int .i64 0, .bool false, .string ⟨#[]⟩, .int .i64 0, .int .i64 0, .int .i64 0, .bool false, .slice none 0 0, .slice none 0 0, .slice none 0 0, .int .i64 0, .int .i64 0] 51) a0
      have a1z := cell_al (.cells #[.int .i64 0, .int .i64 0, .int .i64 0, .int .i64 0, .int .i64 0, .int .i64 0, .bool false, .string ⟨#[]⟩, .int .i64 0, .int .i64 0, .int .i64 0, .bool false, .slice none 0 0, .slice none 0 0, .slice none 0 0, .int .i64 0, .int .i64 0] 51) a1
      have a2z := cell_al (.cells #[.int .i64 0, .int .i64 0, .int .i64 0, .int .i64 0, .int .i64 0, .int .i64 0, .bool false, .string ⟨#[]⟩, .int .i64 0, .int .i64 0, .int .i64 0, .bool false, .slice none 0 0, .slice none 0 0, .slice none 0 0, .int .i64 0, .int .i64 0] 51) a2
      have a3z := cell_al (.cells #[.int .i64 0, .int .i64 0, .int .i64 0, .int .i64 0, .int .i64 0, .int .i64 0, .bool false, .string ⟨#[]⟩, .int .i64 0, .int .i64 0, .int .i64 0, .bool false, .slice none 0 0, .slice none 0 0, .slice none 0 0, .int .i64 0, .int .i64 0] 51) a3
      have a4z := cell_al (.cells #[.int .i64 0, .int .i64 0, .int .i64 0, .int .i64 0, .int .i64 0, .int .i64 0, .bool false, .string ⟨#[]⟩, .int .i64 0, .int .i64 0, .int .i64 0, .bool false, .slice none 0 0, .slice none 0 0, .slice none 0 0, .int .i64 0, .int .i64 0] 51) a4
      have a5z := cell_al (.cells #[.int .i64 0, .int .i64 0, .int .i64 0, .int .i64 0, .int .i64 0, .int .i64 0, .bool false, .string ⟨#[]⟩, .int .i64 0, .int .i64 0, .int .i64 0, .bool false, .slice none 0 0, .slice none 0 0, .slice none 0 0, .int .i64 0, .int .i64 0] 51) a5
      have q0z := cell_al (.cells #[.int .i64 0, .int .i64 0, .int .i64 0, .int .i64 0, .int .i64 0, .int .i64 0, .bool false, .string ⟨#[]⟩, .int .i64 0, .int .i64 0, .int .i64 0, .bool false, .slice none 0 0, .slice none 0 0, .slice none 0 0, .int .i64 0, .int .i64 0] 51) q0
      clear hc hck hx hcf hff hev hap hj hjm
      go_upto_region 10 with fail
      go_cut [8] (fun p wx => p = .pointer (some ⟨wr.heap.size, 0, none⟩) ∧ wx = (wr.alloc (.cells #[.int .i64 10, .int .i64 ff, .int .i64 1, .int .i64 0, .int .i64 0, .int .i64 0, .bool false, .string ⟨x.1.k.toArray⟩, .int .i64 x.1.s, .int .i64 x.1.u, .int .i64 x.1.o, .bool x.1.has, .slice x.2.1 x.1.v.length x.2.2, .slice none 0 0, .slice none 0 0, .int .i64 0, .int .i64 0] 51)).drew)
      case first =>
        go_region
        all_goals
          go_wp2_with fail
          go_meet
          exact ⟨rfl, rfl⟩
      case rest =>
      obtain ⟨rfl, hwx⟩ := hcut
      have hbc : Below wr.heap.size wr wc := by rw [hwx]; exact ((Below.refl _ _).alloc (Nat.le_refl _) _).drew
      have HKC : Hid (Blk wc wr.heap.size 51 #[.int .i64 10, .int .i64 ff, .int .i64 1, .int .i64 0, .int .i64 0, .int .i64 0, .bool false, .string ⟨x.1.k.toArray⟩, .int .i64 x.1.s, .int .i64 x.1.u, .int .i64 x.1.o, .bool x.1.has, .slice x.2.1 x.1.v.length x.2.2, .slice none 0 0, .slice none 0 0, .int .i64 0, .int .i64 0]) := Lib.hid (by rw [hwx]; exact (Blk.new _ _ _).drew)
      have HDC := Lib.hid (HD.out.below hbc)
      have hroom := HW.out.room
      have hk20 := HN20.out
      have hfa := flush_acks (S := S) (ps := ps) x ff hf0 hf1 (by omega)
      have HC0 := svhand_any F g 0 S ps (flMV x ff) (by have := HW.out.many; omega) (by have := HW.out.pm; omega) wc (HT.out.below HDC.out.bel) HDC.out.at_ (flMV_m x ff (HEV.out.below hbc)) (HAP.out.touch (Touch.ofBelow hbc))
      obtain ⟨⟨S2, p2⟩, hR⟩ : ∃ R, handS S ps (mP (flMV x ff)) = R := ⟨_, rfl⟩
      rw [hfa.2.2.2, hR] at HC0
      rw [hR] at hfa
      simp only at HC0 hfa
      unfold flMV at HC0
      simp only [List.length_nil] at HC0
      have HC := Lib.hid HC0
      have HFA := Lib.hid hfa
      have HWO := Lib.hid (And.intro (ownLater HW.out.own hbc) HW.out.off)
      have HKS : Hid (KeyS S2) := Lib.hid fun a ha => by
        rw [hfa.1] at ha
        rcases List.mem_append.1 ha with ha | ha
        · exact HW.out.keys a ha
        · by_cases hmay : mayP x.1 ff
          · rw [if_pos hmay] at ha
            obtain rfl : a = ackOf x.1 ff := by simpa using ha
            exact ⟨(rightE_yes hmay.1).1, (rightE_yes hmay.1).2.1⟩
          · rw [if_neg hmay] at ha; cases ha
      clear hwx hbc hroom hfa HC0 hR a0 a1 a2 a3 a4 a5 q0 a0z a1z a2z a3z a4z a5z q0z hmod hwrap hji hji2 hk20
      go_wp2_with (refine wpList_load_row rfl 51 _ rfl _ rfl _ _ _ _ (show _ = _ from HKC.out) Tryz.underlying51 rfl (by kernel_rfl) ?_)
      refine HC.out.mono ?_
      rintro e w4 ⟨F4, us, A5, c5, rfl, hu, hn, hf, hs, htt⟩
      obtain rfl : us = [] := msN_none (F := F4) (w := w4) (A := A5) hu
      have HD4 := Lib.hid (HDC.out.to hf hs htt)
      have ho4 := own_touch14 HWO.out.1 HWO.out.2 hf htt
      have HO4 := Lib.hid ho4
      have HNF : Hid (¬ F4 wr.heap.size ∧ ¬ F wr.heap.size) := Lib.hid (by
        have h1 : ¬ F wr.heap.size := fun h => by have := HD.out.at_.lt _ h; omega
        refine ⟨fun h => ?_, h1⟩
        rcases hf _ h with h | h
        · exact h1 h
        · have := HKC.out.lt; omega)
      have HK4 : Hid (Blk w4 wr.heap.size 51 #[.int .i64 10, .int .i64 ff, .int .i64 1, .int .i64 0, .int .i64 0, .int .i64 0, .bool false, .string ⟨x.1.k.toArray⟩, .int .i64 x.1.s, .int .i64 x.1.u, .int .i64 x.1.o, .bool x.1.has, .slice x.2.1 x.1.v.length x.2.2, .slice none 0 0, .slice none 0 0, .int .i64 0, .int .i64 0]) := Lib.hid ((htt.block _ HKC.out.lt HNF.out.2).trans HKC.out)
      have HRT0 := refright_big ⟨x.1.k.toArray⟩ x.1.s x.1.u x.1.o x.1.has x.2.1 x.1.v.length x.2.2 HEV.out.leni (by have := HEV.out.kleni; rw [ba_len12]; exact this) w4
      rw [ba_len12] at HRT0
      unfold entV at HRT0
      obtain ⟨a0, a1, a2, a3, a4, a5⟩ := HX.out w4 HD4.out.bel
      clear hu hn hf hs htt ho4 HC HKC HDC HWO
      by_cases hmay : mayP x.1 ff
      · have hr0 : rightE x.1.k.length x.1.v.length x.1.s x.1.u x.1.o x.1.has = 0 := hmay.1
        rw [hr0] at HRT0
        have HRT := Lib.hid HRT0
        have hs0 : (0 : Int) < x.1.s := by
          have h1 := (okE_nums hmay.1).1
          have h2 := hmay.2.1
          omega
        have HMAY := Lib.hid hmay
        clear hmay hr0 HRT0
        go_wp2_with fail
        refine HRT.out.mono ?_
        rintro e w5 ⟨rfl, hb5⟩
        have HD5 := Lib.hid (HD4.out.below hb5)
        have HO5 := Lib.hid (And.intro (ownLater HO4.out.1 hb5) HO4.out.2)
        have HK5 := Lib.hid (HK4.out.below hb5 HK4.out.lt)
        obtain ⟨a0, a1, a2, a3, a4, a5⟩ := HX.out w5 HD5.out.bel
        have k1 : w5.cell? ⟨wr.heap.size, 1, none⟩ = some (.int .i64 ff) := HK5.out.cell 1
        clear hb5 HRT HD4 HO4 HK4
        have HBD : Hid (Below w5.heap.size w5 ((w5.alloc (.cells #[.int .i64 11, .int .i64 1, .int .i64 ff, .int .i64 0, .int .i64 0, .int .i64 0, .bool false, .string ⟨x.1.k.toArray⟩, .int .i64 x.1.s, .int .i64 x.1.u, .int .i64 x.1.o, .bool false, .slice none 0 0, .slice none 0 0, .slice none 0 0, .int .i64 0, .int .i64 0] 51)).drew)) := Lib.hid (((Below.refl _ _).alloc (Nat.le_refl _) _).drew)
        have HOA : Hid (((w5.alloc (.cells #[.int .i64 11, .int .i64 1, .int .i64 ff, .int .i64 0, .int .i64 0, .int .i64 0, .bool false, .string ⟨x.1.k.toArray⟩, .int .i64 x.1.s, .int .i64 x.1.u, .int .i64 x.1.o, .bool false, .slice none 0 0, .slice none 0 0, .slice none 0 0, .int .i64 0, .int .i64 0] 51)).drew).ownsRow w.heap.size 51 17 (.slice A4 N4 c4) N4 (fmsC S.acks)) := Lib.hid (ownLater HO5.out.1 HBD.out)
        have HRL : Hid (Row ((w5.alloc (.cells #[.int .i64 11, .int .i64 1, .int .i64 ff, .int .i64 0, .int .i64 0, .int .i64 0, .bool false, .string ⟨x.1.k.toArray⟩, .int .i64 x.1.s, .int .i64 x.1.u, .int .i64 x.1.o, .bool false, .slice none 0 0, .slice none 0 0, .slice none 0 0, .int .i64 0, .int .i64 0] 51)).drew) (w5.heap.size + 1) (some ⟨w5.heap.size, 0, none⟩) (fmsC [ackOf x.1 ff])) := Lib.hid (fm_lit (by exact (Blk.new w5 51 ⟨fmC (ackOf x.1 ff)⟩).drew) (Nat.lt_succ_self _))
        have HDD := Lib.hid (HD5.out.below HBD.out)
        have HN4 : Hid (N4 ≤ 20) := Lib.hid (by have h1 := HW.out.len; have h2 := HW.out.many; have h3 := HN20.out; omega)
        have HEND : Hid (∀ w7 A7 c7, Sv1 w w7 F4 g S2 p2 0 → (∀ a, A7 = some a → ¬ F4 a.block) → w7.ownsRow w.heap.size 51 17 (.slice A7 (N4 + 1) c7) (N4 + 1) (fmsC S.acks ++ fmsC [ackOf x.1 ff]) → ∃ F S ps, Sv1 w w7 F g S ps 0 ∧ WantA w w7 F S ps (k + 1) A7 c7 (N4 + 1)) := Lib.hid fun w7 A7 c7 hsv hoff hown => by
          have h1 := HFA.out
          rw [if_pos HMAY.out] at h1
          have hl : S2.acks.length = S.acks.length + 1 := by rw [h1.1]; simp
          exact ⟨F4, S2, p2, hsv, by rw [hl, HW.out.len], by have := h1.2.1; have := HW.out.room; omega, by have := HW.out.many; omega, by have := h1.2.2.1; have := HW.out.pm; omega, HKS.out, (by
            rw [h1.1]
            show _root_.Go.World.ownsRow _ _ _ _ _ _ ((S.acks ++ [ackOf x.1 ff]).flatMap fmC)
            rw [List.flatMap_append]
            exact hown), hoff⟩
        go_wp2_with fail
        clear a4 a5
        go_region_law (refine step_appS (P := Tryz.prog) (by rfl) _ _ _ (by rfl) w.heap.size 51 i1 (.agg #[.int .i64 0, .int .i64 0, .int .i64 0, .int .i64 0, .int .i64 0, .int .i64 0, .bool false, .string .empty, .int .i64 0, .int .i64 0, .int .i64 0, .bool false, .slice none 0 0, .slice none 0 0, .slice none 0 0, .int .i64 0, .int .i64 0]) 17 192 Tryz.underlying37 hi1 hk1 hk2 hk3 rfl (by decide) (.slice A4 N4 c4) N4 (fmsC S.acks) (by rfl) (by exact HOA.out) (w5.heap.size + 1) (some ⟨w5.heap.size, 0, none⟩) 1 1 (fmsC [ackOf x.1 ff]) (by rfl) (by rfl) (by exact HRL.out) (fmsC_one _) (by have := HN4.out; unfold maxLen; omega) (by have := HN4.out; omega) (HDD.out.bel.size) ?_; intro v' w7 hown hgr hat; obtain ⟨A7, c7, rfl, _, _⟩ := ownShape hown; (have hp7 := want_push HDD.out HOA.out HO5.out.2 hown hgr hat); (have HRD := Lib.hid (HEND.out w7 A7 c7 hp7.1 hp7.2 hown)); clear hown hgr hat hp7)
        all_goals
          clear a0 a1 a2 a3 k1 HOA HRL HDD HBD HEND
          go_wp2
          go_roundw
          case rel => exact ⟨k + 1, by omega, by go_num, A7, c7, N4 + 1, rfl, HRD⟩
          case measure => simp [intOf]; omega
      · have fin2 : ∀ W, Below w4.heap.size w4 W → ∃ k' : Nat, k' ≤ n ∧ ((k : Int) + 1 = (k' : Int)) ∧ ∃ A4' c4' N4', (Value.slice A4 N4 c4 = .slice A4' N4' c4') ∧ Hid (∃ F S ps, Sv1 w W F g S ps 0 ∧ WantA w W F S ps k' A4' c4' N4') := fun W hb => by
          refine ⟨k + 1, by omega, by omega, A4, c4, N4, rfl, Lib.hid ⟨F4, S2, p2, HD4.out.below hb, ?_⟩⟩
          have h1 := HFA.out
          rw [if_neg hmay, List.append_nil] at h1
          refine ⟨by rw [h1.1, HW.out.len], by have := h1.2.1; have := HW.out.room; omega, by rw [h1.1]; have := HW.out.many; omega, by have := h1.2.2.1; have := HW.out.pm; omega, HKS.out, ?_, HO4.out.2⟩
          rw [h1.1]
          exact ownLater HO4.out.1 hb
        have FIN2 := Lib.hid fin2
        clear fin2
        obtain ⟨r0, hr0⟩ : ∃ r, rightE x.1.k.length x.1.v.length x.1.s x.1.u x.1.o x.1.has = r := ⟨_, rfl⟩
        rw [hr0] at HRT0
        have HRT := Lib.hid HRT0
        by_cases hz : r0 = 0
        · have hs0 : x.1.s = 0 := by
            by_cases h : x.1.s = 0
            · exact h
            · exact absurd ⟨hr0.trans hz, h, hf0, by omega⟩ hmay
          have HS0 := Lib.hid hs0
          clear hs0
          subst hz
          clear hmay hr0 HRT0
          go_wp2_with fail
          refine HRT.out.mono ?_
          rintro e w5 ⟨rfl, hb5⟩
          have F5 := Lib.hid (FIN2.out w5 hb5)
          obtain ⟨a0, a1, a2, a3, a4, a5⟩ := HX.out w5 (HD4.out.bel.trans (hb5.mono HD4.out.bel.size))
          rw [HS0.out] at a1
          clear hb5 HRT
          go_wp2
          go_roundw
          case rel =>
            obtain ⟨k', h1, h2, h3⟩ := F5.out
            exact ⟨k', h1, by rw [← h2], h3⟩
          case measure => simp [intOf]; omega
        · have hz1 : (r0 == 0) = false := by simpa using hz
          clear hmay hr0 HRT0 hz
          go_wp2_with fail
          refine HRT.out.mono ?_
          rintro e w5 ⟨rfl, hb5⟩
          have F5 := Lib.hid (FIN2.out w5 hb5)
          clear hb5 HRT
          go_wp2
          go_roundw
          case rel =>
            obtain ⟨k', h1, h2, h3⟩ := F5.out
            exact ⟨k', h1, by rw [← h2], h3⟩
          case measure => simp [intOf]; omega
    · obtain rfl : k = n := by omega
      have hmany := HW.out.many
      have hk20 := HN20.out
      have HTK := Lib.hid (svtick_any F g 0 S ps (by omega) (by omega) wr HD.out.at_)
      clear hmany hk20
      go_wp2_with fail
      refine HTK.out.mono ?_
      rintro e w2 ⟨F2, A2, c2, q2, rfl, ho, hA, hf, hq, hs, htt⟩
      have HD2 := Lib.hid (HD.out.to hf hs htt)
      have hkeys : ∀ a ∈ S.acks, a.k.length ≤ maxLen := fun a ha => by have := HW.out.keys a ha; unfold maxLen; omega
      have HR1 := Lib.hid (fm_msN (rowN_off ho hA) hkeys).msR
      have ho4 := own_touch14 HW.out.own HW.out.off hf htt
      have HR2 := Lib.hid (fm_msN (rowN_off ho4.1 ho4.2) hkeys).msR
      obtain ⟨L, hL⟩ : ∃ L, S.acks.length = L := ⟨_, rfl⟩
      have hLn : N4 = L := by rw [HW.out.len, hL]
      have hL20 : L ≤ 20 := by have h1 := HW.out.many; have h2 := HN20.out; omega
      subst hLn
      have HSM := Lib.hid (refsameallm N4 c2 N4 c4 A2 A4 (S.acks.map fmMV) (S.acks.map fmMV) (by rw [List.length_map, hL]) (by rw [List.length_map, hL]) (by unfold maxLen; omega) rfl w2 HR1.out HR2.out)
      have HQ : Hid (q2 ≤ 1) := Lib.hid (by omega)
      rw [hL]
      have hN0 : (0 : Int) ≤ (N4 : Int) := by omega
      have hN1 : (N4 : Int) ≤ 20 := by omega
      clear ho hA hf hq hs htt ho4 hkeys hL hL20 HTK HD
      go_wp2_with fail
      refine HSM.out.mono ?_
      rintro e w3 ⟨rfl, hb3⟩
      have HD3 := Lib.hid (HD2.out.below hb3)
      have hqq := HQ.out
      have HTK2 := Lib.hid (svtick_any F2 g q2 (tickS S) [] (by omega) (by show (0 : Nat) ≤ _; exact Nat.zero_le _) w3 HD3.out.at_)
      clear hb3 HSM hqq HD2
      go_wp2_with fail
      refine HTK2.out.mono ?_
      rintro e w4 ⟨F4, A5, c5, q4, rfl, ho, hA, hf, hq, hs, htt⟩
      have HD4 := Lib.hid (HD3.out.to hf hs htt)
      have hz : (tickS S).acks.length = 0 := rfl
      rw [hz]
      clear ho hA hf hq hs htt hz HTK2 HD3
      go_wp2_with fail
      refine (FIN.out _ HD4.out.bel).mono ?_
      rintro e wf ⟨rfl, hbf⟩
      have HBF := Lib.hid hbf
      clear hbf
      go_wp2
      go_ret
      exact ⟨rfl, HBF.out⟩
end Go.Proofs.YtkdpfjenjcpcfaaGreatDoor
