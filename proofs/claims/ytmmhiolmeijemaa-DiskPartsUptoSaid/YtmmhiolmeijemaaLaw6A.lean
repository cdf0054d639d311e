/- The law DiskSyncs, walked. -/
import Derived.Test.YtmmhiolmeijemaaDone
namespace Go.Proofs.Ytmmhiolmeijemaa
open Go.RowKit Mem
set_option maxRecDepth 100000
set_option maxHeartbeats 2000000
set_option linter.unusedVariables false
theorem same6_true (B B' c c' n n' : Nat) (A A' : Option Addr) (xs : List UInt8) (w : World) (h : Row w B A (xs.map byteV)) (h' : Row w B' A' (xs.map byteV)) (hn : n = xs.length) (hn' : n' = xs.length) :
    Calls Try.prog 18 #[.slice A n c, .slice A' n' c'] w fun e w' => e = .returned (.bool true) ∧ w = w' := by
  have := same_any B B' c c' n n' A A' xs xs w h h' hn hn'
  rw [show (xs == xs) = true by simp] at this
  exact this
theorem RowN.step {F F' : Nat → Prop} {w w1 : World} {A : Option Addr} {xs : List Value} (h : RowN F w A xs) (ht : Touch F w w1) (hf : ∀ k, F' k → F k ∨ w.heap.size ≤ k) : RowN F' w1 A xs := by
  rcases h with h | ⟨b, o, e, hb, hl, hc⟩
  · exact Or.inl h
  · refine Or.inr ⟨b, o, e, fun hx => ?_, Nat.lt_of_lt_of_le hl ht.size, fun j hj => (World.cell?_of_block (ht.block b hl hb)).trans (hc j hj)⟩
    rcases hf b hx with h1 | h1
    · exact hb h1
    · omega
theorem RowN.below {F : Nat → Prop} {w w1 : World} {A : Option Addr} {xs : List Value} (h : RowN F w A xs) (hb : Below w.heap.size w w1) : RowN F w1 A xs := h.touch (Touch.ofBelow hb)
theorem rowN_made {F : Nat → Prop} {w w1 : World} {A : Option Addr} {n c : Nat} {xs : List Value} (hF : ∀ k, F k → k < w.heap.size) (ho : w1.ownsRow w.heap.size 5 1 (.slice A n c) n xs) : RowN F w1 A xs := by
  rcases Row.of_own ho with h | ⟨b, o, rfl, hb, hc⟩
  · exact Or.inl h
  · exact Or.inr ⟨b, o, rfl, fun hf => by have := hF b hf; have h2 := (ownIn ho rfl).1; simp only at h2; omega, hb, hc⟩
/-- A disk of a statement's own, in blocks that are new since w0. -/
structure Dk1 (w0 w : World) (F : Nat → Prop) (g : Nat) (L T : List UInt8) (q : Nat) : Prop where
  new : NewF w0 F
  at_ : DkAt w F g L T q
  bel : Below w0.heap.size w0 w
theorem Dk1.below {w0 w w1 : World} {F : Nat → Prop} {g q : Nat} {L T : List UInt8} (h : Dk1 w0 w F g L T q) (hb : Below w.heap.size w w1) : Dk1 w0 w1 F g L T q := ⟨h.new, h.at_.below hb, h.bel.trans (hb.mono h.bel.size)⟩
theorem Dk1.to {w0 w w1 : World} {F F' : Nat → Prop} {g q q' : Nat} {L T L' T' : List UInt8} (h : Dk1 w0 w F g L T q) (hf : ∀ k, F' k → F k ∨ w.heap.size ≤ k) (hd : DkAt w1 F' g L' T' q') (ht : Touch F w w1) : Dk1 w0 w1 F' g L' T' q' :=
  ⟨newF_step h.new h.bel.size hf, hd, h.bel.trans (ht.below h.bel.size h.new)⟩
theorem upN_nil (q : Nat) : upN [] q = q := rfl
theorem upN_le (T : List UInt8) (q : Nat) : upN T q ≤ q + 1 := by unfold upN; split <;> omega
theorem doS_n (L T : List UInt8) (n : Nat) (k : Int) (bs : List UInt8) (kp : Int) : (doS L T n k bs kp).2.2.1 ≤ n + 1 := by
  have := upN_le T n
  unfold doS
  (repeat' split) <;> simp <;> omega
/-- Things are done, one behind the other: one round. -/
theorem done_round {w0 w : World} {A : Option Addr} {rs : List DoV} (hin : InD w0 A rs) {F : Nat → Prop} {g q k : Nat} {L T : List UInt8} (h : Dk1 w0 w F g L T q) (hk : k < rs.length) (hq : q ≤ 4611686018427387904) :
    Calls Try.prog 12 #[.pointer (some ⟨g, 0, none⟩), .agg #[.int .i64 rs[k].kind, .slice rs[k].row.1 rs[k].row.2.1.length rs[k].row.2.2, .int .i64 rs[k].kept]] w (DoneP F g (doS L T q rs[k].kind rs[k].row.2.1 rs[k].kept) w) := by
  have hr := ((hin w h.bel).2 rs[k] (List.getElem_mem hk)).row
  exact done_any F g q L T rs[k].kind rs[k].kept rs[k].row.1 rs[k].row.2.1 rs[k].row.2.1.length rs[k].row.2.2 rfl (by have h1 := hr.2.1; have h2 := hr.2.2; omega) hq w h.at_ (RowN.of_low hr.1 h.bel.size h.new)
theorem syncs_walk (A : Option Addr) (rs : List DoV) (n c kept : Nat) (hn : n = rs.length) (hnl : n ≤ 140737488355328) (hkp : kept ≤ 65535) (w : World) (h : InD w A rs) :
    Calls Try.prog 6 #[.slice A n c, .int .u16 (kept : Int)] w (IsT6 true w) := by
  have HLG := Lib.hid (longdo_any n c A rs hn (by unfold maxLen; omega) w h)
  have HIN := Lib.hid h
  have HN := Lib.hid hn
  have HNL := Lib.hid hnl
  have hni : (n : Int) ≤ 140737488355328 := by omega
  have hki0 : (0 : Int) ≤ (kept : Int) := by omega
  have hki1 : (kept : Int) ≤ 65535 := by omega
  clear h hn hnl hkp
  go_enter Try.func6, Try.ntmps6
  go_wp2_with fail
  refine HLG.out.mono ?_
  rintro e w' ⟨⟨lb, rfl⟩, rfl⟩
  clear HLG
  cases lb with
  | true =>
    go_wp2_with fail
    refine (known6_any _).mono ?_
    rintro e w1 ⟨rfl, hb⟩
    have HB := Lib.hid hb
    clear hb
    go_wp2
    go_ret
    exact ⟨rfl, HB.out⟩
  | false =>
  go_wp2_with fail
  refine (newdk_any w).mono ?_
  rintro e w1 ⟨g, F0, rfl, hF, hd, hb⟩
  have HK0 : Hid (Dk1 w w1 F0 g [] [] 0) := Lib.hid ⟨hF, hd, hb⟩
  simp only [id]
  clear hF hd hb
  go_wp2_with fail
  go_loopw [6] (fun i wr => ∃ k : Nat, k ≤ n ∧ i = .int .i64 k ∧ Hid (∃ F L T q, q ≤ k ∧ Dk1 w wr F g L T q)) (fun i _ => n - (intOf i).toNat)
  case atStart => exact ⟨0, by omega, rfl, Lib.hid ⟨F0, [], [], 0, by omega, HK0.out⟩⟩
  case round =>
    obtain ⟨k, hk, rfl, HK⟩ := hrel
    obtain ⟨F, L, T, q, hq, hd⟩ := HK.out
    have HD := Lib.hid hd
    have HQ := Lib.hid hq
    clear HK hd hq HK0
    by_cases hlt : k < n
    · have hk1 : k < rs.length := by rw [← HN.out]; exact hlt
      obtain ⟨b, o, rfl, _, hc⟩ := dos_open (HIN.out wr HD.out.bel).1 (by omega)
      obtain ⟨d0, d1, d2⟩ := hc k hk1
      have C := done_round HIN.out HD.out hk1 (by have := HQ.out; have := HNL.out; omega)
      have hqn := doS_n L T q rs[k].kind rs[k].row.2.1 rs[k].kept
      unfold rowV at d1
      obtain ⟨⟨kd, ⟨A1, y1, c1⟩, kp⟩, hy1⟩ : ∃ y, rs[k] = y := ⟨_, rfl⟩
      rw [hy1] at d0 d1 d2 C hqn
      simp only at d0 d1 d2 C hqn
      have HC := Lib.hid C
      have HQN := Lib.hid hqn
      have hki : (0 : Int) ≤ (k : Int) := by omega
      have hki2 : (k : Int) < (n : Int) := by omega
      clear hc hy1 C hqn
      go_wp2_with fail
      refine HC.out.mono ?_
      rintro e w2 ⟨rfl, F', hf, hd, ht⟩
      have HK2 : Hid (∃ F L T q, q ≤ k + 1 ∧ Dk1 w w2 F g L T q) := Lib.hid ⟨F', _, _, _, by have := HQN.out; have := HQ.out; omega, HD.out.to hf hd ht⟩
      clear hf hd ht
      go_wp2
      go_roundw
      case rel => exact ⟨k + 1, by omega, by go_num, HK2⟩
      case measure => simp [intOf]; omega
    · obtain rfl : k = n := by omega
      have hmx := HD.out.at_.mx
      have hq1 : q ≤ 140737488355328 := by have := HQ.out; have := HNL.out; omega
      clear HQ
      go_wp2_with fail
      refine (bytes_any F g q L T wr HD.out.at_).mono ?_
      rintro e w2 ⟨A2, c2, rfl, ho, hb⟩
      have HR2 := Lib.hid (rowN_made HD.out.at_.lt ho)
      have HD2 := Lib.hid (HD.out.below hb)
      obtain ⟨X, hX⟩ : ∃ X, L ++ T = X := ⟨_, rfl⟩
      rw [hX] at HR2 ⊢
      clear ho hb HD
      go_wp2_with fail
      refine (sync_any F g q L T (by omega) w2 HD2.out.at_).mono ?_
      rw [hX]
      rintro e w3 ⟨rfl, F3, hf, hd, ht⟩
      have HR3 := Lib.hid (HR2.out.step ht hf)
      have HD3 := Lib.hid (HD2.out.to hf hd ht)
      have hq3 := upN_le T q
      obtain ⟨q3, hq3e⟩ : ∃ q3, upN T q = q3 := ⟨_, rfl⟩
      rw [hq3e] at HD3 hq3
      clear hf hd ht HR2 HD2 hX hq3e
      go_wp2_with fail
      refine (syncs_any F3 g q3 X [] w3 HD3.out.at_).mono ?_
      rintro e w' ⟨rfl, rfl⟩
      go_wp2_with fail
      refine (sync_any F3 g q3 X [] (by omega) w3 HD3.out.at_).mono ?_
      rw [List.append_nil, upN_nil]
      rintro e w4 ⟨rfl, F4, hf, hd, ht⟩
      have HR4 := Lib.hid (HR3.out.step ht hf)
      have HD4 := Lib.hid (HD3.out.to hf hd ht)
      clear hf hd ht HR3 HD3
      go_wp2_with fail
      refine (crash_any F4 g q3 kept X [] w4 HD4.out.at_).mono ?_
      rw [List.take_nil, List.append_nil]
      rintro e w5 ⟨rfl, F5, hf, hd, ht⟩
      have HR5 := Lib.hid (HR4.out.step ht hf)
      have HD5 := Lib.hid (HD4.out.to hf hd ht)
      clear hf hd ht HR4 HD4
      go_wp2_with fail
      refine (syncs_any F5 g q3 X [] w5 HD5.out.at_).mono ?_
      rintro e w' ⟨rfl, rfl⟩
      go_wp2_with fail
      refine (lasting_any F5 g q3 X [] w5 HD5.out.at_).mono ?_
      rintro e w6 ⟨A6, c6, rfl, ho, hb⟩
      have HS := Lib.hid (same6_true w6.heap.size w6.heap.size c6 c2 X.length X.length A6 A2 X w6 (Row.of_own ho) (HR5.out.below hb).row rfl rfl)
      have HD6 := Lib.hid (HD5.out.below hb)
      clear ho hb HR5 HD5
      go_wp2_with fail
      refine HS.out.mono ?_
      rintro e w' ⟨rfl, rfl⟩
      go_wp2_with fail
      refine (tail_any F5 g q3 X [] w6 HD6.out.at_).mono ?_
      rintro e w7 ⟨A7, c7, rfl, ho, hb⟩
      have HD7 := Lib.hid (HD6.out.below hb)
      simp only [List.length_nil]
      clear ho hb HD6 HS
      go_wp2_with fail
      refine (known6_any _).mono ?_
      rintro e w8 ⟨rfl, hb⟩
      have HB8 := Lib.hid (HD7.out.bel.trans (hb.mono HD7.out.bel.size))
      clear hb
      go_wp2
      go_ret
      exact ⟨rfl, HB8.out⟩
end Go.Proofs.Ytmmhiolmeijemaa
