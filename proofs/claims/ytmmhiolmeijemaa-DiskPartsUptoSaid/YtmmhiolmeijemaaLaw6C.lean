/- The law DiskCrashes, walked. -/
import Derived.Test.YtmmhiolmeijemaaLaw6A
namespace Go.Proofs.Ytmmhiolmeijemaa
open Go.RowKit Mem
set_option maxRecDepth 100000
set_option maxHeartbeats 2000000
set_option linter.unusedVariables false
/-- Two disks that stand in other blocks. -/
def NoMeet (F G : Nat → Prop) : Prop := ∀ k, F k → ¬ G k
theorem Dk1.far {w0 w w1 : World} {F G : Nat → Prop} {g g' q q' : Nat} {L T L' T' : List UInt8} (h : Dk1 w0 w G g' L' T' q') (hm : NoMeet F G) (ht : Touch F w w1) (hb : Dk1 w0 w F g L T q) : Dk1 w0 w1 G g' L' T' q' :=
  ⟨h.new, h.at_.touch ht (fun k hg hf => hm k hf hg), hb.bel.trans (ht.below hb.bel.size hb.new)⟩
theorem meet_step {w : World} {F F' G : Nat → Prop} (hm : NoMeet F G) (hG : ∀ k, G k → k < w.heap.size) (hf : ∀ k, F' k → F k ∨ w.heap.size ≤ k) : NoMeet F' G := fun k h1 h2 => by
  rcases hf k h1 with h | h
  · exact hm k h h2
  · have := hG k h2; omega
theorem meet_new {w : World} {F G : Nat → Prop} (hG : ∀ k, G k → k < w.heap.size) (hf : ∀ k, F k → w.heap.size ≤ k) : NoMeet F G := fun k h1 h2 => by have := hG k h2; have := hf k h1; omega
theorem meet_symm {F G : Nat → Prop} (h : NoMeet F G) : NoMeet G F := fun k h1 h2 => h k h2 h1
/-- A copy is a disk of its own. -/
theorem Dk1.copy {w0 w w1 : World} {F F' : Nat → Prop} {g g' q : Nat} {L T : List UInt8} (h : Dk1 w0 w F g L T q) (hf : ∀ k, F' k → w.heap.size ≤ k) (hd : DkAt w1 F' g' L T q) (hb : Below w.heap.size w w1) : Dk1 w0 w1 F' g' L T q :=
  ⟨fun k hk => Nat.le_trans h.bel.size (hf k hk), hd, h.bel.trans (hb.mono h.bel.size)⟩
theorem take_le_take {a b : Nat} (L T : List UInt8) (h : a ≤ b) : (L ++ T.take b).take (L ++ T.take a).length = L ++ T.take a ∧ (L ++ T.take a).length ≤ (L ++ T.take b).length := by
  refine ⟨?_, by simp; omega⟩
  rw [List.length_append, List.take_append, List.take_of_length_le (by omega)]
  congr 1
  rw [show L.length + (T.take a).length - L.length = (T.take a).length by omega, List.length_take, List.take_take]
  rw [List.take_eq_take_iff]
  omega
theorem crashes_walk (A : Option Addr) (rs : List DoV) (n c a b : Nat) (hn : n = rs.length) (hnl : n ≤ 140737488355328) (ha : a ≤ 255) (hb : b ≤ 255) (w : World) (h : InD w A rs) :
    Calls Try.prog 7 #[.slice A n c, .int .u8 (a : Int), .int .u8 (b : Int)] w (IsT6 true w) := by
  have HLG := Lib.hid (longdo_any n c A rs hn (by unfold maxLen; omega) w h)
  have HIN := Lib.hid h
  have HN := Lib.hid hn
  have HNL := Lib.hid hnl
  have hni : (n : Int) ≤ 140737488355328 := by omega
  have ha0 : (0 : Int) ≤ (a : Int) := by omega
  have ha1 : (a : Int) ≤ 255 := by omega
  have hb0 : (0 : Int) ≤ (b : Int) := by omega
  have hb1 : (b : Int) ≤ 255 := by omega
  have HAB : Hid (a ≤ 255 ∧ b ≤ 255) := Lib.hid ⟨ha, hb⟩
  clear h hn hnl ha hb
  go_enter Try.func7, Try.ntmps7
  go_wp2_with fail
  refine HLG.out.mono ?_
  rintro e w' ⟨⟨lb, rfl⟩, rfl⟩
  clear HLG
  cases lb with
  | true =>
    go_wp2_with fail
    refine (known6_any _).mono ?_
    rintro e w1 ⟨rfl, hb⟩
    have HB := Lib.hid hb
    clear hb
    go_wp2
    go_ret
    exact ⟨rfl, HB.out⟩
  | false =>
  go_wp2_with fail
  refine (newdk_any w).mono ?_
  rintro e w1 ⟨g, F0, rfl, hF, hd, hb⟩
  have HK0 : Hid (Dk1 w w1 F0 g [] [] 0) := Lib.hid ⟨hF, hd, hb⟩
  simp only [id]
  clear hF hd hb
  go_wp2_with fail
  go_loopw [8] (fun i wr => ∃ k : Nat, k ≤ n ∧ i = .int .i64 k ∧ Hid (∃ F L T q, q ≤ k ∧ Dk1 w wr F g L T q)) (fun i _ => n - (intOf i).toNat)
  case atStart => exact ⟨0, by omega, rfl, Lib.hid ⟨F0, [], [], 0, by omega, HK0.out⟩⟩
  case round =>
    obtain ⟨k, hk, rfl, HK⟩ := hrel
    obtain ⟨F, L, T, q, hq, hd⟩ := HK.out
    have HD := Lib.hid hd
    have HQ := Lib.hid hq
    clear HK hd hq HK0
    by_cases hlt : k < n
    · have hk1 : k < rs.length := by rw [← HN.out]; exact hlt
      obtain ⟨b', o, rfl, _, hc⟩ := dos_open (HIN.out wr HD.out.bel).1 (by omega)
      obtain ⟨d0, d1, d2⟩ := hc k hk1
      have C := done_round HIN.out HD.out hk1 (by have := HQ.out; have := HNL.out; omega)
      have hqn := doS_n L T q rs[k].kind rs[k].row.2.1 rs[k].kept
      unfold rowV at d1
      obtain ⟨⟨kd, ⟨A1, y1, c1⟩, kp⟩, hy1⟩ : ∃ y, rs[k] = y := ⟨_, rfl⟩
      rw [hy1] at d0 d1 d2 C hqn
      simp only at d0 d1 d2 C hqn
      have HC := Lib.hid C
      have HQN := Lib.hid hqn
      have hki : (0 : Int) ≤ (k : Int) := by omega
      have hki2 : (k : Int) < (n : Int) := by omega
      clear hc hy1 C hqn
      go_wp2_with fail
      refine HC.out.mono ?_
      rintro e w2 ⟨rfl, F', hf, hd, ht⟩
      have HK2 : Hid (∃ F L T q, q ≤ k + 1 ∧ Dk1 w w2 F g L T q) := Lib.hid ⟨F', _, _, _, by have := HQN.out; have := HQ.out; omega, HD.out.to hf hd ht⟩
      clear hf hd ht
      go_wp2
      go_roundw
      case rel => exact ⟨k + 1, by omega, by go_num, HK2⟩
      case measure => simp [intOf]; omega
    · obtain rfl : k = n := by omega
      clear HQ
      go_wp2_with fail
      refine (copy_any F g q L T wr HD.out.at_).mono ?_
      rintro e w2 ⟨x, Fx, rfl, hf, hd, hb⟩
      have HX := Lib.hid (HD.out.copy hf hd hb)
      have HMX := Lib.hid (meet_new HD.out.at_.lt hf)
      have HD := Lib.hid (HD.out.below hb)
      simp only [id]
      clear hf hd hb
      go_wp2_with fail
      refine (copy_any F g q L T w2 HD.out.at_).mono ?_
      rintro e w3 ⟨y, Fy, rfl, hf, hd, hb⟩
      have HY := Lib.hid (HD.out.copy hf hd hb)
      have HMYD := Lib.hid (meet_new HD.out.at_.lt hf)
      have HMYX := Lib.hid (meet_new HX.out.at_.lt hf)
      have HD := Lib.hid (HD.out.below hb)
      have HX := Lib.hid (HX.out.below hb)
      simp only [id]
      clear hf hd hb
      go_wp2_with fail
      refine (copy_any F g q L T w3 HD.out.at_).mono ?_
      rintro e w4 ⟨z, Fz, rfl, hf, hd, hb⟩
      have HZ := Lib.hid (HD.out.copy hf hd hb)
      have HMZD := Lib.hid (meet_new HD.out.at_.lt hf)
      have HMZX := Lib.hid (meet_new HX.out.at_.lt hf)
      have HMZY := Lib.hid (meet_new HY.out.at_.lt hf)
      have HD := Lib.hid (HD.out.below hb)
      have HX := Lib.hid (HX.out.below hb)
      have HY := Lib.hid (HY.out.below hb)
      simp only [id]
      clear hf hd hb
      go_wp2_with fail
      refine (crash_any Fx x q a L T w4 HX.out.at_).mono ?_
      rintro e w5 ⟨rfl, Fx2, hf, hd, ht⟩
      have HMXY := Lib.hid (meet_step (meet_symm HMYX.out) HY.out.at_.lt hf)
      have HMXZ := Lib.hid (meet_step (meet_symm HMZX.out) HZ.out.at_.lt hf)
      have HD := Lib.hid (HD.out.far HMX.out ht HX.out)
      have HY := Lib.hid (HY.out.far (meet_symm HMYX.out) ht HX.out)
      have HZ := Lib.hid (HZ.out.far (meet_symm HMZX.out) ht HX.out)
      have HX := Lib.hid (HX.out.to hf hd ht)
      clear hf hd ht HMX HMYX HMZX
      have HCY : Hid (Calls Try.prog 24 #[.pointer (some ⟨y, 0, none⟩), .int .i64 ((a : Int) + (b : Int))] w5 (DkTo (.int .i64 0) Fy y (L ++ T.take (a + b)) [] q w5)) := Lib.hid (crash_any Fy y q (a + b) L T w5 HY.out.at_)
      go_wp2_with fail
      refine HCY.out.mono ?_
      rintro e w6 ⟨rfl, Fy2, hf, hd, ht⟩
      have HMYZ := Lib.hid (meet_step (meet_symm HMZY.out) HZ.out.at_.lt hf)
      have HD := Lib.hid (HD.out.far HMYD.out ht HY.out)
      have HZ := Lib.hid (HZ.out.far (meet_symm HMZY.out) ht HY.out)
      have HX := Lib.hid (HX.out.far (meet_symm HMXY.out) ht HY.out)
      have HY := Lib.hid (HY.out.to hf hd ht)
      clear hf hd ht HMYD HMZY HCY HMXY
      have HCZ : Hid (Calls Try.prog 24 #[.pointer (some ⟨z, 0, none⟩), .int .i64 0] w6 (DkTo (.int .i64 0) Fz z L [] q w6)) := Lib.hid (by
        have := crash_any Fz z q 0 L T w6 HZ.out.at_
        rw [List.take_zero, List.append_nil] at this
        exact this)
      go_wp2_with fail
      refine HCZ.out.mono ?_
      rintro e w7 ⟨rfl, Fz2, hf, hd, ht⟩
      have HD := Lib.hid (HD.out.far HMZD.out ht HZ.out)
      have HX := Lib.hid (HX.out.far (meet_symm HMXZ.out) ht HZ.out)
      have HY := Lib.hid (HY.out.far (meet_symm HMYZ.out) ht HZ.out)
      have HZ := Lib.hid (HZ.out.to hf hd ht)
      clear hf hd ht HMZD HMXZ HMYZ HCZ
      have hpq := take_le_take (a := a) (b := a + b) L T (by omega)
      have hql := take_le_take (a := a + b) (b := 1000000) L T (by have := HAB.out; omega)
      have hmx := HD.out.at_.mx
      have hml : (L ++ T.take 1000000).length ≤ 4194304 := by rw [List.length_append, List.length_take]; omega
      obtain ⟨P, hP⟩ : ∃ P, L ++ T.take a = P := ⟨_, rfl⟩
      obtain ⟨Q, hQ⟩ : ∃ Q, L ++ T.take (a + b) = Q := ⟨_, rfl⟩
      obtain ⟨R, hR⟩ : ∃ R, L ++ T.take 1000000 = R := ⟨_, rfl⟩
      rw [hP, hQ] at hpq
      rw [hQ, hR] at hql
      rw [hP] at HX
      rw [hQ] at HY
      rw [hR] at hml
      have hpi : (P.length : Int) ≤ (Q.length : Int) := by omega
      have hqi : (Q.length : Int) ≤ (R.length : Int) := by omega
      have hri : (R.length : Int) ≤ 4194304 := by omega
      have HPQ := Lib.hid hpq
      have HCD : Hid (∀ W, DkAt W F g L T q → Calls Try.prog 24 #[.pointer (some ⟨g, 0, none⟩), .int .i64 1000000] W (DkTo (.int .i64 0) F g R [] q W)) := Lib.hid fun W h => by
        have := crash_any F g q 1000000 L T W h
        rw [hR] at this
        exact this
      clear hpq hql hP hQ hR hmx hml
      go_wp2_with fail
      refine (lasting_any Fx2 x q P [] w7 HX.out.at_).mono ?_
      rintro e w8 ⟨A8, c8, rfl, ho, hb⟩
      have HR8 := Lib.hid (Row.of_own ho)
      have HD := Lib.hid (HD.out.below hb)
      have HY := Lib.hid (HY.out.below hb)
      have HZ := Lib.hid (HZ.out.below hb)
      clear ho hb HX
      go_wp2_with fail
      refine (lasting_any Fy2 y q Q [] w8 HY.out.at_).mono ?_
      rintro e w9 ⟨A9, c9, rfl, ho, hb⟩
      have HR9 := Lib.hid (Row.of_own ho)
      have HR8 := Lib.hid ((HR8.out.below hb).more hb.size)
      have HD := Lib.hid (HD.out.below hb)
      have HZ := Lib.hid (HZ.out.below hb)
      have hcap := (own_cap ho).1
      have hcut := fun W => run_cut_h (P := Try.prog) (w := W) 22 5 _ _ Try.underlying22 info_b A9 Q.length c9 P.length (by have := HPQ.out.2; omega)
      have HS1 := Lib.hid (same6_true w9.heap.size w9.heap.size c9 c8 P.length P.length A9 A8 P w9 (by have := take_row HR9.out P.length; rw [← List.map_take, HPQ.out.1] at this; exact this) HR8.out rfl rfl)
      clear ho hb HY hcap
      go_wp2_with fail
      refine HS1.out.mono ?_
      rintro e w' ⟨rfl, rfl⟩
      go_wp2_with fail
      have hbz := bytes_any Fz2 z q L [] w9 HZ.out.at_
      rw [List.append_nil] at hbz
      refine hbz.mono ?_
      rintro e w10 ⟨A10, c10, rfl, ho, hb⟩
      have HR10 := Lib.hid (Row.of_own ho)
      have HD := Lib.hid (HD.out.below hb)
      clear ho hb HZ hbz HS1 HR8 HR9
      go_wp2_with fail
      refine (lasting_any F g q L T w10 HD.out.at_).mono ?_
      rintro e w11 ⟨A11, c11, rfl, ho, hb⟩
      have HR11 := Lib.hid (Row.of_own ho)
      have HR10 := Lib.hid ((HR10.out.below hb).more hb.size)
      have HD := Lib.hid (HD.out.below hb)
      have HS2 := Lib.hid (same6_true w11.heap.size w11.heap.size c10 c11 L.length L.length A10 A11 L w11 HR10.out HR11.out rfl rfl)
      clear ho hb HR10 HR11
      go_wp2_with fail
      refine HS2.out.mono ?_
      rintro e w' ⟨rfl, rfl⟩
      clear HS2
      go_wp2_with fail
      refine (HCD.out w11 HD.out.at_).mono ?_
      rintro e w12 ⟨rfl, F2, hf, hd, ht⟩
      have HD := Lib.hid (HD.out.to hf hd ht)
      clear hf hd ht HCD
      go_wp2_with fail
      have hbd := bytes_any F2 g q R [] w12 HD.out.at_
      rw [List.append_nil] at hbd
      refine hbd.mono ?_
      rintro e w13 ⟨A13, c13, rfl, ho, hb⟩
      have HD := Lib.hid (HD.out.below hb)
      clear ho hb hbd
      go_wp2_with fail
      refine (tail_any F2 g q R [] w13 HD.out.at_).mono ?_
      rintro e w14 ⟨A14, c14, rfl, ho, hb⟩
      have HD := Lib.hid (HD.out.below hb)
      simp only [List.length_nil]
      clear ho hb
      go_wp2_with fail
      refine (known6_any _).mono ?_
      rintro e w15 ⟨rfl, hb⟩
      have HB := Lib.hid (HD.out.bel.trans (hb.mono HD.out.bel.size))
      clear hb
      go_wp2
      go_ret
      exact ⟨rfl, HB.out⟩
end Go.Proofs.Ytmmhiolmeijemaa
