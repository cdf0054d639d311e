/- Package wal: logOn, New, Open, Lasting, Pending, Disk, Crash. -/
import Derived.Test.YtkagfjjocmjeoaaLog
import Derived.Test.YtkagfjjocmjeoaaScan5
namespace Go.Proofs.Ytkagfjjocmjeoaa
open Go.RowKit Mem Be Word Frm
set_option maxRecDepth 10000
set_option maxHeartbeats 2000000
set_option linter.unusedVariables false
theorem lg_new {w : World} {F FR : Nat → Prop} {y q n c : Nat} {L : List UInt8} {vs : List RecV} {R A A' : Option Addr} {k k' : Nat} (hn : n = vs.length) (hd : DkB dk0 w F y L [] q A k A' k') (ho : w.ownsRow 0 64 2 (.slice R n c) n (recsC vs)) (hb : RecsO w 0 vs)
    (hR : InF FR R) (hB : ∀ r ∈ vs, InF FR r.2.1) (hdis : ∀ k, F k → ¬ FR k) (hlt : ∀ k, FR k → k < w.heap.size) (hs : Short (vs.map rcOf)) (hL : L = allB (vs.map rcOf)) :
    LgAt (w.alloc (.cells #[.slice A L.length k, .slice A' 0 k', .int .i64 (q : Int), .slice R n c, .int .i64 (n : Int)] 88)) (fun k => F k ∨ FR k ∨ k = w.heap.size) w.heap.size (vs.map rcOf) vs.length q := by
  subst hn
  have hal : Below w.heap.size w (w.alloc (.cells #[.slice A L.length k, .slice A' 0 k', .int .i64 (q : Int), .slice R vs.length c, .int .i64 (vs.length : Int)] 88)) := (Below.refl _ _).alloc (Nat.le_refl _) _
  have hsz : (w.alloc (.cells #[.slice A L.length k, .slice A' 0 k', .int .i64 (q : Int), .slice R vs.length c, .int .i64 (vs.length : Int)] 88)).heap.size = w.heap.size + 1 := by simp
  refine ⟨fun k => F k ∨ k = w.heap.size, FR, vs, R, c, rfl, hs, by simp, ?_, ownLater ho hal, recsO_below hb hal, hR, hB, fun j h1 h2 => ?_, fun j hj => ?_, fun j hj => ?_⟩
  · rw [List.take_of_length_le (by simp), List.drop_eq_nil_of_le (by simp), ← hL]
    refine ⟨A, k, A', k', ⟨Blk.new _ _ _, ownLater hd.ol hal, ownLater hd.ot hal, fun a ha => Or.inl (hd.fl a ha), fun a ha => Or.inl (hd.ft a ha), hd.ap, Or.inr rfl, fun j hj => ?_, hd.mx⟩⟩
    rw [hsz]
    rcases hj with hj | hj
    · have := hd.lt j hj; omega
    · omega
  · rcases h1 with h1 | h1
    · exact hdis j h1 h2
    · have := hlt j h2; omega
  · rcases hj with (hj | hj) | hj
    · exact Or.inl hj
    · exact Or.inr (Or.inr hj)
    · exact Or.inr (Or.inl hj)
  · rw [hsz]
    rcases hj with hj | hj | hj
    · have := hd.lt j hj; omega
    · have := hlt j hj; omega
    · omega
theorem logon_any (F FR : Nat → Prop) (y q n c : Nat) (L : List UInt8) (vs : List RecV) (R : Option Addr) (hn : n = vs.length) (w : World) (hd : DkAt dk0 w F y L [] q) (ho : w.ownsRow 0 64 2 (.slice R n c) n (recsC vs)) (hb : RecsO w 0 vs)
    (hR : InF FR R) (hB : ∀ r ∈ vs, InF FR r.2.1) (hdis : ∀ k, F k → ¬ FR k) (hlt : ∀ k, FR k → k < w.heap.size) (hs : Short (vs.map rcOf)) (hL : L = allB (vs.map rcOf)) :
    Calls Try.prog 33 #[.pointer (some ⟨y, 0, none⟩), .slice R n c] w fun e w' => e = .returned (.pointer (some ⟨w.heap.size, 0, none⟩)) ∧ LgAt w' (fun k => F k ∨ FR k ∨ k = w.heap.size) w.heap.size (vs.map rcOf) vs.length q ∧ Below w.heap.size w w' := by
  subst hn
  obtain ⟨A, k, A', k', hd⟩ := hd
  have HX := Lib.hid (lg_new rfl hd ho hb hR hB hdis hlt hs hL)
  have c0 : w.cell? ⟨y, 0, none⟩ = some (.slice A L.length k) := hd.blk.d0
  have c1 : w.cell? ⟨y, 1, none⟩ = some (.slice A' ([] : List UInt8).length k') := hd.blk.d1
  have c2 : w.cell? ⟨y, 2, none⟩ = some (.int .i64 (q : Int)) := hd.blk.d2
  simp only [List.length_nil] at c1
  clear hd ho hb hR hB hdis hlt hs hL
  go_enter Try.func33, Try.ntmps33
  go_wp2
  go_ret
  exact ⟨rfl, HX.out, (Below.refl _ _).alloc (Nat.le_refl _) _⟩
theorem newlg_any (w : World) : Calls Try.prog 12 #[] w (NewLg id [] 0 0 w) := by
  go_enter Try.func12, Try.ntmps12
  go_wp2_with fail
  refine (newdk_any w).mono ?_
  rintro e w1 ⟨y, F, rfl, hF, hd, hb⟩
  have HF := Lib.hid hF
  have HB := Lib.hid hb
  have HL := Lib.hid (logon_any F (fun _ => False) y 0 0 0 [] [] none rfl w1 hd (World.ownsRow_nil _ _ _ _) (recsO_nil _ _) (inF_none _) (fun r h => by cases h) (fun k _ h => h) (fun k h => h.elim) (fun r h => by cases h) rfl)
  simp only [id]
  clear hF hd hb
  go_wp2_with fail
  refine HL.out.mono ?_
  rintro e w2 ⟨rfl, hl, hb⟩
  have HX : Hid (NewLg id [] 0 0 w (.returned (.pointer (some ⟨w1.heap.size, 0, none⟩))) w2) := Lib.hid ⟨w1.heap.size, _, rfl, fun k hk => by
    rcases hk with h | h | h
    · exact HF.out k h
    · exact h.elim
    · have := HB.out.size; omega, hl, HB.out.trans (hb.mono HB.out.size)⟩
  clear hl hb HL
  go_wp2
  go_ret
  exact HX.out
/-- A log that is opened, and how many bytes are cut off. -/
def OpenP (bs : List UInt8) (q : Nat) (w : World) (e : Ending) (w' : World) : Prop :=
  NewLg (fun p => .tuple #[p, .int .i64 ((bs.length : Int) - ((scanS bs).2.1 : Int)), .int .i64 0]) (scanS bs).1 (scanS bs).1.length q w e w'
theorem open_nil (w : World) : Calls Try.prog 18 #[.pointer none] w fun e w' => e = .returned (.tuple #[.pointer none, .int .i64 0, .int .i64 1]) ∧ w = w' := by
  go_enter Try.func18, Try.ntmps18
  go_wp2
  go_ret3
  exact ⟨rfl, rfl⟩
theorem open_any (F : Nat → Prop) (y q : Nat) (L T : List UInt8) (w : World) (h : DkAt dk0 w F y L T q) :
    Calls Try.prog 18 #[.pointer (some ⟨y, 0, none⟩)] w (OpenP (L ++ T) q w) := by
  have HD := Lib.hid h
  have hmx := h.mx
  have hBY := bytes_any F y q L T w h
  obtain ⟨X, hX⟩ : ∃ X, L ++ T = X := ⟨_, rfl⟩
  have hXl : X.length ≤ 4194304 := by rw [← hX, List.length_append]; exact hmx
  rw [hX] at hBY ⊢
  have HBY := Lib.hid hBY
  clear h hmx hBY hX
  go_enter Try.func18, Try.ntmps18
  go_wp2_with fail
  refine HBY.out.mono ?_
  rintro e w1 ⟨A1, c1, rfl, ho, hb⟩
  have HO1 := Lib.hid ho
  have HB1 := Lib.hid hb
  have HC1 := Lib.hid (own_cap ho).1
  have HS := Lib.hid (scan_any w1.heap.size c1 X.length A1 X rfl (own_cap ho).1 w1 (Row.of_own ho) (Nat.le_refl _) hXl)
  clear ho hb HBY
  go_wp2_with fail
  refine HS.out.mono ?_
  rintro e w2 ⟨vs, R, cR, hvs, rfl, hor, hbr, hb⟩
  have hat := scan_at X
  have hag := scan_again X
  have hss := scan_short X
  obtain ⟨s, hs⟩ : ∃ s, (scanS X).2.1 = s := ⟨_, rfl⟩
  have HE : Hid (OpenP X q w = NewLg (fun p => .tuple #[p, .int .i64 ((X.length : Int) - (s : Int)), .int .i64 0]) (vs.map rcOf) vs.length q w) := Lib.hid (by
    unfold OpenP; rw [hs, ← hvs, List.length_map])
  rw [hs, ← hvs] at hag
  rw [← hvs] at hss
  rw [hs] at hat ⊢
  have HAG := Lib.hid hag
  have HSS := Lib.hid hss
  have HOR := Lib.hid hor
  have HBR := Lib.hid hbr
  have HB2 := Lib.hid hb
  have HRX := Lib.hid (((Row.of_own HO1.out).below hb).more hb.size)
  clear hvs hor hbr hb hs hag hss HS
  go_wp2_with fail
  refine (copy_any F y q L T w2 (HD.out.below (HB1.out.trans (HB2.out.mono HB1.out.size)))).mono ?_
  rintro e w3 ⟨z, F3, rfl, hf3, hd3, hb3⟩
  have HF3 := Lib.hid hf3
  have HD3 := Lib.hid hd3
  have HB3 := Lib.hid hb3
  simp only [id]
  have hcut := fun W => run_cut_h (P := Try.prog) (w := W) 27 5 _ _ Try.underlying27 info_b A1 X.length c1 s (by have := HC1.out; omega)
  have hsi : (s : Int) ≤ (X.length : Int) := by omega
  have hXi : (X.length : Int) ≤ 4194304 := by omega
  have HR := Lib.hid (replace_any F3 z q s w3.heap.size c1 L T (X.take s) A1 (by rw [List.length_take]; omega) (by omega) w3 hd3 (by
    rw [List.map_take]
    exact take_row ((HRX.out.below hb3).more hb3.size) s) (Nat.le_refl _))
  clear hf3 hd3 hb3
  go_wp2_with fail
  refine HR.out.mono ?_
  rintro e w4 ⟨rfl, F4, hf4, hd4, ht4⟩
  have HB4 : Hid (Below w2.heap.size w2 w4) := Lib.hid (HB3.out.trans (ht4.below HB3.out.size HF3.out))
  have HF4 : Hid (∀ k, F4 k → w2.heap.size ≤ k) := Lib.hid fun k hk => by
    rcases hf4 k hk with h | h
    · exact HF3.out k h
    · exact Nat.le_trans HB3.out.size h
  have HLO := Lib.hid (logon_any F4 (fun k => w1.heap.size ≤ k ∧ k < w2.heap.size) z q vs.length cR (X.take s) vs R rfl w4 hd4 (ownBase (ownLater HOR.out HB4.out) (Nat.zero_le _)) (recsO_base (recsO_below HBR.out HB4.out) (Nat.zero_le _))
    (fun a ha => ⟨(ownIn HOR.out ha).1, (ownIn HOR.out ha).2.1⟩) (fun r hr a ha => ⟨(ownIn (HBR.out r hr) ha).1, (ownIn (HBR.out r hr) ha).2.1⟩)
    (fun k h1 h2 => by have := HF4.out k h1; omega) (fun k hk => by have := HB4.out.size; omega) HSS.out HAG.out.symm)
  clear hf4 hd4 ht4 HR HD3 HF3 HB3 HRX
  go_wp2_with fail
  refine HLO.out.mono ?_
  rintro e w5 ⟨rfl, hl, hb⟩
  have HX : Hid (OpenP X q w (.returned (.tuple #[.pointer (some ⟨w4.heap.size, 0, none⟩), .int .i64 ((X.length : Int) - (s : Int)), .int .i64 0])) w5) := Lib.hid (by
    have h1 := HB1.out.size
    have h2 := HB2.out.size
    have h4 := HB4.out.size
    rw [HE.out]
    refine ⟨w4.heap.size, _, rfl, fun k hk => ?_, hl, HB1.out.trans ((HB2.out.trans ((HB4.out.trans (hb.mono h4)).mono h2)).mono h1)⟩
    rcases hk with h | h | h
    · have := HF4.out k h; omega
    · omega
    · omega)
  clear hl hb HLO HAG HSS HE
  go_wp2
  go_ret3
  exact HX.out
theorem lasting7_any (F : Nat → Prop) (g m q : Nat) (rs : List Rc) (w : World) (h : LgAt w F g rs m q) :
    Calls Try.prog 23 #[.pointer (some ⟨g, 0, none⟩)] w fun e w' => e = .returned (.int .i64 (m : Int)) ∧ w = w' := by
  obtain ⟨FD, FR, vs, R, c, h1, h2, h3, h⟩ := h
  have c4 := dka_c4 h.dk
  clear h h1 h2 h3
  go_enter Try.func23, Try.ntmps23
  go_wp2
  go_ret
  exact ⟨rfl, rfl⟩
theorem pending7_any (F : Nat → Prop) (g m q : Nat) (rs : List Rc) (w : World) (h : LgAt w F g rs m q) :
    Calls Try.prog 27 #[.pointer (some ⟨g, 0, none⟩)] w fun e w' => e = .returned (.int .i64 ((rs.length : Int) - (m : Int))) ∧ Below w.heap.size w w' := by
  have hmany := h.many
  obtain ⟨FD, FR, vs, R, c, h1, h2, h3, h⟩ := h
  have l3 := later_cell (dka_c3 h.dk)
  have l4 := later_cell (dka_c4 h.dk)
  rw [show vs.length = rs.length by rw [← h1, List.length_map]] at l3
  have hi : (rs.length : Int) ≤ 419430 := by omega
  have hm : (m : Int) ≤ (rs.length : Int) := by omega
  have hm0 : (0 : Int) ≤ (m : Int) := by omega
  clear h h1 h2 h3 hmany
  go_enter Try.func27, Try.ntmps27
  go_wp2_with fail
  refine wp_region_later (by kernel_rfl) (by kernel_rfl) ?_
  repeat (go_big_quiet_step (fail))
  refine wpQuiet_nil ?_
  intro w' hw'
  obtain ⟨p, rfl⟩ := hw'
  go_wp2
  go_ret
  exact ⟨rfl, p.bel⟩
theorem disk7_any (F : Nat → Prop) (g m q : Nat) (rs : List Rc) (w : World) (h : LgAt w F g rs m q) :
    Calls Try.prog 20 #[.pointer (some ⟨g, 0, none⟩)] w (NewDk id (allB (rs.take m)) (allB (rs.drop m)) q w) := by
  obtain ⟨FD, FR, vs, R, c, h1, h2, h3, h⟩ := h
  have HC := Lib.hid (copy_any FD g q _ _ w h.dk)
  clear h h1 h2 h3
  go_enter Try.func20, Try.ntmps20
  go_wp2_with fail
  refine HC.out.mono ?_
  rintro e w1 ⟨y, F1, rfl, hx⟩
  have HX := Lib.hid hx
  simp only [id]
  clear hx
  go_wp2
  go_ret
  exact ⟨y, F1, rfl, HX.out⟩
theorem crash7_neg (F : Nat → Prop) (g m q : Nat) (k : Int) (hk : k < 0) (rs : List Rc) (w : World) (h : LgAt w F g rs m q) :
    Calls Try.prog 25 #[.pointer (some ⟨g, 0, none⟩), .int .i64 k] w fun e w' => e = .returned (.tuple #[.pointer none, .int .i64 2]) ∧ Below w.heap.size w w' := by
  have HD := Lib.hid (disk7_any F g m q rs w h)
  clear h
  go_enter Try.func25, Try.ntmps25
  go_wp2_with fail
  refine HD.out.mono ?_
  rintro e w1 ⟨y, F1, rfl, hf, hd, hb⟩
  have HB := Lib.hid hb
  have HC := Lib.hid (crash_neg F1 y q [] [] k hk w1)
  simp only [id]
  clear hf hd hb
  go_wp2_with fail
  refine HC.out.mono ?_
  rintro e w' ⟨rfl, rfl⟩
  clear HC
  go_wp2
  go_ret2
  exact ⟨rfl, HB.out⟩
theorem crash7_any (F : Nat → Prop) (g m q k : Nat) (rs : List Rc) (w : World) (h : LgAt w F g rs m q) (X : List UInt8) (hX : allB (rs.take m) ++ (allB (rs.drop m)).take k = X) :
    Calls Try.prog 25 #[.pointer (some ⟨g, 0, none⟩), .int .i64 (k : Int)] w (NewLg (fun p => .tuple #[p, .int .i64 0]) (scanS X).1 (scanS X).1.length q w) := by
  have HD := Lib.hid (disk7_any F g m q rs w h)
  obtain ⟨L, hL⟩ : ∃ L, allB (rs.take m) = L := ⟨_, rfl⟩
  obtain ⟨T, hT⟩ : ∃ T, allB (rs.drop m) = T := ⟨_, rfl⟩
  rw [hL, hT] at HD hX
  clear h hL hT
  go_enter Try.func25, Try.ntmps25
  go_wp2_with fail
  refine HD.out.mono ?_
  rintro e w1 ⟨y, F1, rfl, hf, hd, hb⟩
  have HF := Lib.hid hf
  have HB := Lib.hid hb
  have HC := Lib.hid (crash_any F1 y q k L T w1 hd)
  rw [hX] at HC
  simp only [id]
  clear hf hd hb HD
  go_wp2_with fail
  refine HC.out.mono ?_
  rintro e w2 ⟨rfl, F2, hf2, hd2, ht2⟩
  have HB2 : Hid (Below w.heap.size w w2) := Lib.hid (HB.out.trans (ht2.below HB.out.size HF.out))
  have HO := Lib.hid (open_any F2 y q X [] w2 hd2)
  rw [List.append_nil] at HO
  clear hf2 hd2 ht2 HC
  go_wp2_with fail
  refine HO.out.mono ?_
  rintro e w3 ⟨z, F3, rfl, hf3, hl3, hb3⟩
  have HX : Hid (NewLg (fun p => .tuple #[p, .int .i64 0]) (scanS X).1 (scanS X).1.length q w (.returned (.tuple #[.pointer (some ⟨z, 0, none⟩), .int .i64 0])) w3) := Lib.hid
    ⟨z, F3, rfl, fun k hk => Nat.le_trans HB2.out.size (hf3 k hk), hl3, HB2.out.trans (hb3.mono HB2.out.size)⟩
  clear hf3 hl3 hb3 HO
  go_wp2
  go_ret2
  exact HX.out
end Go.Proofs.Ytkagfjjocmjeoaa
