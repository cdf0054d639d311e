/- Package disk: what each call answers, and leaves: Sync, Crash, Replace, New, Of. -/
import Derived.Test.YtmmhiolmeijemaaDskA
namespace Go.Proofs.Ytmmhiolmeijemaa
open Go.RowKit Mem
set_option maxRecDepth 10000
set_option maxHeartbeats 2000000
set_option linter.unusedVariables false
theorem sync_nil (w : World) : Calls Try.prog 23 #[.pointer none] w fun e w' => e = .returned (.int .i64 1) ∧ w = w' := by
  go_enter Try.func23, Try.ntmps23
  go_wp2
  go_ret
  exact ⟨rfl, rfl⟩
/-- A disk's count behind a Sync. -/
def upN (T : List UInt8) (n : Nat) : Nat := if T.length = 0 then n else n + 1
theorem dkTo_more {v : Value} {F : Nat → Prop} {g n : Nat} {L T : List UInt8} {w w1 w2 : World} {e : Ending} (hw : Touch F w w1) (hlt : w.heap.size ≤ w1.heap.size) (h : DkTo v F g L T n w1 e w2) : DkTo v F g L T n w e w2 := by
  obtain ⟨rfl, F2, h1, h2, h3⟩ := h
  exact ⟨rfl, F2, fun k hk => by rcases h1 k hk with h | h; exact Or.inl h; exact Or.inr (by omega), h2, hw.trans h3 (fun k hk => Or.inl hk)⟩
theorem sync_any (F : Nat → Prop) (g n : Nat) (L T : List UInt8) (hn : n ≤ 4611686018427387904) (w : World) (h : DkAt w F g L T n) :
    Calls Try.prog 23 #[.pointer (some ⟨g, 0, none⟩)] w (DkTo (.int .i64 0) F g (L ++ T) [] (upN T n) w) := by
  obtain ⟨A, c, A', c', h⟩ := h
  have c1 : w.cell? ⟨g, 1, none⟩ = some (.slice A' T.length c') := h.blk.cell 1
  have c2 : w.cell? ⟨g, 2, none⟩ = some (.int .i64 (n : Int)) := h.blk.cell 2
  have z2 := h.blk.frozen 2
  have hmx := h.mx
  have hT : (T.length : Int) ≤ 4194304 := by omega
  have hni : (n : Int) ≤ 4611686018427387904 := by omega
  have H := Lib.hid h
  have HT : Hid (T.take T.length = T) := Lib.hid (List.take_of_length_le (Nat.le_refl _))
  clear h hmx
  by_cases h0 : T.length = 0
  · have HU : Hid (upN T n = n) := Lib.hid (if_pos h0)
    have hS := settle_any F g n T.length L T (Nat.le_refl _) w ⟨A, c, A', c', H.out⟩
    rw [HT.out, h0] at hS
    have HS := Lib.hid hS
    rw [h0] at c1
    rw [HU.out]
    clear hS hT h0
    go_enter Try.func23, Try.ntmps23
    go_wp2_with fail
    refine HS.out.mono ?_
    rintro e w1 ⟨rfl, F', h1, h2, h3⟩
    have HX := Lib.hid (And.intro h1 (And.intro h2 h3))
    clear h1 h2 h3
    go_wp2
    go_ret
    exact ⟨rfl, F', HX.out⟩
  · have HU : Hid (upN T n = n + 1) := Lib.hid (if_neg h0)
    have hp : (0 : Int) < (T.length : Int) := by omega
    have hS := settle_any F g (n + 1) T.length L T (Nat.le_refl _) (w.setCell ⟨g, 2, none⟩ (.int .i64 ((n + 1 : Nat) : Int))) ⟨A, c, A', c', H.out.setN (n + 1)⟩
    have hc1 : (w.setCell ⟨g, 2, none⟩ (.int .i64 ((n + 1 : Nat) : Int))).cell? ⟨g, 1, none⟩ = some (.slice A' T.length c') := (H.out.setN (n + 1)).blk.cell 1
    have hsz : (w.setCell ⟨g, 2, none⟩ (.int .i64 ((n + 1 : Nat) : Int))).heap.size = w.heap.size := by simp [World.setCell]
    have HTo : Hid (Touch F w (w.setCell ⟨g, 2, none⟩ (.int .i64 ((n + 1 : Nat) : Int)))) := Lib.hid ((Touch.refl F w).set_ (Or.inl H.out.fg) _)
    rw [HT.out, Int.natCast_add, Int.natCast_one] at hS
    rw [Int.natCast_add, Int.natCast_one] at hc1 hsz HTo
    have HS := Lib.hid hS
    have HSZ := Lib.hid hsz
    rw [HU.out]
    clear hS hT h0 hsz
    go_enter Try.func23, Try.ntmps23
    go_wp2_with fail
    refine HS.out.mono ?_
    rintro e w1 hx
    have HX := Lib.hid (dkTo_more HTo.out (by rw [HSZ.out]; exact Nat.le_refl _) hx)
    obtain ⟨rfl, _⟩ := hx
    go_wp2
    go_ret
    exact ⟨rfl, HX.out.2⟩
theorem crash_neg (F : Nat → Prop) (g n : Nat) (L T : List UInt8) (k : Int) (hk : k < 0) (w : World) :
    Calls Try.prog 24 #[.pointer (some ⟨g, 0, none⟩), .int .i64 k] w fun e w' => e = .returned (.int .i64 2) ∧ w = w' := by
  go_enter Try.func24, Try.ntmps24
  go_wp2
  go_ret
  exact ⟨rfl, rfl⟩
theorem crash_any (F : Nat → Prop) (g n k : Nat) (L T : List UInt8) (w : World) (h : DkAt w F g L T n) :
    Calls Try.prog 24 #[.pointer (some ⟨g, 0, none⟩), .int .i64 (k : Int)] w (DkTo (.int .i64 0) F g (L ++ T.take k) [] n w) := by
  have hD := h
  obtain ⟨A, c, A', c', h⟩ := h
  have c1 : w.cell? ⟨g, 1, none⟩ = some (.slice A' T.length c') := h.blk.cell 1
  have hmx := h.mx
  have hT : (T.length : Int) ≤ 4194304 := by omega
  have hki : (0 : Int) ≤ (k : Int) := by omega
  clear h hmx
  by_cases hk : T.length < k
  · have hlt : (T.length : Int) < (k : Int) := by omega
    have hS := settle_any F g n T.length L T (Nat.le_refl _) w hD
    rw [show T.take T.length = T.take k by rw [List.take_of_length_le (Nat.le_refl _), List.take_of_length_le (by omega)]] at hS
    have HS := Lib.hid hS
    clear hS hD hk
    go_enter Try.func24, Try.ntmps24
    go_wp2_with fail
    refine HS.out.mono ?_
    rintro e w1 ⟨rfl, F', h1, h2, h3⟩
    have HX := Lib.hid (And.intro h1 (And.intro h2 h3))
    clear h1 h2 h3
    go_wp2
    go_ret
    exact ⟨rfl, F', HX.out⟩
  · have hlt : (k : Int) ≤ (T.length : Int) := by omega
    have hS := settle_any F g n k L T (by omega) w hD
    have HS := Lib.hid hS
    clear hS hD hk
    go_enter Try.func24, Try.ntmps24
    go_wp2_with fail
    refine HS.out.mono ?_
    rintro e w1 ⟨rfl, F', h1, h2, h3⟩
    have HX := Lib.hid (And.intro h1 (And.intro h2 h3))
    clear h1 h2 h3
    go_wp2
    go_ret
    exact ⟨rfl, F', HX.out⟩
theorem replace_long (g c m : Nat) (A : Option Addr) (hm : 4194304 < m) (w : World) :
    Calls Try.prog 26 #[.pointer (some ⟨g, 0, none⟩), .slice A m c] w fun e w' => e = .returned (.int .i64 3) ∧ w = w' := by
  have hmi : (4194304 : Int) < (m : Int) := by omega
  clear hm
  go_enter Try.func26, Try.ntmps26
  go_wp2
  go_ret
  exact ⟨rfl, rfl⟩
theorem dk_replaced {w w1 : World} {F : Nat → Prop} {g n m : Nat} {L T bs : List UInt8} (h : DkAt w F g L T n) {A1 : Option Addr} {c1 : Nat} (hm : m = bs.length) (hl : m ≤ 4194304)
    (ho : w1.ownsRow w.heap.size 5 1 (.slice A1 bs.length c1) bs.length (bs.map byteV)) (hb : Below w.heap.size w w1) :
    DkTo (.int .i64 0) F g bs [] n w (.returned (.int .i64 0)) ((w1.setCell ⟨g, 0, none⟩ (.slice A1 bs.length c1)).setCell ⟨g, 1, none⟩ (.slice none 0 0)) := by
  subst hm
  obtain ⟨A, c, A', c', h⟩ := h
  have hb1 := h.blk.below hb (h.lt g h.fg)
  have hb2 := (hb1.set_ 0 (.slice A1 bs.length c1)).set_ 1 (.slice none 0 0)
  have hk : ∀ k, k ≠ g → ((w1.setCell ⟨g, 0, none⟩ (.slice A1 bs.length c1)).setCell ⟨g, 1, none⟩ (.slice none 0 0)).heap[k]? = w1.heap[k]? := fun k hk =>
    (Below.heap_setCell _ ⟨g, 1, none⟩ _ k hk).trans (Below.heap_setCell _ ⟨g, 0, none⟩ _ k hk)
  have hsz : ((w1.setCell ⟨g, 0, none⟩ (.slice A1 bs.length c1)).setCell ⟨g, 1, none⟩ (.slice none 0 0)).heap.size = w1.heap.size := by simp [World.setCell]
  refine ⟨rfl, fun k => (F k ∨ w.heap.size ≤ k) ∧ k < w1.heap.size, fun k hk => hk.1, ⟨A1, c1, none, 0, ?_⟩, (((Touch.refl F w).thenBelow hb).set_ (Or.inl h.fg) _).set_ (Or.inl h.fg) _⟩
  refine ⟨hb2, ?_, World.ownsRow_nil _ _ _ _, ?_, inF_none _, apart_none _, ?_, ?_, ?_⟩
  · exact ownKeep (ownBase ho (Nat.zero_le _)) fun a ha => hk _ (ownNe ho hb1 (by decide) ha)
  · exact fun a ha => ⟨Or.inr (ownIn ho ha).1, (ownIn ho ha).2.1⟩
  · exact ⟨Or.inl h.fg, Nat.lt_of_lt_of_le (h.lt g h.fg) hb.size⟩
  · intro k hk; rw [hsz]; exact hk.2
  · rw [List.length_nil]; omega
theorem replace_any (F : Nat → Prop) (g n m B c0 : Nat) (L T bs : List UInt8) (A0 : Option Addr) (hm : m = bs.length) (hl : m ≤ 4194304) (w : World) (h : DkAt w F g L T n) (hr : Row w B A0 (bs.map byteV)) (hB : B ≤ w.heap.size) :
    Calls Try.prog 26 #[.pointer (some ⟨g, 0, none⟩), .slice A0 m c0] w (DkTo (.int .i64 0) F g bs [] n w) := by
  have HC := Lib.hid (clone_any B c0 A0 bs m hm w hr hB (by omega))
  have HD := Lib.hid h
  have HM := Lib.hid hm
  have hli : (m : Int) ≤ 4194304 := by omega
  clear h hr hm
  go_enter Try.func26, Try.ntmps26
  go_wp2_with fail
  refine HC.out.mono ?_
  rintro e w1 ⟨A1, c1, rfl, ho, hb⟩
  have hx : ∃ x y z, Blk w1 g 55 #[x, y, z] ∧ x.cells.size = 1 ∧ y.cells.size = 1 := by
    obtain ⟨A, c, A', c', h⟩ := HD.out
    exact ⟨_, _, _, h.blk.below hb (h.lt g h.fg), rfl, rfl⟩
  obtain ⟨x, y, z, hblk, _, _⟩ := hx
  have d0 : w1.cell? ⟨g, 0, none⟩ = some x := hblk.cell 0
  have d1 : w1.cell? ⟨g, 1, none⟩ = some y := hblk.cell 1
  have z0 := hblk.frozen 0
  have z1 := hblk.frozen 1
  have HX := Lib.hid (dk_replaced HD.out HM.out hl ho hb)
  clear ho hb hblk
  go_wp2
  go_ret
  exact HX.out
/-- A new disk, in blocks of its own. -/
def NewDk (v : Value → Value) (L T : List UInt8) (n : Nat) (w : World) (e : Ending) (w' : World) : Prop :=
  ∃ g F, e = .returned (v (.pointer (some ⟨g, 0, none⟩))) ∧ (∀ k, F k → w.heap.size ≤ k) ∧ DkAt w' F g L T n ∧ Below w.heap.size w w'
theorem new_at (w : World) : DkAt (w.alloc (.cells #[.slice none 0 0, .slice none 0 0, .int .i64 0] 55)) (fun k => k = w.heap.size) w.heap.size [] [] 0 :=
  ⟨none, 0, none, 0, ⟨Blk.new _ _ _, World.ownsRow_nil _ _ _ _, World.ownsRow_nil _ _ _ _, inF_none _, inF_none _, apart_none _, rfl, fun k hk => by subst hk; simp, by simp⟩⟩
theorem newdk_any (w : World) : Calls Try.prog 15 #[] w (NewDk id [] [] 0 w) := by
  have HN := Lib.hid (new_at w)
  go_enter Try.func15, Try.ntmps15
  go_wp2
  go_ret
  exact ⟨w.heap.size, _, rfl, fun k hk => by subst hk; exact Nat.le_refl _, HN.out, (Below.refl _ _).alloc (Nat.le_refl _) _⟩
theorem of_any (m B c0 : Nat) (bs : List UInt8) (A0 : Option Addr) (hm : m = bs.length) (hl : m ≤ 4194304) (w : World) (hr : Row w B A0 (bs.map byteV)) (hB : B ≤ w.heap.size) :
    Calls Try.prog 11 #[.slice A0 m c0] w (NewDk (fun p => .tuple #[p, .int .i64 0]) bs [] 0 w) := by
  have HR := Lib.hid hr
  have HM := Lib.hid hm
  clear hr hm
  go_enter Try.func11, Try.ntmps11
  go_wp2_with fail
  refine (newdk_any w).mono ?_
  rintro e w1 ⟨g, F, rfl, hF, hd, hb⟩
  have HF := Lib.hid hF
  have HD := Lib.hid hd
  have HB := Lib.hid hb
  simp only [id]
  clear hF hd hb
  go_wp2_with fail
  refine (replace_any F g 0 m B c0 [] [] bs A0 HM.out hl w1 HD.out (HR.out.below (HB.out.mono hB)) (Nat.le_trans hB HB.out.size)).mono ?_
  rintro e w2 ⟨rfl, F', h1, h2, h3⟩
  have HX : Hid ((∀ k, F' k → w.heap.size ≤ k) ∧ DkAt w2 F' g bs [] 0 ∧ Below w.heap.size w w2) := Lib.hid ⟨fun k hk => by
    rcases h1 k hk with h | h
    · exact HF.out k h
    · exact Nat.le_trans HB.out.size h, h2, HB.out.trans (h3.below HB.out.size HF.out)⟩
  clear h1 h2 h3
  go_wp2
  go_ret2
  exact ⟨g, F', rfl, HX.out⟩
end Go.Proofs.Ytmmhiolmeijemaa
