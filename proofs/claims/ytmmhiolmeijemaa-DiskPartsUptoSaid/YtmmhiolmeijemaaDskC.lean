/- Package disk: what is told of a disk, in new memory: Lasting, Tail, Syncs, Bytes, Copy. -/
import Derived.Test.YtmmhiolmeijemaaDskB
import Derived.Test.YtmmhiolmeijemaaConcat
import Derived.Deep.RegionWith
namespace Go.Proofs.Ytmmhiolmeijemaa
open Go.RowKit Mem
set_option maxRecDepth 10000
set_option maxHeartbeats 2000000
set_option linter.unusedVariables false
theorem lasting_any (F : Nat → Prop) (g n : Nat) (L T : List UInt8) (w : World) (h : DkAt w F g L T n) :
    Calls Try.prog 16 #[.pointer (some ⟨g, 0, none⟩)] w (Made w.heap.size L w) := by
  obtain ⟨A, c, A', c', h⟩ := h
  have c0 : w.cell? ⟨g, 0, none⟩ = some (.slice A L.length c) := h.blk.cell 0
  have HC := Lib.hid (clone_any w.heap.size c A L L.length rfl w (Row.of_own h.ol) (Nat.le_refl _) (by have := h.mx; omega))
  clear h
  go_enter Try.func16, Try.ntmps16
  go_wp2_with fail
  refine HC.out.mono ?_
  rintro e w1 ⟨A1, c1, rfl, ho, hb⟩
  have HX := Lib.hid (And.intro ho hb)
  clear ho hb
  go_wp2
  go_ret
  exact ⟨A1, c1, rfl, HX.out.1, HX.out.2⟩
theorem tail_any (F : Nat → Prop) (g n : Nat) (L T : List UInt8) (w : World) (h : DkAt w F g L T n) :
    Calls Try.prog 19 #[.pointer (some ⟨g, 0, none⟩)] w (Made w.heap.size T w) := by
  obtain ⟨A, c, A', c', h⟩ := h
  have c0 : w.cell? ⟨g, 1, none⟩ = some (.slice A' T.length c') := h.blk.cell 1
  have HC := Lib.hid (clone_any w.heap.size c' A' T T.length rfl w (Row.of_own h.ot) (Nat.le_refl _) (by have := h.mx; omega))
  clear h
  go_enter Try.func19, Try.ntmps19
  go_wp2_with fail
  refine HC.out.mono ?_
  rintro e w1 ⟨A1, c1, rfl, ho, hb⟩
  have HX := Lib.hid (And.intro ho hb)
  clear ho hb
  go_wp2
  go_ret
  exact ⟨A1, c1, rfl, HX.out.1, HX.out.2⟩
theorem syncs_any (F : Nat → Prop) (g n : Nat) (L T : List UInt8) (w : World) (h : DkAt w F g L T n) :
    Calls Try.prog 22 #[.pointer (some ⟨g, 0, none⟩)] w fun e w' => e = .returned (.int .i64 (n : Int)) ∧ w = w' := by
  obtain ⟨A, c, A', c', h⟩ := h
  have c0 : w.cell? ⟨g, 2, none⟩ = some (.int .i64 (n : Int)) := h.blk.cell 2
  clear h
  go_enter Try.func22, Try.ntmps22
  go_wp2
  go_ret
  exact ⟨rfl, rfl⟩
theorem made_drew {B : Nat} {bs : List UInt8} {w w0 : World} {e : Ending} {w' : World} (hb : Below w.heap.size w w0) (h : Made w0.heap.size bs w0 e w') : Made w.heap.size bs w e w' := by
  obtain ⟨A1, c1, rfl, ho, hb2⟩ := h
  exact ⟨A1, c1, rfl, ownBase ho hb.size, hb.trans (hb2.mono hb.size)⟩
theorem bytes_any (F : Nat → Prop) (g n : Nat) (L T : List UInt8) (w : World) (h : DkAt w F g L T n) :
    Calls Try.prog 17 #[.pointer (some ⟨g, 0, none⟩)] w (Made w.heap.size (L ++ T) w) := by
  obtain ⟨A, c, A', c', h⟩ := h
  have c0 : w.cell? ⟨g, 0, none⟩ = some (.slice A L.length c) := h.blk.cell 0
  have c1 : w.cell? ⟨g, 1, none⟩ = some (.slice A' T.length c') := h.blk.cell 1
  have HC : Hid (Calls Try.prog 29 #[.slice (some ⟨w.heap.size, 0, none⟩) 2 2] (w.alloc (.cells #[.slice A L.length c, .slice A' T.length c'] 22)).drew (Made w.heap.size (L ++ T) w)) := Lib.hid (by
    have hb2 : Below w.heap.size w (w.alloc (.cells #[.slice A L.length c, .slice A' T.length c'] 22)).drew := ((Below.refl _ _).alloc (Nat.le_refl _) _).drew
    have hrow : Row (w.alloc (.cells #[.slice A L.length c, .slice A' T.length c'] 22)).drew (w.heap.size + 1) (some ⟨w.heap.size, 0, none⟩) (List.map rowV [(A, L, c), (A', T, c')]) := (row_cells rfl : Row _ _ _ _).drew
    have hcat : catB [(A, L, c), (A', T, c')] = L ++ T := by simp [catB]
    have := concat_any (w.heap.size + 1) 2 2 (some ⟨w.heap.size, 0, none⟩) [(A, L, c), (A', T, c')] rfl _ hrow (by simp) (fun r hr => by
      rcases (by simpa using hr : r = (A, L, c) ∨ r = (A', T, c')) with rfl | rfl
      · exact ((Row.of_own h.ol).below hb2).more hb2.size
      · exact ((Row.of_own h.ot).below hb2).more hb2.size) (by rw [hcat, List.length_append]; have := h.mx; omega) (by omega)
    rw [hcat] at this
    exact this.mono fun e w' hm => made_drew (B := 0) hb2 hm)
  obtain ⟨X, hX⟩ : ∃ X, L ++ T = X := ⟨_, rfl⟩
  rw [hX] at HC ⊢
  clear h hX
  go_enter Try.func17, Try.ntmps17
  go_wp2_with fail
  go_region_with (go_at_call 29; refine HC.out.mono ?_; rintro e w1 ⟨A1, c2, rfl, ho, hb⟩; have HX := Lib.hid (And.intro ho hb); clear ho hb)
  all_goals
    go_wp2
    go_ret
    exact ⟨A1, c2, rfl, HX.out.1, HX.out.2⟩
theorem dk_copied {w w1 : World} {L T : List UInt8} {n g : Nat} {x y : Value} {A1 A2 : Option Addr} {c1 c2 : Nat} (hg : g = w.heap.size) (hb : Below w.heap.size w w1) (hblk : Blk w1 g 55 #[x, y, .int .i64 (n : Int)])
    (ho1 : w1.ownsRow w.heap.size 5 1 (.slice A1 L.length c1) L.length (L.map byteV)) (ho2 : w1.ownsRow w.heap.size 5 1 (.slice A2 T.length c2) T.length (T.map byteV)) (ha : Apart A1 A2) (hm : L.length + T.length ≤ 4194304) :
    NewDk id L T n w (.returned (.pointer (some ⟨g, 0, none⟩))) ((w1.setCell ⟨g, 0, none⟩ (.slice A1 L.length c1)).setCell ⟨g, 1, none⟩ (.slice A2 T.length c2)) := by
  subst hg
  have hb2 := (hblk.set_ 0 (.slice A1 L.length c1)).set_ 1 (.slice A2 T.length c2)
  have hk : ∀ k, k ≠ w.heap.size → ((w1.setCell ⟨w.heap.size, 0, none⟩ (.slice A1 L.length c1)).setCell ⟨w.heap.size, 1, none⟩ (.slice A2 T.length c2)).heap[k]? = w1.heap[k]? := fun k hk =>
    (Below.heap_setCell _ ⟨w.heap.size, 1, none⟩ _ k hk).trans (Below.heap_setCell _ ⟨w.heap.size, 0, none⟩ _ k hk)
  have hsz : ((w1.setCell ⟨w.heap.size, 0, none⟩ (.slice A1 L.length c1)).setCell ⟨w.heap.size, 1, none⟩ (.slice A2 T.length c2)).heap.size = w1.heap.size := by simp [World.setCell]
  refine ⟨w.heap.size, fun k => w.heap.size ≤ k ∧ k < w1.heap.size, rfl, fun k hk => hk.1, ⟨A1, c1, A2, c2, ?_⟩, (hb.setCell (p := ⟨w.heap.size, 0, none⟩) (Nat.le_refl _) _).setCell (p := ⟨w.heap.size, 1, none⟩) (Nat.le_refl _) _⟩
  refine ⟨hb2, ?_, ?_, ?_, ?_, ha, ⟨Nat.le_refl _, hblk.lt⟩, fun k hk => by rw [hsz]; exact hk.2, hm⟩
  · exact ownKeep (ownBase ho1 (Nat.zero_le _)) fun a ha => hk _ (ownNe ho1 hblk (by decide) ha)
  · exact ownKeep (ownBase ho2 (Nat.zero_le _)) fun a ha => hk _ (ownNe ho2 hblk (by decide) ha)
  · exact fun a ha => ⟨(ownIn ho1 ha).1, (ownIn ho1 ha).2.1⟩
  · exact fun a ha => ⟨(ownIn ho2 ha).1, (ownIn ho2 ha).2.1⟩
theorem apart_of {w1 w2 : World} {B n m c c' k k' : Nat} {A A' : Option Addr} {xs ys : List Value} (h1 : w1.ownsRow B 5 1 (.slice A n c) k xs) (h2 : w2.ownsRow w1.heap.size 5 1 (.slice A' m c') k' ys) : Apart A A' := fun a a' ha ha' e => by
  have := (ownIn h1 ha).2.1
  have := (ownIn h2 ha').1
  omega
theorem apart_symm {A A' : Option Addr} (h : Apart A A') : Apart A' A := fun a a' h1 h2 e => h a' a h2 h1 e.symm
theorem copy_any (F : Nat → Prop) (g n : Nat) (L T : List UInt8) (w : World) (h : DkAt w F g L T n) :
    Calls Try.prog 21 #[.pointer (some ⟨g, 0, none⟩)] w (NewDk id L T n w) := by
  obtain ⟨A, c, A', c', h⟩ := h
  have c0 : w.cell? ⟨g, 0, none⟩ = some (.slice A L.length c) := h.blk.cell 0
  have c1 : w.cell? ⟨g, 1, none⟩ = some (.slice A' T.length c') := h.blk.cell 1
  have c2 : w.cell? ⟨g, 2, none⟩ = some (.int .i64 (n : Int)) := h.blk.cell 2
  have hgl := h.lt g h.fg
  have hmx := h.mx
  have HC1 : Hid (∀ W, Below w.heap.size w W → Calls Try.prog 28 #[.slice A L.length c] W (Made W.heap.size L W)) := Lib.hid fun W hb =>
    clone_any w.heap.size c A L L.length rfl W ((Row.of_own h.ol).below hb) hb.size (by omega)
  have HC2 : Hid (∀ W, Below w.heap.size w W → Calls Try.prog 28 #[.slice A' T.length c'] W (Made W.heap.size T W)) := Lib.hid fun W hb =>
    clone_any w.heap.size c' A' T T.length rfl W ((Row.of_own h.ot).below hb) hb.size (by omega)
  have H := Lib.hid h
  have HM := Lib.hid hmx
  have HW : Hid (Below w.heap.size w (w.alloc (.cells #[.slice A L.length c, .slice A' T.length c', .int .i64 (n : Int)] 55)).drew) := Lib.hid ((Below.refl _ _).alloc (Nat.le_refl _) _).drew
  have HNB : Hid (Blk (w.alloc (.cells #[.slice A L.length c, .slice A' T.length c', .int .i64 (n : Int)] 55)).drew w.heap.size 55 #[.slice A L.length c, .slice A' T.length c', .int .i64 (n : Int)]) := Lib.hid (Blk.new _ _ _).drew
  clear h hmx
  go_enter Try.func21, Try.ntmps21
  go_wp2_with fail
  go_region_with (first
    | (go_at_call 28; refine (HC1.out _ HW.out).mono ?_; rintro e w1 ⟨A1, k1, rfl, ho, hb⟩; have HB1 := Lib.hid (HW.out.trans (hb.mono HW.out.size)); have HO1 := Lib.hid ho; have HNB1 := Lib.hid (HNB.out.below hb HNB.out.lt); clear ho hb; (have d1 : w1.cell? ⟨g, 1, none⟩ = some (.slice A' T.length c') := (HB1.out.cell (p := ⟨g, 1, none⟩) hgl).trans c1); (have f0 : w1.cell? ⟨w.heap.size, 0, none⟩ = some (.slice A L.length c) := HNB1.out.cell 0); (have f1 : w1.cell? ⟨w.heap.size, 1, none⟩ = some (.slice A' T.length c') := HNB1.out.cell 1); have y0 := HNB1.out.frozen 0; have y1 := HNB1.out.frozen 1)
    | (go_at_call 28; refine (HC2.out _ HB1.out).mono ?_; rintro e w2 ⟨A2, k2, rfl, ho, hb⟩; have HB2 := Lib.hid (HB1.out.trans (hb.mono HB1.out.size)); have HAP := Lib.hid (apart_of HO1.out ho); have HO1 := Lib.hid (own_later HO1.out hb); have HO2 := Lib.hid ho; have HNB2 := Lib.hid (HNB1.out.below hb HNB1.out.lt); clear ho hb; (have f0 : w2.cell? ⟨w.heap.size, 0, none⟩ = some (.slice A L.length c) := HNB2.out.cell 0); (have f1 : w2.cell? ⟨w.heap.size, 1, none⟩ = some (.slice A' T.length c') := HNB2.out.cell 1); have y0 := HNB2.out.frozen 0; have y1 := HNB2.out.frozen 1)
    | (go_at_call 28; refine (HC2.out _ HW.out).mono ?_; rintro e w1 ⟨A2, k2, rfl, ho, hb⟩; have HB1 := Lib.hid (HW.out.trans (hb.mono HW.out.size)); have HO2 := Lib.hid ho; have HNB1 := Lib.hid (HNB.out.below hb HNB.out.lt); clear ho hb; (have d0 : w1.cell? ⟨g, 0, none⟩ = some (.slice A L.length c) := (HB1.out.cell (p := ⟨g, 0, none⟩) hgl).trans c0); (have f0 : w1.cell? ⟨w.heap.size, 0, none⟩ = some (.slice A L.length c) := HNB1.out.cell 0); (have f1 : w1.cell? ⟨w.heap.size, 1, none⟩ = some (.slice A' T.length c') := HNB1.out.cell 1); have y0 := HNB1.out.frozen 0; have y1 := HNB1.out.frozen 1)
    | (go_at_call 28; refine (HC1.out _ HB1.out).mono ?_; rintro e w2 ⟨A1, k1, rfl, ho, hb⟩; have HB2 := Lib.hid (HB1.out.trans (hb.mono HB1.out.size)); have HAP := Lib.hid (apart_symm (apart_of HO2.out ho)); have HO2 := Lib.hid (own_later HO2.out hb); have HO1 := Lib.hid ho; have HNB2 := Lib.hid (HNB1.out.below hb HNB1.out.lt); clear ho hb; (have f0 : w2.cell? ⟨w.heap.size, 0, none⟩ = some (.slice A L.length c) := HNB2.out.cell 0); (have f1 : w2.cell? ⟨w.heap.size, 1, none⟩ = some (.slice A' T.length c') := HNB2.out.cell 1); have y0 := HNB2.out.frozen 0; have y1 := HNB2.out.frozen 1))
  all_goals
    go_wp2
    go_ret
    exact dk_copied rfl HB2.out HNB2.out (ownBase HO1.out (by have := HB1.out.size; have := HW.out.size; omega)) (ownBase HO2.out (by have := HB1.out.size; have := HW.out.size; omega)) HAP.out HM.out
end Go.Proofs.Ytmmhiolmeijemaa
