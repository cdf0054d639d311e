/- The law TagsNewer, walked. -/
import Derived.Test.YtnljljfopelopaaReadsLaw
import Derived.RegionTactic
namespace Go.Proofs.Ytnljljfopelopaa
open Go.RowKit Mem Be
set_option maxRecDepth 100000
set_option maxHeartbeats 8000000
set_option linter.unusedVariables false
set_option linter.unusedSimpArgs false
theorem copyb_any (B c n : Nat) (A : Option Addr) (bs : List UInt8) (hn : n = bs.length) (w : World) (h : Row w B A (bs.map byteV)) (hB : B ≤ w.heap.size) (hl : bs.length ≤ 1073741824) :
    Calls Try.prog 37 #[.slice A n c] w (Made w.heap.size bs w) := by
  subst hn
  obtain ⟨i0, hi0, hz0, hz1, hz2⟩ := info_parts info_b
  have HR := Lib.hid h
  clear h
  go_enter Try.func37, Try.ntmps37
  go_wp2_with (at_builtin; refine wpList_app _ rfl _ _ 39 rfl w.heap.size 5 i0 (.int .u8 0) 1 Try.underlying39 hi0 hz0 hz1 hz2 rfl (.slice none 0 0) 0 [] rfl (World.ownsRow_nil _ _ _ _) B _ bs.length c (bs.map byteV) rfl (by simp) HR.out (byte_one bs) (by unfold maxLen; omega) (by omega) (Nat.le_refl _) ?_)
  intro v' w1 hown hgr _
  have HO := Lib.hid hown
  have HB : Hid (Below w.heap.size w w1) := Lib.hid ⟨hgr.os, hgr.tape, hgr.output, hgr.size, fun k hk => hgr.block k hk (by simp [Value.ownBlock])⟩
  clear hown hgr
  go_wp2
  go_ret
  exact made_of HO.out (by simp) HB.out
/-- The newer one of two, by both. -/
structure NewOk (key key2 : ByteArray) (s u o s2 u2 o2 : Int) (has has2 : Bool) (A A2 : Option Addr) (xs ys : List UInt8) (n c n2 c2 : Nat) (k : ByteArray) (p q r : Int) (h : Bool) (D : Option Addr) (zs : List UInt8) (d : Nat) : Prop where
  prog : ∀ W, ValOk W has A xs c → ValOk W has2 A2 ys c2 → Calls Try.prog 38 #[entV key s u o has A n c, entV key2 s2 u2 o2 has2 A2 n2 c2] W (MadeE W.heap.size k p q r h zs W)
  ref : ∀ W, Calls Try.prog 40 #[entV key s u o has A n c, entV key2 s2 u2 o2 has2 A2 n2 c2] W fun e w' => e = .returned (entV k p q r h D zs.length d) ∧ Below W.heap.size W w'
  val : ∀ W, ValOk W has A xs c → ValOk W has2 A2 ys c2 → ValOk W h D zs d
theorem new_ok (key key2 : ByteArray) (s u o s2 u2 o2 : Int) (has has2 : Bool) (A A2 : Option Addr) (xs ys : List UInt8) (n c n2 c2 : Nat) (hn : n = xs.length) (hn2 : n2 = ys.length) :
    ∃ k p q r h D zs d, NewOk key key2 s u o s2 u2 o2 has has2 A A2 xs ys n c n2 c2 k p q r h D zs d := by
  by_cases hc : cmpT s u o s2 u2 o2 = -1
  · exact ⟨key2, s2, u2, o2, has2, A2, ys, c2, fun W h1 h2 => newer_lt key key2 s u o s2 u2 o2 has has2 A A2 xs ys n c n2 c2 hn hn2 W h1 h2 hc,
      fun W => by subst hn2; exact refnewer_lt key key2 s u o s2 u2 o2 has has2 A A2 n c _ c2 W hc, fun W _ h2 => h2⟩
  · exact ⟨key, s, u, o, has, A, xs, c, fun W h1 h2 => newer_ge key key2 s u o s2 u2 o2 has has2 A A2 xs ys n c n2 c2 hn hn2 W h1 h2 hc,
      fun W => by subst hn; exact refnewer_ge key key2 s u o s2 u2 o2 has has2 A A2 _ c n2 c2 W hc, fun W h1 _ => h1⟩
/-- A row of the call's own, whose bytes are whatever they are. -/
def Bytes_ (w : World) (B : Nat) (A : Option Addr) (n c : Nat) : Prop := ∃ bs : List UInt8, bs.length = n ∧ w.ownsRow B 5 1 (.slice A n c) n (bs.map byteV)
/-- Block g is bytes, m of them known to be some. -/
def RowG (w : World) (g m : Nat) : Prop := ∃ cur : Array Value, Blk w g 5 cur ∧ ∀ j, j < m → ∃ z : Int, cur[j]? = some (.int .u8 z)
theorem rowg_set {w : World} {g m j : Nat} (h : RowG w g m) (z : Int) : RowG (w.setCell ⟨g, j, none⟩ (.int .u8 z)) g m := by
  obtain ⟨cur, hk, hc⟩ := h
  refine ⟨_, hk.set_ j _, fun i hi => ?_⟩
  obtain ⟨y, hy⟩ := hc i hi
  by_cases e : j = i
  · subst e
    have hlt : j < cur.size := (Array.getElem?_eq_some_iff.1 hy).1
    exact ⟨z, by simp [Array.getElem?_setIfInBounds, hlt]⟩
  · exact ⟨y, by simp [Array.getElem?_setIfInBounds, e, hy]⟩
theorem rowg_drew {w : World} {g m : Nat} (h : RowG w g m) : RowG w.drew g m := h
theorem newlaw_walk (key key2 : ByteArray) (s u o s2 u2 o2 : Int) (has has2 : Bool) (A A2 : Option Addr) (xs ys : List UInt8) (n c n2 c2 : Nat) (hn : n = xs.length) (hn2 : n2 = ys.length) (hc : n ≤ c) (hc2 : n2 ≤ c2) (w : World) (hr : Row w w.heap.size A (xs.map byteV)) (hr2 : Row w w.heap.size A2 (ys.map byteV)) :
    Calls Try.prog 8 #[entV key s u o has A n c, entV key2 s2 u2 o2 has2 A2 n2 c2] w fun e w' => e = .returned (.bool true) ∧ Below w.heap.size w w' := by
  have HB0 : Hid (Below w.heap.size w ((w.alloc (entO key s u o has A n c)).alloc (entO key2 s2 u2 o2 has2 A2 n2 c2))) := Lib.hid (((Below.refl _ _).alloc (Nat.le_refl _) _).alloc (by simp) _)
  have KA := Lib.hid ((Blk.new w 43 #[.string key, .int .i64 s, .int .i64 u, .int .i64 o, .bool has, .slice A n c]).alloc (entO key2 s2 u2 o2 has2 A2 n2 c2))
  have KB := Lib.hid (blk_at (show _ = w.heap.size + 1 by simp) (Blk.new (w.alloc (entO key s u o has A n c)) 43 #[.string key2, .int .i64 s2, .int .i64 u2, .int .i64 o2, .bool has2, .slice A2 n2 c2]))
  cases hl : longE key.size n
  case true =>
    have HL := Lib.hid hl
    clear hl hn hn2 hc hc2 hr hr2
    go_enter Try.func8, Try.ntmps8
    go_wp2_with fail
    refine (long_val _ _ _ _ _ _ _ _ _ HL _).mono ?_
    rintro e w1 ⟨rfl, hb⟩
    have HB1 : Hid (Below w.heap.size w w1) := Lib.hid (HB0.out.trans (hb.mono HB0.out.size))
    clear hb
    go_wp2_with fail
    refine (known_any _).mono ?_
    rintro e w2 ⟨rfl, hb⟩
    have HB2 : Hid (Below w.heap.size w w2) := Lib.hid (HB1.out.trans (hb.mono HB1.out.size))
    clear hb
    go_wp2
    go_ret
    exact ⟨rfl, HB2.out⟩
  have HL := Lib.hid hl
  obtain ⟨hk4, hn4⟩ := longE_no hl
  cases hl2 : longE key2.size n2
  case true =>
    have HL2 := Lib.hid hl2
    clear hl hl2 hn hn2 hc hc2 hr hr2 hk4 hn4
    go_enter Try.func8, Try.ntmps8
    go_wp2_with fail
    refine (long_val _ _ _ _ _ _ _ _ _ HL _).mono ?_
    rintro e w1 ⟨rfl, hb⟩
    have HB1 : Hid (Below w.heap.size w w1) := Lib.hid (HB0.out.trans (hb.mono HB0.out.size))
    have KB1 := Lib.hid (KB.out.below hb KB.out.lt)
    have b0 : w1.cell? ⟨w.heap.size + 1, 0, none⟩ = some (.string key2) := KB1.out.cell 0
    have b1 : w1.cell? ⟨w.heap.size + 1, 1, none⟩ = some (.int .i64 s2) := KB1.out.cell 1
    have b2 : w1.cell? ⟨w.heap.size + 1, 2, none⟩ = some (.int .i64 u2) := KB1.out.cell 2
    have b3 : w1.cell? ⟨w.heap.size + 1, 3, none⟩ = some (.int .i64 o2) := KB1.out.cell 3
    have b4 : w1.cell? ⟨w.heap.size + 1, 4, none⟩ = some (.bool has2) := KB1.out.cell 4
    have b5 : w1.cell? ⟨w.heap.size + 1, 5, none⟩ = some (.slice A2 n2 c2) := KB1.out.cell 5
    clear hb
    go_wp2_with fail
    refine (long_val _ _ _ _ _ _ _ _ _ HL2 _).mono ?_
    rintro e w2 ⟨rfl, hb⟩
    have HB2 : Hid (Below w.heap.size w w2) := Lib.hid (HB1.out.trans (hb.mono HB1.out.size))
    clear hb b0 b1 b2 b3 b4 b5
    go_wp2_with fail
    refine (known_any _).mono ?_
    rintro e w3 ⟨rfl, hb⟩
    have HB3 : Hid (Below w.heap.size w w3) := Lib.hid (HB2.out.trans (hb.mono HB2.out.size))
    clear hb
    go_wp2
    go_ret
    exact ⟨rfl, HB3.out⟩
  obtain ⟨hk42, hn42⟩ := longE_no hl2
  have HL2 := Lib.hid hl2
  obtain ⟨k, p, q, r, h, D, zs, d, hnew⟩ := new_ok key key2 s u o s2 u2 o2 has has2 A A2 xs ys n c n2 c2 hn hn2
  have HW := Lib.hid hnew
  have va0 : ValOk w has A xs c := ⟨hr, by omega, by omega⟩
  have vb0 : ValOk w has2 A2 ys c2 := ⟨hr2, by omega, by omega⟩
  have VA := Lib.hid (va0.below HB0.out)
  have VB := Lib.hid (vb0.below HB0.out)
  have HRA := Lib.hid hr
  have HN := Lib.hid hn
  have HN2 := Lib.hid hn2
  have hni : (n : Int) ≤ 1000 := by omega
  obtain ⟨b1, hb1⟩ : ∃ b, sameE key key2 s u o s2 u2 o2 has has2 xs ys = b := ⟨_, rfl⟩
  obtain ⟨b2, hb2⟩ : ∃ b, sameV has has2 xs ys = b := ⟨_, rfl⟩
  have HE1 := Lib.hid hb1
  have HE2 := Lib.hid hb2
  clear hl hl2 hn hn2 hc hc2 hr hr2 hk4 hn4 hk42 hn42 hnew va0 vb0 hb1 hb2
  go_enter Try.func8, Try.ntmps8
  go_wp2_with fail
  refine (long_val _ _ _ _ _ _ _ _ _ HL _).mono ?_
  rintro e w1 ⟨rfl, hb⟩
  have HB1 : Hid (Below w.heap.size w w1) := Lib.hid (HB0.out.trans (hb.mono HB0.out.size))
  have KA1 := Lib.hid (KA.out.below hb KA.out.lt)
  have KB1 := Lib.hid (KB.out.below hb KB.out.lt)
  have VA1 := Lib.hid (VA.out.below hb)
  have VB1 := Lib.hid (VB.out.below hb)
  have f0 : w1.cell? ⟨w.heap.size + 1, 0, none⟩ = some (.string key2) := KB1.out.cell 0
  have f1 : w1.cell? ⟨w.heap.size + 1, 1, none⟩ = some (.int .i64 s2) := KB1.out.cell 1
  have f2 : w1.cell? ⟨w.heap.size + 1, 2, none⟩ = some (.int .i64 u2) := KB1.out.cell 2
  have f3 : w1.cell? ⟨w.heap.size + 1, 3, none⟩ = some (.int .i64 o2) := KB1.out.cell 3
  have f4 : w1.cell? ⟨w.heap.size + 1, 4, none⟩ = some (.bool has2) := KB1.out.cell 4
  have f5 : w1.cell? ⟨w.heap.size + 1, 5, none⟩ = some (.slice A2 n2 c2) := KB1.out.cell 5
  clear hb
  go_wp2_with fail
  refine (long_val _ _ _ _ _ _ _ _ _ HL2 _).mono ?_
  rintro e w2 ⟨rfl, hb⟩
  have HB2 : Hid (Below w.heap.size w w2) := Lib.hid (HB1.out.trans (hb.mono HB1.out.size))
  have KA2 := Lib.hid (KA1.out.below hb KA1.out.lt)
  have KB2 := Lib.hid (KB1.out.below hb KB1.out.lt)
  have VA2 := Lib.hid (VA1.out.below hb)
  have VB2 := Lib.hid (VB1.out.below hb)
  clear hb f0 f1 f2 f3 f4 f5
  have e0 : w2.cell? ⟨w.heap.size, 0, none⟩ = some (.string key) := KA2.out.cell 0
  have e1 : w2.cell? ⟨w.heap.size, 1, none⟩ = some (.int .i64 s) := KA2.out.cell 1
  have e2 : w2.cell? ⟨w.heap.size, 2, none⟩ = some (.int .i64 u) := KA2.out.cell 2
  have e3 : w2.cell? ⟨w.heap.size, 3, none⟩ = some (.int .i64 o) := KA2.out.cell 3
  have e4 : w2.cell? ⟨w.heap.size, 4, none⟩ = some (.bool has) := KA2.out.cell 4
  have e5 : w2.cell? ⟨w.heap.size, 5, none⟩ = some (.slice A n c) := KA2.out.cell 5
  have f0 : w2.cell? ⟨w.heap.size + 1, 0, none⟩ = some (.string key2) := KB2.out.cell 0
  have f1 : w2.cell? ⟨w.heap.size + 1, 1, none⟩ = some (.int .i64 s2) := KB2.out.cell 1
  have f2 : w2.cell? ⟨w.heap.size + 1, 2, none⟩ = some (.int .i64 u2) := KB2.out.cell 2
  have f3 : w2.cell? ⟨w.heap.size + 1, 3, none⟩ = some (.int .i64 o2) := KB2.out.cell 3
  have f4 : w2.cell? ⟨w.heap.size + 1, 4, none⟩ = some (.bool has2) := KB2.out.cell 4
  have f5 : w2.cell? ⟨w.heap.size + 1, 5, none⟩ = some (.slice A2 n2 c2) := KB2.out.cell 5
  go_wp2_with fail
  refine (HW.out.prog _ VA2.out VB2.out).mono ?_
  rintro e w3 ⟨D5, d5, rfl, ho, hb⟩
  have HB3 : Hid (Below w.heap.size w w3) := Lib.hid (HB2.out.trans (hb.mono HB2.out.size))
  have HB3a : Hid (Below w.heap.size w (w3.alloc (entO k p q r h D5 zs.length d5))) := Lib.hid (HB3.out.alloc HB3.out.size _)
  have KA3 := Lib.hid ((KA2.out.below hb KA2.out.lt).alloc (entO k p q r h D5 zs.length d5))
  have KB3 := Lib.hid ((KB2.out.below hb KB2.out.lt).alloc (entO k p q r h D5 zs.length d5))
  have K53 := Lib.hid (Blk.new w3 43 #[.string k, .int .i64 p, .int .i64 q, .int .i64 r, .bool h, .slice D5 zs.length d5])
  have hlz := (HW.out.val _ VA2.out VB2.out).len
  have V53 : Hid (ValOk (w3.alloc (entO k p q r h D5 zs.length d5)) h D5 zs d5) := Lib.hid ((val_of_own (has := h) ho hlz).below ((Below.refl _ _).alloc (Nat.le_refl _) (entO k p q r h D5 zs.length d5)))
  have VA3 := Lib.hid ((VA2.out.below hb).below ((Below.refl _ _).alloc (Nat.le_refl _) (entO k p q r h D5 zs.length d5)))
  have VB3 := Lib.hid ((VB2.out.below hb).below ((Below.refl _ _).alloc (Nat.le_refl _) (entO k p q r h D5 zs.length d5)))
  have hl3 : w.heap.size < w3.heap.size := by have := KA2.out.lt; have := hb.size; omega
  clear hb ho hlz e0 e1 e2 e3 e4 e5 f0 f1 f2 f3 f4 f5
  have e0 : (w3.alloc (entO k p q r h D5 zs.length d5)).cell? ⟨w.heap.size, 0, none⟩ = some (.string key) := KA3.out.cell 0
  have e1 : (w3.alloc (entO k p q r h D5 zs.length d5)).cell? ⟨w.heap.size, 1, none⟩ = some (.int .i64 s) := KA3.out.cell 1
  have e2 : (w3.alloc (entO k p q r h D5 zs.length d5)).cell? ⟨w.heap.size, 2, none⟩ = some (.int .i64 u) := KA3.out.cell 2
  have e3 : (w3.alloc (entO k p q r h D5 zs.length d5)).cell? ⟨w.heap.size, 3, none⟩ = some (.int .i64 o) := KA3.out.cell 3
  have e4 : (w3.alloc (entO k p q r h D5 zs.length d5)).cell? ⟨w.heap.size, 4, none⟩ = some (.bool has) := KA3.out.cell 4
  have e5 : (w3.alloc (entO k p q r h D5 zs.length d5)).cell? ⟨w.heap.size, 5, none⟩ = some (.slice A n c) := KA3.out.cell 5
  go_wp2_with fail
  refine (copy_any key s u o has A xs n c HN.out _ VA3.out).mono ?_
  rintro e w4 ⟨A6, c6, rfl, ho, hb⟩
  have HB4 : Hid (Below w.heap.size w w4) := Lib.hid (HB3a.out.trans (hb.mono HB3a.out.size))
  have KA4 := Lib.hid ((KA3.out.below hb KA3.out.lt).alloc (entO key s u o has A6 xs.length c6))
  have KB4 := Lib.hid ((KB3.out.below hb KB3.out.lt).alloc (entO key s u o has A6 xs.length c6))
  have K54 := Lib.hid ((K53.out.below hb K53.out.lt).alloc (entO key s u o has A6 xs.length c6))
  have K64 := Lib.hid (Blk.new w4 43 #[.string key, .int .i64 s, .int .i64 u, .int .i64 o, .bool has, .slice A6 xs.length c6])
  have hb4 : Below (w3.alloc (entO k p q r h D5 zs.length d5)).heap.size (w3.alloc (entO k p q r h D5 zs.length d5)) (w4.alloc (entO key s u o has A6 xs.length c6)) := hb.alloc hb.size _
  have V54 := Lib.hid (V53.out.below hb4)
  have VA4 := Lib.hid (VA3.out.below hb4)
  have VB4 := Lib.hid (VB3.out.below hb4)
  have hlx : (xs.length : Int) ≤ 1073741824 := by have := HN.out; omega
  have V64 : Hid (ValOk (w4.alloc (entO key s u o has A6 xs.length c6)) has A6 xs c6) := Lib.hid ((val_of_own (has := has) ho hlx).below ((Below.refl _ _).alloc (Nat.le_refl _) (entO key s u o has A6 xs.length c6)))
  have HO6 : Hid ((w4.alloc (entO key s u o has A6 xs.length c6)).ownsRow (w.heap.size + 1) 5 1 (.slice A6 xs.length c6) xs.length (xs.map byteV)) := Lib.hid ((own_base ho (by simp; omega)).alloc _)
  have HB4a : Hid (Below w.heap.size w (w4.alloc (entO key s u o has A6 xs.length c6))) := Lib.hid (HB4.out.alloc HB4.out.size _)
  clear hb ho hb4 hlx e0 e1 e2 e3 e4 e5
  obtain ⟨g0, g1, g2, g3, g4, g5⟩ := later_ent KA4.out
  obtain ⟨h0, h1, h2, h3, h4, h5⟩ := later_ent KB4.out
  obtain ⟨i0, i1, i2, i3, i4, i5⟩ := later_ent K54.out
  obtain ⟨j0, j1, j2, j3, j4, j5⟩ := later_ent K64.out
  have hbn : ((xs.length : Int) != (n : Int)) = false := by have := HN.out; simp; omega
  have hbn2 : (xs.length != n) = false := by have := HN.out; simp; omega
  go_wp2_with fail
  refine wp_region_later (by kernel_rfl) (by kernel_rfl) ?_
  repeat (go_big_quiet_step (first
    | (go_at_call 40; exact later_of (HW.out.ref _))
    | (go_at_call 34; first
        | with_reducible exact later_isB (b' := true) (Lib.hid rfl) (refsame_same k p q r h D5 D zs d5 d _ (V54.out.below (Later.bel _)) (HW.out.val _ (VA4.out.below (Later.bel _)) (VB4.out.below (Later.bel _))))
        | with_reducible exact later_isB (Lib.hid (sameE_refl ..)) (refsame_ent key key s u o s u o has has A6 A xs xs c6 c xs.length n rfl HN.out _ (V64.out.below (Later.bel _)) (VA4.out.below (Later.bel _)))
        | with_reducible exact later_isB HE1 (refsame_ent key key2 s u o s2 u2 o2 has has2 A A2 xs ys c c2 n n2 HN.out HN2.out _ (VA4.out.below (Later.bel _)) (VB4.out.below (Later.bel _))))
    | (go_at_call 41; exact later_isB HE1 (same_ent key key2 s u o s2 u2 o2 has has2 A A2 xs ys c c2 n n2 HN.out HN2.out _ (VA4.out.below (Later.bel _)) (VB4.out.below (Later.bel _))))
    | (go_at_call 42; exact later_isB HE2 (sameval_any has has2 A A2 xs ys c c2 n n2 HN.out HN2.out _ (VA4.out.below (Later.bel _)) (VB4.out.below (Later.bel _))))
    | (go_at_call 43; exact later_isB HE2 (refsameval_any has has2 A A2 xs ys c c2 n n2 HN.out HN2.out _ (VA4.out.below (Later.bel _)) (VB4.out.below (Later.bel _))))))
  refine wpQuiet_nil ?_
  intro w' hw'
  obtain ⟨p5, rfl⟩ := hw'
  obtain ⟨w5, hb5⟩ := p5
  dsimp only
  have KA5 := Lib.hid (KA4.out.below hb5 KA4.out.lt)
  have K65 := Lib.hid (K64.out.below hb5 K64.out.lt)
  have HO5 := Lib.hid (own_below HO6.out hb5)
  have HB5 : Hid (Below w.heap.size w w5) := Lib.hid (HB4a.out.trans (hb5.mono HB4a.out.size))
  have a5 : w5.cell? ⟨w.heap.size, 5, none⟩ = some (.slice A n c) := KA5.out.cell 5
  have hxi : (xs.length : Int) ≤ 1000 := by have := HN.out; omega
  clear hb5 g0 g1 g2 g3 g4 g5 h0 h1 h2 h3 h4 h5 i0 i1 i2 i3 i4 i5 j0 j1 j2 j3 j4 j5 hbn hbn2
  go_wp2_with fail
  refine (copyb_any w.heap.size c n A xs HN.out _ (HRA.out.below HB5.out) HB5.out.size (by omega)).mono ?_
  rintro e w6 ⟨A7, c7, rfl, ho, hb⟩
  have HO7 := Lib.hid ho
  have KA6 := Lib.hid (KA5.out.below hb KA5.out.lt)
  have K66 := Lib.hid (K65.out.below hb K65.out.lt)
  have HO6b := Lib.hid (own_below HO5.out hb)
  have HL5 := Lib.hid (HO5.out.lt)
  have HB6 : Hid (Below w.heap.size w w6) := Lib.hid (HB5.out.trans (hb.mono HB5.out.size))
  clear ho hb a5
  rcases HO6b.out.2 with ⟨hv, hz⟩ | ⟨g, cap, cur, hv, hg, hh, hnc, hm, hs, ht⟩
  · have k5 : w6.cell? ⟨w4.heap.size, 5, none⟩ = some (.slice A6 xs.length c6) := K66.out.cell 5
    have a5 : w6.cell? ⟨w.heap.size, 5, none⟩ = some (.slice A n c) := KA6.out.cell 5
    rw [hz] at k5
    have HZ := Lib.hid hz
    clear hv hz hxi
    go_wp2_with fail
    go_loopw [8] (fun i wr => i = .int .i64 0 ∧ wr = w6) (fun i _ => 0)
    case atStart => exact ⟨rfl, rfl⟩
    case round =>
      obtain ⟨rfl, rfl⟩ := hrel
      have RA := (HRA.out.below HB6.out)
      have RW := Row.of_own HO7.out
      have HBE := HB6.out
      go_wp2_with fail
      refine (same_true _ _ _ _ _ _ _ _ xs xs rfl _ RA RW HN.out rfl).mono ?_
      rintro e w' ⟨rfl, rfl⟩
      go_wp2_with fail
      refine (known_any _).mono ?_
      rintro e w8 ⟨rfl, hb⟩
      have HB8 : Hid (Below w.heap.size w w8) := Lib.hid (HBE.trans (hb.mono HBE.size))
      clear hb
      go_wp2
      go_ret
      exact ⟨rfl, HB8.out⟩
  · injection hv with hA hL hC
    subst hA; subst hC
    have hk0 : RowG w6 g xs.length := ⟨cur, hh, fun j hj => by
      have h1 : (cur.toList.take (xs.length * 1))[j]? = (xs.map byteV)[j]? := by rw [ht]
      rw [List.getElem?_take_of_lt (by omega), List.getElem?_map, List.getElem?_eq_getElem hj] at h1
      exact ⟨(xs[j].toNat : Int), by simpa [byteV] using h1⟩⟩
    have HK0 := Lib.hid hk0
    have hgl : g < w5.heap.size := (HL5.out g rfl).2
    have hgw : w.heap.size + 1 ≤ g := hg
    have hne4 : w4.heap.size ≠ g := Blk.ne_ K66.out (hh : Blk w6 g 5 cur) (by decide)
    clear hh hnc hm hs ht hk0 hg
    go_wp2_with fail
    go_loopw [8] (fun i wr => ∃ j : Nat, j ≤ xs.length ∧ i = .int .i64 j ∧ Hid (RowG wr g xs.length) ∧ Hid (w6.grownBy wr (some g))) (fun i _ => xs.length - (intOf i).toNat)
    case atStart => exact ⟨0, by omega, rfl, HK0, Lib.hid (grown_refl _ _)⟩
    case round =>
      obtain ⟨j, hj, rfl, HG, HGR⟩ := hrel
      have k5 : wr.cell? ⟨w4.heap.size, 5, none⟩ = some (.slice (some ⟨g, 0, none⟩) xs.length c6) := (K66.out.grown HGR.out (fun e => by injection e with e; exact hne4 e)).cell 5
      by_cases hlt : j < xs.length
      · obtain ⟨cu, hk, hcu⟩ := HG.out
        obtain ⟨z, hz⟩ := hcu j hlt
        have hcell : wr.cell? ⟨g, j, none⟩ = some (.int .u8 z) := (hk.cell j).trans hz
        have hfr := hk.frozen j
        have hji : (0 : Int) ≤ (j : Int) := by omega
        have hji2 : (j : Int) < (xs.length : Int) := by omega
        clear hk hcu hz
        go_wp2_with fail
        go_region
        all_goals
          go_wp2
          go_roundw
          case rel => exact ⟨j + 1, by omega, by go_num, Lib.hid (rowg_drew (rowg_set HG.out _)), Lib.hid (grown_trans HGR.out (grown_trans (grown_set _ _ _ _) (drew_grown _ 1 _)))⟩
          case measure => simp [intOf]; omega
      · obtain rfl : j = xs.length := by omega
        have a5 : wr.cell? ⟨w.heap.size, 5, none⟩ = some (.slice A n c) := (KA6.out.grown HGR.out (fun e => by injection e with e; omega)).cell 5
        have RA := (HRA.out.below HB6.out).grown HGR.out HB6.out.size (by omega)
        have RW := Row.of_own (own_keep HO7.out HGR.out hgl)
        have HBE := below_grown HB6.out HGR.out HB6.out.size (by omega)
        go_wp2_with fail
        refine (same_true _ _ _ _ _ _ _ _ xs xs rfl _ RA RW HN.out rfl).mono ?_
        rintro e w' ⟨rfl, rfl⟩
        go_wp2_with fail
        refine (known_any _).mono ?_
        rintro e w8 ⟨rfl, hb⟩
        have HB8 : Hid (Below w.heap.size w w8) := Lib.hid (HBE.trans (hb.mono HBE.size))
        clear hb
        go_wp2
        go_ret
        exact ⟨rfl, HB8.out⟩
end Go.Proofs.Ytnljljfopelopaa
