/- The newer one of two entries, by the program and by the document. -/
import Derived.Test.YtnljljfopelopaaCopyE
namespace Go.Proofs.Ytnljljfopelopaa
open Go.RowKit Mem
set_option maxRecDepth 10000
set_option maxHeartbeats 2000000
theorem cmpT_range (a b c x y z : Int) : cmpT a b c x y z = -1 ∨ cmpT a b c x y z = 0 ∨ cmpT a b c x y z = 1 := by
  unfold cmpT
  rcases cmpI_cases a x with ⟨_, h⟩ | ⟨_, h⟩ | ⟨_, h⟩ <;> rcases cmpI_cases b y with ⟨_, h'⟩ | ⟨_, h'⟩ | ⟨_, h'⟩ <;> rcases cmpI_cases c z with ⟨_, h''⟩ | ⟨_, h''⟩ | ⟨_, h''⟩ <;> rw [h, h', h''] <;> simp
theorem compare_val (a b c x y z n : Int) (h : Hid (cmpT a b c x y z = n)) (w : World) : Calls Try.prog 14 #[tagV a b c, tagV x y z] w (IsI n w) := by
  have := compare_any a b c x y z w
  rw [h.out] at this; exact this
theorem refcompare_val (a b c x y z n : Int) (h : Hid (cmpT a b c x y z = n)) (w : World) : Calls Try.prog 15 #[tagV a b c, tagV x y z] w (IsI n w) := by
  have := refcompare_any a b c x y z w
  rw [h.out] at this; exact this
abbrev ent0 : Obj := .cells #[.string .empty, .int .i64 0, .int .i64 0, .int .i64 0, .bool false, .slice none 0 0] 43
theorem newer_res {w w1 w2 : World} {key : ByteArray} {s u o : Int} {has : Bool} {xs : List UInt8} {A : Option Addr} {c g : Nat} {v0 v1 v2 v3 v4 v5 : Value}
    (hb : Below w.heap.size w w1) (ho : w2.ownsRow w1.heap.size 5 1 (.slice A xs.length c) xs.length (xs.map byteV)) (hb2 : Below w1.heap.size w1 w2) (hg : w.heap.size ≤ g) (hg1 : g < w1.heap.size) :
    MadeE w.heap.size key s u o has xs w (.returned (entV key s u o has A xs.length c)) ((((((w2.setCell ⟨g, 0, none⟩ v0).setCell ⟨g, 1, none⟩ v1).setCell ⟨g, 2, none⟩ v2).setCell ⟨g, 3, none⟩ v3).setCell ⟨g, 4, none⟩ v4).setCell ⟨g, 5, none⟩ v5) :=
  ⟨A, c, rfl, own_base (own_put (own_put (own_put (own_put (own_put (own_put ho hg1 _ _) hg1 _ _) hg1 _ _) hg1 _ _) hg1 _ _) hg1 _ _) hb.size,
    below_set (below_set (below_set (below_set (below_set (below_set (hb.trans (hb2.mono hb.size)) hg _ _) hg _ _) hg _ _) hg _ _) hg _ _) hg _ _⟩
theorem newer_lt (key key2 : ByteArray) (s u o s2 u2 o2 : Int) (has has2 : Bool) (A A2 : Option Addr) (xs ys : List UInt8) (n c n2 c2 : Nat) (hn : n = xs.length) (hn2 : n2 = ys.length) (w : World) (h : ValOk w has A xs c) (h2 : ValOk w has2 A2 ys c2) (hc : cmpT s u o s2 u2 o2 = -1) :
    Calls Try.prog 38 #[entV key s u o has A n c, entV key2 s2 u2 o2 has2 A2 n2 c2] w (MadeE w.heap.size key2 s2 u2 o2 has2 ys w) := by
  have HV := Lib.hid h
  have HV2 := Lib.hid h2
  have HN := Lib.hid hn
  have HN2 := Lib.hid hn2
  clear h h2 hn hn2
  · have HC := Lib.hid hc
    clear hc
    go_enter Try.func38, Try.ntmps38
    go_wp2_with fail
    refine (compare_val _ _ _ _ _ _ _ (by assumption) _).mono ?_
    rintro e w1 ⟨rfl, hb⟩
    obtain ⟨hc, hf⟩ := bcell hb
    have HB1 := Lib.hid (below_after3 hb)
    have HZ : w.heap.size + 2 < w1.heap.size := by have := hb.size; simp at this; omega
    clear hb
    go_wp2_with fail
    refine (copy_any key2 s2 u2 o2 has2 A2 ys n2 c2 HN2.out _ (HV2.out.below HB1.out)).mono ?_
    rintro e w2 ⟨A3, c3, rfl, ho, hb⟩
    obtain ⟨hc2, hf2⟩ := bcell hb
    have HO := Lib.hid ho
    have HB2 := Lib.hid hb
    clear ho hb
    go_wp2
    exact bodyPost_ret (v := entV key2 s2 u2 o2 has2 A3 ys.length c3) (by simp [results, Try.results38, go_sem, hc, hc2, HZ]) rfl (newer_res HB1.out HO.out HB2.out (by omega) HZ)
theorem refnewer_lt (key key2 : ByteArray) (s u o s2 u2 o2 : Int) (has has2 : Bool) (A A2 : Option Addr) (n c n2 c2 : Nat) (w : World) (hc : cmpT s u o s2 u2 o2 = -1) :
    Calls Try.prog 40 #[entV key s u o has A n c, entV key2 s2 u2 o2 has2 A2 n2 c2] w fun e w' => e = .returned (entV key2 s2 u2 o2 has2 A2 n2 c2) ∧ Below w.heap.size w w' := by
  · have HC := Lib.hid hc
    clear hc
    go_enter Try.func40, Try.ntmps40
    go_wp2_with (go_at_call 15; refine (refcompare_val _ _ _ _ _ _ _ (by assumption) _).mono ?_; rintro e w1 ⟨rfl, hb⟩; obtain ⟨hc, hf⟩ := bcell hb; have HB1 := Lib.hid (below_after3 hb); have HS1 := Lib.hid hb.size; clear hb)
    exact bodyPost_ret (v := entV key2 s2 u2 o2 has2 A2 n2 c2) (by simp [results, Try.results40, go_sem, hc]) rfl ⟨rfl, below_set (below_set (below_set (below_set (below_set (below_set HB1.out (by omega) _ _) (by omega) _ _) (by omega) _ _) (by omega) _ _) (by omega) _ _) (by omega) _ _⟩
theorem newer_ge (key key2 : ByteArray) (s u o s2 u2 o2 : Int) (has has2 : Bool) (A A2 : Option Addr) (xs ys : List UInt8) (n c n2 c2 : Nat) (hn : n = xs.length) (hn2 : n2 = ys.length) (w : World) (h : ValOk w has A xs c) (h2 : ValOk w has2 A2 ys c2) (hc : cmpT s u o s2 u2 o2 ≠ -1) :
    Calls Try.prog 38 #[entV key s u o has A n c, entV key2 s2 u2 o2 has2 A2 n2 c2] w (MadeE w.heap.size key s u o has xs w) := by
  have HV := Lib.hid h
  have HV2 := Lib.hid h2
  have HN := Lib.hid hn
  have HN2 := Lib.hid hn2
  clear h h2 hn hn2
  rcases cmpT_range s u o s2 u2 o2 with hq | hq | hq
  · exact absurd hq hc
  · have HC := Lib.hid hq
    clear hq hc
    go_enter Try.func38, Try.ntmps38
    go_wp2_with fail
    refine (compare_val _ _ _ _ _ _ _ (by assumption) _).mono ?_
    rintro e w1 ⟨rfl, hb⟩
    obtain ⟨hc, hf⟩ := bcell hb
    have HB1 := Lib.hid (below_after3 hb)
    have HZ : w.heap.size + 2 < w1.heap.size := by have := hb.size; simp at this; omega
    clear hb
    go_wp2_with fail
    refine (copy_any key s u o has A xs n c HN.out _ (HV.out.below HB1.out)).mono ?_
    rintro e w2 ⟨A3, c3, rfl, ho, hb⟩
    obtain ⟨hc2, hf2⟩ := bcell hb
    have HO := Lib.hid ho
    have HB2 := Lib.hid hb
    clear ho hb
    go_wp2
    exact bodyPost_ret (v := entV key s u o has A3 xs.length c3) (by simp [results, Try.results38, go_sem, hc, hc2, HZ]) rfl (newer_res HB1.out HO.out HB2.out (by omega) HZ)
  · have HC := Lib.hid hq
    clear hq hc
    go_enter Try.func38, Try.ntmps38
    go_wp2_with fail
    refine (compare_val _ _ _ _ _ _ _ (by assumption) _).mono ?_
    rintro e w1 ⟨rfl, hb⟩
    obtain ⟨hc, hf⟩ := bcell hb
    have HB1 := Lib.hid (below_after3 hb)
    have HZ : w.heap.size + 2 < w1.heap.size := by have := hb.size; simp at this; omega
    clear hb
    go_wp2_with fail
    refine (copy_any key s u o has A xs n c HN.out _ (HV.out.below HB1.out)).mono ?_
    rintro e w2 ⟨A3, c3, rfl, ho, hb⟩
    obtain ⟨hc2, hf2⟩ := bcell hb
    have HO := Lib.hid ho
    have HB2 := Lib.hid hb
    clear ho hb
    go_wp2
    exact bodyPost_ret (v := entV key s u o has A3 xs.length c3) (by simp [results, Try.results38, go_sem, hc, hc2, HZ]) rfl (newer_res HB1.out HO.out HB2.out (by omega) HZ)
theorem refnewer_ge (key key2 : ByteArray) (s u o s2 u2 o2 : Int) (has has2 : Bool) (A A2 : Option Addr) (n c n2 c2 : Nat) (w : World) (hc : cmpT s u o s2 u2 o2 ≠ -1) :
    Calls Try.prog 40 #[entV key s u o has A n c, entV key2 s2 u2 o2 has2 A2 n2 c2] w fun e w' => e = .returned (entV key s u o has A n c) ∧ Below w.heap.size w w' := by
  rcases cmpT_range s u o s2 u2 o2 with hq | hq | hq
  · exact absurd hq hc
  · have HC := Lib.hid hq
    clear hq hc
    go_enter Try.func40, Try.ntmps40
    go_wp2_with (go_at_call 15; refine (refcompare_val _ _ _ _ _ _ _ (by assumption) _).mono ?_; rintro e w1 ⟨rfl, hb⟩; obtain ⟨hc, hf⟩ := bcell hb; have HB1 := Lib.hid (below_after3 hb); have HS1 := Lib.hid hb.size; clear hb)
    exact bodyPost_ret (v := entV key s u o has A n c) (by simp [results, Try.results40, go_sem, hc]) rfl ⟨rfl, below_set (below_set (below_set (below_set (below_set (below_set HB1.out (by omega) _ _) (by omega) _ _) (by omega) _ _) (by omega) _ _) (by omega) _ _) (by omega) _ _⟩
  · have HC := Lib.hid hq
    clear hq hc
    go_enter Try.func40, Try.ntmps40
    go_wp2_with (go_at_call 15; refine (refcompare_val _ _ _ _ _ _ _ (by assumption) _).mono ?_; rintro e w1 ⟨rfl, hb⟩; obtain ⟨hc, hf⟩ := bcell hb; have HB1 := Lib.hid (below_after3 hb); have HS1 := Lib.hid hb.size; clear hb)
    exact bodyPost_ret (v := entV key s u o has A n c) (by simp [results, Try.results40, go_sem, hc]) rfl ⟨rfl, below_set (below_set (below_set (below_set (below_set (below_set HB1.out (by omega) _ _) (by omega) _ _) (by omega) _ _) (by omega) _ _) (by omega) _ _) (by omega) _ _⟩
end Go.Proofs.Ytnljljfopelopaa
