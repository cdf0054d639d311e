/- What the chapter's example fixes, of a log. -/
import Derived.Test.YtkagfjjocmjeoaaDone7
import Derived.Test.YtkagfjjocmjeoaaSame5
import Derived.Test.YtkagfjjocmjeoaaLaw5A
import Derived.Lib.SlBytesConst
namespace Go.Proofs.Ytkagfjjocmjeoaa
open Go.RowKit Mem Be Word Frm
set_option maxRecDepth 10000
set_option maxHeartbeats 4000000
set_option linter.unusedVariables false
/-- A log of a statement's own, in blocks that are new since w0. -/
structure Lg1 (w0 w : World) (F : Nat → Prop) (g : Nat) (rs : List Rc) (m q : Nat) : Prop where
  new : NewF w0 F
  at_ : LgAt w F g rs m q
  bel : Below w0.heap.size w0 w
theorem Lg1.below {w0 w w1 : World} {F : Nat → Prop} {g m q : Nat} {rs : List Rc} (h : Lg1 w0 w F g rs m q) (hb : Below w.heap.size w w1) : Lg1 w0 w1 F g rs m q := ⟨h.new, h.at_.below hb, h.bel.trans (hb.mono h.bel.size)⟩
theorem Lg1.to {w0 w w1 : World} {F F' : Nat → Prop} {g g' m m' q q' : Nat} {rs rs' : List Rc} (h : Lg1 w0 w F g rs m q) (hf : ∀ k, F' k → F k ∨ w.heap.size ≤ k) (hl : LgAt w1 F' g' rs' m' q') (ht : Touch F w w1) : Lg1 w0 w1 F' g' rs' m' q' :=
  ⟨newF_step h.new h.bel.size hf, hl, h.bel.trans (ht.below h.bel.size h.new)⟩
/-- A new log beside it. -/
theorem Lg1.new_ {w0 w w1 : World} {F F' : Nat → Prop} {g g' m m' q q' : Nat} {rs rs' : List Rc} (h : Lg1 w0 w F g rs m q) (hf : ∀ k, F' k → w.heap.size ≤ k) (hl : LgAt w1 F' g' rs' m' q') (hb : Below w.heap.size w w1) : Lg1 w0 w1 F' g' rs' m' q' :=
  ⟨fun k hk => Nat.le_trans h.bel.size (hf k hk), hl, h.bel.trans (hb.mono h.bel.size)⟩
theorem add_ok {rs : List Rc} {k : UInt8} {bs : List (List UInt8)} (h1 : ∀ b ∈ bs, b.length ≤ 65536) (h2 : (allB (rs ++ newR k bs)).length ≤ 4194304) : addS rs k bs = (rs ++ newR k bs, 0) := if_pos ⟨h1, h2⟩
theorem known_add1 : addS [] 1 [[97]] = ([(1, [97])], 0) := by
  rw [add_ok (by simp) (by rw [List.nil_append]; show (allB [(1, [97])]).length ≤ _; rw [all_one, fr_len]; simp)]; rfl
theorem known_add2 : addS [(1, [97])] 1 [[98], [99]] = ([(1, [97]), (1, [98]), (1, [99])], 0) := by
  rw [add_ok (by simp) (by show (allB [(1, [97]), (1, [98]), (1, [99])]).length ≤ _; simp [allB, fr_len])]; rfl
theorem known_crash : allB (([(1, [97]), (1, [98]), (1, [99])] : List Rc).take 1) ++ (allB (([(1, [97]), (1, [98]), (1, [99])] : List Rc).drop 1)).take 11 = allB [(1, [97]), (1, [98])] := by
  show allB [(1, [97])] ++ (allB [(1, [98]), (1, [99])]).take 11 = _
  rw [all_cons (1, [98]) [(1, [99])], List.take_append_of_le_length (by rw [fr_len]; simp), List.take_of_length_le (by rw [fr_len]; simp), all_one, all_cons, all_one]
theorem known_scan : (scanS (allB [(1, [97]), (1, [98])])).1 = [(1, [97]), (1, [98])] := by
  rw [scan_all _ (by intro r hr; simp at hr; rcases hr with rfl | rfl <;> simp)]
/-- One row of bytes is appended by a new slice of one row. -/
theorem append7_one (p : Nat) (F : Nat → Prop) (g m q : Nat) (k : UInt8) (hk : k ≠ 0) (rs : List Rc) (A : Option Addr) (bs : List UInt8) (c : Nat) (w : World) (hp : p = w.heap.size) (h : LgAt w F g rs m q) (hr : RowN F w A (bs.map byteV)) (hml : bs.length ≤ maxLen) :
    Calls Try.prog 30 #[.pointer (some ⟨g, 0, none⟩), .int .u8 (k.toNat : Int), .slice (some ⟨p, 0, none⟩) 1 1] (w.alloc (.cells #[.slice A bs.length c] 27)) (LgTo (.int .i64 (addS rs k [bs]).2) F g (addS rs k [bs]).1 m q w) := by
  subst hp
  have hb : Below w.heap.size w (w.alloc (.cells #[.slice A bs.length c] 27)) := (Below.refl _ _).alloc (Nat.le_refl _) _
  have hnf : ¬ F w.heap.size := fun hf => by have := h.lt _ hf; omega
  have hrow : RowN F (w.alloc (.cells #[.slice A bs.length c] 27)) (some ⟨w.heap.size, 0, none⟩) ([((A, bs, c) : RowV)].map rowV) := rowN_blk (Blk.new w _ _) hnf rfl
  refine (append7_any F g m q 1 1 k hk rs (some ⟨w.heap.size, 0, none⟩) [(A, bs, c)] rfl (by omega) (fun r hr' => by
    have : r = (A, bs, c) := by simpa using hr'
    subst this; exact hml) _ (h.below hb) hrow (fun r hr' => by
    have : r = (A, bs, c) := by simpa using hr'
    subst this; exact hr.touch (Touch.ofBelow hb))).mono ?_
  intro e w2 h2
  obtain ⟨rfl, F', h1, h3, h4⟩ := h2
  exact ⟨rfl, F', fun k hk => by rcases h1 k hk with h | h; exact Or.inl h; exact Or.inr (Nat.le_trans hb.size h), h3, (Touch.ofBelow hb).trans h4 (fun k hk => Or.inl hk)⟩
theorem known7_ap1 (F : Nat → Prop) (g q : Nat) (w : World) (h : LgAt w F g [] 0 q) :
    Calls Try.prog 30 #[.pointer (some ⟨g, 0, none⟩), .int .u8 1, .slice (some ⟨w.heap.size + 1, 0, none⟩) 1 1] ((w.alloc (.cells #[.int .u8 97] 5 (1, 2))).alloc (.cells #[.slice (some ⟨w.heap.size, 0, none⟩) 1 1] 27)) (LgTo (.int .i64 0) F g [(1, [97])] 0 q w) := by
  have hb : Below w.heap.size w (w.alloc (.cells #[.int .u8 97] 5 (1, 2))) := (Below.refl _ _).alloc (Nat.le_refl _) _
  have hrow : RowN F (w.alloc (.cells #[.int .u8 97] 5 (1, 2))) (some ⟨w.heap.size, 0, none⟩) (([97] : List UInt8).map byteV) := rowN_new _ rfl (fun hf => by have := h.lt _ hf; omega) rfl
  have H := append7_one (w.heap.size + 1) F g 0 q 1 (by decide) [] (some ⟨w.heap.size, 0, none⟩) [97] 1 _ (by simp) (h.below hb) hrow (show (1 : Nat) ≤ maxLen by unfold maxLen; omega)
  rw [known_add1] at H
  refine H.mono ?_
  rintro e w2 ⟨rfl, F', h1, h3, h4⟩
  exact ⟨rfl, F', fun k hk => by rcases h1 k hk with h | h; exact Or.inl h; exact Or.inr (Nat.le_trans hb.size h), h3, (Touch.ofBelow hb).trans h4 (fun k hk => Or.inl hk)⟩
theorem known7_ap2 (F : Nat → Prop) (g q m : Nat) (w : World) (h : LgAt w F g [(1, [97])] m q) :
    Calls Try.prog 30 #[.pointer (some ⟨g, 0, none⟩), .int .u8 1, .slice (some ⟨w.heap.size + 1 + 1, 0, none⟩) 2 2]
      (((w.alloc (.cells #[.int .u8 98] 5 (1, 2))).alloc (.cells #[.int .u8 99] 5 (1, 2))).alloc (.cells #[.slice (some ⟨w.heap.size, 0, none⟩) 1 1, .slice (some ⟨w.heap.size + 1, 0, none⟩) 1 1] 27)) (LgTo (.int .i64 0) F g [(1, [97]), (1, [98]), (1, [99])] m q w) := by
  have hb : Below w.heap.size w (((w.alloc (.cells #[.int .u8 98] 5 (1, 2))).alloc (.cells #[.int .u8 99] 5 (1, 2))).alloc (.cells #[.slice (some ⟨w.heap.size, 0, none⟩) 1 1, .slice (some ⟨w.heap.size + 1, 0, none⟩) 1 1] 27)) :=
    (((Below.refl _ _).alloc (Nat.le_refl _) _).alloc (by simp) _).alloc (by simp; omega) _
  have hf : ∀ k, w.heap.size ≤ k → ¬ F k := fun k hk hf => by have := h.lt k hf; omega
  have H := append7_any F g m q 2 2 1 (by decide) [(1, [97])] (some ⟨w.heap.size + 1 + 1, 0, none⟩) [(some ⟨w.heap.size, 0, none⟩, [98], 1), (some ⟨w.heap.size + 1, 0, none⟩, [99], 1)] rfl (by omega) (fun r hr => by
      rcases (by simpa using hr : r = (some ⟨w.heap.size, 0, none⟩, [98], 1) ∨ r = (some ⟨w.heap.size + 1, 0, none⟩, [99], 1)) with rfl | rfl <;> exact (show (1 : Nat) ≤ maxLen by unfold maxLen; omega)) _ (h.below hb)
    (rowN_new _ (by simp) (hf _ (by omega)) rfl) (fun r hr => by
      rcases (by simpa using hr : r = (some ⟨w.heap.size, 0, none⟩, [98], 1) ∨ r = (some ⟨w.heap.size + 1, 0, none⟩, [99], 1)) with rfl | rfl
      · exact ((rowN_new _ rfl (hf _ (by omega)) rfl).alloc _).alloc _
      · exact (rowN_new _ (by simp) (hf _ (by omega)) rfl).alloc _)
  have e : addS [(1, [97])] 1 (bytesR [(some ⟨w.heap.size, 0, none⟩, [98], 1), (some ⟨w.heap.size + 1, 0, none⟩, [99], 1)]) = ([(1, [97]), (1, [98]), (1, [99])], 0) := known_add2
  rw [e] at H
  refine H.mono ?_
  rintro e w2 ⟨rfl, F', h1, h3, h4⟩
  exact ⟨rfl, F', fun k hk => by rcases h1 k hk with h | h; exact Or.inl h; exact Or.inr (Nat.le_trans hb.size h), h3, (Touch.ofBelow hb).trans h4 (fun k hk => Or.inl hk)⟩
/-- The example's records, written out. -/
theorem known7_row (p : Nat) (w : World) (hp : p = w.heap.size) :
    Row (((w.alloc (.cells #[.int .u8 97] 5 (1, 2))).alloc (.cells #[.int .u8 98] 5 (1, 2))).alloc (.cells #[.int .u8 1, .slice (some ⟨p, 0, none⟩) 1 1, .int .u8 1, .slice (some ⟨p + 1, 0, none⟩) 1 1] 64)) (p + 1 + 1 + 1) (some ⟨p + 1 + 1, 0, none⟩) (recsC [(1, some ⟨p, 0, none⟩, [97], 1), (1, some ⟨p + 1, 0, none⟩, [98], 1)]) ∧
    Recs_ (((w.alloc (.cells #[.int .u8 97] 5 (1, 2))).alloc (.cells #[.int .u8 98] 5 (1, 2))).alloc (.cells #[.int .u8 1, .slice (some ⟨p, 0, none⟩) 1 1, .int .u8 1, .slice (some ⟨p + 1, 0, none⟩) 1 1] 64)) [(1, some ⟨p, 0, none⟩, [97], 1), (1, some ⟨p + 1, 0, none⟩, [98], 1)] := by
  subst hp
  constructor
  · have := row_cells (w := (w.alloc (.cells #[.int .u8 97] 5 (1, 2))).alloc (.cells #[.int .u8 98] 5 (1, 2))) (t := 64) (cs := #[.int .u8 1, .slice (some ⟨w.heap.size, 0, none⟩) 1 1, .int .u8 1, .slice (some ⟨w.heap.size + 1, 0, none⟩) 1 1]) (xs := recsC [(1, some ⟨w.heap.size, 0, none⟩, [97], 1), (1, some ⟨w.heap.size + 1, 0, none⟩, [98], 1)]) rfl
    simpa using this
  · intro r hr
    rcases (by simpa using hr : r = (1, some ⟨w.heap.size, 0, none⟩, [97], 1) ∨ r = (1, some ⟨w.heap.size + 1, 0, none⟩, [98], 1)) with rfl | rfl
    · exact (((rowN_new (F := fun _ => False) _ rfl (fun h => h) rfl).alloc _).alloc _).row
    · exact ((rowN_new (F := fun _ => False) _ (by simp) (fun h => h) rfl).alloc _).row
theorem known7_any (w : World) : Calls Try.prog 11 #[] w (IsT true w) := by
  have kc := fun (w : World) (C : Array Value) (n c : Nat) => Lib.run_convert_bytes_const (P := Try.prog) w 27 5 C n c Try.underlying27 Try.underlying5
  go_enter Try.func11, Try.ntmps11
  go_wp2_with fail
  refine (newlg_any w).mono ?_
  rintro e w1 ⟨g, F, rfl, hF, hd, hb⟩
  have HL := Lib.hid (show Lg1 w w1 F g [] 0 0 from ⟨hF, hd, hb⟩)
  simp only [id]
  clear hF hd hb
  go_wp2_with fail
  refine (known7_ap1 F g 0 w1 HL.out.at_).mono ?_
  rintro e w2 ⟨rfl, F2, hf, hd, ht⟩
  have HL2 := Lib.hid (HL.out.to hf hd ht)
  clear hf hd ht HL
  go_wp2_with fail
  refine (sync7_any F2 g 0 0 _ (by omega) w2 HL2.out.at_).mono ?_
  rintro e w3 ⟨rfl, F3, hf, hd, ht⟩
  have HL3 := Lib.hid (HL2.out.to hf hd ht)
  obtain ⟨q3, hq3⟩ : ∃ q3, upN (allB (([(1, [97])] : List Rc).drop 0)) 0 = q3 := ⟨_, rfl⟩
  rw [hq3] at HL3
  have HL3' : Hid (Lg1 w w3 F3 g [(1, [97])] 1 q3) := Lib.hid HL3.out
  clear hf hd ht HL2 hq3 HL3
  have k2 : (convert 27 27 (.slice (some ⟨w3.heap.size + 1, 0, none⟩) 1 1)).run Try.prog ((w3.alloc (.cells #[.int .u8 98] 5 (1, 2))).alloc (.cells #[.int .u8 99] 5)) =
      .ok (.slice (some ⟨w3.heap.size + 1, 0, none⟩) 1 1) ((w3.alloc (.cells #[.int .u8 98] 5 (1, 2))).alloc (.cells #[.int .u8 99] 5 (1, 2))) := by
    have := kc (w3.alloc (.cells #[.int .u8 98] 5 (1, 2))) #[.int .u8 99] 1 1
    simpa using this
  go_wp2_with fail
  refine (known7_ap2 F3 g q3 1 w3 HL3'.out.at_).mono ?_
  rintro e w4 ⟨rfl, F4, hf, hd, ht⟩
  have HL4 := Lib.hid (HL3'.out.to hf hd ht)
  clear hf hd ht HL3' k2
  have HC := Lib.hid (crash7_any F4 g 1 q3 11 _ w4 HL4.out.at_ _ known_crash)
  rw [known_scan] at HC
  go_wp2_with fail
  refine HC.out.mono ?_
  rintro e w5 ⟨g5, F5, rfl, hf, hd, hb⟩
  have HL5 := Lib.hid (HL4.out.new_ hf hd hb)
  have HO5 := Lib.hid (HL4.out.below hb)
  clear hf hd hb HC HL4
  go_wp2_with fail
  refine (open_nil w5).mono ?_
  rintro e w' ⟨rfl, rfl⟩
  go_wp2_with fail
  refine (records7_any F5 g5 _ _ _ w5 HL5.out.at_).mono ?_
  rintro e w6 ⟨us, A6, c6, hus, rfl, hou, hrc, hb⟩
  have HUS := Lib.hid hus
  have HOU := Lib.hid hou
  have HRC := Lib.hid hrc
  have HO6 := Lib.hid (HO5.out.below hb)
  clear hus hou hrc hb HL5 HO5
  have k2 : (convert 27 27 (.slice (some ⟨w6.heap.size + 1, 0, none⟩) 1 1)).run Try.prog ((w6.alloc (.cells #[.int .u8 97] 5 (1, 2))).alloc (.cells #[.int .u8 98] 5)) =
      .ok (.slice (some ⟨w6.heap.size + 1, 0, none⟩) 1 1) ((w6.alloc (.cells #[.int .u8 97] 5 (1, 2))).alloc (.cells #[.int .u8 98] 5 (1, 2))) := by
    have := kc (w6.alloc (.cells #[.int .u8 97] 5 (1, 2))) #[.int .u8 98] 1 1
    simpa using this
  go_wp2_with fail
  have hal : Below w6.heap.size w6 (((w6.alloc (.cells #[.int .u8 97] 5 (1, 2))).alloc (.cells #[.int .u8 98] 5 (1, 2))).alloc (.cells #[.int .u8 1, .slice (some ⟨w6.heap.size, 0, none⟩) 1 1, .int .u8 1, .slice (some ⟨w6.heap.size + 1, 0, none⟩) 1 1] 64)) :=
    (((Below.refl _ _).alloc (Nat.le_refl _) _).alloc (by simp) _).alloc (by simp; omega) _
  have HKR := known7_row w6.heap.size w6 rfl
  refine (refsame5_true us.length 2 c6 2 A6 (some ⟨w6.heap.size + 1 + 1, 0, none⟩) us [(1, some ⟨w6.heap.size, 0, none⟩, [97], 1), (1, some ⟨w6.heap.size + 1, 0, none⟩, [98], 1)] rfl rfl (by rw [HUS.out]; rfl) _ (((ownRow HOU.out).below hal).more hal.size) (HKR.1.more (by simp)) (recs_below (recsO_recs HRC.out) hal) HKR.2 (by have := congrArg List.length HUS.out; simp at this; omega)).mono ?_
  rintro e w7 ⟨rfl, hb⟩
  have HO7 := Lib.hid ((HO6.out.below hal).below hb)
  clear hb hal HKR HUS HOU HRC HO6 k2
  go_wp2_with fail
  refine (pending7_any F4 g 1 q3 _ w7 HO7.out.at_).mono ?_
  rintro e w8 ⟨rfl, hb⟩
  have HB8 := Lib.hid (HO7.out.bel.trans (hb.mono HO7.out.bel.size))
  simp only [List.length_cons, List.length_nil]
  clear hb HO7
  go_wp2
  go_ret
  exact ⟨rfl, HB8.out⟩
end Go.Proofs.Ytkagfjjocmjeoaa
