/- The law TagsVals, walked. -/
import Derived.Test.YtnljljfopelopaaTwoLaw
namespace Go.Proofs.Ytnljljfopelopaa
open Go.RowKit Mem Be
set_option maxRecDepth 100000
set_option maxHeartbeats 4000000
theorem later_isB {P : Program} {f : FuncId} {args : Array Value} {w : World} {p : Later w} {b b' : Bool} (e : Hid (b' = b)) (h : Calls P f args p.world (IsB b' p.world)) : Calls P f args p.world fun e w'' => e = .returned (.bool b) ∧ ∃ q : Later w, w'' = q.world := by
  rw [e.out] at h; exact later_of h
theorem later_isI {P : Program} {f : FuncId} {args : Array Value} {w : World} {p : Later w} {b b' : Int} (e : Hid (b' = b)) (h : Calls P f args p.world (IsI b' p.world)) : Calls P f args p.world fun e w'' => e = .returned (.int .i64 b) ∧ ∃ q : Later w, w'' = q.world := by
  rw [e.out] at h; exact later_of h
theorem later_val {w : World} {g : Nat} {h : Bool} {A : Option Addr} {n c : Nat} (hb : Blk w g 41 #[.bool h, .slice A n c]) :
    (∀ p : Later w, p.world.cell? ⟨g, 0, none⟩ = some (.bool h)) ∧ (∀ p : Later w, p.world.cell? ⟨g, 1, none⟩ = some (.slice A n c)) := ⟨later_blk_cell hb 0 _ rfl, later_blk_cell hb 1 _ rfl⟩
theorem later_ent {w : World} {g : Nat} {key : ByteArray} {s u o : Int} {h : Bool} {A : Option Addr} {n c : Nat} (hb : Blk w g 43 #[.string key, .int .i64 s, .int .i64 u, .int .i64 o, .bool h, .slice A n c]) :
    (∀ p : Later w, p.world.cell? ⟨g, 0, none⟩ = some (.string key)) ∧ (∀ p : Later w, p.world.cell? ⟨g, 1, none⟩ = some (.int .i64 s)) ∧ (∀ p : Later w, p.world.cell? ⟨g, 2, none⟩ = some (.int .i64 u)) ∧ (∀ p : Later w, p.world.cell? ⟨g, 3, none⟩ = some (.int .i64 o)) ∧
      (∀ p : Later w, p.world.cell? ⟨g, 4, none⟩ = some (.bool h)) ∧ (∀ p : Later w, p.world.cell? ⟨g, 5, none⟩ = some (.slice A n c)) :=
  ⟨later_blk_cell hb 0 _ rfl, later_blk_cell hb 1 _ rfl, later_blk_cell hb 2 _ rfl, later_blk_cell hb 3 _ rfl, later_blk_cell hb 4 _ rfl, later_blk_cell hb 5 _ rfl⟩
theorem sameE_self (k : ByteArray) (s u o : Int) (h1 h2 : Bool) (xs ys : List UInt8) : sameE k k s u o s u o h1 h2 xs ys = sameV h1 h2 xs ys := by simp [sameE, eqT_refl]
theorem vals_walk (h1 h2 : Bool) (A A' : Option Addr) (xs ys : List UInt8) (n n' c c' : Nat) (key : ByteArray) (s u o : Int) (hn : n = xs.length) (hn' : n' = ys.length) (hc : n ≤ c) (hc' : n' ≤ c') (w : World) (hr : Row w w.heap.size A (xs.map byteV)) (hr' : Row w w.heap.size A' (ys.map byteV)) :
    Calls Try.prog 11 #[valV h1 A n c, valV h2 A' n' c', .string key, tagV s u o] w fun e w' => e = .returned (.bool true) ∧ Below w.heap.size w w' := by
  have HB0 : Hid (Below w.heap.size w (((w.alloc (.cells #[.bool h1, .slice A n c] 41)).alloc (.cells #[.bool h2, .slice A' n' c'] 41)).alloc (.cells #[.int .i64 s, .int .i64 u, .int .i64 o] 23))) :=
    Lib.hid ((((Below.refl _ _).alloc (Nat.le_refl _) _).alloc (by simp) _).alloc (by simp; omega) _)
  by_cases hx : (500 : Int) < (n : Int)
  · clear hn hn' hc hc' hr hr'
    go_enter Try.func11, Try.ntmps11
    go_wp2_with (go_at_call 19; refine (known_any _).mono ?_; rintro e w1 ⟨rfl, hb⟩; have HB1 := Lib.hid (HB0.out.trans (hb.mono HB0.out.size)); clear hb)
    go_ret
    exact ⟨rfl, HB1.out⟩
  by_cases hy : (500 : Int) < (n' : Int)
  · have hx' : (n : Int) ≤ 500 := by omega
    clear hn hn' hc hc' hr hr' hx
    go_enter Try.func11, Try.ntmps11
    go_wp2_with (go_at_call 19; refine (known_any _).mono ?_; rintro e w1 ⟨rfl, hb⟩; have HB1 := Lib.hid (HB0.out.trans (hb.mono HB0.out.size)); clear hb)
    go_ret
    exact ⟨rfl, HB1.out⟩
  by_cases hk : (300 : Int) < (key.size : Int)
  · have hx' : (n : Int) ≤ 500 := by omega
    have hy' : (n' : Int) ≤ 500 := by omega
    clear hn hn' hc hc' hr hr' hx hy
    go_enter Try.func11, Try.ntmps11
    go_wp2_with (go_at_call 19; refine (known_any _).mono ?_; rintro e w1 ⟨rfl, hb⟩; have HB1 := Lib.hid (HB0.out.trans (hb.mono HB0.out.size)); clear hb)
    go_ret
    exact ⟨rfl, HB1.out⟩
  · have hx' : (n : Int) ≤ 500 := by omega
    have hy' : (n' : Int) ≤ 500 := by omega
    have hk' : (key.size : Int) ≤ 300 := by omega
    have hv0 : ValOk w h1 A xs c := ⟨hr, by omega, by omega⟩
    have hv0' : ValOk w h2 A' ys c' := ⟨hr', by omega, by omega⟩
    have HB5 : Hid (Below w.heap.size w (((((w.alloc (.cells #[.bool h1, .slice A n c] 41)).alloc (.cells #[.bool h2, .slice A' n' c'] 41)).alloc (.cells #[.int .i64 s, .int .i64 u, .int .i64 o] 23)).alloc (entO key s u o h1 A n c)).alloc (entO key s u o h2 A' n' c'))) :=
      Lib.hid ((HB0.out.alloc HB0.out.size _).alloc (HB0.out.alloc HB0.out.size _).size _)
    have HV := Lib.hid (hv0.below HB5.out)
    have HV' := Lib.hid (hv0'.below HB5.out)
    have HN := Lib.hid hn
    have HN' := Lib.hid hn'
    have K4 := Lib.hid ((((Blk.new w 41 #[.bool h1, .slice A n c]).alloc (.cells #[.bool h2, .slice A' n' c'] 41)).alloc (.cells #[.int .i64 s, .int .i64 u, .int .i64 o] 23)).alloc (entO key s u o h1 A n c) |>.alloc (entO key s u o h2 A' n' c'))
    have K5 := Lib.hid (blk_at (show _ = w.heap.size + 1 by simp) (((Blk.new (w.alloc (.cells #[.bool h1, .slice A n c] 41)) 41 #[.bool h2, .slice A' n' c']).alloc (.cells #[.int .i64 s, .int .i64 u, .int .i64 o] 23)).alloc (entO key s u o h1 A n c) |>.alloc (entO key s u o h2 A' n' c')))
    have K9 := Lib.hid (blk_at (show _ = w.heap.size + 3 by simp) ((Blk.new (((w.alloc (.cells #[.bool h1, .slice A n c] 41)).alloc (.cells #[.bool h2, .slice A' n' c'] 41)).alloc (.cells #[.int .i64 s, .int .i64 u, .int .i64 o] 23)) 43 #[.string key, .int .i64 s, .int .i64 u, .int .i64 o, .bool h1, .slice A n c]).alloc (entO key s u o h2 A' n' c')))
    have K10 := Lib.hid (blk_at (show _ = w.heap.size + 4 by simp) (Blk.new ((((w.alloc (.cells #[.bool h1, .slice A n c] 41)).alloc (.cells #[.bool h2, .slice A' n' c'] 41)).alloc (.cells #[.int .i64 s, .int .i64 u, .int .i64 o] 23)).alloc (entO key s u o h1 A n c)) 43 #[.string key, .int .i64 s, .int .i64 u, .int .i64 o, .bool h2, .slice A' n' c']))
    obtain ⟨b, hb⟩ : ∃ b, sameV h1 h2 xs ys = b := ⟨_, rfl⟩
    have HE := Lib.hid hb
    have HE2 : Hid (sameE key key s u o s u o h1 h2 xs ys = b) := Lib.hid ((sameE_self ..).trans hb)
    have HC : Hid (Calls Try.prog 42 #[valV h1 A n c, valV h2 A' n' c'] _ (IsB b _)) := Lib.hid (by rw [← hb]; exact sameval_any h1 h2 A A' xs ys c c' n n' hn hn' _ HV.out HV'.out)
    clear hn hn' hc hc' hr hr' hx hy hk hv0 hv0' hb
    go_enter Try.func11, Try.ntmps11
    go_wp2_with fail
    refine HC.out.mono ?_
    rintro e w2 ⟨rfl, hb⟩
    have J4 := K4.out.below hb K4.out.lt
    have J5 := K5.out.below hb K5.out.lt
    have J9 := K9.out.below hb K9.out.lt
    have J10 := K10.out.below hb K10.out.lt
    have HV2 := Lib.hid (HV.out.below hb)
    have HV2' := Lib.hid (HV'.out.below hb)
    have HB2 : Hid (Below w.heap.size w w2) := Lib.hid (HB5.out.trans (hb.mono HB5.out.size))
    obtain ⟨p0, p1⟩ := later_val J4
    obtain ⟨q0, q1⟩ := later_val J5
    obtain ⟨r0, r1, r2, r3, r4, r5⟩ := later_ent J9
    obtain ⟨s0, s1, s2, s3, s4, s5⟩ := later_ent J10
    clear hb J4 J5 J9 J10
    go_wp2_with fail
    refine wp_region_later (by kernel_rfl) (by kernel_rfl) ?_
    repeat (go_big_quiet_step (first
      | (go_at_call 43; exact later_isB HE (refsameval_any h1 h2 A A' xs ys c c' n n' HN.out HN'.out _ (HV2.out.below (Later.bel _)) (HV2'.out.below (Later.bel _))))
      | (go_at_call 41; exact later_isB HE2 (same_ent key key s u o s u o h1 h2 A A' xs ys c c' n n' HN.out HN'.out _ (HV2.out.below (Later.bel _)) (HV2'.out.below (Later.bel _))))
      | (go_at_call 28; exact later_of (size_any _ _ _ _ _ _ _ _ (by omega) (by omega) _))
      | (go_at_call 19; exact later_of (known_any _))))
    refine wpQuiet_nil ?_
    intro w' hw'
    obtain ⟨p, rfl⟩ := hw'
    go_wp2
    go_ret
    exact ⟨rfl, HB2.out.trans (p.bel.mono HB2.out.size)⟩
end Go.Proofs.Ytnljljfopelopaa
