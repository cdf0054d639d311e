/- MsCo: Package msgs: Copy. -/
import Derived.Test.YtgmennblbeefhaaDoorMsOs
import Derived.Test.YtgmennblbeefhaaDoorMsRL
import Derived.Test.YtgmennblbeefhaaDoorMsRq
import Derived.Test.YtgmennblbeefhaaDoorRelyJ
import Derived.Test.YtgmennblbeefhaaDoorBoxM
import Derived.BigFrame
namespace Go.Proofs.YtgmennblbeefhaaDoor
open Go.RowKit Mem Be Rg
set_option maxRecDepth 100000
set_option maxHeartbeats 8000000
set_option linter.unusedVariables false
set_option linter.unusedSimpArgs false
def IntsO (w : World) (B : Nat) (A : Option Addr) (ns : List Int) (c : Nat) : Prop := w.ownsRow B 3 1 (.slice A ns.length c) ns.length (ns.map iV)
/-- A copy of a message: all that it has lies in memory of its own. -/
def CopyM (x : MV) (w : World) (e : Ending) (w' : World) : Prop := ∃ y : MV, e = .returned (.agg #[.int .i64 y.kind, .int .i64 y.fr, .int .i64 y.dst, .int .i64 y.ep, .int .i64 y.op, .int .i64 y.n, .bool y.flag, .string ⟨y.e.1.k.toArray⟩, .int .i64 y.e.1.s, .int .i64 y.e.1.u, .int .i64 y.e.1.o, .bool y.e.1.has, .slice y.e.2.1 y.e.1.v.length y.e.2.2, .slice y.lA y.l.length y.lc, .slice y.rA y.ns.length y.rc, .int .i64 y.each, .int .i64 y.keep]) ∧ mP y = mP x ∧ OwnE w' w.heap.size y.e ∧ w'.ownsRow w.heap.size 28 6 (.slice y.lA y.l.length y.lc) y.l.length (entsC y.l) ∧ EntsO w' w.heap.size y.l ∧ IntsO w' w.heap.size y.rA y.ns y.rc ∧ Below w.heap.size w w'
/-- A copy of numbers. -/
theorem clonei12 (B c n : Nat) (A : Option Addr) (xs : List Int) (hn : n = xs.length) (w : World) (h : Row w B A (xs.map iV)) (hB : B ≤ w.heap.size) (hl : n ≤ 17592186044416) :
    Calls Tryd.prog 75 #[.slice A n c] w (fun e w' => ∃ A' c', e = .returned (.slice A' xs.length c') ∧ IntsO w' w.heap.size A' xs c' ∧ Below w.heap.size w w') := by
  subst hn
  obtain ⟨i0, hi0, hz0, hz1, hz2⟩ := info_parts info_i
  rcases A with _ | a
  · have hb : xs = [] := by
      rcases h with h | ⟨b, o, e, _⟩
      · simpa using h
      · cases e
    subst hb
    clear h
    have he := fun W => Lib.run_eql_slice_nil (P := Tryd.prog) W 30 3 none 0 c 0 0 Tryd.underlying30
    go_enter Tryd.func75, Tryd.ntmps75
    go_wp2
    go_ret
    exact ⟨none, 0, rfl, World.ownsRow_nil _ _ _ _, Below.refl _ _⟩
  · have HR := Lib.hid (h.alloc hB (.cells #[] 3))
    have HO : Hid ((w.alloc (.cells #[] 3)).ownsRow w.heap.size 3 1 (.slice (some ⟨w.heap.size, 0, none⟩) 0 0) 0 []) := Lib.hid (World.ownsRow_made w #[] 0 (Nat.le_refl _) (by unfold maxLen; omega) rfl)
    clear h
    have he := fun W => Lib.run_eql_slice_nil (P := Tryd.prog) W 30 3 (some a) xs.length c 0 0 Tryd.underlying30
    go_enter Tryd.func75, Tryd.ntmps75
    go_wp2_with (at_builtin; refine wpList_app _ rfl _ _ 30 rfl w.heap.size 3 i0 (.int .i64 0) 8 Tryd.underlying30 hi0 hz0 hz1 hz2 rfl _ 0 [] rfl HO.out B _ xs.length c (xs.map iV) rfl (by simp) HR.out (iV_one xs) (by unfold maxLen; omega) (by omega) (by simp) ?_)
    intro v' w1 hown hg _
    obtain ⟨A1, c1, rfl, _, _⟩ := ownShape hown
    have hown2 : IntsO w1 w.heap.size A1 xs c1 := by simpa [IntsO] using hown
    have hbl : Below w.heap.size w w1 := ((Below.refl _ _).alloc (Nat.le_refl _) _).grown hg (by simp) (fun g hg => by simp [Value.ownBlock] at hg; omega)
    have HRES := Lib.hid (And.intro hown2 hbl)
    have hz : 0 + xs.length = xs.length := by omega
    clear hown hg hown2 hbl
    go_wp2
    go_ret
    exact ⟨A1, c1, by simp, HRES.out⟩
/-- An entry of whatever length (that an address may reach), copied. -/
theorem copyE_big (key : ByteArray) (s u o : Int) (has : Bool) (A : Option Addr) (xs : List UInt8) (n c : Nat) (hn : n = xs.length) (w : World) (h : Row w w.heap.size A (xs.map byteV)) (hl : xs.length ≤ 140737488355328) :
    Calls Tryd.prog 74 #[entV key s u o has A n c] w (MadeE w.heap.size key s u o has xs w) := by
  have hb0 : Below w.heap.size w ((w.alloc (entO key s u o has A n c)).alloc (.cells #[.string .empty, .int .i64 0, .int .i64 0, .int .i64 0, .bool false, .slice none 0 0] 28)) := ((Below.refl _ _).alloc (Nat.le_refl _) _).alloc (by simp) _
  have HR := Lib.hid (h.below hb0)
  have HL : Hid (xs.length ≤ 140737488355328) := Lib.hid hl
  have HN := Lib.hid hn
  clear h hb0 hn hl
  go_enter Tryd.func74, Tryd.ntmps74
  go_wp2_with (go_at_call 88; refine (clone_any w.heap.size c A xs n HN.out _ HR.out (by simp; omega) HL.out).mono ?_; rintro e w2 ⟨A2, c2, rfl, ho, hb⟩; obtain ⟨hc, hf⟩ := bcell hb; have HO := Lib.hid ho; have HB2 := Lib.hid hb; (have hk1 := (((Blk.new w 28 #[.string key, .int .i64 s, .int .i64 u, .int .i64 o, .bool has, .slice A n c]).alloc (.cells #[.string .empty, .int .i64 0, .int .i64 0, .int .i64 0, .bool false, .slice none 0 0] 28)).below hb (by simp; omega))); (have c5 : w2.cell? ⟨w.heap.size, 5, none⟩ = some (.slice A n c) := hk1.cell 5); clear ho hb hk1)
  refine bodyPost_ret (v := entV key s u o has A2 xs.length c2) (by simp [results, Tryd.results74, go_sem, hc]) rfl ⟨A2, c2, rfl, ?_, ?_⟩
  · have h1 := own_put HO.out (g := w.heap.size) (by simp; omega)
    refine own_base (B := w.heap.size + 2) ?_ (by omega)
    have h0 : (w.heap.size + 2) = ((w.alloc (entO key s u o has A n c)).alloc (.cells #[.string .empty, .int .i64 0, .int .i64 0, .int .i64 0, .bool false, .slice none 0 0] 28)).heap.size := by simp
    have HO2 := HO.out
    rw [← h0] at HO2
    exact own_put (own_put (own_put (own_put (own_put (own_put (own_put HO2 (by omega) _ _) (by omega) _ _) (by omega) _ _) (by omega) _ _) (by omega) _ _) (by omega) _ _) (by omega) _ _
  · exact below_set (below_set (below_set (below_set (below_set (below_set (below_set (below_after2 HB2.out) (by omega) _ _) (by omega) _ _) (by omega) _ _) (by omega) _ _) (by omega) _ _) (by omega) _ _) (by omega) _ _
/- The last region, whatever order it takes. -/
def VC (W0 : World) (g : Nat) (x : MV) (lA : Option Addr) (lc : Nat) : Nat → Value → World → Prop
  | 0, v, _ => v = .pointer (some ⟨g, 7, none⟩)
  | 1, v, _ => v = .agg #[.string ⟨x.e.1.k.toArray⟩, .int .i64 x.e.1.s, .int .i64 x.e.1.u, .int .i64 x.e.1.o, .bool x.e.1.has, .slice x.e.2.1 x.e.1.v.length x.e.2.2]
  | 2, v, w => ∃ A c, v = .agg #[.string ⟨x.e.1.k.toArray⟩, .int .i64 x.e.1.s, .int .i64 x.e.1.u, .int .i64 x.e.1.o, .bool x.e.1.has, .slice A x.e.1.v.length c] ∧ OwnE w W0.heap.size (x.e.1, A, c)
  | 3, v, _ => v = .slice lA x.l.length lc
  | 4, v, _ => v = .pointer (some ⟨g, 14, none⟩)
  | 5, v, _ => v = .pointer (some ⟨g, 14, none⟩)
  | 6, v, _ => v = .slice x.rA x.ns.length x.rc
  | 7, v, w => ∃ A c, v = .slice A x.ns.length c ∧ IntsO w W0.heap.size A x.ns c
  | 8, v, _ => v = .pointer (some ⟨g, 7, none⟩)
  | 10, v, _ => v = .pointer (some ⟨g, 13, none⟩)
  | 12, v, _ => v = .pointer (some ⟨g, 14, none⟩)
  | 13, v, _ => v = .pointer (some ⟨g, 14, none⟩)
  | _, _, _ => True
theorem VC.keep {W0 : World} {g : Nat} {x : MV} {lA : Option Addr} {lc : Nat} {i : Nat} {v : Value} {w w' : World} (h : VC W0 g x lA lc i v w) (hg : w.grownBy w' (some g)) (hB : g < W0.heap.size) : VC W0 g x lA lc i v w' := by
  unfold VC at h ⊢
  split at h
  all_goals first
    | exact h
    | (obtain ⟨A, c, e, ho⟩ := h; exact ⟨A, c, e, own_up12 ho hg hB⟩)
    | trivial
structure JC (W0 : World) (g : Nat) (x : MV) (lA : Option Addr) (lc : Nat) (S : Nat → Bool) (vs : Nat → Value) (w : World) : Prop where
  lt : g < W0.heap.size
  vals : ∀ i, S i = true → VC W0 g x lA lc i (vs i) w
  gro : W0.grownBy w (some g)
  k9 : S 9 = true → S 1 = true ∧ S 2 = true
  k14 : S 14 = true → S 6 = true ∧ S 7 = true
  blk : ∃ (E : EV) (mA : Option Addr) (mc : Nat) (rA : Option Addr) (rc : Nat), Blk w g 34 #[.int .i64 x.kind, .int .i64 x.fr, .int .i64 x.dst, .int .i64 x.ep, .int .i64 x.op, .int .i64 x.n, .bool x.flag, .string ⟨E.1.k.toArray⟩, .int .i64 E.1.s, .int .i64 E.1.u, .int .i64 E.1.o, .bool E.1.has, .slice E.2.1 E.1.v.length E.2.2, .slice mA x.l.length mc, .slice rA x.ns.length rc, .int .i64 x.each, .int .i64 x.keep] ∧ E.1 = x.e.1 ∧ (S 9 = false → E = x.e) ∧ (S 9 = true → vs 2 = .agg #[.string ⟨E.1.k.toArray⟩, .int .i64 E.1.s, .int .i64 E.1.u, .int .i64 E.1.o, .bool E.1.has, .slice E.2.1 E.1.v.length E.2.2]) ∧ (S 11 = true → mA = lA ∧ mc = lc) ∧ (S 14 = false → rA = x.rA ∧ rc = x.rc) ∧ (S 14 = true → vs 7 = .slice rA x.ns.length rc)
open RelyJ in
theorem upV {V : Nat → Value → World → Prop} {S : Nat → Bool} {vs : Nat → Value} {w w' : World} {i : Nat} {v : Value} (h : ∀ j, S j = true → V j (vs j) w) (hk : ∀ j u, V j u w → V j u w') (hv : V i v w') : ∀ j, up S i true j = true → V j (up vs i v j) w' := fun j hj => by
  by_cases e : j = i
  · subst e; rw [up_same]; exact hv
  · rw [up_ne _ _ e] at hj ⊢; exact hk j _ (h j hj)
section
variable {W0 : World} {g : Nat} {x : MV} {lA : Option Addr} {lc : Nat} {S : Nat → Bool} {vs : Nat → Value} {w w' : World}
open RelyJ in
/-- An operation that leaves the box as it is. -/
theorem JC.step (h : JC W0 g x lA lc S vs w) (hb : Below w.heap.size w w') (i : Nat) (v : Value) (h9 : i ≠ 9) (h11 : i ≠ 11) (h14 : i ≠ 14) (hS : S i = false) (hv : VC W0 g x lA lc i v w') : JC W0 g x lA lc (up S i true) (up vs i v) w' := by
  have hg : w.grownBy w' (some g) := grown_below hb (Nat.le_refl _) _
  obtain ⟨E, mA, mc, rA, rc, h1, h2, h3, h4, h5, h6, h7⟩ := h.blk
  refine ⟨h.lt, upV h.vals (fun j u q => q.keep hg h.lt) hv, grown_trans h.gro hg, ?_, ?_, E, mA, mc, rA, rc, h1.below hb h1.lt, h2, ?_, ?_, ?_, ?_, ?_⟩
  · intro q
    rw [up_ne _ _ (Ne.symm h9)] at q
    obtain ⟨a, b⟩ := h.k9 q
    refine ⟨?_, ?_⟩
    · by_cases e : (1 : Nat) = i
      · rw [← e]; exact up_same _ _ _
      · rw [up_ne _ _ e]; exact a
    · by_cases e : (2 : Nat) = i
      · rw [← e]; exact up_same _ _ _
      · rw [up_ne _ _ e]; exact b
  · intro q
    rw [up_ne _ _ (Ne.symm h14)] at q
    obtain ⟨a, b⟩ := h.k14 q
    refine ⟨?_, ?_⟩
    · by_cases e : (6 : Nat) = i
      · rw [← e]; exact up_same _ _ _
      · rw [up_ne _ _ e]; exact a
    · by_cases e : (7 : Nat) = i
      · rw [← e]; exact up_same _ _ _
      · rw [up_ne _ _ e]; exact b
  · rw [up_ne _ _ (Ne.symm h9)]; exact h3
  · intro q
    rw [up_ne _ _ (Ne.symm h9)] at q
    have : (2 : Nat) ≠ i := fun e => by rw [← e, (h.k9 q).2] at hS; cases hS
    rw [up_ne _ _ this]; exact h4 q
  · rw [up_ne _ _ (Ne.symm h11)]; exact h5
  · rw [up_ne _ _ (Ne.symm h14)]; exact h6
  · intro q
    rw [up_ne _ _ (Ne.symm h14)] at q
    have : (7 : Nat) ≠ i := fun e => by rw [← e, (h.k14 q).2] at hS; cases hS
    rw [up_ne _ _ this]; exact h7 q
theorem JC.e0 (h : JC W0 g x lA lc S vs w) (h1 : S 1 = false) : ∃ (mA : Option Addr) (mc : Nat) (rA : Option Addr) (rc : Nat), Blk w g 34 #[.int .i64 x.kind, .int .i64 x.fr, .int .i64 x.dst, .int .i64 x.ep, .int .i64 x.op, .int .i64 x.n, .bool x.flag, .string ⟨x.e.1.k.toArray⟩, .int .i64 x.e.1.s, .int .i64 x.e.1.u, .int .i64 x.e.1.o, .bool x.e.1.has, .slice x.e.2.1 x.e.1.v.length x.e.2.2, .slice mA x.l.length mc, .slice rA x.ns.length rc, .int .i64 x.each, .int .i64 x.keep] := by
  obtain ⟨E, mA, mc, rA, rc, b1, b2, b3, _⟩ := h.blk
  have h9 : S 9 = false := by
    cases q : S 9
    · rfl
    · rw [(h.k9 q).1] at h1; cases h1
  rw [b3 h9] at b1
  exact ⟨mA, mc, rA, rc, b1⟩
theorem JC.r0 (h : JC W0 g x lA lc S vs w) (h1 : S 6 = false) : ∃ (E : EV) (mA : Option Addr) (mc : Nat), Blk w g 34 #[.int .i64 x.kind, .int .i64 x.fr, .int .i64 x.dst, .int .i64 x.ep, .int .i64 x.op, .int .i64 x.n, .bool x.flag, .string ⟨E.1.k.toArray⟩, .int .i64 E.1.s, .int .i64 E.1.u, .int .i64 E.1.o, .bool E.1.has, .slice E.2.1 E.1.v.length E.2.2, .slice mA x.l.length mc, .slice x.rA x.ns.length x.rc, .int .i64 x.each, .int .i64 x.keep] := by
  obtain ⟨E, mA, mc, rA, rc, b1, b2, b3, b4, b5, b6, _⟩ := h.blk
  have h9 : S 14 = false := by
    cases q : S 14
    · rfl
    · rw [(h.k14 q).1] at h1; cases h1
  rw [(b6 h9).1, (b6 h9).2] at b1
  exact ⟨E, mA, mc, b1⟩
open RelyJ in
/-- A store into the box. -/
theorem JC.put (h : JC W0 g x lA lc S vs w) (hg : w.grownBy w' (some g)) (i : Nat) (hi : i = 9 ∨ i = 11 ∨ i = 14) (k9 : i = 9 → S 1 = true ∧ S 2 = true) (k14 : i = 14 → S 6 = true ∧ S 7 = true)
    (hb : ∃ (E : EV) (mA : Option Addr) (mc : Nat) (rA : Option Addr) (rc : Nat), Blk w' g 34 #[.int .i64 x.kind, .int .i64 x.fr, .int .i64 x.dst, .int .i64 x.ep, .int .i64 x.op, .int .i64 x.n, .bool x.flag, .string ⟨E.1.k.toArray⟩, .int .i64 E.1.s, .int .i64 E.1.u, .int .i64 E.1.o, .bool E.1.has, .slice E.2.1 E.1.v.length E.2.2, .slice mA x.l.length mc, .slice rA x.ns.length rc, .int .i64 x.each, .int .i64 x.keep] ∧ E.1 = x.e.1 ∧ (up S i true 9 = false → E = x.e) ∧ (up S i true 9 = true → vs 2 = .agg #[.string ⟨E.1.k.toArray⟩, .int .i64 E.1.s, .int .i64 E.1.u, .int .i64 E.1.o, .bool E.1.has, .slice E.2.1 E.1.v.length E.2.2]) ∧ (up S i true 11 = true → mA = lA ∧ mc = lc) ∧ (up S i true 14 = false → rA = x.rA ∧ rc = x.rc) ∧ (up S i true 14 = true → vs 7 = .slice rA x.ns.length rc)) : JC W0 g x lA lc (up S i true) (up vs i undef) w' := by
  have n : ∀ k, k ≠ 9 → k ≠ 11 → k ≠ 14 → k ≠ i := fun k a b c e => by omega
  have e2 : up vs i undef 2 = vs 2 := up_ne _ _ (n 2 (by omega) (by omega) (by omega))
  have e7 : up vs i undef 7 = vs 7 := up_ne _ _ (n 7 (by omega) (by omega) (by omega))
  refine ⟨h.lt, upV h.vals (fun j u q => q.keep hg h.lt) (by rcases hi with rfl | rfl | rfl <;> trivial), grown_trans h.gro hg, ?_, ?_, ?_⟩
  · intro q
    rw [up_ne _ _ (n 1 (by omega) (by omega) (by omega)), up_ne _ _ (n 2 (by omega) (by omega) (by omega))]
    by_cases e : (9 : Nat) = i
    · exact k9 e.symm
    · rw [up_ne _ _ e] at q; exact h.k9 q
  · intro q
    rw [up_ne _ _ (n 6 (by omega) (by omega) (by omega)), up_ne _ _ (n 7 (by omega) (by omega) (by omega))]
    by_cases e : (14 : Nat) = i
    · exact k14 e.symm
    · rw [up_ne _ _ e] at q; exact h.k14 q
  · rw [e2, e7]; exact hb
end
theorem mcopy_any (x : MV) (w : World) (h : MsgM w x) (hz : SzM x) : Calls Tryd.prog 23 #[.agg #[.int .i64 x.kind, .int .i64 x.fr, .int .i64 x.dst, .int .i64 x.ep, .int .i64 x.op, .int .i64 x.n, .bool x.flag, .string ⟨x.e.1.k.toArray⟩, .int .i64 x.e.1.s, .int .i64 x.e.1.u, .int .i64 x.e.1.o, .bool x.e.1.has, .slice x.e.2.1 x.e.1.v.length x.e.2.2, .slice x.lA x.l.length x.lc, .slice x.rA x.ns.length x.rc, .int .i64 x.each, .int .i64 x.keep]] w (CopyM x w) := by
  obtain ⟨i0, hi0, hz0, hz1, hz2⟩ := info_parts info_ent
  have hre : reachBytes = 140737488351232 := by kernel_rfl
  have hl72 : x.l.length * 72 ≤ 140737488351232 := by have := hz.ln; omega
  have hn8 : x.ns.length * 8 ≤ 140737488351232 := by have := hz.nl; omega
  have hev : x.e.1.v.length ≤ 140737488355328 := by have := hz.e; omega
  obtain ⟨C, hC⟩ := make_room (P := Tryd.prog) 29 28 _ 6 72 Tryd.underlying29 info_ent x.l.length (by omega) (by unfold maxLen; omega)
  have hmk := fun W => (hC W).1
  have HOWN := Lib.hid fun W => (hC W).2
  have hb0 : Below w.heap.size w ((w.alloc (.cells #[.int .i64 x.kind, .int .i64 x.fr, .int .i64 x.dst, .int .i64 x.ep, .int .i64 x.op, .int .i64 x.n, .bool x.flag, .string ⟨x.e.1.k.toArray⟩, .int .i64 x.e.1.s, .int .i64 x.e.1.u, .int .i64 x.e.1.o, .bool x.e.1.has, .slice x.e.2.1 x.e.1.v.length x.e.2.2, .slice x.lA x.l.length x.lc, .slice x.rA x.ns.length x.rc, .int .i64 x.each, .int .i64 x.keep] 34)).alloc (.cells #[.int .i64 0, .int .i64 0, .int .i64 0, .int .i64 0, .int .i64 0, .int .i64 0, .bool false, .string ⟨#[]⟩, .int .i64 0, .int .i64 0, .int .i64 0, .bool false, .slice none 0 0, .slice none 0 0, .slice none 0 0, .int .i64 0, .int .i64 0] 34)) := ((Below.refl _ _).alloc (Nat.le_refl _) _).alloc (by simp) _
  have HX0 := Lib.hid ((Blk.new w 34 #[.int .i64 x.kind, .int .i64 x.fr, .int .i64 x.dst, .int .i64 x.ep, .int .i64 x.op, .int .i64 x.n, .bool x.flag, .string ⟨x.e.1.k.toArray⟩, .int .i64 x.e.1.s, .int .i64 x.e.1.u, .int .i64 x.e.1.o, .bool x.e.1.has, .slice x.e.2.1 x.e.1.v.length x.e.2.2, .slice x.lA x.l.length x.lc, .slice x.rA x.ns.length x.rc, .int .i64 x.each, .int .i64 x.keep]).alloc (.cells #[.int .i64 0, .int .i64 0, .int .i64 0, .int .i64 0, .int .i64 0, .int .i64 0, .bool false, .string ⟨#[]⟩, .int .i64 0, .int .i64 0, .int .i64 0, .bool false, .slice none 0 0, .slice none 0 0, .slice none 0 0, .int .i64 0, .int .i64 0] 34))
  have HR0 : Hid (Blk ((w.alloc (.cells #[.int .i64 x.kind, .int .i64 x.fr, .int .i64 x.dst, .int .i64 x.ep, .int .i64 x.op, .int .i64 x.n, .bool x.flag, .string ⟨x.e.1.k.toArray⟩, .int .i64 x.e.1.s, .int .i64 x.e.1.u, .int .i64 x.e.1.o, .bool x.e.1.has, .slice x.e.2.1 x.e.1.v.length x.e.2.2, .slice x.lA x.l.length x.lc, .slice x.rA x.ns.length x.rc, .int .i64 x.each, .int .i64 x.keep] 34)).alloc (.cells #[.int .i64 0, .int .i64 0, .int .i64 0, .int .i64 0, .int .i64 0, .int .i64 0, .bool false, .string ⟨#[]⟩, .int .i64 0, .int .i64 0, .int .i64 0, .bool false, .slice none 0 0, .slice none 0 0, .slice none 0 0, .int .i64 0, .int .i64 0] 34)) (w.heap.size + 1) 34 #[.int .i64 0, .int .i64 0, .int .i64 0, .int .i64 0, .int .i64 0, .int .i64 0, .bool false, .string ⟨#[]⟩, .int .i64 0, .int .i64 0, .int .i64 0, .bool false, .slice none 0 0, .slice none 0 0, .slice none 0 0, .int .i64 0, .int .i64 0]) := Lib.hid (blk_at (by simp) (Blk.new _ _ _))
  obtain ⟨W1, hW1⟩ : ∃ W, ((w.alloc (.cells #[.int .i64 x.kind, .int .i64 x.fr, .int .i64 x.dst, .int .i64 x.ep, .int .i64 x.op, .int .i64 x.n, .bool x.flag, .string ⟨x.e.1.k.toArray⟩, .int .i64 x.e.1.s, .int .i64 x.e.1.u, .int .i64 x.e.1.o, .bool x.e.1.has, .slice x.e.2.1 x.e.1.v.length x.e.2.2, .slice x.lA x.l.length x.lc, .slice x.rA x.ns.length x.rc, .int .i64 x.each, .int .i64 x.keep] 34)).alloc (.cells #[.int .i64 0, .int .i64 0, .int .i64 0, .int .i64 0, .int .i64 0, .int .i64 0, .bool false, .string ⟨#[]⟩, .int .i64 0, .int .i64 0, .int .i64 0, .bool false, .slice none 0 0, .slice none 0 0, .slice none 0 0, .int .i64 0, .int .i64 0] 34)) = W := ⟨_, rfl⟩
  have hsz : W1.heap.size = w.heap.size + 2 := by rw [← hW1]; simp
  rw [hW1] at hb0 HX0 HR0
  have HB1 := Lib.hid hb0
  have HM0 := Lib.hid h
  have HZ := Lib.hid hz
  obtain ⟨lA, hlA⟩ : ∃ a, x.lA = a := ⟨_, rfl⟩
  have HLA := Lib.hid hlA
  have d13 : W1.cell? ⟨w.heap.size, 13, none⟩ = some (.slice lA x.l.length x.lc) := by rw [← hlA]; exact HX0.out.cell 13
  have hn0 : (0 : Int) ≤ (x.l.length : Int) := by omega
  have hn1 : (x.l.length : Int) ≤ 2000000000000 := by omega
  have HSZ := Lib.hid hsz
  have HL72 := Lib.hid hl72
  have HN8 := Lib.hid hn8
  have HEV := Lib.hid hev
  clear h hz hC hb0 hsz hl72 hn8 hev hre hlA
  go_enter Tryd.func23, Tryd.ntmps23
  go_upto_region 2 with fail
  have hb2 : Below W1.heap.size W1 (W1.alloc (.cells C 28)) := (Below.refl _ _).alloc (Nat.le_refl _) _
  have HO2 := Lib.hid (HOWN.out W1)
  obtain ⟨W2, hW2⟩ : ∃ W, W1.alloc (.cells C 28) = W := ⟨_, rfl⟩
  obtain ⟨gl, hgl⟩ : ∃ g, W1.heap.size = g := ⟨_, rfl⟩
  rw [hW2] at hb2 HO2
  have HX2 := Lib.hid (HX0.out.below hb2 HX0.out.lt)
  have HR2 := Lib.hid (HR0.out.below hb2 HR0.out.lt)
  have HB2 := Lib.hid (HB1.out.trans (hb2.mono HB1.out.size))
  have e13 : W2.cell? ⟨w.heap.size, 13, none⟩ = some (.slice lA x.l.length x.lc) := by rw [← HLA.out]; exact HX2.out.cell 13
  have HS2 : Hid (gl < W2.heap.size) := Lib.hid (by rw [← hgl, ← hW2]; simp)
  rw [hgl] at HO2 HSZ
  simp only [hW2, hgl]
  clear hb2 hW2 hgl d13 HB1 HX0 HR0 hmk hW1 HOWN
  go_upto_region 3 with fail
  clear e13
  go_loopw [3, 13] (fun v i wr => ∃ (j : Nat) (us : List EV) (A : Option Addr) (c : Nat), j ≤ x.l.length ∧ i = .int .i64 j ∧ v = .slice A j c ∧ Hid (us.length = j) ∧ Hid (us.map Prod.fst = (x.l.map Prod.fst).take j) ∧
    Hid (wr.ownsRow gl 28 6 (.slice A j c) j (entsC us)) ∧ Hid (EntsO wr gl us) ∧ Hid (Below gl W2 wr)) (fun _ i _ => x.l.length - (intOf i).toNat)
  case atStart => exact ⟨0, [], _, _, Nat.zero_le _, rfl, rfl, Lib.hid rfl, Lib.hid rfl, HO2, Lib.hid (entsO_nil _ _), Lib.hid (Below.refl _ _)⟩
  case round =>
    obtain ⟨j, us, A, cA, hj, rfl, rfl, HUL, HMU, HO, HE, HB⟩ := hrel
    by_cases hlt : j < x.l.length
    · have hbw : Below w.heap.size w wr := HB2.out.trans (HB.out.mono (by have := HSZ.out; omega))
      have hm := HM0.out.below hbw
      have hrow := hm.en.row
      rw [HLA.out] at hrow
      obtain ⟨b, o, rfl, hb, hc⟩ := ents_open hrow (by omega)
      obtain ⟨a0, a1, a2, a3, a4, a5⟩ := hc j hlt
      have hv := hm.en.val x.l[j] (List.getElem_mem hlt)
      have hzl := HZ.out.l x.l[j] (List.getElem_mem hlt)
      obtain ⟨⟨y, A1, c1⟩, hy⟩ : ∃ p, x.l[j]'hlt = p := ⟨_, rfl⟩
      rw [hy] at a0 a1 a2 a3 a4 a5 hv hzl
      simp only at a0 a1 a2 a3 a4 a5 hzl
      have hsn : (x.l.map Prod.fst).take (j + 1) = (x.l.map Prod.fst).take j ++ [y] := by
        rw [List.take_succ_eq_append_getElem (by simpa using hlt)]
        simp [hy]
      have HSN := Lib.hid hsn
      have hzl2 : y.v.length ≤ 140737488355328 := Nat.le_trans hzl (by rw [show reachBytes = 140737488351232 by kernel_rfl]; omega)
      have HC : Hid (∀ W, Below wr.heap.size wr W → Calls Tryd.prog 74 #[entV ⟨y.k.toArray⟩ y.s y.u y.o y.has A1 y.v.length c1] W (MadeE W.heap.size ⟨y.k.toArray⟩ y.s y.u y.o y.has y.v W)) := Lib.hid fun W hb' => copyE_big ⟨y.k.toArray⟩ y.s y.u y.o y.has A1 y.v y.v.length c1 rfl W (hv.below hb').row hzl2
      have hji : (0 : Int) ≤ (j : Int) := by omega
      have hji2 : (j : Int) < (x.l.length : Int) := by omega
      have hbs : b < wr.heap.size := hb
      have HGL : Hid (gl ≤ wr.heap.size) := Lib.hid (by have := HB.out.size; have := HS2.out; omega)
      have HJ72 : Hid ((j + 1) * 72 ≤ 140737488355328) := Lib.hid (by have := HL72.out; omega)
      have HJM : Hid (j + 1 ≤ maxLen) := Lib.hid (by unfold maxLen; omega)
      clear hbw hm hrow hc hv hzl hy hsn hzl2
      go_wp2_with fail
      refine (HC.out _ ((Below.refl _ _).alloc (Nat.le_refl _) _)).mono ?_
      rintro e w4 ⟨A4, c4, rfl, ho4, hb4⟩
      obtain ⟨z, hz⟩ : ∃ z : EV, z = (y, A4, c4) := ⟨_, rfl⟩
      have hO4 : OwnE w4 (wr.heap.size + 1) z := by rw [hz]; rw [World.size_alloc] at ho4; exact ho4
      have hb14 : Below wr.heap.size wr w4 := ((Below.refl _ wr).alloc (Nat.le_refl _) _).trans (hb4.mono (by simp))
      have HBL : Hid (Blk (w4.alloc (.cells ⟨entC z⟩ 28)) w4.heap.size 28 ⟨entC z⟩) := Lib.hid (Blk.new _ _ _)
      have hal : ∀ ob, Below w4.heap.size w4 (w4.alloc ob) := fun ob => (Below.refl _ _).alloc (Nat.le_refl _) ob
      have HO4 : Hid (∀ ob, (w4.alloc ob).ownsRow gl 28 6 (.slice A j cA) j (entsC us)) := Lib.hid fun ob => ownLater (ownLater HO.out hb14) (hal ob)
      have HE4 : Hid (∀ ob, EntsO (w4.alloc ob) gl (us ++ [z])) := Lib.hid fun ob => entsO_below (entsO_app (entsO_below HE.out hb14) (entsO_one (ownBase hO4 (by have := HGL.out; omega)))) (hal ob)
      have HB4 : Hid (∀ ob, Below gl W2 (w4.alloc ob)) := Lib.hid fun ob => (HB.out.trans (hb14.mono HGL.out)).trans ((hal ob).mono (Nat.le_trans HGL.out hb14.size))
      have HW4 : Hid (gl ≤ w4.heap.size) := Lib.hid (Nat.le_trans HGL.out hb14.size)
      subst hz
      clear ho4 hb4 hal hO4 HC hb14 HO HE HB
      go_wp2_with (at_builtin; refine wpList_appS (P := Tryd.prog) (by rfl) _ _ _ (by rfl) gl 28 i0 (evV (evN [])) 6 72 Tryd.underlying29 hi0 hz0 hz1 hz2 rfl (by decide) _ j (entsC us) (by rfl) (by exact HO4.out _) (w4.heap.size + 1) (some ⟨w4.heap.size, 0, none⟩) 1 1 (entsC [(y, A4, c4)]) (by rfl) (by rfl) (by exact ent_lit HBL.out (by omega)) (entsC_one _) (by exact HJM.out) (by exact HJ72.out) (by have := HW4.out; simp; omega) ?_)
      intro v' w5 hown hgr hat
      obtain ⟨A5, c5, rfl, _, _⟩ := ownShape hown
      have HO5 := Lib.hid hown
      have HB5 : Hid (Below gl W2 w5) := Lib.hid ((HB4.out _).grown hgr (by have := HW4.out; simp; omega) fun g h => ((HO4.out (.cells ⟨entC (y, A4, c4)⟩ 28)).lt g h).1)
      have HE5 : Hid (EntsO w5 gl (us ++ [(y, A4, c4)])) := Lib.hid (entsO_grown (HE4.out (.cells ⟨entC (y, A4, c4)⟩ 28)) (HO4.out _) (by decide) hgr)
      clear hown hgr hat HO4 HE4 HB4 HBL
      go_wp2
      go_roundw
      case rel => exact ⟨j + 1, us ++ [(y, A4, c4)], A5, c5, by omega, by go_num, rfl, Lib.hid (by rw [List.length_append, HUL.out]; rfl), Lib.hid (by rw [List.map_append, HMU.out, HSN.out]; rfl), Lib.hid (by rw [entsC_app]; exact HO5.out), HE5, HB5⟩
      case measure => simp [intOf]; omega
    · obtain rfl : j = x.l.length := by omega
      have HMX : Hid (us.map Prod.fst = x.l.map Prod.fst) := Lib.hid (by have := HMU.out; rw [List.take_of_length_le (by simp)] at this; exact this)
      have hbw : Below w.heap.size w wr := HB2.out.trans (HB.out.mono (by have := HSZ.out; omega))
      have HBW := Lib.hid hbw
      have HXr : Hid (Blk wr w.heap.size 34 #[.int .i64 x.kind, .int .i64 x.fr, .int .i64 x.dst, .int .i64 x.ep, .int .i64 x.op, .int .i64 x.n, .bool x.flag, .string ⟨x.e.1.k.toArray⟩, .int .i64 x.e.1.s, .int .i64 x.e.1.u, .int .i64 x.e.1.o, .bool x.e.1.has, .slice x.e.2.1 x.e.1.v.length x.e.2.2, .slice x.lA x.l.length x.lc, .slice x.rA x.ns.length x.rc, .int .i64 x.each, .int .i64 x.keep]) := Lib.hid (HX2.out.below HB.out (by have := HSZ.out; omega))
      have HRr : Hid (Blk wr (w.heap.size + 1) 34 #[.int .i64 0, .int .i64 0, .int .i64 0, .int .i64 0, .int .i64 0, .int .i64 0, .bool false, .string ⟨#[]⟩, .int .i64 0, .int .i64 0, .int .i64 0, .bool false, .slice none 0 0, .slice none 0 0, .slice none 0 0, .int .i64 0, .int .i64 0]) := Lib.hid (HR2.out.below HB.out (by have := HSZ.out; omega))
      have HGL : Hid (w.heap.size + 2 ≤ wr.heap.size) := Lib.hid (by have := HB.out.size; have := HS2.out; have := HSZ.out; omega)
      have hm := HM0.out.below hbw
      have hev2 : x.e.1.v.length ≤ 140737488355328 := HEV.out
      have hn44 : x.ns.length ≤ 17592186044416 := by have := HN8.out; omega
      have HCE : Hid (∀ W, wr.grownBy W (some w.heap.size) → Calls Tryd.prog 74 #[entV ⟨x.e.1.k.toArray⟩ x.e.1.s x.e.1.u x.e.1.o x.e.1.has x.e.2.1 x.e.1.v.length x.e.2.2] W (MadeE W.heap.size ⟨x.e.1.k.toArray⟩ x.e.1.s x.e.1.u x.e.1.o x.e.1.has x.e.1.v W)) := Lib.hid fun W hg => copyE_big ⟨x.e.1.k.toArray⟩ x.e.1.s x.e.1.u x.e.1.o x.e.1.has x.e.2.1 x.e.1.v x.e.1.v.length x.e.2.2 rfl W (((HM0.out.ev.row.below HBW.out).grown hg HBW.out.size (Nat.le_refl _)).more (Nat.le_trans HBW.out.size hg.size)) hev2
      have HCI : Hid (∀ W, wr.grownBy W (some w.heap.size) → Calls Tryd.prog 75 #[.slice x.rA x.ns.length x.rc] W (fun e w' => ∃ A' c', e = .returned (.slice A' x.ns.length c') ∧ IntsO w' W.heap.size A' x.ns c' ∧ Below W.heap.size W w')) := Lib.hid fun W hg => clonei12 w.heap.size x.rc x.ns.length x.rA x.ns rfl W ((HM0.out.rn.below HBW.out).grown hg HBW.out.size (Nat.le_refl _)) (Nat.le_trans HBW.out.size hg.size) hn44
      clear hbw hm HX2 HR2 HM0 HMU
      go_wp2
      refine RelyJ.wp_region_byJ [[], [(0, 23)], [(1, 24)], [], [], [(4, 27)], [(5, 28)], [(6, 29)], [], [(2, 25), (8, 31)], [], [(3, 26), (10, 32)], [], [(12, 33)], [(7, 30), (13, 34)]] [(0, 23), (1, 24), (2, 25), (3, 26), (4, 27), (5, 28), (6, 29), (7, 30), (8, 31), (10, 32), (12, 33), (13, 34)] (JC wr w.heap.size x A cA) (by kernel_rfl) (by kernel_rfl) (by kernel_rfl) (by kernel_rfl) (by kernel_rfl) ?_ ?_ ?_
      · exact fun vs => ⟨by have := HGL.out; show _ < wr.heap.size; omega, fun i h => (by cases h), grown_below (Below.refl _ _).drew (Nat.le_refl _) _, fun h => (by cases h), fun h => (by cases h), x.e, x.lA, x.lc, x.rA, x.rc, HXr.out.drew, rfl, fun _ => rfl, fun h => (by cases h), fun h => (by cases h), fun _ => ⟨rfl, rfl⟩, fun h => (by cases h)⟩
      refine RelyJ.stepsZ_cons (by
          as_aux_lemma =>
          intro S vs w' hS hA hJ
          rw [if_pos (show Region.wanted _ _ = true from rfl)]
          refine RelyJ.gives_mono (R' := fun v w'' => v = .pointer (some ⟨w.heap.size, 7, none⟩) ∧ w'' = w') ?_ (by rintro v w2 ⟨rfl, rfl⟩; exact hJ.step (Below.refl _ _) 0 _ (by decide) (by decide) (by decide) hS rfl)
          clear hJ hA hS
          unfold Rely.gives
          simp only [Rely.sel, List.foldl_cons, List.foldl_nil]
          go_simp
          simp [Rely.GivesR]) ?_
      refine RelyJ.stepsZ_cons (by
          as_aux_lemma =>
          intro S vs w' hS hA hJ
          rw [if_pos (show Region.wanted _ _ = true from rfl)]
          refine RelyJ.gives_mono (R' := fun v w'' => v = .agg #[.string ⟨x.e.1.k.toArray⟩, .int .i64 x.e.1.s, .int .i64 x.e.1.u, .int .i64 x.e.1.o, .bool x.e.1.has, .slice x.e.2.1 x.e.1.v.length x.e.2.2] ∧ w'' = w') ?_ (by rintro v w2 ⟨rfl, rfl⟩; exact hJ.step (Below.refl _ _) 1 _ (by decide) (by decide) (by decide) hS rfl)
          have hx0 := hJ.vals 0 (hA ⟨0, Ground.data⟩ (by simp) rfl)
          simp only [VC] at hx0
          obtain ⟨mA, mc, rA, rc, hblk⟩ := hJ.e0 hS
          have c7 : w'.cell? ⟨w.heap.size, 7, none⟩ = some (.string ⟨x.e.1.k.toArray⟩) := hblk.cell 7
          have c8 : w'.cell? ⟨w.heap.size, 8, none⟩ = some (.int .i64 x.e.1.s) := hblk.cell 8
          have c9 : w'.cell? ⟨w.heap.size, 9, none⟩ = some (.int .i64 x.e.1.u) := hblk.cell 9
          have c10 : w'.cell? ⟨w.heap.size, 10, none⟩ = some (.int .i64 x.e.1.o) := hblk.cell 10
          have c11 : w'.cell? ⟨w.heap.size, 11, none⟩ = some (.bool x.e.1.has) := hblk.cell 11
          have c12 : w'.cell? ⟨w.heap.size, 12, none⟩ = some (.slice x.e.2.1 x.e.1.v.length x.e.2.2) := hblk.cell 12
          clear hblk
          clear hJ hA hS
          unfold Rely.gives
          simp only [Rely.sel, List.foldl_cons, List.foldl_nil, hx0]
          go_simp
          simp [Rely.GivesR]) ?_
      refine RelyJ.stepsZ_cons (by
          as_aux_lemma =>
          intro S vs w' hS hA hJ
          rw [if_pos (show Region.wanted _ _ = true from rfl)]
          refine RelyJ.gives_mono (R' := fun v w'' => VC wr w.heap.size x A cA 2 v w'' ∧ Below w'.heap.size w' w'') ?_ (by rintro v w2 ⟨h1, h2⟩; exact hJ.step h2 2 _ (by decide) (by decide) (by decide) hS h1)
          have HG := Lib.hid hJ.gro
          have hx1 := hJ.vals 1 (hA ⟨1, Ground.data⟩ (by simp) rfl)
          simp only [VC] at hx1
          clear hJ hA hS
          unfold Rely.gives
          simp only [Rely.sel, List.foldl_cons, List.foldl_nil, hx1]
          go_simp
          simp only [Rely.GivesR]
          refine (HCE.out w' HG.out).mono ?_
          rintro e w3 ⟨A3, c3, rfl, ho3, hb3⟩
          exact ⟨_, rfl, ⟨A3, c3, rfl, ownBase ho3 HG.out.size⟩, hb3⟩) ?_
      refine RelyJ.stepsZ_cons (by
          as_aux_lemma =>
          intro S vs w' hS hA hJ
          rw [if_pos (show Region.wanted _ _ = true from rfl)]
          refine RelyJ.gives_mono (R' := fun v w'' => v = .slice A x.l.length cA ∧ w'' = w') ?_ (by rintro v w2 ⟨rfl, rfl⟩; exact hJ.step (Below.refl _ _) 3 _ (by decide) (by decide) (by decide) hS rfl)
          clear hJ hA hS
          unfold Rely.gives
          simp only [Rely.sel, List.foldl_cons, List.foldl_nil]
          go_simp
          simp [Rely.GivesR]) ?_
      refine RelyJ.stepsZ_cons (by
          as_aux_lemma =>
          intro S vs w' hS hA hJ
          rw [if_pos (show Region.wanted _ _ = true from rfl)]
          refine RelyJ.gives_mono (R' := fun v w'' => v = .pointer (some ⟨w.heap.size, 14, none⟩) ∧ w'' = w') ?_ (by rintro v w2 ⟨rfl, rfl⟩; exact hJ.step (Below.refl _ _) 4 _ (by decide) (by decide) (by decide) hS rfl)
          clear hJ hA hS
          unfold Rely.gives
          simp only [Rely.sel, List.foldl_cons, List.foldl_nil]
          go_simp
          simp [Rely.GivesR]) ?_
      refine RelyJ.stepsZ_cons (by
          as_aux_lemma =>
          intro S vs w' hS hA hJ
          rw [if_pos (show Region.wanted _ _ = true from rfl)]
          refine RelyJ.gives_mono (R' := fun v w'' => v = .pointer (some ⟨w.heap.size, 14, none⟩) ∧ w'' = w') ?_ (by rintro v w2 ⟨rfl, rfl⟩; exact hJ.step (Below.refl _ _) 5 _ (by decide) (by decide) (by decide) hS rfl)
          have hx4 := hJ.vals 4 (hA ⟨4, Ground.data⟩ (by simp) rfl)
          simp only [VC] at hx4
          clear hJ hA hS
          unfold Rely.gives
          simp only [Rely.sel, List.foldl_cons, List.foldl_nil, hx4]
          go_simp
          simp [Rely.GivesR]) ?_
      refine RelyJ.stepsZ_cons (by
          as_aux_lemma =>
          intro S vs w' hS hA hJ
          rw [if_pos (show Region.wanted _ _ = true from rfl)]
          refine RelyJ.gives_mono (R' := fun v w'' => v = .slice x.rA x.ns.length x.rc ∧ w'' = w') ?_ (by rintro v w2 ⟨rfl, rfl⟩; exact hJ.step (Below.refl _ _) 6 _ (by decide) (by decide) (by decide) hS rfl)
          have hx5 := hJ.vals 5 (hA ⟨5, Ground.data⟩ (by simp) rfl)
          simp only [VC] at hx5
          obtain ⟨E, mA, mc, hblk⟩ := hJ.r0 hS
          have c14 : w'.cell? ⟨w.heap.size, 14, none⟩ = some (.slice x.rA x.ns.length x.rc) := hblk.cell 14
          clear hblk
          clear hJ hA hS
          unfold Rely.gives
          simp only [Rely.sel, List.foldl_cons, List.foldl_nil, hx5]
          go_simp
          simp [Rely.GivesR]) ?_
      refine RelyJ.stepsZ_cons (by
          as_aux_lemma =>
          intro S vs w' hS hA hJ
          rw [if_pos (show Region.wanted _ _ = true from rfl)]
          refine RelyJ.gives_mono (R' := fun v w'' => VC wr w.heap.size x A cA 7 v w'' ∧ Below w'.heap.size w' w'') ?_ (by rintro v w2 ⟨h1, h2⟩; exact hJ.step h2 7 _ (by decide) (by decide) (by decide) hS h1)
          have HG := Lib.hid hJ.gro
          have hx6 := hJ.vals 6 (hA ⟨6, Ground.data⟩ (by simp) rfl)
          simp only [VC] at hx6
          clear hJ hA hS
          unfold Rely.gives
          simp only [Rely.sel, List.foldl_cons, List.foldl_nil, hx6]
          go_simp
          simp only [Rely.GivesR]
          refine (HCI.out w' HG.out).mono ?_
          rintro e w3 ⟨A3, c3, rfl, ho3, hb3⟩
          exact ⟨_, rfl, ⟨A3, c3, rfl, ownBase ho3 HG.out.size⟩, hb3⟩) ?_
      refine RelyJ.stepsZ_cons (by
          as_aux_lemma =>
          intro S vs w' hS hA hJ
          rw [if_pos (show Region.wanted _ _ = true from rfl)]
          refine RelyJ.gives_mono (R' := fun v w'' => v = .pointer (some ⟨w.heap.size, 7, none⟩) ∧ w'' = w') ?_ (by rintro v w2 ⟨rfl, rfl⟩; exact hJ.step (Below.refl _ _) 8 _ (by decide) (by decide) (by decide) hS rfl)
          clear hJ hA hS
          unfold Rely.gives
          simp only [Rely.sel, List.foldl_cons, List.foldl_nil]
          go_simp
          simp [Rely.GivesR]) ?_
      refine RelyJ.stepsZ_cons (by
          as_aux_lemma =>
          intro S vs w' hS hA hJ
          rw [if_pos (show Region.wanted _ _ = true from rfl)]
          have hx8 := hJ.vals 8 (hA ⟨8, Ground.data⟩ (by simp) rfl)
          simp only [VC] at hx8
          have hx2 := hJ.vals 2 (hA ⟨2, Ground.data⟩ (by simp) rfl)
          simp only [VC] at hx2
          obtain ⟨A2, c2, hx2, ho2⟩ := hx2
          have k1 := hA ⟨1, Ground.phase⟩ (by simp) rfl
          have k2 := hA ⟨2, Ground.data⟩ (by simp) rfl
          obtain ⟨E, mA, mc, rA, rc, b1, b2, b3, b4, b5, b6, b7⟩ := hJ.blk
          refine RelyJ.gives_mono (R' := fun v w'' => w'' = ((((((w'.setCell ⟨w.heap.size, 7, none⟩ (.string ⟨x.e.1.k.toArray⟩)).setCell ⟨w.heap.size, 8, none⟩ (.int .i64 x.e.1.s)).setCell ⟨w.heap.size, 9, none⟩ (.int .i64 x.e.1.u)).setCell ⟨w.heap.size, 10, none⟩ (.int .i64 x.e.1.o)).setCell ⟨w.heap.size, 11, none⟩ (.bool x.e.1.has)).setCell ⟨w.heap.size, 12, none⟩ (.slice A2 x.e.1.v.length c2))) ?_ (by
            rintro v w2 rfl
            refine hJ.put (grown_trans (grown_trans (grown_trans (grown_trans (grown_trans (grown_set _ w.heap.size 7 (.string ⟨x.e.1.k.toArray⟩)) (grown_set _ w.heap.size 8 (.int .i64 x.e.1.s))) (grown_set _ w.heap.size 9 (.int .i64 x.e.1.u))) (grown_set _ w.heap.size 10 (.int .i64 x.e.1.o))) (grown_set _ w.heap.size 11 (.bool x.e.1.has))) (grown_set _ w.heap.size 12 (.slice A2 x.e.1.v.length c2))) 9 (Or.inl rfl) (fun _ => ⟨k1, k2⟩) (fun h => by omega) ⟨(x.e.1, A2, c2), mA, mc, rA, rc, ?_, rfl, fun h => (by rw [RelyJ.up_same] at h; cases h), fun _ => hx2, fun h => b5 (by rw [RelyJ.up_ne _ _ (by decide)] at h; exact h), fun h => b6 (by rw [RelyJ.up_ne _ _ (by decide)] at h; exact h), fun h => b7 (by rw [RelyJ.up_ne _ _ (by decide)] at h; exact h)⟩
            have := ((((((b1.set_ 7 (.string ⟨x.e.1.k.toArray⟩)).set_ 8 (.int .i64 x.e.1.s)).set_ 9 (.int .i64 x.e.1.u)).set_ 10 (.int .i64 x.e.1.o)).set_ 11 (.bool x.e.1.has)).set_ 12 (.slice A2 x.e.1.v.length c2))
            simpa only [List.setIfInBounds_toArray, List.set_cons_succ, List.set_cons_zero] using this)
          have c7 : w'.cell? ⟨w.heap.size, 7, none⟩ = some (.string ⟨E.1.k.toArray⟩) := b1.cell 7
          have z7 := b1.frozen 7
          have c8 : w'.cell? ⟨w.heap.size, 8, none⟩ = some (.int .i64 E.1.s) := b1.cell 8
          have z8 := b1.frozen 8
          have c9 : w'.cell? ⟨w.heap.size, 9, none⟩ = some (.int .i64 E.1.u) := b1.cell 9
          have z9 := b1.frozen 9
          have c10 : w'.cell? ⟨w.heap.size, 10, none⟩ = some (.int .i64 E.1.o) := b1.cell 10
          have z10 := b1.frozen 10
          have c11 : w'.cell? ⟨w.heap.size, 11, none⟩ = some (.bool E.1.has) := b1.cell 11
          have z11 := b1.frozen 11
          have c12 : w'.cell? ⟨w.heap.size, 12, none⟩ = some (.slice E.2.1 E.1.v.length E.2.2) := b1.cell 12
          have z12 := b1.frozen 12
          clear hJ hA hS b1 b2 b3 b4 b5 b6 b7 ho2 k1 k2
          unfold Rely.gives
          simp only [Rely.sel, List.foldl_cons, List.foldl_nil, hx8, hx2]
          go_simp
          simp [Rely.GivesR]) ?_
      refine RelyJ.stepsZ_cons (by
          as_aux_lemma =>
          intro S vs w' hS hA hJ
          rw [if_pos (show Region.wanted _ _ = true from rfl)]
          refine RelyJ.gives_mono (R' := fun v w'' => v = .pointer (some ⟨w.heap.size, 13, none⟩) ∧ w'' = w') ?_ (by rintro v w2 ⟨rfl, rfl⟩; exact hJ.step (Below.refl _ _) 10 _ (by decide) (by decide) (by decide) hS rfl)
          clear hJ hA hS
          unfold Rely.gives
          simp only [Rely.sel, List.foldl_cons, List.foldl_nil]
          go_simp
          simp [Rely.GivesR]) ?_
      refine RelyJ.stepsZ_cons (by
          as_aux_lemma =>
          intro S vs w' hS hA hJ
          rw [if_pos (show Region.wanted _ _ = true from rfl)]
          have hx10 := hJ.vals 10 (hA ⟨10, Ground.data⟩ (by simp) rfl)
          simp only [VC] at hx10
          have hx3 := hJ.vals 3 (hA ⟨3, Ground.data⟩ (by simp) rfl)
          simp only [VC] at hx3
          obtain ⟨E, mA, mc, rA, rc, b1, b2, b3, b4, b5, b6, b7⟩ := hJ.blk
          refine RelyJ.gives_mono (R' := fun v w'' => w'' = w'.setCell ⟨w.heap.size, 13, none⟩ (.slice A x.l.length cA)) ?_ (by
            rintro v w2 rfl
            refine hJ.put (grown_set _ w.heap.size 13 (.slice A x.l.length cA)) 11 (Or.inr (Or.inl rfl)) (fun h => by omega) (fun h => by omega) ⟨E, A, cA, rA, rc, ?_, b2, fun h => b3 (by rw [RelyJ.up_ne _ _ (by decide)] at h; exact h), fun h => b4 (by rw [RelyJ.up_ne _ _ (by decide)] at h; exact h), fun h => ⟨rfl, rfl⟩, fun h => b6 (by rw [RelyJ.up_ne _ _ (by decide)] at h; exact h), fun h => b7 (by rw [RelyJ.up_ne _ _ (by decide)] at h; exact h)⟩
            have := b1.set_ 13 (.slice A x.l.length cA)
            simpa only [List.setIfInBounds_toArray, List.set_cons_succ, List.set_cons_zero] using this)
          have c13 : w'.cell? ⟨w.heap.size, 13, none⟩ = some (.slice mA x.l.length mc) := b1.cell 13
          have z13 := b1.frozen 13
          clear hJ hA hS b1 b2 b3 b4 b5 b6 b7
          unfold Rely.gives
          simp only [Rely.sel, List.foldl_cons, List.foldl_nil, hx10, hx3]
          go_simp
          simp [Rely.GivesR]) ?_
      refine RelyJ.stepsZ_cons (by
          as_aux_lemma =>
          intro S vs w' hS hA hJ
          rw [if_pos (show Region.wanted _ _ = true from rfl)]
          refine RelyJ.gives_mono (R' := fun v w'' => v = .pointer (some ⟨w.heap.size, 14, none⟩) ∧ w'' = w') ?_ (by rintro v w2 ⟨rfl, rfl⟩; exact hJ.step (Below.refl _ _) 12 _ (by decide) (by decide) (by decide) hS rfl)
          clear hJ hA hS
          unfold Rely.gives
          simp only [Rely.sel, List.foldl_cons, List.foldl_nil]
          go_simp
          simp [Rely.GivesR]) ?_
      refine RelyJ.stepsZ_cons (by
          as_aux_lemma =>
          intro S vs w' hS hA hJ
          rw [if_pos (show Region.wanted _ _ = true from rfl)]
          refine RelyJ.gives_mono (R' := fun v w'' => v = .pointer (some ⟨w.heap.size, 14, none⟩) ∧ w'' = w') ?_ (by rintro v w2 ⟨rfl, rfl⟩; exact hJ.step (Below.refl _ _) 13 _ (by decide) (by decide) (by decide) hS rfl)
          have hx12 := hJ.vals 12 (hA ⟨12, Ground.data⟩ (by simp) rfl)
          simp only [VC] at hx12
          clear hJ hA hS
          unfold Rely.gives
          simp only [Rely.sel, List.foldl_cons, List.foldl_nil, hx12]
          go_simp
          simp [Rely.GivesR]) ?_
      refine RelyJ.stepsZ_cons (by
          as_aux_lemma =>
          intro S vs w' hS hA hJ
          rw [if_pos (show Region.wanted _ _ = true from rfl)]
          have hx13 := hJ.vals 13 (hA ⟨13, Ground.data⟩ (by simp) rfl)
          simp only [VC] at hx13
          have hx7 := hJ.vals 7 (hA ⟨7, Ground.data⟩ (by simp) rfl)
          simp only [VC] at hx7
          obtain ⟨A2, c2, hx7, ho2⟩ := hx7
          have k1 := hA ⟨6, Ground.phase⟩ (by simp) rfl
          have k2 := hA ⟨7, Ground.data⟩ (by simp) rfl
          obtain ⟨E, mA, mc, rA, rc, b1, b2, b3, b4, b5, b6, b7⟩ := hJ.blk
          refine RelyJ.gives_mono (R' := fun v w'' => w'' = w'.setCell ⟨w.heap.size, 14, none⟩ (.slice A2 x.ns.length c2)) ?_ (by
            rintro v w2 rfl
            refine hJ.put (grown_set _ w.heap.size 14 (.slice A2 x.ns.length c2)) 14 (Or.inr (Or.inr rfl)) (fun h => by omega) (fun _ => ⟨k1, k2⟩) ⟨E, mA, mc, A2, c2, ?_, b2, fun h => b3 (by rw [RelyJ.up_ne _ _ (by decide)] at h; exact h), fun h => b4 (by rw [RelyJ.up_ne _ _ (by decide)] at h; exact h), fun h => b5 (by rw [RelyJ.up_ne _ _ (by decide)] at h; exact h), fun h => (by rw [RelyJ.up_same] at h; cases h), fun _ => hx7⟩
            have := b1.set_ 14 (.slice A2 x.ns.length c2)
            simpa only [List.setIfInBounds_toArray, List.set_cons_succ, List.set_cons_zero] using this)
          have c14 : w'.cell? ⟨w.heap.size, 14, none⟩ = some (.slice rA x.ns.length rc) := b1.cell 14
          have z14 := b1.frozen 14
          clear hJ hA hS b1 b2 b3 b4 b5 b6 b7 ho2 k1 k2
          unfold Rely.gives
          simp only [Rely.sel, List.foldl_cons, List.foldl_nil, hx13, hx7]
          go_simp
          simp [Rely.GivesR]) ?_
      exact RelyJ.stepsZ_nil
      intro S vs w' hS hJ
      obtain ⟨E, mA, mc, rA, rc, b1, b2, b3, b4, b5, b6, b7⟩ := hJ.blk
      obtain ⟨eA, eC⟩ := b5 (hS 11 (by decide))
      rw [eA, eC] at b1
      have v2 := hJ.vals 2 (hS 2 (by decide))
      have v7 := hJ.vals 7 (hS 7 (by decide))
      simp only [VC] at v2 v7
      obtain ⟨A2, c2, e2, o2⟩ := v2
      obtain ⟨A7, c7, e7, o7⟩ := v7
      rw [b4 (hS 9 (by decide))] at e2
      rw [b7 (hS 14 (by decide))] at e7
      injection e7 with e71 e72 e73
      subst e71 e73
      obtain ⟨E1, E2, E3⟩ := E
      simp only at b1 b2 e2
      subst b2
      simp only [Value.agg.injEq, Array.mk.injEq, List.cons.injEq, Value.slice.injEq, true_and, and_true] at e2
      obtain ⟨rfl, rfl⟩ := e2
      have HE2 := Lib.hid o2
      have HN7 := Lib.hid o7
      have HK := Lib.hid b1
      have HG := Lib.hid hJ.gro
      have HRk : Hid (Blk w' (w.heap.size + 1) 34 #[.int .i64 0, .int .i64 0, .int .i64 0, .int .i64 0, .int .i64 0, .int .i64 0, .bool false, .string ⟨#[]⟩, .int .i64 0, .int .i64 0, .int .i64 0, .bool false, .slice none 0 0, .slice none 0 0, .slice none 0 0, .int .i64 0, .int .i64 0]) := Lib.hid (HRr.out.grown hJ.gro (fun e => by injection e with e; omega))
      have HOk : Hid (w'.ownsRow gl 28 6 (.slice A x.l.length cA) x.l.length (entsC us)) := Lib.hid (own_up12 HO.out hJ.gro (by have := HSZ.out; omega))
      have HEk : Hid (EntsO w' gl us) := Lib.hid fun q hq => own_up12 (HE.out q hq) hJ.gro (by have := HSZ.out; omega)
      simp only [Rely.sel, List.foldl_cons, List.foldl_nil]
      simp only [Act.put, List.setIfInBounds_toArray, List.set_cons_succ, List.set_cons_zero]
      clear hS hJ b1 b3 b4 b5 b6 b7 o2 o7 HXr HRr HO HE HCE HCI
      go_wp2_with (first | (refine wpList_load_row rfl 34 _ rfl _ rfl _ _ _ _ (show _ = _ from HK.out) Tryd.underlying34 rfl (by kernel_rfl) ?_) | (refine wpList_store_box rfl 34 _ _ rfl (w.heap.size + 1) 34 #[.int .i64 0, .int .i64 0, .int .i64 0, .int .i64 0, .int .i64 0, .int .i64 0, .bool false, .string ⟨#[]⟩, .int .i64 0, .int .i64 0, .int .i64 0, .bool false, .slice none 0 0, .slice none 0 0, .slice none 0 0, .int .i64 0, .int .i64 0] #[.int .i64 x.kind, .int .i64 x.fr, .int .i64 x.dst, .int .i64 x.ep, .int .i64 x.op, .int .i64 x.n, .bool x.flag, .string ⟨(x.e.1, E2, E3).1.k.toArray⟩, .int .i64 (x.e.1, E2, E3).1.s, .int .i64 (x.e.1, E2, E3).1.u, .int .i64 (x.e.1, E2, E3).1.o, .bool (x.e.1, E2, E3).1.has, .slice (x.e.1, E2, E3).2.1 (x.e.1, E2, E3).1.v.length (x.e.1, E2, E3).2.2, .slice A x.l.length cA, .slice rA x.ns.length rc, .int .i64 x.each, .int .i64 x.keep] HRk.out rfl rfl rfl (by kernel_rfl) (by kernel_rfl) ?_))
      intro wz hkz hgz
      have HKz := Lib.hid hkz
      have HGz := Lib.hid hgz
      clear hkz hgz
      go_wp2
      exact bodyPost_ret (v := .agg #[.int .i64 x.kind, .int .i64 x.fr, .int .i64 x.dst, .int .i64 x.ep, .int .i64 x.op, .int .i64 x.n, .bool x.flag, .string ⟨(x.e.1, E2, E3).1.k.toArray⟩, .int .i64 (x.e.1, E2, E3).1.s, .int .i64 (x.e.1, E2, E3).1.u, .int .i64 (x.e.1, E2, E3).1.o, .bool (x.e.1, E2, E3).1.has, .slice (x.e.1, E2, E3).2.1 (x.e.1, E2, E3).1.v.length (x.e.1, E2, E3).2.2, .slice A x.l.length cA, .slice rA x.ns.length rc, .int .i64 x.each, .int .i64 x.keep]) (results_cell_row (p := 2) (ty := 34) Tryd.results23 _ _ (w.heap.size + 1) 34 #[.int .i64 x.kind, .int .i64 x.fr, .int .i64 x.dst, .int .i64 x.ep, .int .i64 x.op, .int .i64 x.n, .bool x.flag, .string ⟨(x.e.1, E2, E3).1.k.toArray⟩, .int .i64 (x.e.1, E2, E3).1.s, .int .i64 (x.e.1, E2, E3).1.u, .int .i64 (x.e.1, E2, E3).1.o, .bool (x.e.1, E2, E3).1.has, .slice (x.e.1, E2, E3).2.1 (x.e.1, E2, E3).1.v.length (x.e.1, E2, E3).2.2, .slice A x.l.length cA, .slice rA x.ns.length rc, .int .i64 x.each, .int .i64 x.keep] (0, 0) _ rfl HKz.out Tryd.underlying34 rfl (by kernel_rfl)) rfl
        ⟨⟨x.kind, x.fr, x.dst, x.ep, x.op, x.n, x.flag, (x.e.1, E2, E3), A, us, cA, rA, x.ns, rc, x.each, x.keep⟩, by simp only [HUL.out], by unfold mP; simp only [HMX.out], ownBase (own_up12 HE2.out HGz.out (by have := HGL.out; omega)) (by have := HGL.out; omega),
          by simp only [HUL.out]; exact ownBase (own_up12 HOk.out HGz.out (by have := HSZ.out; omega)) (by have := HSZ.out; omega), fun q hq => ownBase (own_up12 (HEk.out q hq) HGz.out (by have := HSZ.out; omega)) (by have := HSZ.out; omega),
          ownBase (own_up12 HN7.out HGz.out (by have := HGL.out; omega)) (by have := HGL.out; omega), (HBW.out.grown HG.out HBW.out.size fun g hg => by cases hg; exact Nat.le_refl _).grown HGz.out (Nat.le_trans HBW.out.size HG.out.size) fun g hg => by cases hg; omega⟩
end Go.Proofs.YtgmennblbeefhaaDoor
