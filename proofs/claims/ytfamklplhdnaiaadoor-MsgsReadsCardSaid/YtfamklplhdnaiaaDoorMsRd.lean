/- MsRd: Package msgs: Read, for any bytes. -/
import Derived.Test.YtfamklplhdnaiaaDoorMsRc
namespace Go.Proofs.YtfamklplhdnaiaaDoor
open Go.RowKit Mem Be Rg
set_option maxRecDepth 100000
set_option maxHeartbeats 16000000
set_option linter.unusedVariables false
theorem bindS_eq12 {α β : Type} {s1 : Sp α} {s2 : α → Sp β} {bs : List UInt8} {e : Int} {a : α} {b1 : List UInt8} {e1 : Int} {x : β} {b2 : List UInt8} {e2 : Int} (h1 : s1 bs e = (a, b1, e1)) (h2 : s2 a b1 e1 = (x, b2, e2)) : bindS s1 s2 bs e = ((a, x), b2, e2) := by
  unfold bindS
  rw [h1]
  simp only
  rw [h2]
theorem opt_yes12 {α : Type} {st : Sp α} {z : α} {c : Bool} {bs : List UInt8} {e : Int} {r : α × List UInt8 × Int} (h : optS c st z bs e = r) (hc : c = true) : st bs e = r := by
  unfold optS at h
  rw [if_pos hc] at h
  exact h
theorem opt_no12 {α : Type} {st : Sp α} {z : α} {c : Bool} {bs : List UInt8} {e : Int} {r : α × List UInt8 × Int} (h : optS c st z bs e = r) (hc : c = false) : r = (z, bs, e) := by
  unfold optS at h
  rw [if_neg (by rw [hc]; simp)] at h
  exact h.symm
theorem read_st12 (bs : List UInt8) : ∃ (ss : Nat → List UInt8 × Int) (va : Nat → Int) (tt : Nat → List UInt8 × Int) (mm : Nat → MsgP) (t : Tup), ss 0 = (bs, 0) ∧ Hid ((∀ g W, Rd W g (ss 0).1 (ss 0).2 → Calls Tryd.prog 52 #[.pointer (some ⟨g, 0, none⟩)] W (Reads g (.int .i64 (va 0)) (ss 1).1 (ss 1).2 W)) ∧ (∀ g W, Rd W g (ss 1).1 (ss 1).2 → Calls Tryd.prog 53 #[.pointer (some ⟨g, 0, none⟩)] W (Reads g (.int .i64 (va 1)) (ss 2).1 (ss 2).2 W)) ∧ (∀ g W, Rd W g (ss 2).1 (ss 2).2 → Calls Tryd.prog 53 #[.pointer (some ⟨g, 0, none⟩)] W (Reads g (.int .i64 (va 2)) (ss 3).1 (ss 3).2 W)) ∧ (∀ g W, Rd W g (ss 3).1 (ss 3).2 → Calls Tryd.prog 54 #[.pointer (some ⟨g, 0, none⟩)] W (Reads g (.int .i64 (va 3)) (ss 4).1 (ss 4).2 W)) ∧ (∀ g W, Rd W g (ss 4).1 (ss 4).2 → Calls Tryd.prog 54 #[.pointer (some ⟨g, 0, none⟩)] W (Reads g (.int .i64 (va 4)) (ss 5).1 (ss 5).2 W))) ∧ tt 0 = ss 5 ∧ mm 0 = ⟨va 0, va 1, va 2, va 3, va 4, 0, false, entP0, [], [], 0, 0⟩ ∧
    Hid ((hasN (va 0) = true → tt 1 = (stepB 1099511627776 (tt 0).1 (tt 0).2).2 ∧ mm 1 = { mm 0 with n := (stepB 1099511627776 (tt 0).1 (tt 0).2).1 }) ∧ (hasN (va 0) = false → tt 1 = tt 0 ∧ mm 1 = mm 0) ∧ (hasF (va 0) = true → tt 2 = (stepT (tt 1).1 (tt 1).2).2 ∧ mm 2 = { mm 1 with flag := (stepT (tt 1).1 (tt 1).2).1 }) ∧ (hasF (va 0) = false → tt 2 = tt 1 ∧ mm 2 = mm 1) ∧ (hasE (va 0) = true → tt 3 = (stepE (tt 2).1 (tt 2).2).2 ∧ mm 3 = { mm 2 with e := (stepE (tt 2).1 (tt 2).2).1 }) ∧ (hasE (va 0) = false → tt 3 = tt 2 ∧ mm 3 = mm 2) ∧ (hasL (va 0) = true → tt 4 = (stepL12 (tt 3).1 (tt 3).2).2 ∧ mm 4 = { mm 3 with l := (stepL12 (tt 3).1 (tt 3).2).1.2 }) ∧ (hasL (va 0) = false → tt 4 = tt 3 ∧ mm 4 = mm 3) ∧ (hasR (va 0) = true → tt 5 = (stepR12 (tt 4).1 (tt 4).2).2 ∧ mm 5 = { mm 4 with ns := (stepR12 (tt 4).1 (tt 4).2).1.2.2.2, each := (stepR12 (tt 4).1 (tt 4).2).1.1, keep := (stepR12 (tt 4).1 (tt 4).2).1.2.1 }) ∧ (hasR (va 0) = false → tt 5 = tt 4 ∧ mm 5 = mm 4)) ∧ Hid (finS bs 0 = (t, (tt 5).1, (tt 5).2) ∧ toM t = mm 5) := by
  obtain ⟨⟨k, b1, e1⟩, h1⟩ : ∃ y, stepK12 bs 0 = y := ⟨_, rfl⟩
  obtain ⟨⟨f, b2, e2⟩, h2⟩ : ∃ y, stepB 1048576 b1 e1 = y := ⟨_, rfl⟩
  obtain ⟨⟨d, b3, e3⟩, h3⟩ : ∃ y, stepB 1048576 b2 e2 = y := ⟨_, rfl⟩
  obtain ⟨⟨ep, b4, e4⟩, h4⟩ : ∃ y, stepB 1099511627776 b3 e3 = y := ⟨_, rfl⟩
  obtain ⟨⟨op, b5, e5⟩, h5⟩ : ∃ y, stepB 1099511627776 b4 e4 = y := ⟨_, rfl⟩
  obtain ⟨⟨n, b6, e6⟩, h6⟩ : ∃ y, optS (hasN k) (stepB 1099511627776) 0 b5 e5 = y := ⟨_, rfl⟩
  obtain ⟨⟨fl, b7, e7⟩, h7⟩ : ∃ y, optS (hasF k) stepT false b6 e6 = y := ⟨_, rfl⟩
  obtain ⟨⟨en, b8, e8⟩, h8⟩ : ∃ y, optS (hasE k) stepE entP0 b7 e7 = y := ⟨_, rfl⟩
  obtain ⟨⟨⟨lc, l⟩, b9, e9⟩, h9⟩ : ∃ y, optS (hasL k) stepL12 (0, []) b8 e8 = y := ⟨_, rfl⟩
  obtain ⟨⟨⟨ea, ke, nc, ns⟩, b10, e10⟩, h10⟩ : ∃ y, optS (hasR k) stepR12 (0, 0, 0, []) b9 e9 = y := ⟨_, rfl⟩
  have hf : finS bs 0 = ((k, f, d, ep, op, n, fl, en, (lc, l), (ea, ke, nc, ns)), b10, e10) := by
    unfold finS
    refine bindS_eq12 h1 (bindS_eq12 h2 (bindS_eq12 h3 (bindS_eq12 h4 (bindS_eq12 h5 (bindS_eq12 h6 (bindS_eq12 h7 (bindS_eq12 h8 (bindS_eq12 h9 h10))))))))
  refine ⟨fun i => match i with | 0 => (bs, 0) | 1 => (b1, e1) | 2 => (b2, e2) | 3 => (b3, e3) | 4 => (b4, e4) | _ => (b5, e5), fun i => match i with | 0 => k | 1 => f | 2 => d | 3 => ep | _ => op,
    fun i => match i with | 0 => (b5, e5) | 1 => (b6, e6) | 2 => (b7, e7) | 3 => (b8, e8) | 4 => (b9, e9) | _ => (b10, e10),
    fun i => match i with | 0 => ⟨k, f, d, ep, op, 0, false, entP0, [], [], 0, 0⟩ | 1 => ⟨k, f, d, ep, op, n, false, entP0, [], [], 0, 0⟩ | 2 => ⟨k, f, d, ep, op, n, fl, entP0, [], [], 0, 0⟩ | 3 => ⟨k, f, d, ep, op, n, fl, en, [], [], 0, 0⟩ | 4 => ⟨k, f, d, ep, op, n, fl, en, l, [], 0, 0⟩ | _ => ⟨k, f, d, ep, op, n, fl, en, l, ns, ea, ke⟩, _, rfl,
    Lib.hid ⟨fun g W h => ?_, fun g W h => ?_, fun g W h => ?_, fun g W h => ?_, fun g W h => ?_⟩, rfl, rfl, Lib.hid ⟨fun h => ?_, fun h => ?_, fun h => ?_, fun h => ?_, fun h => ?_, fun h => ?_, fun h => ?_, fun h => ?_, fun h => ?_, fun h => ?_⟩, Lib.hid ⟨hf, rfl⟩⟩
  · have := readkind_call g bs 0 W h
    rw [h1] at this; exact this
  · have := readid_call g b1 e1 W h
    rw [h2] at this; exact this
  · have := readid_call g b2 e2 W h
    rw [h3] at this; exact this
  · have := readseq_call g b3 e3 W h
    rw [h4] at this; exact this
  · have := readseq_call g b4 e4 W h
    rw [h5] at this; exact this
  · have e := opt_yes12 h6 h
    simp only
    rw [e]
    exact ⟨rfl, rfl⟩
  · have e := opt_no12 h6 h
    simp only [Prod.mk.injEq] at e
    obtain ⟨rfl, rfl, rfl⟩ := e
    exact ⟨rfl, rfl⟩
  · have e := opt_yes12 h7 h
    simp only
    rw [e]
    exact ⟨rfl, rfl⟩
  · have e := opt_no12 h7 h
    simp only [Prod.mk.injEq] at e
    obtain ⟨rfl, rfl, rfl⟩ := e
    exact ⟨rfl, rfl⟩
  · have e := opt_yes12 h8 h
    simp only
    rw [e]
    exact ⟨rfl, rfl⟩
  · have e := opt_no12 h8 h
    simp only [Prod.mk.injEq] at e
    obtain ⟨rfl, rfl, rfl⟩ := e
    exact ⟨rfl, rfl⟩
  · have e := opt_yes12 h9 h
    simp only
    rw [e]
    exact ⟨rfl, rfl⟩
  · have e := opt_no12 h9 h
    simp only [Prod.mk.injEq] at e
    obtain ⟨⟨rfl, rfl⟩, rfl, rfl⟩ := e
    exact ⟨rfl, rfl⟩
  · have e := opt_yes12 h10 h
    simp only
    rw [e]
    exact ⟨rfl, rfl⟩
  · have e := opt_no12 h10 h
    simp only [Prod.mk.injEq] at e
    obtain ⟨⟨rfl, rfl, rfl, rfl⟩, rfl, rfl⟩ := e
    exact ⟨rfl, rfl⟩
/-- A message that was read, or why there is none. -/
def ReadMP (r : MsgP × Int) (w : World) (E : Ending) (w' : World) : Prop :=
  ∃ x : MV, E = .returned (.tuple #[.agg #[.int .i64 x.kind, .int .i64 x.fr, .int .i64 x.dst, .int .i64 x.ep, .int .i64 x.op, .int .i64 x.n, .bool x.flag, .string ⟨x.e.1.k.toArray⟩, .int .i64 x.e.1.s, .int .i64 x.e.1.u, .int .i64 x.e.1.o, .bool x.e.1.has, .slice x.e.2.1 x.e.1.v.length x.e.2.2, .slice x.lA x.l.length x.lc, .slice x.rA x.ns.length x.rc, .int .i64 x.each, .int .i64 x.keep], .int .i64 r.2]) ∧ mP x = r.1 ∧ MsgM w' x ∧ Below w.heap.size w w'
theorem touch_below12 {w0 w w' : World} {g p B : Nat} (h : Below B w0 w) (ht : Touch (fun k => k = g ∨ k = p) w w') (hg : B ≤ g) (hp : B ≤ p) (hB : B ≤ w.heap.size) : Below B w0 w' :=
  h.trans (ht.below hB (fun k hk => by rcases hk with rfl | rfl <;> assumption))
theorem touch_blk12 {w w' : World} {g p k : Nat} {t : TypeId} {cs : Array Value} (h : Blk w k t cs) (ht : Touch (fun k => k = g ∨ k = p) w w') (hg : k ≠ g) (hp : k ≠ p) : Blk w' k t cs :=
  (ht.block k h.lt (fun e => by rcases e with e | e; exact hg e; exact hp e)).trans h
theorem touch_trans12 {w w1 w2 : World} {F : Nat → Prop} (h : Touch F w w1) (h' : Touch F w1 w2) : Touch F w w2 := h.trans h' (fun k hk => Or.inl hk)
theorem readm_any (B n c : Nat) (A : Option Addr) (bs : List UInt8) (hn : n = bs.length) (hl : n ≤ 1000000000) (w : World) (ht : KT w) (h : Row w B A (bs.map byteV)) (hB : B ≤ w.heap.size) :
    Calls Tryd.prog 17 #[.slice A n c] w (ReadMP (readM bs) w) := by
  subst hn
  obtain ⟨ss, va, tt, mm, t, hs0, HCC, htt, hmm, HFC, HFI⟩ := read_st12 bs
  have hb0 : Below w.heap.size w (w.alloc (.cells #[.int .i64 0, .int .i64 0, .int .i64 0, .int .i64 0, .int .i64 0, .int .i64 0, .bool false, .string ⟨#[]⟩, .int .i64 0, .int .i64 0, .int .i64 0, .bool false, .slice none 0 0, .slice none 0 0, .slice none 0 0, .int .i64 0, .int .i64 0] 34)) := (Below.refl _ _).alloc (Nat.le_refl _) _
  have HN := Lib.hid (new_any B c bs.length A bs rfl (w.alloc (.cells #[.int .i64 0, .int .i64 0, .int .i64 0, .int .i64 0, .int .i64 0, .int .i64 0, .bool false, .string ⟨#[]⟩, .int .i64 0, .int .i64 0, .int .i64 0, .bool false, .slice none 0 0, .slice none 0 0, .slice none 0 0, .int .i64 0, .int .i64 0] 34)) (h.alloc hB _) (by simp; omega) (by omega))
  have HB := Lib.hid hb0
  have HKM := Lib.hid (Blk.new w 34 #[.int .i64 0, .int .i64 0, .int .i64 0, .int .i64 0, .int .i64 0, .int .i64 0, .bool false, .string ⟨#[]⟩, .int .i64 0, .int .i64 0, .int .i64 0, .bool false, .slice none 0 0, .slice none 0 0, .slice none 0 0, .int .i64 0, .int .i64 0])
  have HT := Lib.hid ht
  clear hb0 h ht hl hB
  go_enter Tryd.func17, Tryd.ntmps17
  go_wp2_with fail
  refine HN.out.mono ?_
  rintro e w1 ⟨g, rfl, hg, hr, hb⟩
  rw [World.size_alloc] at hg
  have hgz : w.heap.size < g := hg
  have HB1 := Lib.hid (HB.out.trans (hb.mono HB.out.size))
  have HK1 := Lib.hid (HKM.out.below hb HKM.out.lt)
  have HR1 := Lib.hid hr
  have hlg : g < w1.heap.size := rd_lt hr
  clear hb hr hg HN HKM HB
  have HC0 : Hid (∀ W, Rd W g (ss 0).1 (ss 0).2 → Calls Tryd.prog 52 #[.pointer (some ⟨g, 0, none⟩)] W (Reads g (.int .i64 (va 0)) (ss 1).1 (ss 1).2 W)) := Lib.hid fun W h => HCC.out.1 g W h
  have HC1 : Hid (∀ W, Rd W g (ss 1).1 (ss 1).2 → Calls Tryd.prog 53 #[.pointer (some ⟨g, 0, none⟩)] W (Reads g (.int .i64 (va 1)) (ss 2).1 (ss 2).2 W)) := Lib.hid fun W h => HCC.out.2.1 g W h
  have HC2 : Hid (∀ W, Rd W g (ss 2).1 (ss 2).2 → Calls Tryd.prog 53 #[.pointer (some ⟨g, 0, none⟩)] W (Reads g (.int .i64 (va 2)) (ss 3).1 (ss 3).2 W)) := Lib.hid fun W h => HCC.out.2.2.1 g W h
  have HC3 : Hid (∀ W, Rd W g (ss 3).1 (ss 3).2 → Calls Tryd.prog 54 #[.pointer (some ⟨g, 0, none⟩)] W (Reads g (.int .i64 (va 3)) (ss 4).1 (ss 4).2 W)) := Lib.hid fun W h => HCC.out.2.2.2.1 g W h
  have HC4 : Hid (∀ W, Rd W g (ss 4).1 (ss 4).2 → Calls Tryd.prog 54 #[.pointer (some ⟨g, 0, none⟩)] W (Reads g (.int .i64 (va 4)) (ss 5).1 (ss 5).2 W)) := Lib.hid fun W h => HCC.out.2.2.2.2 g W h
  clear HCC
  have HJ0 : Hid (∀ vs, JR (w1.alloc (.cells #[.pointer (some ⟨g, 0, none⟩)] 80)) g w1.heap.size ss va (fun _ => false) vs (w1.alloc (.cells #[.pointer (some ⟨g, 0, none⟩)] 80)).drew) := Lib.hid fun vs => by
    refine ⟨?_, ?_, hlg, (Below.refl _ _).drew, (Blk.new w1 _ _).drew, ⟨0, ⟨by omega, rfl, rfl, rfl, rfl, rfl⟩, ?_⟩, fun i h => (by cases h), fun h => (by cases h), fun h => (by cases h)⟩
    · rw [World.size_alloc]; omega
    · rw [World.size_alloc]; omega
    · rw [hs0]; exact rd_drew (rd_alloc HR1.out _)
  have HTT := Lib.hid htt
  have HMM := Lib.hid hmm
  clear hs0 htt hmm
  go_wp2
  refine RelyJ.wp_region_byJ [[], [(0, 12)], [], [(2, 14)], [], [(4, 16)], [], [(6, 18)], [], [(8, 20)], [(1, 13), (3, 15), (5, 17), (7, 19), (9, 21)], [], [(10, 22), (11, 5)]] [(0, 12), (1, 13), (2, 14), (3, 15), (4, 16), (5, 17), (6, 18), (7, 19), (8, 20), (9, 21), (10, 22), (11, 5)] (JR (w1.alloc (.cells #[.pointer (some ⟨g, 0, none⟩)] 80)) g w1.heap.size ss va) (by kernel_rfl) (by kernel_rfl) (by kernel_rfl) (by kernel_rfl) (by kernel_rfl) ?_ ?_ ?_
  · exact fun vs => HJ0.out vs
  refine RelyJ.stepsZ_cons (by
    as_aux_lemma =>
    intro S vs w' hS hA hJ
    rw [if_pos (show Region.wanted _ _ = true from rfl)]
    refine RelyJ.gives_mono (R' := fun v w'' => v = .pointer (some ⟨g, 0, none⟩) ∧ w'' = w') ?_ (by rintro v w2 ⟨rfl, rfl⟩; exact hJ.load 0 _ (by decide) rfl)
    have c0 : w'.cell? ⟨w1.heap.size, 0, none⟩ = some (.pointer (some ⟨g, 0, none⟩)) := hJ.ptr.cell 0
    clear hJ hA hS HJ0
    unfold Rely.gives
    simp only [Rely.sel, List.foldl_nil]
    go_simp
    simp [Rely.GivesR]) ?_
  refine RelyJ.stepsZ_cons (by
    as_aux_lemma =>
    intro S vs w' hS hA hJ
    rw [if_pos (show Region.wanted _ _ = true from rfl)]
    have hx : vs 0 = .pointer (some ⟨g, 0, none⟩) := hJ.sp 0 (hA ⟨0, Ground.data⟩ (by simp) rfl)
    obtain ⟨hr, hc⟩ := hJ.at0 hS trivial
    refine RelyJ.gives_mono (R' := fun v w'' => v = .int .i64 (va 0) ∧ Rd w'' g (ss 1).1 (ss 1).2 ∧ w'.grownBy w'' (some g)) ?_ (by rintro v w2 ⟨rfl, h1, h2⟩; exact hJ.call 1 1 _ (by decide) rfl hc h1 h2)
    have HR := Lib.hid hr
    clear hJ hA hS HJ0 hr hc
    unfold Rely.gives
    simp only [Rely.sel, List.foldl_cons, List.foldl_nil, hx]
    go_simp
    simp only [Rely.GivesR]
    refine (HC0.out _ HR.out).mono ?_
    rintro e w3 ⟨rfl, h1, h2⟩
    exact ⟨_, rfl, rfl, h1, h2⟩) ?_
  refine RelyJ.stepsZ_cons (by
    as_aux_lemma =>
    intro S vs w' hS hA hJ
    rw [if_pos (show Region.wanted _ _ = true from rfl)]
    refine RelyJ.gives_mono (R' := fun v w'' => v = .pointer (some ⟨g, 0, none⟩) ∧ w'' = w') ?_ (by rintro v w2 ⟨rfl, rfl⟩; exact hJ.load 2 _ (by decide) rfl)
    have c0 : w'.cell? ⟨w1.heap.size, 0, none⟩ = some (.pointer (some ⟨g, 0, none⟩)) := hJ.ptr.cell 0
    clear hJ hA hS HJ0
    unfold Rely.gives
    simp only [Rely.sel, List.foldl_nil]
    go_simp
    simp [Rely.GivesR]) ?_
  refine RelyJ.stepsZ_cons (by
    as_aux_lemma =>
    intro S vs w' hS hA hJ
    rw [if_pos (show Region.wanted _ _ = true from rfl)]
    have hx : vs 2 = .pointer (some ⟨g, 0, none⟩) := hJ.sp 2 (hA ⟨2, Ground.data⟩ (by simp) rfl)
    obtain ⟨hr, hc⟩ := hJ.at1 hS (hA ⟨1, Ground.chain⟩ (by simp) rfl)
    refine RelyJ.gives_mono (R' := fun v w'' => v = .int .i64 (va 1) ∧ Rd w'' g (ss 2).1 (ss 2).2 ∧ w'.grownBy w'' (some g)) ?_ (by rintro v w2 ⟨rfl, h1, h2⟩; exact hJ.call 3 2 _ (by decide) rfl hc h1 h2)
    have HR := Lib.hid hr
    clear hJ hA hS HJ0 hr hc
    unfold Rely.gives
    simp only [Rely.sel, List.foldl_cons, List.foldl_nil, hx]
    go_simp
    simp only [Rely.GivesR]
    refine (HC1.out _ HR.out).mono ?_
    rintro e w3 ⟨rfl, h1, h2⟩
    exact ⟨_, rfl, rfl, h1, h2⟩) ?_
  refine RelyJ.stepsZ_cons (by
    as_aux_lemma =>
    intro S vs w' hS hA hJ
    rw [if_pos (show Region.wanted _ _ = true from rfl)]
    refine RelyJ.gives_mono (R' := fun v w'' => v = .pointer (some ⟨g, 0, none⟩) ∧ w'' = w') ?_ (by rintro v w2 ⟨rfl, rfl⟩; exact hJ.load 4 _ (by decide) rfl)
    have c0 : w'.cell? ⟨w1.heap.size, 0, none⟩ = some (.pointer (some ⟨g, 0, none⟩)) := hJ.ptr.cell 0
    clear hJ hA hS HJ0
    unfold Rely.gives
    simp only [Rely.sel, List.foldl_nil]
    go_simp
    simp [Rely.GivesR]) ?_
  refine RelyJ.stepsZ_cons (by
    as_aux_lemma =>
    intro S vs w' hS hA hJ
    rw [if_pos (show Region.wanted _ _ = true from rfl)]
    have hx : vs 4 = .pointer (some ⟨g, 0, none⟩) := hJ.sp 4 (hA ⟨4, Ground.data⟩ (by simp) rfl)
    obtain ⟨hr, hc⟩ := hJ.at2 hS (hA ⟨3, Ground.chain⟩ (by simp) rfl)
    refine RelyJ.gives_mono (R' := fun v w'' => v = .int .i64 (va 2) ∧ Rd w'' g (ss 3).1 (ss 3).2 ∧ w'.grownBy w'' (some g)) ?_ (by rintro v w2 ⟨rfl, h1, h2⟩; exact hJ.call 5 3 _ (by decide) rfl hc h1 h2)
    have HR := Lib.hid hr
    clear hJ hA hS HJ0 hr hc
    unfold Rely.gives
    simp only [Rely.sel, List.foldl_cons, List.foldl_nil, hx]
    go_simp
    simp only [Rely.GivesR]
    refine (HC2.out _ HR.out).mono ?_
    rintro e w3 ⟨rfl, h1, h2⟩
    exact ⟨_, rfl, rfl, h1, h2⟩) ?_
  refine RelyJ.stepsZ_cons (by
    as_aux_lemma =>
    intro S vs w' hS hA hJ
    rw [if_pos (show Region.wanted _ _ = true from rfl)]
    refine RelyJ.gives_mono (R' := fun v w'' => v = .pointer (some ⟨g, 0, none⟩) ∧ w'' = w') ?_ (by rintro v w2 ⟨rfl, rfl⟩; exact hJ.load 6 _ (by decide) rfl)
    have c0 : w'.cell? ⟨w1.heap.size, 0, none⟩ = some (.pointer (some ⟨g, 0, none⟩)) := hJ.ptr.cell 0
    clear hJ hA hS HJ0
    unfold Rely.gives
    simp only [Rely.sel, List.foldl_nil]
    go_simp
    simp [Rely.GivesR]) ?_
  refine RelyJ.stepsZ_cons (by
    as_aux_lemma =>
    intro S vs w' hS hA hJ
    rw [if_pos (show Region.wanted _ _ = true from rfl)]
    have hx : vs 6 = .pointer (some ⟨g, 0, none⟩) := hJ.sp 6 (hA ⟨6, Ground.data⟩ (by simp) rfl)
    obtain ⟨hr, hc⟩ := hJ.at3 hS (hA ⟨5, Ground.chain⟩ (by simp) rfl)
    refine RelyJ.gives_mono (R' := fun v w'' => v = .int .i64 (va 3) ∧ Rd w'' g (ss 4).1 (ss 4).2 ∧ w'.grownBy w'' (some g)) ?_ (by rintro v w2 ⟨rfl, h1, h2⟩; exact hJ.call 7 4 _ (by decide) rfl hc h1 h2)
    have HR := Lib.hid hr
    clear hJ hA hS HJ0 hr hc
    unfold Rely.gives
    simp only [Rely.sel, List.foldl_cons, List.foldl_nil, hx]
    go_simp
    simp only [Rely.GivesR]
    refine (HC3.out _ HR.out).mono ?_
    rintro e w3 ⟨rfl, h1, h2⟩
    exact ⟨_, rfl, rfl, h1, h2⟩) ?_
  refine RelyJ.stepsZ_cons (by
    as_aux_lemma =>
    intro S vs w' hS hA hJ
    rw [if_pos (show Region.wanted _ _ = true from rfl)]
    refine RelyJ.gives_mono (R' := fun v w'' => v = .pointer (some ⟨g, 0, none⟩) ∧ w'' = w') ?_ (by rintro v w2 ⟨rfl, rfl⟩; exact hJ.load 8 _ (by decide) rfl)
    have c0 : w'.cell? ⟨w1.heap.size, 0, none⟩ = some (.pointer (some ⟨g, 0, none⟩)) := hJ.ptr.cell 0
    clear hJ hA hS HJ0
    unfold Rely.gives
    simp only [Rely.sel, List.foldl_nil]
    go_simp
    simp [Rely.GivesR]) ?_
  refine RelyJ.stepsZ_cons (by
    as_aux_lemma =>
    intro S vs w' hS hA hJ
    rw [if_pos (show Region.wanted _ _ = true from rfl)]
    have hx : vs 8 = .pointer (some ⟨g, 0, none⟩) := hJ.sp 8 (hA ⟨8, Ground.data⟩ (by simp) rfl)
    obtain ⟨hr, hc⟩ := hJ.at4 hS (hA ⟨7, Ground.chain⟩ (by simp) rfl)
    refine RelyJ.gives_mono (R' := fun v w'' => v = .int .i64 (va 4) ∧ Rd w'' g (ss 5).1 (ss 5).2 ∧ w'.grownBy w'' (some g)) ?_ (by rintro v w2 ⟨rfl, h1, h2⟩; exact hJ.call 9 5 _ (by decide) rfl hc h1 h2)
    have HR := Lib.hid hr
    clear hJ hA hS HJ0 hr hc
    unfold Rely.gives
    simp only [Rely.sel, List.foldl_cons, List.foldl_nil, hx]
    go_simp
    simp only [Rely.GivesR]
    refine (HC4.out _ HR.out).mono ?_
    rintro e w3 ⟨rfl, h1, h2⟩
    exact ⟨_, rfl, rfl, h1, h2⟩) ?_
  refine RelyJ.stepsZ_cons (by
    as_aux_lemma =>
    intro S vs w' hS hA hJ
    rw [if_pos (show Region.wanted _ _ = true from rfl)]
    have x1 : vs 1 = .int .i64 (va 0) := hJ.sp 1 (hA ⟨1, Ground.data⟩ (by simp) rfl)
    have x3 : vs 3 = .int .i64 (va 1) := hJ.sp 3 (hA ⟨3, Ground.data⟩ (by simp) rfl)
    have x5 : vs 5 = .int .i64 (va 2) := hJ.sp 5 (hA ⟨5, Ground.data⟩ (by simp) rfl)
    have x7 : vs 7 = .int .i64 (va 3) := hJ.sp 7 (hA ⟨7, Ground.data⟩ (by simp) rfl)
    have x9 : vs 9 = .int .i64 (va 4) := hJ.sp 9 (hA ⟨9, Ground.data⟩ (by simp) rfl)
    have hj : JR _ g w1.heap.size ss va (RelyJ.up S 10 true) (RelyJ.up vs 10 (.agg #[.int .i64 (va 0), .int .i64 (va 1), .int .i64 (va 2), .int .i64 (va 3), .int .i64 (va 4), .int .i64 0, .bool false, .string ⟨#[]⟩, .int .i64 0, .int .i64 0, .int .i64 0, .bool false, .slice none 0 0, .slice none 0 0, .slice none 0 0, .int .i64 0, .int .i64 0])) w' := hJ.load 10 _ (by decide) rfl
    clear hJ hA hS HJ0
    simp only [Rely.sel, List.foldl_cons, List.foldl_nil, x1, x3, x5, x7, x9]
    exact gives_build12 34 _ rfl #[.int .i64 (va 0), .int .i64 (va 1), .int .i64 (va 2), .int .i64 (va 3), .int .i64 (va 4), .int .i64 0, .bool false, .string ⟨#[]⟩, .int .i64 0, .int .i64 0, .int .i64 0, .bool false, .slice none 0 0, .slice none 0 0, .slice none 0 0, .int .i64 0, .int .i64 0] [(0, .int .i64 (va 0)), (1, .int .i64 (va 1)), (2, .int .i64 (va 2)), (3, .int .i64 (va 3)), (4, .int .i64 (va 4))] (by go_simp) (by kernel_rfl) hj) ?_
  refine RelyJ.stepsZ_cons (by
    as_aux_lemma =>
    intro S vs w' hS hA hJ
    rw [if_pos (show Region.wanted _ _ = true from rfl)]
    have h12 : S 12 = false := by
      cases h6 : S 12
      · rfl
      · exact absurd (hJ.c12 h6) (by rw [hS]; decide)
    refine RelyJ.gives_mono (R' := fun v w'' => v = .pointer (some ⟨w'.heap.size, 0, none⟩) ∧ w'' = w'.alloc (.cells #[.int .i64 0, .int .i64 0, .int .i64 0, .int .i64 0, .int .i64 0, .int .i64 0, .bool false, .string ⟨#[]⟩, .int .i64 0, .int .i64 0, .int .i64 0, .bool false, .slice none 0 0, .slice none 0 0, .slice none 0 0, .int .i64 0, .int .i64 0] 34)) ?_ (by rintro v w2 ⟨rfl, rfl⟩; exact hJ.alloc h12)
    clear hJ hA hS h12 HJ0
    unfold Rely.gives
    simp only [Rely.sel, List.foldl_nil]
    go_simp
    simp [Rely.GivesR]) ?_
  refine RelyJ.stepsZ_cons (by
    as_aux_lemma =>
    intro S vs w' hS hA hJ
    rw [if_pos (show Region.wanted _ _ = true from rfl)]
    have hx : vs 10 = .agg #[.int .i64 (va 0), .int .i64 (va 1), .int .i64 (va 2), .int .i64 (va 3), .int .i64 (va 4), .int .i64 0, .bool false, .string ⟨#[]⟩, .int .i64 0, .int .i64 0, .int .i64 0, .bool false, .slice none 0 0, .slice none 0 0, .slice none 0 0, .int .i64 0, .int .i64 0] := hJ.sp 10 (hA ⟨10, Ground.data⟩ (by simp) rfl)
    have hd := hA ⟨11, Ground.data⟩ (by simp) rfl
    obtain ⟨p, hp, hp0, hp1, hp2'⟩ := hJ.v11 hd
    have hz := hp1 hS
    have hj := hJ.store hd hp hp0 hz
    have hth := there_blk hz
    clear hJ hA hS hp0 hp1 hp2' hz hd HJ0
    simp only [Rely.sel, List.foldl_cons, List.foldl_nil, hx, hp]
    exact gives_store12 34 _ _ rfl p 0 #[.int .i64 (va 0), .int .i64 (va 1), .int .i64 (va 2), .int .i64 (va 3), .int .i64 (va 4), .int .i64 0, .bool false, .string ⟨#[]⟩, .int .i64 0, .int .i64 0, .int .i64 0, .bool false, .slice none 0 0, .slice none 0 0, .slice none 0 0, .int .i64 0, .int .i64 0] rfl rfl hth (by kernel_rfl) (by kernel_rfl) hj) ?_
  exact RelyJ.stepsZ_nil
  intro S vs w' hS hJ
  have x0 : vs 0 = .pointer (some ⟨g, 0, none⟩) := hJ.sp 0 (hS 0 (by decide))
  have x2 : vs 2 = .pointer (some ⟨g, 0, none⟩) := hJ.sp 2 (hS 2 (by decide))
  have x4 : vs 4 = .pointer (some ⟨g, 0, none⟩) := hJ.sp 4 (hS 4 (by decide))
  have x6 : vs 6 = .pointer (some ⟨g, 0, none⟩) := hJ.sp 6 (hS 6 (by decide))
  have x8 : vs 8 = .pointer (some ⟨g, 0, none⟩) := hJ.sp 8 (hS 8 (by decide))
  have x1 : vs 1 = .int .i64 (va 0) := hJ.sp 1 (hS 1 (by decide))
  have x3 : vs 3 = .int .i64 (va 1) := hJ.sp 3 (hS 3 (by decide))
  have x5 : vs 5 = .int .i64 (va 2) := hJ.sp 5 (hS 5 (by decide))
  have x7 : vs 7 = .int .i64 (va 3) := hJ.sp 7 (hS 7 (by decide))
  have x9 : vs 9 = .int .i64 (va 4) := hJ.sp 9 (hS 9 (by decide))
  have x10 : vs 10 = .agg #[.int .i64 (va 0), .int .i64 (va 1), .int .i64 (va 2), .int .i64 (va 3), .int .i64 (va 4), .int .i64 0, .bool false, .string ⟨#[]⟩, .int .i64 0, .int .i64 0, .int .i64 0, .bool false, .slice none 0 0, .slice none 0 0, .slice none 0 0, .int .i64 0, .int .i64 0] := hJ.sp 10 (hS 10 (by decide))
  obtain ⟨p, hp, hp0, _, hpb⟩ := hJ.v11 (hS 11 (by decide))
  have hP := hpb (hS 12 (by decide))
  obtain ⟨n, hn, hr⟩ := hJ.cnt
  have hn5 : n = 5 := (cnt_at hn).2.2.2.2.2 (hS 9 (by decide))
  rw [hn5, ← HTT.out] at hr
  have hB2 : Below w.heap.size w w' := (HB1.out.trans (((Below.refl w.heap.size w1).alloc (Nat.le_of_lt (Nat.lt_trans hgz hlg)) _))).trans (hJ.bel.mono (Nat.le_of_lt hgz))
  have hK2 : Blk w' w.heap.size 34 #[.int .i64 0, .int .i64 0, .int .i64 0, .int .i64 0, .int .i64 0, .int .i64 0, .bool false, .string ⟨#[]⟩, .int .i64 0, .int .i64 0, .int .i64 0, .bool false, .slice none 0 0, .slice none 0 0, .slice none 0 0, .int .i64 0, .int .i64 0] := (HK1.out.alloc _).below hJ.bel hgz
  simp only [Rely.sel, List.foldl_cons, List.foldl_nil, x0, x1, x2, x3, x4, x5, x6, x7, x8, x9, x10, hp]
  simp only [Act.put, List.setIfInBounds_toArray, List.set_cons_succ, List.set_cons_zero]
  have hO2 : MsgO w' p ⟨va 0, va 1, va 2, va 3, va 4, 0, false, (⟨[], 0, 0, 0, false, []⟩, none, 0), none, [], 0, none, [], 0, 0, 0⟩ := ⟨hP, World.ownsRow_nil _ _ _ _, World.ownsRow_nil _ _ _ _, entsO_nil _ _, World.ownsRow_nil _ _ _ _, by simp, by simp, by simp⟩
  rw [World.size_alloc] at hp0
  obtain ⟨q, hq⟩ : ∃ q, w1.heap.size = q := ⟨_, rfl⟩
  have hptr := hJ.ptr
  have hlq : q < p := by omega
  have hgq : g < q := by omega
  rw [hq] at hptr
  simp only [hq]
  obtain ⟨z, hz⟩ : ∃ z, w'.heap.size = z := ⟨_, rfl⟩
  have hpz : p < z := by rw [← hz]; exact hP.lt
  obtain ⟨W4, hW4⟩ : ∃ W4, w'.alloc (.cells #[.func (.func 55) #[] #[.pointer (some ⟨q, 0, none⟩), .pointer (some ⟨p, 0, none⟩)], .func (.func 56) #[] #[.pointer (some ⟨q, 0, none⟩), .pointer (some ⟨p, 0, none⟩)], .func (.func 58) #[] #[.pointer (some ⟨q, 0, none⟩), .pointer (some ⟨p, 0, none⟩)], .func (.func 60) #[] #[.pointer (some ⟨q, 0, none⟩), .pointer (some ⟨p, 0, none⟩)], .func (.func 62) #[] #[.pointer (some ⟨q, 0, none⟩), .pointer (some ⟨p, 0, none⟩)]] 70) = W4 := ⟨_, rfl⟩
  have hal : Below w'.heap.size w' W4 := by rw [← hW4]; exact (Below.refl _ _).alloc (Nat.le_refl _) _
  have HZ4 : Hid (Blk W4 z 70 #[.func (.func 55) #[] #[.pointer (some ⟨q, 0, none⟩), .pointer (some ⟨p, 0, none⟩)], .func (.func 56) #[] #[.pointer (some ⟨q, 0, none⟩), .pointer (some ⟨p, 0, none⟩)], .func (.func 58) #[] #[.pointer (some ⟨q, 0, none⟩), .pointer (some ⟨p, 0, none⟩)], .func (.func 60) #[] #[.pointer (some ⟨q, 0, none⟩), .pointer (some ⟨p, 0, none⟩)], .func (.func 62) #[] #[.pointer (some ⟨q, 0, none⟩), .pointer (some ⟨p, 0, none⟩)]]) := Lib.hid (by rw [← hW4, ← hz]; exact Blk.new _ _ _)
  have HB4 := Lib.hid (hB2.trans (hal.mono hB2.size))
  have HK4 := Lib.hid (hK2.below hal hK2.lt)
  have HQ4 := Lib.hid (hptr.below hal hptr.lt)
  have HO4 := Lib.hid (hO2.below hal)
  have HR4 : Hid (Rd W4 g (tt 0).1 (tt 0).2) := Lib.hid (rd_below hr hal)
  have HT4 := Lib.hid (HT.out.below HB4.out)
  have c0 : w'.cell? ⟨p, 0, none⟩ = some (.int .i64 (va 0)) := hP.cell 0
  have d0 : W4.cell? ⟨p, 0, none⟩ = some (.int .i64 (va 0)) := HO4.out.blk.cell 0
  have HFK := Lib.hid (fields_any (va 0) W4 HT4.out)
  unfold FldE fldV b5 at HFK
  have HM0 : Hid (mP ⟨va 0, va 1, va 2, va 3, va 4, 0, false, (⟨[], 0, 0, 0, false, []⟩, none, 0), none, [], 0, none, [], 0, 0, 0⟩ = mm 0) := Lib.hid (by rw [HMM.out]; rfl)
  clear hS hJ x0 x1 x2 x3 x4 x5 x6 x7 x8 x9 x10 hp hpb hP hn hr hn5 hB2 hK2 hal HC0 HC1 HC2 HC3 HC4 HJ0 HTT HMM HB1 HK1 HR1 HT hO2 hq hptr hp0 hlg
  have HY0 : Hid (hasN (va 0) = true → tt 1 = (stepB 1099511627776 (tt 0).1 (tt 0).2).2 ∧ mm 1 = { mm 0 with n := (stepB 1099511627776 (tt 0).1 (tt 0).2).1 }) := Lib.hid HFC.out.1
  have HN0 : Hid (hasN (va 0) = false → tt 1 = tt 0 ∧ mm 1 = mm 0) := Lib.hid HFC.out.2.1
  have HY1 : Hid (hasF (va 0) = true → tt 2 = (stepT (tt 1).1 (tt 1).2).2 ∧ mm 2 = { mm 1 with flag := (stepT (tt 1).1 (tt 1).2).1 }) := Lib.hid HFC.out.2.2.1
  have HN1 : Hid (hasF (va 0) = false → tt 2 = tt 1 ∧ mm 2 = mm 1) := Lib.hid HFC.out.2.2.2.1
  have HY2 : Hid (hasE (va 0) = true → tt 3 = (stepE (tt 2).1 (tt 2).2).2 ∧ mm 3 = { mm 2 with e := (stepE (tt 2).1 (tt 2).2).1 }) := Lib.hid HFC.out.2.2.2.2.1
  have HN2 : Hid (hasE (va 0) = false → tt 3 = tt 2 ∧ mm 3 = mm 2) := Lib.hid HFC.out.2.2.2.2.2.1
  have HY3 : Hid (hasL (va 0) = true → tt 4 = (stepL12 (tt 3).1 (tt 3).2).2 ∧ mm 4 = { mm 3 with l := (stepL12 (tt 3).1 (tt 3).2).1.2 }) := Lib.hid HFC.out.2.2.2.2.2.2.1
  have HN3 : Hid (hasL (va 0) = false → tt 4 = tt 3 ∧ mm 4 = mm 3) := Lib.hid HFC.out.2.2.2.2.2.2.2.1
  have HY4 : Hid (hasR (va 0) = true → tt 5 = (stepR12 (tt 4).1 (tt 4).2).2 ∧ mm 5 = { mm 4 with ns := (stepR12 (tt 4).1 (tt 4).2).1.2.2.2, each := (stepR12 (tt 4).1 (tt 4).2).1.1, keep := (stepR12 (tt 4).1 (tt 4).2).1.2.1 }) := Lib.hid HFC.out.2.2.2.2.2.2.2.2.1
  have HN4 : Hid (hasR (va 0) = false → tt 5 = tt 4 ∧ mm 5 = mm 4) := Lib.hid HFC.out.2.2.2.2.2.2.2.2.2
  clear HFC
  generalize hasN (va 0) = h0 at HY0 HN0 HFK
  generalize hasF (va 0) = h1 at HY1 HN1 HFK
  generalize hasE (va 0) = h2 at HY2 HN2 HFK
  generalize hasL (va 0) = h3 at HY3 HN3 HFK
  generalize hasR (va 0) = h4 at HY4 HN4 HFK
  have ix0 := fun W => idxb_0 h0 h1 h2 h3 h4 W
  have ix1 := fun W => idxb_1 h0 h1 h2 h3 h4 W
  have ix2 := fun W => idxb_2 h0 h1 h2 h3 h4 W
  have ix3 := fun W => idxb_3 h0 h1 h2 h3 h4 W
  have ix4 := fun W => idxb_4 h0 h1 h2 h3 h4 W
  go_wp2_with fail
  refine HFK.out.mono ?_
  rintro e w5 ⟨rfl, hb5⟩
  clear hW4 c0 d0 hz
  have HB5 := Lib.hid (HB4.out.trans (hb5.mono HB4.out.size))
  have HK5 := Lib.hid (HK4.out.below hb5 HK4.out.lt)
  have HQ5 := Lib.hid (HQ4.out.below hb5 HQ4.out.lt)
  have HO5 := Lib.hid (HO4.out.below hb5)
  have HZ5 := Lib.hid (HZ4.out.below hb5 HZ4.out.lt)
  have HR5 : Hid (Rd w5 g (tt 0).1 (tt 0).2) := Lib.hid (rd_below HR4.out hb5)
  have HT5 := Lib.hid (HT4.out.below hb5)
  have HZC : Hid (∀ W, Touch (fun k => k = g ∨ k = p) w5 W → Blk W z 70 #[.func (.func 55) #[] #[.pointer (some ⟨q, 0, none⟩), .pointer (some ⟨p, 0, none⟩)], .func (.func 56) #[] #[.pointer (some ⟨q, 0, none⟩), .pointer (some ⟨p, 0, none⟩)], .func (.func 58) #[] #[.pointer (some ⟨q, 0, none⟩), .pointer (some ⟨p, 0, none⟩)], .func (.func 60) #[] #[.pointer (some ⟨q, 0, none⟩), .pointer (some ⟨p, 0, none⟩)], .func (.func 62) #[] #[.pointer (some ⟨q, 0, none⟩), .pointer (some ⟨p, 0, none⟩)]] ∧ Blk W q 80 #[.pointer (some ⟨g, 0, none⟩)] ∧ Blk W w.heap.size 34 #[.int .i64 0, .int .i64 0, .int .i64 0, .int .i64 0, .int .i64 0, .int .i64 0, .bool false, .string ⟨#[]⟩, .int .i64 0, .int .i64 0, .int .i64 0, .bool false, .slice none 0 0, .slice none 0 0, .slice none 0 0, .int .i64 0, .int .i64 0] ∧ Below w.heap.size w W ∧ KT W) := Lib.hid fun W h =>
    have hb := touch_below12 HB5.out h (Nat.le_of_lt hgz) (by omega) HB5.out.size
    ⟨touch_blk12 HZ5.out h (by omega) (by omega), touch_blk12 HQ5.out h (by omega) (by omega), touch_blk12 HK5.out h (by omega) (by omega), hb, fun i hi => (World.cell?_of_block (a := ⟨0, i, none⟩) (h.block 0 HT5.out.pos (fun e => by rcases e with e | e <;> omega))).trans (HT5.out i hi)⟩
  clear hb5 HB4 HK4 HQ4 HO4 HZ4 HR4 HT4 HFK HB5 HK5 HQ5 HZ5 HT5
  go_wp2
  go_loopw [32] (fun i wr => ∃ (j : Nat) (x : MV), j ≤ 5 ∧ i = .int .i64 j ∧ Hid (mP x = mm j) ∧ Hid (MsgO wr p x) ∧ Hid (Rd wr g (tt j).1 (tt j).2) ∧ Hid (Touch (fun k => k = g ∨ k = p) w5 wr)) (fun i _ => 5 - (intOf i).toNat)
  case atStart => exact ⟨0, _, by omega, rfl, HM0, HO5, HR5, Lib.hid (Touch.refl _ _)⟩
  case round =>
    obtain ⟨j, x, hj, rfl, HMX, HO, HR, HTO⟩ := hrel
    have HZZ := Lib.hid (HZC.out wr HTO.out)
    have hqc : wr.cell? ⟨q, 0, none⟩ = some (.pointer (some ⟨g, 0, none⟩)) := HZZ.out.2.1.cell 0
    clear HM0 HO5 HR5
    match j, hj, HMX, HR with
    | 0, _, HMX, HR =>
      as_aux_lemma =>
      have zc : wr.cell? ⟨z, 0, none⟩ = some (.func (.func 55) #[] #[.pointer (some ⟨q, 0, none⟩), .pointer (some ⟨p, 0, none⟩)]) := HZZ.out.1.cell 0
      rcases Bool.eq_false_or_eq_true h0 with gg | gg
      · subst gg
        have HFE := Lib.hid (HY0.out rfl)
        have HC := Lib.hid (fn1_any g q p x _ _ wr hqc HR.out HO.out (by omega))
        go_wp2_with fail
        refine HC.out.mono ?_
        rintro e6 w6 ⟨rfl, hr6, ⟨x6, hx6, ho6⟩, ht6⟩
        have HO6 := Lib.hid ho6
        have HX6 : Hid (mP x6 = mm 1) := Lib.hid (by rw [HFE.out.2, ← HMX.out]; exact hx6)
        have HR6 : Hid (Rd w6 g (tt 1).1 (tt 1).2) := Lib.hid (by rw [HFE.out.1]; exact hr6)
        have HT6 := Lib.hid (touch_trans12 HTO.out ht6)
        clear hr6 hx6 ho6 ht6 zc hqc HC HFE
        go_wp2
        go_roundw
        case rel => exact ⟨1, x6, by omega, rfl, HX6, HO6, HR6, HT6⟩
        case measure => simp [intOf]
      · subst gg
        have HFE := Lib.hid (HN0.out rfl)
        have HX6 : Hid (mP x = mm 1) := Lib.hid (by rw [HFE.out.2]; exact HMX.out)
        have HR6 : Hid (Rd wr g (tt 1).1 (tt 1).2) := Lib.hid (by rw [HFE.out.1]; exact HR.out)
        clear zc hqc HFE
        go_wp2
        go_roundw
        case rel => exact ⟨1, x, by omega, rfl, HX6, HO, HR6, HTO⟩
        case measure => simp [intOf]
    | 1, _, HMX, HR =>
      as_aux_lemma =>
      have zc : wr.cell? ⟨z, 1, none⟩ = some (.func (.func 56) #[] #[.pointer (some ⟨q, 0, none⟩), .pointer (some ⟨p, 0, none⟩)]) := HZZ.out.1.cell 1
      rcases Bool.eq_false_or_eq_true h1 with gg | gg
      · subst gg
        have HFE := Lib.hid (HY1.out rfl)
        have HC := Lib.hid (fn2_any g q p x _ _ wr hqc HR.out HO.out (by omega))
        go_wp2_with fail
        refine HC.out.mono ?_
        rintro e6 w6 ⟨rfl, hr6, ⟨x6, hx6, ho6⟩, ht6⟩
        have HO6 := Lib.hid ho6
        have HX6 : Hid (mP x6 = mm 2) := Lib.hid (by rw [HFE.out.2, ← HMX.out]; exact hx6)
        have HR6 : Hid (Rd w6 g (tt 2).1 (tt 2).2) := Lib.hid (by rw [HFE.out.1]; exact hr6)
        have HT6 := Lib.hid (touch_trans12 HTO.out ht6)
        clear hr6 hx6 ho6 ht6 zc hqc HC HFE
        go_wp2
        go_roundw
        case rel => exact ⟨2, x6, by omega, rfl, HX6, HO6, HR6, HT6⟩
        case measure => simp [intOf]
      · subst gg
        have HFE := Lib.hid (HN1.out rfl)
        have HX6 : Hid (mP x = mm 2) := Lib.hid (by rw [HFE.out.2]; exact HMX.out)
        have HR6 : Hid (Rd wr g (tt 2).1 (tt 2).2) := Lib.hid (by rw [HFE.out.1]; exact HR.out)
        clear zc hqc HFE
        go_wp2
        go_roundw
        case rel => exact ⟨2, x, by omega, rfl, HX6, HO, HR6, HTO⟩
        case measure => simp [intOf]
    | 2, _, HMX, HR =>
      as_aux_lemma =>
      have zc : wr.cell? ⟨z, 2, none⟩ = some (.func (.func 58) #[] #[.pointer (some ⟨q, 0, none⟩), .pointer (some ⟨p, 0, none⟩)]) := HZZ.out.1.cell 2
      rcases Bool.eq_false_or_eq_true h2 with gg | gg
      · subst gg
        have HFE := Lib.hid (HY2.out rfl)
        have HC := Lib.hid (fn3_any g q p x _ _ wr hqc HR.out HO.out (by omega))
        go_wp2_with fail
        refine HC.out.mono ?_
        rintro e6 w6 ⟨rfl, hr6, ⟨x6, hx6, ho6⟩, ht6⟩
        have HO6 := Lib.hid ho6
        have HX6 : Hid (mP x6 = mm 3) := Lib.hid (by rw [HFE.out.2, ← HMX.out]; exact hx6)
        have HR6 : Hid (Rd w6 g (tt 3).1 (tt 3).2) := Lib.hid (by rw [HFE.out.1]; exact hr6)
        have HT6 := Lib.hid (touch_trans12 HTO.out ht6)
        clear hr6 hx6 ho6 ht6 zc hqc HC HFE
        go_wp2
        go_roundw
        case rel => exact ⟨3, x6, by omega, rfl, HX6, HO6, HR6, HT6⟩
        case measure => simp [intOf]
      · subst gg
        have HFE := Lib.hid (HN2.out rfl)
        have HX6 : Hid (mP x = mm 3) := Lib.hid (by rw [HFE.out.2]; exact HMX.out)
        have HR6 : Hid (Rd wr g (tt 3).1 (tt 3).2) := Lib.hid (by rw [HFE.out.1]; exact HR.out)
        clear zc hqc HFE
        go_wp2
        go_roundw
        case rel => exact ⟨3, x, by omega, rfl, HX6, HO, HR6, HTO⟩
        case measure => simp [intOf]
    | 3, _, HMX, HR =>
      as_aux_lemma =>
      have zc : wr.cell? ⟨z, 3, none⟩ = some (.func (.func 60) #[] #[.pointer (some ⟨q, 0, none⟩), .pointer (some ⟨p, 0, none⟩)]) := HZZ.out.1.cell 3
      rcases Bool.eq_false_or_eq_true h3 with gg | gg
      · subst gg
        have HFE := Lib.hid (HY3.out rfl)
        have HC := Lib.hid (fn4_any g q p x _ _ wr hqc HR.out HO.out (by omega))
        go_wp2_with fail
        refine HC.out.mono ?_
        rintro e6 w6 ⟨rfl, hr6, ⟨x6, hx6, ho6⟩, ht6⟩
        have HO6 := Lib.hid ho6
        have HX6 : Hid (mP x6 = mm 4) := Lib.hid (by rw [HFE.out.2, ← HMX.out]; exact hx6)
        have HR6 : Hid (Rd w6 g (tt 4).1 (tt 4).2) := Lib.hid (by rw [HFE.out.1]; exact hr6)
        have HT6 := Lib.hid (touch_trans12 HTO.out ht6)
        clear hr6 hx6 ho6 ht6 zc hqc HC HFE
        go_wp2
        go_roundw
        case rel => exact ⟨4, x6, by omega, rfl, HX6, HO6, HR6, HT6⟩
        case measure => simp [intOf]
      · subst gg
        have HFE := Lib.hid (HN3.out rfl)
        have HX6 : Hid (mP x = mm 4) := Lib.hid (by rw [HFE.out.2]; exact HMX.out)
        have HR6 : Hid (Rd wr g (tt 4).1 (tt 4).2) := Lib.hid (by rw [HFE.out.1]; exact HR.out)
        clear zc hqc HFE
        go_wp2
        go_roundw
        case rel => exact ⟨4, x, by omega, rfl, HX6, HO, HR6, HTO⟩
        case measure => simp [intOf]
    | 4, _, HMX, HR =>
      as_aux_lemma =>
      have zc : wr.cell? ⟨z, 4, none⟩ = some (.func (.func 62) #[] #[.pointer (some ⟨q, 0, none⟩), .pointer (some ⟨p, 0, none⟩)]) := HZZ.out.1.cell 4
      rcases Bool.eq_false_or_eq_true h4 with gg | gg
      · subst gg
        have HFE := Lib.hid (HY4.out rfl)
        have HC := Lib.hid (fn5_any g q p x _ _ wr hqc HR.out HO.out (by omega))
        go_wp2_with fail
        refine HC.out.mono ?_
        rintro e6 w6 ⟨rfl, hr6, ⟨x6, hx6, ho6⟩, ht6⟩
        have HO6 := Lib.hid ho6
        have HX6 : Hid (mP x6 = mm 5) := Lib.hid (by rw [HFE.out.2, ← HMX.out]; exact hx6)
        have HR6 : Hid (Rd w6 g (tt 5).1 (tt 5).2) := Lib.hid (by rw [HFE.out.1]; exact hr6)
        have HT6 := Lib.hid (touch_trans12 HTO.out ht6)
        clear hr6 hx6 ho6 ht6 zc hqc HC HFE
        go_wp2
        go_roundw
        case rel => exact ⟨5, x6, by omega, rfl, HX6, HO6, HR6, HT6⟩
        case measure => simp [intOf]
      · subst gg
        have HFE := Lib.hid (HN4.out rfl)
        have HX6 : Hid (mP x = mm 5) := Lib.hid (by rw [HFE.out.2]; exact HMX.out)
        have HR6 : Hid (Rd wr g (tt 5).1 (tt 5).2) := Lib.hid (by rw [HFE.out.1]; exact HR.out)
        clear zc hqc HFE
        go_wp2
        go_roundw
        case rel => exact ⟨5, x, by omega, rfl, HX6, HO, HR6, HTO⟩
        case measure => simp [intOf]
    | 5, _, HMX, HR =>
      as_aux_lemma =>
      have hfin := fin_read HFI.out.1
      rw [HFI.out.2, ← HMX.out] at hfin
      obtain ⟨RM, hRM⟩ : ∃ r, readM bs = r := ⟨_, rfl⟩
      rw [hRM] at hfin
      have HRMF := Lib.hid hRM
      have HCK := Lib.hid (checkm_any x wr HZZ.out.2.2.2.2 HO.out.msgM)
      unfold checkM at HCK
      have HFI2 := Lib.hid hfin
      obtain ⟨ok, hok⟩ : ∃ b, okM (mP x) = b := ⟨_, rfl⟩
      obtain ⟨b6, e6, h6⟩ : ∃ b e, tt 5 = (b, e) := ⟨_, _, rfl⟩
      rw [hok] at HCK HFI2
      rw [h6] at HFI2
      simp only at HFI2
      have HR5 : Hid (Rd wr g b6 e6) := Lib.hid (by have := HR.out; rw [h6] at this; exact this)
      have HLK := Lib.hid HO.out.blk
      have HX : Hid ((∃ e, RM = (msgP0, e) ∧ e ≠ 0 ∧ endZ b6 (failZ ok e6) = e) ∨ (RM = (mP x, 0) ∧ endZ b6 (failZ ok e6) = 0)) := Lib.hid (by
        rcases HFI2.out with ⟨h1, h2⟩ | ⟨h1, h2⟩
        · exact Or.inr ⟨h2, h1⟩
        · exact Or.inl ⟨_, h2, h1, rfl⟩)
      clear hfin HFI2 hRM hok h6 HR hqc HFI HMX
      go_wp2_with (refine wpList_load_row rfl 34 _ rfl _ rfl _ _ _ _ (show _ = _ from HLK.out) Tryd.underlying34 rfl (by kernel_rfl) ?_)
      refine HCK.out.mono ?_
      rintro e w6 ⟨rfl, hb6⟩
      have hBr := HZZ.out.2.2.2.1
      have HB6 := Lib.hid (hBr.trans (hb6.mono hBr.size))
      have HK6 := Lib.hid (HZZ.out.2.2.1.below hb6 HZZ.out.2.2.1.lt)
      have HQ6 := Lib.hid (HZZ.out.2.1.below hb6 HZZ.out.2.1.lt)
      have HR6 : Hid (Rd w6 g b6 e6) := Lib.hid (rd_below HR5.out hb6)
      have HO6 := Lib.hid (HO.out.below hb6)
      have q6 : w6.cell? ⟨q, 0, none⟩ = some (.pointer (some ⟨g, 0, none⟩)) := HQ6.out.cell 0
      clear hb6 hBr HZZ HR5 HCK HLK HO HTO HZC HY0 HY1 HY2 HY3 HY4 HN0 HN1 HN2 HN3 HN4 ix0 ix1 ix2 ix3 ix4
      have key : ∀ (w7 : World), w6.grownBy w7 (some g) → Rd w7 g b6 (failZ ok e6) → Hid (Blk w7 q 80 #[.pointer (some ⟨g, 0, none⟩)] ∧ Blk w7 w.heap.size 34 #[.int .i64 0, .int .i64 0, .int .i64 0, .int .i64 0, .int .i64 0, .int .i64 0, .bool false, .string ⟨#[]⟩, .int .i64 0, .int .i64 0, .int .i64 0, .bool false, .slice none 0 0, .slice none 0 0, .slice none 0 0, .int .i64 0, .int .i64 0] ∧ Below w.heap.size w w7 ∧ MsgO w7 p x) := fun w7 hg _ => Lib.hid
        ⟨HQ6.out.grown hg (fun e => by injection e with e; omega), HK6.out.grown hg (fun e => by injection e with e; omega), below_grown HB6.out hg HB6.out.size (Nat.le_of_lt hgz), HO6.out.grown hg (by omega)⟩
      have HKEY := Lib.hid key
      clear key
      cases ok
      · have HFL := Lib.hid (fail_call g b6 e6 w6 HR6.out)
        have hfz : failZ false e6 = (if e6 = 0 then 11 else e6) := rfl
        rw [← hfz] at HFL
        clear hfz
        rw [if_neg (by simp)]
        go_wp2_with fail
        refine HFL.out.mono ?_
        rintro e w7 ⟨rfl, hr7, hg7⟩
        have HQ7 := HKEY.out w7 hg7 hr7
        have HR7 := Lib.hid hr7
        clear hr7 hg7 q6 HQ6 HK6 HB6 HO6 HR6 HKEY
        have q7 : w7.cell? ⟨q, 0, none⟩ = some (.pointer (some ⟨g, 0, none⟩)) := HQ7.out.1.cell 0
        obtain ⟨ER, hER⟩ : ∃ E, failZ false e6 = E := ⟨_, rfl⟩
        rw [hER] at HX HR7
        have HEND := Lib.hid (end_any g b6 ER w7 HR7.out)
        obtain ⟨EZ, hEZ⟩ : ∃ E, endZ b6 ER = E := ⟨_, rfl⟩
        rw [hEZ] at HEND HX
        clear hER hEZ HR7
        have HTH := Lib.hid (there_blk HQ7.out.2.1)
        rcases HX.out with ⟨e9, hrm, hne, rfl⟩ | ⟨hrm, rfl⟩
        · subst hrm
          have hne1 : (EZ == 0) = false := by simpa using hne
          have hne2 : (EZ != 0) = true := by simpa using hne
          have HK8 : Hid (Blk (((((((((((((((((w7.setCell ⟨w.heap.size, 0, none⟩ (.int .i64 0)).setCell ⟨w.heap.size, 1, none⟩ (.int .i64 0)).setCell ⟨w.heap.size, 2, none⟩ (.int .i64 0)).setCell ⟨w.heap.size, 3, none⟩ (.int .i64 0)).setCell ⟨w.heap.size, 4, none⟩ (.int .i64 0)).setCell ⟨w.heap.size, 5, none⟩ (.int .i64 0)).setCell ⟨w.heap.size, 6, none⟩ (.bool false)).setCell ⟨w.heap.size, 7, none⟩ (.string ⟨#[]⟩)).setCell ⟨w.heap.size, 8, none⟩ (.int .i64 0)).setCell ⟨w.heap.size, 9, none⟩ (.int .i64 0)).setCell ⟨w.heap.size, 10, none⟩ (.int .i64 0)).setCell ⟨w.heap.size, 11, none⟩ (.bool false)).setCell ⟨w.heap.size, 12, none⟩ (.slice none 0 0)).setCell ⟨w.heap.size, 13, none⟩ (.slice none 0 0)).setCell ⟨w.heap.size, 14, none⟩ (.slice none 0 0)).setCell ⟨w.heap.size, 15, none⟩ (.int .i64 0)).setCell ⟨w.heap.size, 16, none⟩ (.int .i64 0)) w.heap.size 34 #[.int .i64 0, .int .i64 0, .int .i64 0, .int .i64 0, .int .i64 0, .int .i64 0, .bool false, .string ⟨#[]⟩, .int .i64 0, .int .i64 0, .int .i64 0, .bool false, .slice none 0 0, .slice none 0 0, .slice none 0 0, .int .i64 0, .int .i64 0]) := Lib.hid (set17 HQ7.out.2.1 (.int .i64 0) (.int .i64 0) (.int .i64 0) (.int .i64 0) (.int .i64 0) (.int .i64 0) (.bool false) (.string ⟨#[]⟩) (.int .i64 0) (.int .i64 0) (.int .i64 0) (.bool false) (.slice none 0 0) (.slice none 0 0) (.slice none 0 0) (.int .i64 0) (.int .i64 0))
          have HB8 : Hid (Below w.heap.size w (((((((((((((((((w7.setCell ⟨w.heap.size, 0, none⟩ (.int .i64 0)).setCell ⟨w.heap.size, 1, none⟩ (.int .i64 0)).setCell ⟨w.heap.size, 2, none⟩ (.int .i64 0)).setCell ⟨w.heap.size, 3, none⟩ (.int .i64 0)).setCell ⟨w.heap.size, 4, none⟩ (.int .i64 0)).setCell ⟨w.heap.size, 5, none⟩ (.int .i64 0)).setCell ⟨w.heap.size, 6, none⟩ (.bool false)).setCell ⟨w.heap.size, 7, none⟩ (.string ⟨#[]⟩)).setCell ⟨w.heap.size, 8, none⟩ (.int .i64 0)).setCell ⟨w.heap.size, 9, none⟩ (.int .i64 0)).setCell ⟨w.heap.size, 10, none⟩ (.int .i64 0)).setCell ⟨w.heap.size, 11, none⟩ (.bool false)).setCell ⟨w.heap.size, 12, none⟩ (.slice none 0 0)).setCell ⟨w.heap.size, 13, none⟩ (.slice none 0 0)).setCell ⟨w.heap.size, 14, none⟩ (.slice none 0 0)).setCell ⟨w.heap.size, 15, none⟩ (.int .i64 0)).setCell ⟨w.heap.size, 16, none⟩ (.int .i64 0))) := Lib.hid (below_grown HQ7.out.2.2.1 (gr17 w7 w.heap.size (.int .i64 0) (.int .i64 0) (.int .i64 0) (.int .i64 0) (.int .i64 0) (.int .i64 0) (.bool false) (.string ⟨#[]⟩) (.int .i64 0) (.int .i64 0) (.int .i64 0) (.bool false) (.slice none 0 0) (.slice none 0 0) (.slice none 0 0) (.int .i64 0) (.int .i64 0)) HQ7.out.2.2.1.size (Nat.le_refl _))
          clear HX
          as_aux_lemma =>
          go_wp2_with fail
          refine HEND.out.mono ?_
          rintro e w8 ⟨rfl, rfl⟩
          clear HEND hne
          go_wp2_with (refine wpList_store_mid rfl 34 _ _ rfl w.heap.size 0 #[.int .i64 0, .int .i64 0, .int .i64 0, .int .i64 0, .int .i64 0, .int .i64 0, .bool false, .string ⟨#[]⟩, .int .i64 0, .int .i64 0, .int .i64 0, .bool false, .slice none 0 0, .slice none 0 0, .slice none 0 0, .int .i64 0, .int .i64 0] rfl rfl HTH.out (by kernel_rfl) (by kernel_rfl) ?_)
          exact bodyPost_ret (v := .tuple #[.agg #[.int .i64 0, .int .i64 0, .int .i64 0, .int .i64 0, .int .i64 0, .int .i64 0, .bool false, .string ⟨#[]⟩, .int .i64 0, .int .i64 0, .int .i64 0, .bool false, .slice none 0 0, .slice none 0 0, .slice none 0 0, .int .i64 0, .int .i64 0], .int .i64 EZ]) (results_cell_row2 (p := 2) (q := 3) (ty := 34) Tryd.results17 _ _ w.heap.size 34 #[.int .i64 0, .int .i64 0, .int .i64 0, .int .i64 0, .int .i64 0, .int .i64 0, .bool false, .string ⟨#[]⟩, .int .i64 0, .int .i64 0, .int .i64 0, .bool false, .slice none 0 0, .slice none 0 0, .slice none 0 0, .int .i64 0, .int .i64 0] (0, 0) _ rfl HK8.out Tryd.underlying34 rfl (by kernel_rfl)) rfl ⟨zMV, by rw [HRMF.out]; rfl, by rw [HRMF.out]; rfl, zMV_m _, HB8.out⟩
        · subst hrm
          have HK8 : Hid (Blk (((((((((((((((((w7.setCell ⟨w.heap.size, 0, none⟩ (.int .i64 x.kind)).setCell ⟨w.heap.size, 1, none⟩ (.int .i64 x.fr)).setCell ⟨w.heap.size, 2, none⟩ (.int .i64 x.dst)).setCell ⟨w.heap.size, 3, none⟩ (.int .i64 x.ep)).setCell ⟨w.heap.size, 4, none⟩ (.int .i64 x.op)).setCell ⟨w.heap.size, 5, none⟩ (.int .i64 x.n)).setCell ⟨w.heap.size, 6, none⟩ (.bool x.flag)).setCell ⟨w.heap.size, 7, none⟩ (.string ⟨x.e.1.k.toArray⟩)).setCell ⟨w.heap.size, 8, none⟩ (.int .i64 x.e.1.s)).setCell ⟨w.heap.size, 9, none⟩ (.int .i64 x.e.1.u)).setCell ⟨w.heap.size, 10, none⟩ (.int .i64 x.e.1.o)).setCell ⟨w.heap.size, 11, none⟩ (.bool x.e.1.has)).setCell ⟨w.heap.size, 12, none⟩ (.slice x.e.2.1 x.e.1.v.length x.e.2.2)).setCell ⟨w.heap.size, 13, none⟩ (.slice x.lA x.l.length x.lc)).setCell ⟨w.heap.size, 14, none⟩ (.slice x.rA x.ns.length x.rc)).setCell ⟨w.heap.size, 15, none⟩ (.int .i64 x.each)).setCell ⟨w.heap.size, 16, none⟩ (.int .i64 x.keep)) w.heap.size 34 #[.int .i64 x.kind, .int .i64 x.fr, .int .i64 x.dst, .int .i64 x.ep, .int .i64 x.op, .int .i64 x.n, .bool x.flag, .string ⟨x.e.1.k.toArray⟩, .int .i64 x.e.1.s, .int .i64 x.e.1.u, .int .i64 x.e.1.o, .bool x.e.1.has, .slice x.e.2.1 x.e.1.v.length x.e.2.2, .slice x.lA x.l.length x.lc, .slice x.rA x.ns.length x.rc, .int .i64 x.each, .int .i64 x.keep]) := Lib.hid (set17 HQ7.out.2.1 (.int .i64 x.kind) (.int .i64 x.fr) (.int .i64 x.dst) (.int .i64 x.ep) (.int .i64 x.op) (.int .i64 x.n) (.bool x.flag) (.string ⟨x.e.1.k.toArray⟩) (.int .i64 x.e.1.s) (.int .i64 x.e.1.u) (.int .i64 x.e.1.o) (.bool x.e.1.has) (.slice x.e.2.1 x.e.1.v.length x.e.2.2) (.slice x.lA x.l.length x.lc) (.slice x.rA x.ns.length x.rc) (.int .i64 x.each) (.int .i64 x.keep))
          have hgr := gr17 w7 w.heap.size (.int .i64 x.kind) (.int .i64 x.fr) (.int .i64 x.dst) (.int .i64 x.ep) (.int .i64 x.op) (.int .i64 x.n) (.bool x.flag) (.string ⟨x.e.1.k.toArray⟩) (.int .i64 x.e.1.s) (.int .i64 x.e.1.u) (.int .i64 x.e.1.o) (.bool x.e.1.has) (.slice x.e.2.1 x.e.1.v.length x.e.2.2) (.slice x.lA x.l.length x.lc) (.slice x.rA x.ns.length x.rc) (.int .i64 x.each) (.int .i64 x.keep)
          have HB8 : Hid (Below w.heap.size w (((((((((((((((((w7.setCell ⟨w.heap.size, 0, none⟩ (.int .i64 x.kind)).setCell ⟨w.heap.size, 1, none⟩ (.int .i64 x.fr)).setCell ⟨w.heap.size, 2, none⟩ (.int .i64 x.dst)).setCell ⟨w.heap.size, 3, none⟩ (.int .i64 x.ep)).setCell ⟨w.heap.size, 4, none⟩ (.int .i64 x.op)).setCell ⟨w.heap.size, 5, none⟩ (.int .i64 x.n)).setCell ⟨w.heap.size, 6, none⟩ (.bool x.flag)).setCell ⟨w.heap.size, 7, none⟩ (.string ⟨x.e.1.k.toArray⟩)).setCell ⟨w.heap.size, 8, none⟩ (.int .i64 x.e.1.s)).setCell ⟨w.heap.size, 9, none⟩ (.int .i64 x.e.1.u)).setCell ⟨w.heap.size, 10, none⟩ (.int .i64 x.e.1.o)).setCell ⟨w.heap.size, 11, none⟩ (.bool x.e.1.has)).setCell ⟨w.heap.size, 12, none⟩ (.slice x.e.2.1 x.e.1.v.length x.e.2.2)).setCell ⟨w.heap.size, 13, none⟩ (.slice x.lA x.l.length x.lc)).setCell ⟨w.heap.size, 14, none⟩ (.slice x.rA x.ns.length x.rc)).setCell ⟨w.heap.size, 15, none⟩ (.int .i64 x.each)).setCell ⟨w.heap.size, 16, none⟩ (.int .i64 x.keep))) := Lib.hid (below_grown HQ7.out.2.2.1 hgr HQ7.out.2.2.1.size (Nat.le_refl _))
          have HM8 : Hid (MsgM (((((((((((((((((w7.setCell ⟨w.heap.size, 0, none⟩ (.int .i64 x.kind)).setCell ⟨w.heap.size, 1, none⟩ (.int .i64 x.fr)).setCell ⟨w.heap.size, 2, none⟩ (.int .i64 x.dst)).setCell ⟨w.heap.size, 3, none⟩ (.int .i64 x.ep)).setCell ⟨w.heap.size, 4, none⟩ (.int .i64 x.op)).setCell ⟨w.heap.size, 5, none⟩ (.int .i64 x.n)).setCell ⟨w.heap.size, 6, none⟩ (.bool x.flag)).setCell ⟨w.heap.size, 7, none⟩ (.string ⟨x.e.1.k.toArray⟩)).setCell ⟨w.heap.size, 8, none⟩ (.int .i64 x.e.1.s)).setCell ⟨w.heap.size, 9, none⟩ (.int .i64 x.e.1.u)).setCell ⟨w.heap.size, 10, none⟩ (.int .i64 x.e.1.o)).setCell ⟨w.heap.size, 11, none⟩ (.bool x.e.1.has)).setCell ⟨w.heap.size, 12, none⟩ (.slice x.e.2.1 x.e.1.v.length x.e.2.2)).setCell ⟨w.heap.size, 13, none⟩ (.slice x.lA x.l.length x.lc)).setCell ⟨w.heap.size, 14, none⟩ (.slice x.rA x.ns.length x.rc)).setCell ⟨w.heap.size, 15, none⟩ (.int .i64 x.each)).setCell ⟨w.heap.size, 16, none⟩ (.int .i64 x.keep)) x) := Lib.hid (HQ7.out.2.2.2.grown hgr (by omega)).msgM
          have HLK := Lib.hid HQ7.out.2.2.2.blk
          clear hgr HX HQ7
          as_aux_lemma =>
          go_wp2_with fail
          refine HEND.out.mono ?_
          rintro e w8 ⟨rfl, rfl⟩
          clear HEND q7
          go_wp2_with (first | (refine wpList_load_row rfl 34 _ rfl _ rfl _ _ _ _ (show _ = _ from HLK.out) Tryd.underlying34 rfl (by kernel_rfl) ?_) | (refine wpList_store_mid rfl 34 _ _ rfl w.heap.size 0 #[.int .i64 x.kind, .int .i64 x.fr, .int .i64 x.dst, .int .i64 x.ep, .int .i64 x.op, .int .i64 x.n, .bool x.flag, .string ⟨x.e.1.k.toArray⟩, .int .i64 x.e.1.s, .int .i64 x.e.1.u, .int .i64 x.e.1.o, .bool x.e.1.has, .slice x.e.2.1 x.e.1.v.length x.e.2.2, .slice x.lA x.l.length x.lc, .slice x.rA x.ns.length x.rc, .int .i64 x.each, .int .i64 x.keep] rfl rfl HTH.out (by kernel_rfl) (by kernel_rfl) ?_))
          exact bodyPost_ret (v := .tuple #[.agg #[.int .i64 x.kind, .int .i64 x.fr, .int .i64 x.dst, .int .i64 x.ep, .int .i64 x.op, .int .i64 x.n, .bool x.flag, .string ⟨x.e.1.k.toArray⟩, .int .i64 x.e.1.s, .int .i64 x.e.1.u, .int .i64 x.e.1.o, .bool x.e.1.has, .slice x.e.2.1 x.e.1.v.length x.e.2.2, .slice x.lA x.l.length x.lc, .slice x.rA x.ns.length x.rc, .int .i64 x.each, .int .i64 x.keep], .int .i64 0]) (results_cell_row2 (p := 2) (q := 3) (ty := 34) Tryd.results17 _ _ w.heap.size 34 #[.int .i64 x.kind, .int .i64 x.fr, .int .i64 x.dst, .int .i64 x.ep, .int .i64 x.op, .int .i64 x.n, .bool x.flag, .string ⟨x.e.1.k.toArray⟩, .int .i64 x.e.1.s, .int .i64 x.e.1.u, .int .i64 x.e.1.o, .bool x.e.1.has, .slice x.e.2.1 x.e.1.v.length x.e.2.2, .slice x.lA x.l.length x.lc, .slice x.rA x.ns.length x.rc, .int .i64 x.each, .int .i64 x.keep] (0, 0) _ rfl HK8.out Tryd.underlying34 rfl (by kernel_rfl)) rfl ⟨x, by rw [HRMF.out], by rw [HRMF.out], HM8.out, HB8.out⟩
      · have HR7 : Hid (Rd w6 g b6 (failZ true e6)) := Lib.hid (by have e : failZ true e6 = e6 := rfl; rw [e]; exact HR6.out)
        have HQ7 := HKEY.out w6 (grown_refl _ _) HR7.out
        rw [if_pos rfl]
        clear q6 HQ6 HK6 HB6 HO6 HR6 HKEY
        have q7 : w6.cell? ⟨q, 0, none⟩ = some (.pointer (some ⟨g, 0, none⟩)) := HQ7.out.1.cell 0
        obtain ⟨ER, hER⟩ : ∃ E, failZ true e6 = E := ⟨_, rfl⟩
        rw [hER] at HX HR7
        have HEND := Lib.hid (end_any g b6 ER w6 HR7.out)
        obtain ⟨EZ, hEZ⟩ : ∃ E, endZ b6 ER = E := ⟨_, rfl⟩
        rw [hEZ] at HEND HX
        clear hER hEZ HR7
        have HTH := Lib.hid (there_blk HQ7.out.2.1)
        rcases HX.out with ⟨e9, hrm, hne, rfl⟩ | ⟨hrm, rfl⟩
        · subst hrm
          have hne1 : (EZ == 0) = false := by simpa using hne
          have hne2 : (EZ != 0) = true := by simpa using hne
          have HK8 : Hid (Blk (((((((((((((((((w6.setCell ⟨w.heap.size, 0, none⟩ (.int .i64 0)).setCell ⟨w.heap.size, 1, none⟩ (.int .i64 0)).setCell ⟨w.heap.size, 2, none⟩ (.int .i64 0)).setCell ⟨w.heap.size, 3, none⟩ (.int .i64 0)).setCell ⟨w.heap.size, 4, none⟩ (.int .i64 0)).setCell ⟨w.heap.size, 5, none⟩ (.int .i64 0)).setCell ⟨w.heap.size, 6, none⟩ (.bool false)).setCell ⟨w.heap.size, 7, none⟩ (.string ⟨#[]⟩)).setCell ⟨w.heap.size, 8, none⟩ (.int .i64 0)).setCell ⟨w.heap.size, 9, none⟩ (.int .i64 0)).setCell ⟨w.heap.size, 10, none⟩ (.int .i64 0)).setCell ⟨w.heap.size, 11, none⟩ (.bool false)).setCell ⟨w.heap.size, 12, none⟩ (.slice none 0 0)).setCell ⟨w.heap.size, 13, none⟩ (.slice none 0 0)).setCell ⟨w.heap.size, 14, none⟩ (.slice none 0 0)).setCell ⟨w.heap.size, 15, none⟩ (.int .i64 0)).setCell ⟨w.heap.size, 16, none⟩ (.int .i64 0)) w.heap.size 34 #[.int .i64 0, .int .i64 0, .int .i64 0, .int .i64 0, .int .i64 0, .int .i64 0, .bool false, .string ⟨#[]⟩, .int .i64 0, .int .i64 0, .int .i64 0, .bool false, .slice none 0 0, .slice none 0 0, .slice none 0 0, .int .i64 0, .int .i64 0]) := Lib.hid (set17 HQ7.out.2.1 (.int .i64 0) (.int .i64 0) (.int .i64 0) (.int .i64 0) (.int .i64 0) (.int .i64 0) (.bool false) (.string ⟨#[]⟩) (.int .i64 0) (.int .i64 0) (.int .i64 0) (.bool false) (.slice none 0 0) (.slice none 0 0) (.slice none 0 0) (.int .i64 0) (.int .i64 0))
          have HB8 : Hid (Below w.heap.size w (((((((((((((((((w6.setCell ⟨w.heap.size, 0, none⟩ (.int .i64 0)).setCell ⟨w.heap.size, 1, none⟩ (.int .i64 0)).setCell ⟨w.heap.size, 2, none⟩ (.int .i64 0)).setCell ⟨w.heap.size, 3, none⟩ (.int .i64 0)).setCell ⟨w.heap.size, 4, none⟩ (.int .i64 0)).setCell ⟨w.heap.size, 5, none⟩ (.int .i64 0)).setCell ⟨w.heap.size, 6, none⟩ (.bool false)).setCell ⟨w.heap.size, 7, none⟩ (.string ⟨#[]⟩)).setCell ⟨w.heap.size, 8, none⟩ (.int .i64 0)).setCell ⟨w.heap.size, 9, none⟩ (.int .i64 0)).setCell ⟨w.heap.size, 10, none⟩ (.int .i64 0)).setCell ⟨w.heap.size, 11, none⟩ (.bool false)).setCell ⟨w.heap.size, 12, none⟩ (.slice none 0 0)).setCell ⟨w.heap.size, 13, none⟩ (.slice none 0 0)).setCell ⟨w.heap.size, 14, none⟩ (.slice none 0 0)).setCell ⟨w.heap.size, 15, none⟩ (.int .i64 0)).setCell ⟨w.heap.size, 16, none⟩ (.int .i64 0))) := Lib.hid (below_grown HQ7.out.2.2.1 (gr17 w6 w.heap.size (.int .i64 0) (.int .i64 0) (.int .i64 0) (.int .i64 0) (.int .i64 0) (.int .i64 0) (.bool false) (.string ⟨#[]⟩) (.int .i64 0) (.int .i64 0) (.int .i64 0) (.bool false) (.slice none 0 0) (.slice none 0 0) (.slice none 0 0) (.int .i64 0) (.int .i64 0)) HQ7.out.2.2.1.size (Nat.le_refl _))
          clear HX
          as_aux_lemma =>
          go_wp2_with fail
          refine HEND.out.mono ?_
          rintro e w8 ⟨rfl, rfl⟩
          clear HEND hne
          go_wp2_with (refine wpList_store_mid rfl 34 _ _ rfl w.heap.size 0 #[.int .i64 0, .int .i64 0, .int .i64 0, .int .i64 0, .int .i64 0, .int .i64 0, .bool false, .string ⟨#[]⟩, .int .i64 0, .int .i64 0, .int .i64 0, .bool false, .slice none 0 0, .slice none 0 0, .slice none 0 0, .int .i64 0, .int .i64 0] rfl rfl HTH.out (by kernel_rfl) (by kernel_rfl) ?_)
          exact bodyPost_ret (v := .tuple #[.agg #[.int .i64 0, .int .i64 0, .int .i64 0, .int .i64 0, .int .i64 0, .int .i64 0, .bool false, .string ⟨#[]⟩, .int .i64 0, .int .i64 0, .int .i64 0, .bool false, .slice none 0 0, .slice none 0 0, .slice none 0 0, .int .i64 0, .int .i64 0], .int .i64 EZ]) (results_cell_row2 (p := 2) (q := 3) (ty := 34) Tryd.results17 _ _ w.heap.size 34 #[.int .i64 0, .int .i64 0, .int .i64 0, .int .i64 0, .int .i64 0, .int .i64 0, .bool false, .string ⟨#[]⟩, .int .i64 0, .int .i64 0, .int .i64 0, .bool false, .slice none 0 0, .slice none 0 0, .slice none 0 0, .int .i64 0, .int .i64 0] (0, 0) _ rfl HK8.out Tryd.underlying34 rfl (by kernel_rfl)) rfl ⟨zMV, by rw [HRMF.out]; rfl, by rw [HRMF.out]; rfl, zMV_m _, HB8.out⟩
        · subst hrm
          have HK8 : Hid (Blk (((((((((((((((((w6.setCell ⟨w.heap.size, 0, none⟩ (.int .i64 x.kind)).setCell ⟨w.heap.size, 1, none⟩ (.int .i64 x.fr)).setCell ⟨w.heap.size, 2, none⟩ (.int .i64 x.dst)).setCell ⟨w.heap.size, 3, none⟩ (.int .i64 x.ep)).setCell ⟨w.heap.size, 4, none⟩ (.int .i64 x.op)).setCell ⟨w.heap.size, 5, none⟩ (.int .i64 x.n)).setCell ⟨w.heap.size, 6, none⟩ (.bool x.flag)).setCell ⟨w.heap.size, 7, none⟩ (.string ⟨x.e.1.k.toArray⟩)).setCell ⟨w.heap.size, 8, none⟩ (.int .i64 x.e.1.s)).setCell ⟨w.heap.size, 9, none⟩ (.int .i64 x.e.1.u)).setCell ⟨w.heap.size, 10, none⟩ (.int .i64 x.e.1.o)).setCell ⟨w.heap.size, 11, none⟩ (.bool x.e.1.has)).setCell ⟨w.heap.size, 12, none⟩ (.slice x.e.2.1 x.e.1.v.length x.e.2.2)).setCell ⟨w.heap.size, 13, none⟩ (.slice x.lA x.l.length x.lc)).setCell ⟨w.heap.size, 14, none⟩ (.slice x.rA x.ns.length x.rc)).setCell ⟨w.heap.size, 15, none⟩ (.int .i64 x.each)).setCell ⟨w.heap.size, 16, none⟩ (.int .i64 x.keep)) w.heap.size 34 #[.int .i64 x.kind, .int .i64 x.fr, .int .i64 x.dst, .int .i64 x.ep, .int .i64 x.op, .int .i64 x.n, .bool x.flag, .string ⟨x.e.1.k.toArray⟩, .int .i64 x.e.1.s, .int .i64 x.e.1.u, .int .i64 x.e.1.o, .bool x.e.1.has, .slice x.e.2.1 x.e.1.v.length x.e.2.2, .slice x.lA x.l.length x.lc, .slice x.rA x.ns.length x.rc, .int .i64 x.each, .int .i64 x.keep]) := Lib.hid (set17 HQ7.out.2.1 (.int .i64 x.kind) (.int .i64 x.fr) (.int .i64 x.dst) (.int .i64 x.ep) (.int .i64 x.op) (.int .i64 x.n) (.bool x.flag) (.string ⟨x.e.1.k.toArray⟩) (.int .i64 x.e.1.s) (.int .i64 x.e.1.u) (.int .i64 x.e.1.o) (.bool x.e.1.has) (.slice x.e.2.1 x.e.1.v.length x.e.2.2) (.slice x.lA x.l.length x.lc) (.slice x.rA x.ns.length x.rc) (.int .i64 x.each) (.int .i64 x.keep))
          have hgr := gr17 w6 w.heap.size (.int .i64 x.kind) (.int .i64 x.fr) (.int .i64 x.dst) (.int .i64 x.ep) (.int .i64 x.op) (.int .i64 x.n) (.bool x.flag) (.string ⟨x.e.1.k.toArray⟩) (.int .i64 x.e.1.s) (.int .i64 x.e.1.u) (.int .i64 x.e.1.o) (.bool x.e.1.has) (.slice x.e.2.1 x.e.1.v.length x.e.2.2) (.slice x.lA x.l.length x.lc) (.slice x.rA x.ns.length x.rc) (.int .i64 x.each) (.int .i64 x.keep)
          have HB8 : Hid (Below w.heap.size w (((((((((((((((((w6.setCell ⟨w.heap.size, 0, none⟩ (.int .i64 x.kind)).setCell ⟨w.heap.size, 1, none⟩ (.int .i64 x.fr)).setCell ⟨w.heap.size, 2, none⟩ (.int .i64 x.dst)).setCell ⟨w.heap.size, 3, none⟩ (.int .i64 x.ep)).setCell ⟨w.heap.size, 4, none⟩ (.int .i64 x.op)).setCell ⟨w.heap.size, 5, none⟩ (.int .i64 x.n)).setCell ⟨w.heap.size, 6, none⟩ (.bool x.flag)).setCell ⟨w.heap.size, 7, none⟩ (.string ⟨x.e.1.k.toArray⟩)).setCell ⟨w.heap.size, 8, none⟩ (.int .i64 x.e.1.s)).setCell ⟨w.heap.size, 9, none⟩ (.int .i64 x.e.1.u)).setCell ⟨w.heap.size, 10, none⟩ (.int .i64 x.e.1.o)).setCell ⟨w.heap.size, 11, none⟩ (.bool x.e.1.has)).setCell ⟨w.heap.size, 12, none⟩ (.slice x.e.2.1 x.e.1.v.length x.e.2.2)).setCell ⟨w.heap.size, 13, none⟩ (.slice x.lA x.l.length x.lc)).setCell ⟨w.heap.size, 14, none⟩ (.slice x.rA x.ns.length x.rc)).setCell ⟨w.heap.size, 15, none⟩ (.int .i64 x.each)).setCell ⟨w.heap.size, 16, none⟩ (.int .i64 x.keep))) := Lib.hid (below_grown HQ7.out.2.2.1 hgr HQ7.out.2.2.1.size (Nat.le_refl _))
          have HM8 : Hid (MsgM (((((((((((((((((w6.setCell ⟨w.heap.size, 0, none⟩ (.int .i64 x.kind)).setCell ⟨w.heap.size, 1, none⟩ (.int .i64 x.fr)).setCell ⟨w.heap.size, 2, none⟩ (.int .i64 x.dst)).setCell ⟨w.heap.size, 3, none⟩ (.int .i64 x.ep)).setCell ⟨w.heap.size, 4, none⟩ (.int .i64 x.op)).setCell ⟨w.heap.size, 5, none⟩ (.int .i64 x.n)).setCell ⟨w.heap.size, 6, none⟩ (.bool x.flag)).setCell ⟨w.heap.size, 7, none⟩ (.string ⟨x.e.1.k.toArray⟩)).setCell ⟨w.heap.size, 8, none⟩ (.int .i64 x.e.1.s)).setCell ⟨w.heap.size, 9, none⟩ (.int .i64 x.e.1.u)).setCell ⟨w.heap.size, 10, none⟩ (.int .i64 x.e.1.o)).setCell ⟨w.heap.size, 11, none⟩ (.bool x.e.1.has)).setCell ⟨w.heap.size, 12, none⟩ (.slice x.e.2.1 x.e.1.v.length x.e.2.2)).setCell ⟨w.heap.size, 13, none⟩ (.slice x.lA x.l.length x.lc)).setCell ⟨w.heap.size, 14, none⟩ (.slice x.rA x.ns.length x.rc)).setCell ⟨w.heap.size, 15, none⟩ (.int .i64 x.each)).setCell ⟨w.heap.size, 16, none⟩ (.int .i64 x.keep)) x) := Lib.hid (HQ7.out.2.2.2.grown hgr (by omega)).msgM
          have HLK := Lib.hid HQ7.out.2.2.2.blk
          clear hgr HX HQ7
          as_aux_lemma =>
          go_wp2_with fail
          refine HEND.out.mono ?_
          rintro e w8 ⟨rfl, rfl⟩
          clear HEND q7
          go_wp2_with (first | (refine wpList_load_row rfl 34 _ rfl _ rfl _ _ _ _ (show _ = _ from HLK.out) Tryd.underlying34 rfl (by kernel_rfl) ?_) | (refine wpList_store_mid rfl 34 _ _ rfl w.heap.size 0 #[.int .i64 x.kind, .int .i64 x.fr, .int .i64 x.dst, .int .i64 x.ep, .int .i64 x.op, .int .i64 x.n, .bool x.flag, .string ⟨x.e.1.k.toArray⟩, .int .i64 x.e.1.s, .int .i64 x.e.1.u, .int .i64 x.e.1.o, .bool x.e.1.has, .slice x.e.2.1 x.e.1.v.length x.e.2.2, .slice x.lA x.l.length x.lc, .slice x.rA x.ns.length x.rc, .int .i64 x.each, .int .i64 x.keep] rfl rfl HTH.out (by kernel_rfl) (by kernel_rfl) ?_))
          exact bodyPost_ret (v := .tuple #[.agg #[.int .i64 x.kind, .int .i64 x.fr, .int .i64 x.dst, .int .i64 x.ep, .int .i64 x.op, .int .i64 x.n, .bool x.flag, .string ⟨x.e.1.k.toArray⟩, .int .i64 x.e.1.s, .int .i64 x.e.1.u, .int .i64 x.e.1.o, .bool x.e.1.has, .slice x.e.2.1 x.e.1.v.length x.e.2.2, .slice x.lA x.l.length x.lc, .slice x.rA x.ns.length x.rc, .int .i64 x.each, .int .i64 x.keep], .int .i64 0]) (results_cell_row2 (p := 2) (q := 3) (ty := 34) Tryd.results17 _ _ w.heap.size 34 #[.int .i64 x.kind, .int .i64 x.fr, .int .i64 x.dst, .int .i64 x.ep, .int .i64 x.op, .int .i64 x.n, .bool x.flag, .string ⟨x.e.1.k.toArray⟩, .int .i64 x.e.1.s, .int .i64 x.e.1.u, .int .i64 x.e.1.o, .bool x.e.1.has, .slice x.e.2.1 x.e.1.v.length x.e.2.2, .slice x.lA x.l.length x.lc, .slice x.rA x.ns.length x.rc, .int .i64 x.each, .int .i64 x.keep] (0, 0) _ rfl HK8.out Tryd.underlying34 rfl (by kernel_rfl)) rfl ⟨x, by rw [HRMF.out], by rw [HRMF.out], HM8.out, HB8.out⟩
end Go.Proofs.YtfamklplhdnaiaaDoor
