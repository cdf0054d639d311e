/- MsR0: Package msgs: Read of the byte 0. -/
import Derived.Test.YtgmennblbeefhaaDoorMsR
import Derived.Laws.EntriesVeiled
import Derived.Deep.MidRow
import Derived.Laws.Tables
namespace Go.Proofs.YtgmennblbeefhaaDoor
open Go.RowKit Mem Be Rg
set_option maxRecDepth 100000
set_option maxHeartbeats 8000000
set_option linter.unusedVariables false
theorem st0_12 : stepK12 [0] 0 = (0, [], 11) := by decide +kernel
theorem st1_12 (m : Int) : stepB m [] 11 = (0, [], 11) := by unfold stepB; rw [if_neg (by decide)]
def ss0 : Nat → List UInt8 × Int := fun n => if n = 0 then ([0], 0) else ([], 11)
def va0 : Nat → Int := fun _ => 0
open RelyJ in
theorem gives_eq12 {P : Program} {o : Oper} {a : Act} {w : World} {R : Value → World → Prop} {v : Value} (h : (execOp a.eval o).run P w = .ok (.value v) w) (hr : R v w) : Rely.gives P o a w R := by
  unfold Rely.gives
  rw [h]
  exact hr
theorem gives_build12 {P : Program} {o : Oper} {a : Act} {w : World} {R : Value → World → Prop} (t : TypeId) (parts : Array (Nat × Operand)) (ho : o.op = .build t parts) (cells : Array Value) (L : List (Nat × Value)) (hL : (parts.map fun x => (x.1, a.eval x.2)).toList = L) (h : P.built t L = some cells) (hr : R (.agg cells) w) : Rely.gives P o a w R := by
  subst hL
  unfold Rely.gives execOp
  simp only [ho, run_build w t _ cells h, Sem.run_bind, Sem.run_pure, Result.andThen_ok]
  exact hr
theorem gives_store12 {P : Program} {o : Oper} {a : Act} {w : World} {R : Value → World → Prop} (ty : TypeId) (x y : Operand) (ho : o.op = .store ty x y) (b off : Nat) (cells : Array Value) (hx : a.eval x = .pointer (some ⟨b, off, none⟩)) (hy : a.eval y = .agg cells)
    (ht : w.there b off cells.size) (hi : (P.info? ty).map (·.size) = some cells.size) (h1 : cells.all (·.oneCell') = true) (hr : R undef (w.setCells b off cells.toList)) : Rely.gives P o a w R := by
  unfold Rely.gives execOp
  simp only [ho, hx, hy, Instr.storeAt, Instr.sureAddr, Sem.run_bind, Sem.run_pure, Result.andThen_ok, run_storeVar_mid w b off ty cells ht hi h1]
  exact hr
theorem results_cell_row2 {P : Program} {fn : Func} {p q : Tmp} {ty : TypeId} (h : fn.results = #[.cell p ty, .tmp q]) (tmps : Array Value) (w : World) (g : Nat) (t : TypeId) (cs : Array Value) (fr : Nat × Nat) (d : TypeDesc)
    (hp : tmps.getD p undef = .pointer (some ⟨g, 0, none⟩)) (hg : w.heap[g]? = some (.cells cs t fr))
    (hu : P.underlying ty = some d) (hd : (match d with | .struct _ | .array _ _ => true | _ => false) = true) (hi : (P.info? ty).map (·.size) = some cs.size) :
    (results fn tmps).run P w = .ok (.tuple #[.agg cs, tmps.getD q undef]) w := by
  have hp' : tmps[p]?.getD undef = .pointer (some ⟨g, 0, none⟩) := by simpa using hp
  simp [results, h, hp', asAddr, run_loadVar_row w g t ty cs fr d hg hu hd hi]
theorem there_blk {w : World} {g : Nat} {t : TypeId} {cs : Array Value} (h : Blk w g t cs) : w.there g 0 cs.size := fun j hj => by
  rw [Nat.zero_add]
  exact ⟨by rw [h.cell j, Array.getElem?_eq_getElem hj]; rfl, h.frozen j⟩
theorem read0_st : ∃ (ss : Nat → List UInt8 × Int) (va : Nat → Int), ss 0 = ([0], 0) ∧ ss 5 = ([], 11) ∧ (∀ i, va i = 0) ∧ Hid ((∀ g W, Rd W g (ss 0).1 (ss 0).2 → Calls Tryd.prog 52 #[.pointer (some ⟨g, 0, none⟩)] W (Reads g (.int .i64 (va 0)) (ss 1).1 (ss 1).2 W)) ∧ (∀ g W, Rd W g (ss 1).1 (ss 1).2 → Calls Tryd.prog 53 #[.pointer (some ⟨g, 0, none⟩)] W (Reads g (.int .i64 (va 1)) (ss 2).1 (ss 2).2 W)) ∧ (∀ g W, Rd W g (ss 2).1 (ss 2).2 → Calls Tryd.prog 53 #[.pointer (some ⟨g, 0, none⟩)] W (Reads g (.int .i64 (va 2)) (ss 3).1 (ss 3).2 W)) ∧ (∀ g W, Rd W g (ss 3).1 (ss 3).2 → Calls Tryd.prog 54 #[.pointer (some ⟨g, 0, none⟩)] W (Reads g (.int .i64 (va 3)) (ss 4).1 (ss 4).2 W)) ∧ (∀ g W, Rd W g (ss 4).1 (ss 4).2 → Calls Tryd.prog 54 #[.pointer (some ⟨g, 0, none⟩)] W (Reads g (.int .i64 (va 4)) (ss 5).1 (ss 5).2 W))) := by
  have h0 := st0_12
  have h1 := st1_12
  refine ⟨ss0, va0, rfl, rfl, fun _ => rfl, Lib.hid ⟨fun g W h => ?_, fun g W h => ?_, fun g W h => ?_, fun g W h => ?_, fun g W h => ?_⟩⟩
  · have := readkind_call g [0] 0 W h
    rw [h0] at this; exact this
  · have := readid_call g [] 11 W h
    rw [h1] at this; exact this
  · have := readid_call g [] 11 W h
    rw [h1] at this; exact this
  · have := readseq_call g [] 11 W h
    rw [h1] at this; exact this
  · have := readseq_call g [] 11 W h
    rw [h1] at this; exact this
abbrev zMV : MV := ⟨0, 0, 0, 0, 0, 0, false, (⟨[], 0, 0, 0, false, []⟩, none, 0), none, [], 0, none, [], 0, 0, 0⟩
theorem zMV_m (w : World) : MsgM w zMV := ⟨⟨Row.nil _ _ _, by decide, by decide, by decide⟩, ⟨Row.nil _ _ _, by simp⟩, by decide, Row.nil _ _ _, by decide⟩
theorem zMV_ok : checkM (mP zMV) = 2 := by decide +kernel
theorem read0_any (B c : Nat) (A : Option Addr) (w : World) (ht : KT w) (h : Row w B A [.int .u8 0]) (hB : B ≤ w.heap.size) :
    Calls Tryd.prog 17 #[.slice A 1 c] w fun e w' => e = .returned (.tuple #[.agg #[.int .i64 0, .int .i64 0, .int .i64 0, .int .i64 0, .int .i64 0, .int .i64 0, .bool false, .string ⟨#[]⟩, .int .i64 0, .int .i64 0, .int .i64 0, .bool false, .slice none 0 0, .slice none 0 0, .slice none 0 0, .int .i64 0, .int .i64 0], .int .i64 11]) ∧ Below w.heap.size w w' := by
  obtain ⟨ss, va, hs0, hs5, hva, HCC⟩ := read0_st
  have hb0 : Below w.heap.size w (w.alloc (.cells #[.int .i64 0, .int .i64 0, .int .i64 0, .int .i64 0, .int .i64 0, .int .i64 0, .bool false, .string ⟨#[]⟩, .int .i64 0, .int .i64 0, .int .i64 0, .bool false, .slice none 0 0, .slice none 0 0, .slice none 0 0, .int .i64 0, .int .i64 0] 34)) := (Below.refl _ _).alloc (Nat.le_refl _) _
  have HN := Lib.hid (new_any B c 1 A [0] rfl (w.alloc (.cells #[.int .i64 0, .int .i64 0, .int .i64 0, .int .i64 0, .int .i64 0, .int .i64 0, .bool false, .string ⟨#[]⟩, .int .i64 0, .int .i64 0, .int .i64 0, .bool false, .slice none 0 0, .slice none 0 0, .slice none 0 0, .int .i64 0, .int .i64 0] 34)) (h.alloc hB _) (by simp; omega) (by decide))
  have HB := Lib.hid hb0
  have HKM := Lib.hid (Blk.new w 34 #[.int .i64 0, .int .i64 0, .int .i64 0, .int .i64 0, .int .i64 0, .int .i64 0, .bool false, .string ⟨#[]⟩, .int .i64 0, .int .i64 0, .int .i64 0, .bool false, .slice none 0 0, .slice none 0 0, .slice none 0 0, .int .i64 0, .int .i64 0])
  have HT := Lib.hid ht
  clear hb0 h ht
  go_enter Tryd.func17, Tryd.ntmps17
  go_wp2_with fail
  refine HN.out.mono ?_
  rintro e w1 ⟨g, rfl, hg, hr, hb⟩
  rw [World.size_alloc] at hg
  have hgz : w.heap.size < g := hg
  have HB1 := Lib.hid (HB.out.trans (hb.mono HB.out.size))
  have HK1 := Lib.hid (HKM.out.below hb HKM.out.lt)
  have HR1 := Lib.hid hr
  have hlg : g < w1.heap.size := rd_lt hr
  clear hb hr hg HN HKM HB
  have HC0 : Hid (∀ W, Rd W g (ss 0).1 (ss 0).2 → Calls Tryd.prog 52 #[.pointer (some ⟨g, 0, none⟩)] W (Reads g (.int .i64 (va 0)) (ss 1).1 (ss 1).2 W)) := Lib.hid fun W h => HCC.out.1 g W h
  have HC1 : Hid (∀ W, Rd W g (ss 1).1 (ss 1).2 → Calls Tryd.prog 53 #[.pointer (some ⟨g, 0, none⟩)] W (Reads g (.int .i64 (va 1)) (ss 2).1 (ss 2).2 W)) := Lib.hid fun W h => HCC.out.2.1 g W h
  have HC2 : Hid (∀ W, Rd W g (ss 2).1 (ss 2).2 → Calls Tryd.prog 53 #[.pointer (some ⟨g, 0, none⟩)] W (Reads g (.int .i64 (va 2)) (ss 3).1 (ss 3).2 W)) := Lib.hid fun W h => HCC.out.2.2.1 g W h
  have HC3 : Hid (∀ W, Rd W g (ss 3).1 (ss 3).2 → Calls Tryd.prog 54 #[.pointer (some ⟨g, 0, none⟩)] W (Reads g (.int .i64 (va 3)) (ss 4).1 (ss 4).2 W)) := Lib.hid fun W h => HCC.out.2.2.2.1 g W h
  have HC4 : Hid (∀ W, Rd W g (ss 4).1 (ss 4).2 → Calls Tryd.prog 54 #[.pointer (some ⟨g, 0, none⟩)] W (Reads g (.int .i64 (va 4)) (ss 5).1 (ss 5).2 W)) := Lib.hid fun W h => HCC.out.2.2.2.2 g W h
  clear HCC
  have HJ0 : Hid (∀ vs, JR (w1.alloc (.cells #[.pointer (some ⟨g, 0, none⟩)] 80)) g w1.heap.size ss va (fun _ => false) vs (w1.alloc (.cells #[.pointer (some ⟨g, 0, none⟩)] 80)).drew) := Lib.hid fun vs => by
    refine ⟨?_, ?_, hlg, (Below.refl _ _).drew, (Blk.new w1 _ _).drew, ⟨0, ⟨by omega, rfl, rfl, rfl, rfl, rfl⟩, ?_⟩, fun i h => (by cases h), fun h => (by cases h), fun h => (by cases h)⟩
    · rw [World.size_alloc]; omega
    · rw [World.size_alloc]; omega
    · rw [hs0]; exact rd_drew (rd_alloc HR1.out _)
  have HVA := Lib.hid hva
  have HS5 := Lib.hid hs5
  clear hva hs0 hs5
  go_wp2
  refine RelyJ.wp_region_byJ [[], [(0, 12)], [], [(2, 14)], [], [(4, 16)], [], [(6, 18)], [], [(8, 20)], [(1, 13), (3, 15), (5, 17), (7, 19), (9, 21)], [], [(10, 22), (11, 5)]] [(0, 12), (1, 13), (2, 14), (3, 15), (4, 16), (5, 17), (6, 18), (7, 19), (8, 20), (9, 21), (10, 22), (11, 5)] (JR (w1.alloc (.cells #[.pointer (some ⟨g, 0, none⟩)] 80)) g w1.heap.size ss va) (by kernel_rfl) (by kernel_rfl) (by kernel_rfl) (by kernel_rfl) (by kernel_rfl) ?_ ?_ ?_
  · exact fun vs => HJ0.out vs
  refine RelyJ.stepsZ_cons (by
    as_aux_lemma =>
    intro S vs w' hS hA hJ
    rw [if_pos (show Region.wanted _ _ = true from rfl)]
    refine RelyJ.gives_mono (R' := fun v w'' => v = .pointer (some ⟨g, 0, none⟩) ∧ w'' = w') ?_ (by rintro v w2 ⟨rfl, rfl⟩; exact hJ.load 0 _ (by decide) rfl)
    have c0 : w'.cell? ⟨w1.heap.size, 0, none⟩ = some (.pointer (some ⟨g, 0, none⟩)) := hJ.ptr.cell 0
    clear hJ hA hS HJ0
    unfold Rely.gives
    simp only [Rely.sel, List.foldl_nil]
    go_simp
    simp [Rely.GivesR]) ?_
  refine RelyJ.stepsZ_cons (by
    as_aux_lemma =>
    intro S vs w' hS hA hJ
    rw [if_pos (show Region.wanted _ _ = true from rfl)]
    have hx : vs 0 = .pointer (some ⟨g, 0, none⟩) := hJ.sp 0 (hA ⟨0, Ground.data⟩ (by simp) rfl)
    obtain ⟨hr, hc⟩ := hJ.at0 hS trivial
    refine RelyJ.gives_mono (R' := fun v w'' => v = .int .i64 (va 0) ∧ Rd w'' g (ss 1).1 (ss 1).2 ∧ w'.grownBy w'' (some g)) ?_ (by rintro v w2 ⟨rfl, h1, h2⟩; exact hJ.call 1 1 _ (by decide) rfl hc h1 h2)
    have HR := Lib.hid hr
    clear hJ hA hS HJ0 hr hc
    unfold Rely.gives
    simp only [Rely.sel, List.foldl_cons, List.foldl_nil, hx]
    go_simp
    simp only [Rely.GivesR]
    refine (HC0.out _ HR.out).mono ?_
    rintro e w3 ⟨rfl, h1, h2⟩
    exact ⟨_, rfl, rfl, h1, h2⟩) ?_
  refine RelyJ.stepsZ_cons (by
    as_aux_lemma =>
    intro S vs w' hS hA hJ
    rw [if_pos (show Region.wanted _ _ = true from rfl)]
    refine RelyJ.gives_mono (R' := fun v w'' => v = .pointer (some ⟨g, 0, none⟩) ∧ w'' = w') ?_ (by rintro v w2 ⟨rfl, rfl⟩; exact hJ.load 2 _ (by decide) rfl)
    have c0 : w'.cell? ⟨w1.heap.size, 0, none⟩ = some (.pointer (some ⟨g, 0, none⟩)) := hJ.ptr.cell 0
    clear hJ hA hS HJ0
    unfold Rely.gives
    simp only [Rely.sel, List.foldl_nil]
    go_simp
    simp [Rely.GivesR]) ?_
  refine RelyJ.stepsZ_cons (by
    as_aux_lemma =>
    intro S vs w' hS hA hJ
    rw [if_pos (show Region.wanted _ _ = true from rfl)]
    have hx : vs 2 = .pointer (some ⟨g, 0, none⟩) := hJ.sp 2 (hA ⟨2, Ground.data⟩ (by simp) rfl)
    obtain ⟨hr, hc⟩ := hJ.at1 hS (hA ⟨1, Ground.chain⟩ (by simp) rfl)
    refine RelyJ.gives_mono (R' := fun v w'' => v = .int .i64 (va 1) ∧ Rd w'' g (ss 2).1 (ss 2).2 ∧ w'.grownBy w'' (some g)) ?_ (by rintro v w2 ⟨rfl, h1, h2⟩; exact hJ.call 3 2 _ (by decide) rfl hc h1 h2)
    have HR := Lib.hid hr
    clear hJ hA hS HJ0 hr hc
    unfold Rely.gives
    simp only [Rely.sel, List.foldl_cons, List.foldl_nil, hx]
    go_simp
    simp only [Rely.GivesR]
    refine (HC1.out _ HR.out).mono ?_
    rintro e w3 ⟨rfl, h1, h2⟩
    exact ⟨_, rfl, rfl, h1, h2⟩) ?_
  refine RelyJ.stepsZ_cons (by
    as_aux_lemma =>
    intro S vs w' hS hA hJ
    rw [if_pos (show Region.wanted _ _ = true from rfl)]
    refine RelyJ.gives_mono (R' := fun v w'' => v = .pointer (some ⟨g, 0, none⟩) ∧ w'' = w') ?_ (by rintro v w2 ⟨rfl, rfl⟩; exact hJ.load 4 _ (by decide) rfl)
    have c0 : w'.cell? ⟨w1.heap.size, 0, none⟩ = some (.pointer (some ⟨g, 0, none⟩)) := hJ.ptr.cell 0
    clear hJ hA hS HJ0
    unfold Rely.gives
    simp only [Rely.sel, List.foldl_nil]
    go_simp
    simp [Rely.GivesR]) ?_
  refine RelyJ.stepsZ_cons (by
    as_aux_lemma =>
    intro S vs w' hS hA hJ
    rw [if_pos (show Region.wanted _ _ = true from rfl)]
    have hx : vs 4 = .pointer (some ⟨g, 0, none⟩) := hJ.sp 4 (hA ⟨4, Ground.data⟩ (by simp) rfl)
    obtain ⟨hr, hc⟩ := hJ.at2 hS (hA ⟨3, Ground.chain⟩ (by simp) rfl)
    refine RelyJ.gives_mono (R' := fun v w'' => v = .int .i64 (va 2) ∧ Rd w'' g (ss 3).1 (ss 3).2 ∧ w'.grownBy w'' (some g)) ?_ (by rintro v w2 ⟨rfl, h1, h2⟩; exact hJ.call 5 3 _ (by decide) rfl hc h1 h2)
    have HR := Lib.hid hr
    clear hJ hA hS HJ0 hr hc
    unfold Rely.gives
    simp only [Rely.sel, List.foldl_cons, List.foldl_nil, hx]
    go_simp
    simp only [Rely.GivesR]
    refine (HC2.out _ HR.out).mono ?_
    rintro e w3 ⟨rfl, h1, h2⟩
    exact ⟨_, rfl, rfl, h1, h2⟩) ?_
  refine RelyJ.stepsZ_cons (by
    as_aux_lemma =>
    intro S vs w' hS hA hJ
    rw [if_pos (show Region.wanted _ _ = true from rfl)]
    refine RelyJ.gives_mono (R' := fun v w'' => v = .pointer (some ⟨g, 0, none⟩) ∧ w'' = w') ?_ (by rintro v w2 ⟨rfl, rfl⟩; exact hJ.load 6 _ (by decide) rfl)
    have c0 : w'.cell? ⟨w1.heap.size, 0, none⟩ = some (.pointer (some ⟨g, 0, none⟩)) := hJ.ptr.cell 0
    clear hJ hA hS HJ0
    unfold Rely.gives
    simp only [Rely.sel, List.foldl_nil]
    go_simp
    simp [Rely.GivesR]) ?_
  refine RelyJ.stepsZ_cons (by
    as_aux_lemma =>
    intro S vs w' hS hA hJ
    rw [if_pos (show Region.wanted _ _ = true from rfl)]
    have hx : vs 6 = .pointer (some ⟨g, 0, none⟩) := hJ.sp 6 (hA ⟨6, Ground.data⟩ (by simp) rfl)
    obtain ⟨hr, hc⟩ := hJ.at3 hS (hA ⟨5, Ground.chain⟩ (by simp) rfl)
    refine RelyJ.gives_mono (R' := fun v w'' => v = .int .i64 (va 3) ∧ Rd w'' g (ss 4).1 (ss 4).2 ∧ w'.grownBy w'' (some g)) ?_ (by rintro v w2 ⟨rfl, h1, h2⟩; exact hJ.call 7 4 _ (by decide) rfl hc h1 h2)
    have HR := Lib.hid hr
    clear hJ hA hS HJ0 hr hc
    unfold Rely.gives
    simp only [Rely.sel, List.foldl_cons, List.foldl_nil, hx]
    go_simp
    simp only [Rely.GivesR]
    refine (HC3.out _ HR.out).mono ?_
    rintro e w3 ⟨rfl, h1, h2⟩
    exact ⟨_, rfl, rfl, h1, h2⟩) ?_
  refine RelyJ.stepsZ_cons (by
    as_aux_lemma =>
    intro S vs w' hS hA hJ
    rw [if_pos (show Region.wanted _ _ = true from rfl)]
    refine RelyJ.gives_mono (R' := fun v w'' => v = .pointer (some ⟨g, 0, none⟩) ∧ w'' = w') ?_ (by rintro v w2 ⟨rfl, rfl⟩; exact hJ.load 8 _ (by decide) rfl)
    have c0 : w'.cell? ⟨w1.heap.size, 0, none⟩ = some (.pointer (some ⟨g, 0, none⟩)) := hJ.ptr.cell 0
    clear hJ hA hS HJ0
    unfold Rely.gives
    simp only [Rely.sel, List.foldl_nil]
    go_simp
    simp [Rely.GivesR]) ?_
  refine RelyJ.stepsZ_cons (by
    as_aux_lemma =>
    intro S vs w' hS hA hJ
    rw [if_pos (show Region.wanted _ _ = true from rfl)]
    have hx : vs 8 = .pointer (some ⟨g, 0, none⟩) := hJ.sp 8 (hA ⟨8, Ground.data⟩ (by simp) rfl)
    obtain ⟨hr, hc⟩ := hJ.at4 hS (hA ⟨7, Ground.chain⟩ (by simp) rfl)
    refine RelyJ.gives_mono (R' := fun v w'' => v = .int .i64 (va 4) ∧ Rd w'' g (ss 5).1 (ss 5).2 ∧ w'.grownBy w'' (some g)) ?_ (by rintro v w2 ⟨rfl, h1, h2⟩; exact hJ.call 9 5 _ (by decide) rfl hc h1 h2)
    have HR := Lib.hid hr
    clear hJ hA hS HJ0 hr hc
    unfold Rely.gives
    simp only [Rely.sel, List.foldl_cons, List.foldl_nil, hx]
    go_simp
    simp only [Rely.GivesR]
    refine (HC4.out _ HR.out).mono ?_
    rintro e w3 ⟨rfl, h1, h2⟩
    exact ⟨_, rfl, rfl, h1, h2⟩) ?_
  refine RelyJ.stepsZ_cons (by
    as_aux_lemma =>
    intro S vs w' hS hA hJ
    rw [if_pos (show Region.wanted _ _ = true from rfl)]
    have x1 : vs 1 = .int .i64 (va 0) := hJ.sp 1 (hA ⟨1, Ground.data⟩ (by simp) rfl)
    have x3 : vs 3 = .int .i64 (va 1) := hJ.sp 3 (hA ⟨3, Ground.data⟩ (by simp) rfl)
    have x5 : vs 5 = .int .i64 (va 2) := hJ.sp 5 (hA ⟨5, Ground.data⟩ (by simp) rfl)
    have x7 : vs 7 = .int .i64 (va 3) := hJ.sp 7 (hA ⟨7, Ground.data⟩ (by simp) rfl)
    have x9 : vs 9 = .int .i64 (va 4) := hJ.sp 9 (hA ⟨9, Ground.data⟩ (by simp) rfl)
    have hj : JR _ g w1.heap.size ss va (RelyJ.up S 10 true) (RelyJ.up vs 10 (.agg #[.int .i64 (va 0), .int .i64 (va 1), .int .i64 (va 2), .int .i64 (va 3), .int .i64 (va 4), .int .i64 0, .bool false, .string ⟨#[]⟩, .int .i64 0, .int .i64 0, .int .i64 0, .bool false, .slice none 0 0, .slice none 0 0, .slice none 0 0, .int .i64 0, .int .i64 0])) w' := hJ.load 10 _ (by decide) rfl
    clear hJ hA hS HJ0
    simp only [Rely.sel, List.foldl_cons, List.foldl_nil, x1, x3, x5, x7, x9]
    exact gives_build12 34 _ rfl #[.int .i64 (va 0), .int .i64 (va 1), .int .i64 (va 2), .int .i64 (va 3), .int .i64 (va 4), .int .i64 0, .bool false, .string ⟨#[]⟩, .int .i64 0, .int .i64 0, .int .i64 0, .bool false, .slice none 0 0, .slice none 0 0, .slice none 0 0, .int .i64 0, .int .i64 0] [(0, .int .i64 (va 0)), (1, .int .i64 (va 1)), (2, .int .i64 (va 2)), (3, .int .i64 (va 3)), (4, .int .i64 (va 4))] (by go_simp) (by kernel_rfl) hj) ?_
  refine RelyJ.stepsZ_cons (by
    as_aux_lemma =>
    intro S vs w' hS hA hJ
    rw [if_pos (show Region.wanted _ _ = true from rfl)]
    have h12 : S 12 = false := by
      cases h6 : S 12
      · rfl
      · exact absurd (hJ.c12 h6) (by rw [hS]; decide)
    refine RelyJ.gives_mono (R' := fun v w'' => v = .pointer (some ⟨w'.heap.size, 0, none⟩) ∧ w'' = w'.alloc (.cells #[.int .i64 0, .int .i64 0, .int .i64 0, .int .i64 0, .int .i64 0, .int .i64 0, .bool false, .string ⟨#[]⟩, .int .i64 0, .int .i64 0, .int .i64 0, .bool false, .slice none 0 0, .slice none 0 0, .slice none 0 0, .int .i64 0, .int .i64 0] 34)) ?_ (by rintro v w2 ⟨rfl, rfl⟩; exact hJ.alloc h12)
    clear hJ hA hS h12 HJ0
    unfold Rely.gives
    simp only [Rely.sel, List.foldl_nil]
    go_simp
    simp [Rely.GivesR]) ?_
  refine RelyJ.stepsZ_cons (by
    as_aux_lemma =>
    intro S vs w' hS hA hJ
    rw [if_pos (show Region.wanted _ _ = true from rfl)]
    have hx : vs 10 = .agg #[.int .i64 (va 0), .int .i64 (va 1), .int .i64 (va 2), .int .i64 (va 3), .int .i64 (va 4), .int .i64 0, .bool false, .string ⟨#[]⟩, .int .i64 0, .int .i64 0, .int .i64 0, .bool false, .slice none 0 0, .slice none 0 0, .slice none 0 0, .int .i64 0, .int .i64 0] := hJ.sp 10 (hA ⟨10, Ground.data⟩ (by simp) rfl)
    have hd := hA ⟨11, Ground.data⟩ (by simp) rfl
    obtain ⟨p, hp, hp0, hp1, hp2'⟩ := hJ.v11 hd
    have hz := hp1 hS
    have hj := hJ.store hd hp hp0 hz
    have hth := there_blk hz
    clear hJ hA hS hp0 hp1 hp2' hz hd HJ0
    simp only [Rely.sel, List.foldl_cons, List.foldl_nil, hx, hp]
    exact gives_store12 34 _ _ rfl p 0 #[.int .i64 (va 0), .int .i64 (va 1), .int .i64 (va 2), .int .i64 (va 3), .int .i64 (va 4), .int .i64 0, .bool false, .string ⟨#[]⟩, .int .i64 0, .int .i64 0, .int .i64 0, .bool false, .slice none 0 0, .slice none 0 0, .slice none 0 0, .int .i64 0, .int .i64 0] rfl rfl hth (by kernel_rfl) (by kernel_rfl) hj) ?_
  exact RelyJ.stepsZ_nil
  intro S vs w' hS hJ
  have hva := HVA.out
  have hs5 := HS5.out
  have x0 : vs 0 = .pointer (some ⟨g, 0, none⟩) := hJ.sp 0 (hS 0 (by decide))
  have x2 : vs 2 = .pointer (some ⟨g, 0, none⟩) := hJ.sp 2 (hS 2 (by decide))
  have x4 : vs 4 = .pointer (some ⟨g, 0, none⟩) := hJ.sp 4 (hS 4 (by decide))
  have x6 : vs 6 = .pointer (some ⟨g, 0, none⟩) := hJ.sp 6 (hS 6 (by decide))
  have x8 : vs 8 = .pointer (some ⟨g, 0, none⟩) := hJ.sp 8 (hS 8 (by decide))
  have x1 : vs 1 = .int .i64 0 := (show vs 1 = .int .i64 (va 0) from hJ.sp 1 (hS 1 (by decide))).trans (by rw [hva])
  have x3 : vs 3 = .int .i64 0 := (show vs 3 = .int .i64 (va 1) from hJ.sp 3 (hS 3 (by decide))).trans (by rw [hva])
  have x5 : vs 5 = .int .i64 0 := (show vs 5 = .int .i64 (va 2) from hJ.sp 5 (hS 5 (by decide))).trans (by rw [hva])
  have x7 : vs 7 = .int .i64 0 := (show vs 7 = .int .i64 (va 3) from hJ.sp 7 (hS 7 (by decide))).trans (by rw [hva])
  have x9 : vs 9 = .int .i64 0 := (show vs 9 = .int .i64 (va 4) from hJ.sp 9 (hS 9 (by decide))).trans (by rw [hva])
  have x10 : vs 10 = .agg #[.int .i64 0, .int .i64 0, .int .i64 0, .int .i64 0, .int .i64 0, .int .i64 0, .bool false, .string ⟨#[]⟩, .int .i64 0, .int .i64 0, .int .i64 0, .bool false, .slice none 0 0, .slice none 0 0, .slice none 0 0, .int .i64 0, .int .i64 0] := (show vs 10 = .agg #[.int .i64 (va 0), .int .i64 (va 1), .int .i64 (va 2), .int .i64 (va 3), .int .i64 (va 4), .int .i64 0, .bool false, .string ⟨#[]⟩, .int .i64 0, .int .i64 0, .int .i64 0, .bool false, .slice none 0 0, .slice none 0 0, .slice none 0 0, .int .i64 0, .int .i64 0] from hJ.sp 10 (hS 10 (by decide))).trans (by simp only [hva])
  obtain ⟨p, hp, hp0, _, hpb⟩ := hJ.v11 (hS 11 (by decide))
  have hP := hpb (hS 12 (by decide))
  simp only [hva] at hP
  obtain ⟨n, hn, hr⟩ := hJ.cnt
  have hn5 : n = 5 := (cnt_at hn).2.2.2.2.2 (hS 9 (by decide))
  rw [hn5, hs5] at hr
  have hB2 : Below w.heap.size w w' := (HB1.out.trans (((Below.refl w.heap.size w1).alloc (Nat.le_of_lt (Nat.lt_trans hgz hlg)) _))).trans (hJ.bel.mono (Nat.le_of_lt hgz))
  have hK2 : Blk w' w.heap.size 34 #[.int .i64 0, .int .i64 0, .int .i64 0, .int .i64 0, .int .i64 0, .int .i64 0, .bool false, .string ⟨#[]⟩, .int .i64 0, .int .i64 0, .int .i64 0, .bool false, .slice none 0 0, .slice none 0 0, .slice none 0 0, .int .i64 0, .int .i64 0] := (HK1.out.alloc _).below hJ.bel hgz
  simp only [Rely.sel, List.foldl_cons, List.foldl_nil, x0, x1, x2, x3, x4, x5, x6, x7, x8, x9, x10, hp]
  simp only [Act.put, List.setIfInBounds_toArray, List.set_cons_succ, List.set_cons_zero]
  obtain ⟨W4, hW4⟩ : ∃ W4, w'.alloc (.cells #[.func (.func 55) #[] #[.pointer (some ⟨w1.heap.size, 0, none⟩), .pointer (some ⟨p, 0, none⟩)], .func (.func 56) #[] #[.pointer (some ⟨w1.heap.size, 0, none⟩), .pointer (some ⟨p, 0, none⟩)], .func (.func 58) #[] #[.pointer (some ⟨w1.heap.size, 0, none⟩), .pointer (some ⟨p, 0, none⟩)], .func (.func 60) #[] #[.pointer (some ⟨w1.heap.size, 0, none⟩), .pointer (some ⟨p, 0, none⟩)], .func (.func 62) #[] #[.pointer (some ⟨w1.heap.size, 0, none⟩), .pointer (some ⟨p, 0, none⟩)]] 70) = W4 := ⟨_, rfl⟩
  have hal : Below w'.heap.size w' W4 := by rw [← hW4]; exact (Below.refl _ _).alloc (Nat.le_refl _) _
  have HB4 := Lib.hid (hB2.trans (hal.mono hB2.size))
  have HK4 := Lib.hid (hK2.below hal hK2.lt)
  have HQ4 := Lib.hid (hJ.ptr.below hal hJ.ptr.lt)
  have HP4 := Lib.hid (hP.below hal hP.lt)
  have HR4 : Hid (Rd W4 g [] 11) := Lib.hid (rd_below hr hal)
  have HT4 := Lib.hid (HT.out.below HB4.out)
  have c0 : w'.cell? ⟨p, 0, none⟩ = some (.int .i64 0) := hP.cell 0
  have d0 : W4.cell? ⟨p, 0, none⟩ = some (.int .i64 0) := HP4.out.cell 0
  have HFK := Lib.hid (fields_any 0 W4 HT4.out)
  unfold FldE fldV b5 at HFK
  rw [show hasN 0 = false from by decide, show hasF 0 = false from by decide, show hasE 0 = false from by decide, show hasL 0 = false from by decide, show hasR 0 = false from by decide] at HFK
  clear hS hJ x0 x1 x2 x3 x4 x5 x6 x7 x8 x9 x10 hp hpb hP hn hr hn5 hB2 hK2 hal HC0 HC1 HC2 HC3 HC4 HJ0 HS5 HVA hs5 hva HB1 HK1 HR1 HT
  go_wp2_with fail
  refine HFK.out.mono ?_
  rintro e w5 ⟨rfl, hb5⟩
  clear hW4 c0 d0
  have HB5 := Lib.hid (HB4.out.trans (hb5.mono HB4.out.size))
  have HK5 := Lib.hid (HK4.out.below hb5 HK4.out.lt)
  have HQ5 := Lib.hid (HQ4.out.below hb5 HQ4.out.lt)
  have HP5 := Lib.hid (HP4.out.below hb5 HP4.out.lt)
  have HR5 : Hid (Rd w5 g [] 11) := Lib.hid (rd_below HR4.out hb5)
  have HT5 := Lib.hid (HT4.out.below hb5)
  clear hb5 HB4 HK4 HQ4 HP4 HR4 HT4 HFK
  have ix0 := fun W => idxb_0 false false false false false W
  have ix1 := fun W => idxb_1 false false false false false W
  have ix2 := fun W => idxb_2 false false false false false W
  have ix3 := fun W => idxb_3 false false false false false W
  have ix4 := fun W => idxb_4 false false false false false W
  have HCK := Lib.hid (checkm_any zMV w5 HT5.out (zMV_m w5))
  rw [zMV_ok] at HCK
  unfold zMV at HCK
  go_wp2
  go_loopw [32] (fun i wr => ∃ j : Nat, j ≤ 5 ∧ i = .int .i64 j ∧ wr = w5) (fun i _ => 5 - (intOf i).toNat)
  case atStart => exact ⟨0, by omega, rfl, rfl⟩
  case round =>
    obtain ⟨j, hj, rfl, rfl⟩ := hrel
    match j, hj with
    | 0, _ => as_aux_lemma =>
      go_wp2
      go_roundw
      case rel => exact ⟨1, by omega, rfl, trivial⟩
      case measure => simp [intOf]
    | 1, _ => as_aux_lemma =>
      go_wp2
      go_roundw
      case rel => exact ⟨2, by omega, rfl, trivial⟩
      case measure => simp [intOf]
    | 2, _ => as_aux_lemma =>
      go_wp2
      go_roundw
      case rel => exact ⟨3, by omega, rfl, trivial⟩
      case measure => simp [intOf]
    | 3, _ => as_aux_lemma =>
      go_wp2
      go_roundw
      case rel => exact ⟨4, by omega, rfl, trivial⟩
      case measure => simp [intOf]
    | 4, _ => as_aux_lemma =>
      go_wp2
      go_roundw
      case rel => exact ⟨5, by omega, rfl, trivial⟩
      case measure => simp [intOf]
    | 5, _ =>
      go_wp2_with (refine wpList_load_row rfl 34 _ rfl _ rfl _ _ _ _ (show _ = _ from HP5.out) Tryd.underlying34 rfl (by kernel_rfl) ?_)
      refine HCK.out.mono ?_
      rintro e w6 ⟨rfl, hb6⟩
      have HB6 := Lib.hid (HB5.out.trans (hb6.mono HB5.out.size))
      have HK6 := Lib.hid (HK5.out.below hb6 HK5.out.lt)
      have HQ6 := Lib.hid (HQ5.out.below hb6 HQ5.out.lt)
      have HR6 : Hid (Rd w6 g [] 11) := Lib.hid (rd_below HR5.out hb6)
      have q6 : w6.cell? ⟨w1.heap.size, 0, none⟩ = some (.pointer (some ⟨g, 0, none⟩)) := HQ6.out.cell 0
      clear hb6 HB5 HK5 HQ5 HR5 HCK ix0 ix1 ix2 ix3 ix4
      go_wp2_with fail
      refine (fail_call g [] 11 w6 HR6.out).mono ?_
      rintro e w7 ⟨rfl, hr7, hg7⟩
      rw [if_neg (by decide)] at hr7
      have hne : w1.heap.size ≠ g := Nat.ne_of_gt hlg
      have HQ7 := Lib.hid (HQ6.out.grown hg7 (fun e => by injection e with e; omega))
      have HK7 := Lib.hid (HK6.out.grown hg7 (fun e => by injection e with e; omega))
      have HB7 := Lib.hid (below_grown HB6.out hg7 HB6.out.size (Nat.le_of_lt hgz))
      have HR7 := Lib.hid hr7
      have q7 : w7.cell? ⟨w1.heap.size, 0, none⟩ = some (.pointer (some ⟨g, 0, none⟩)) := HQ7.out.cell 0
      clear hr7 hg7 q6 HQ6 HK6 HB6 HR6
      have HEND := Lib.hid (end_any g [] 11 w7 HR7.out)
      rw [show endZ [] 11 = 11 from by decide] at HEND
      go_wp2_with fail
      refine HEND.out.mono ?_
      rintro e w8 ⟨rfl, rfl⟩
      have HTH := Lib.hid (there_blk HK7.out)
      have HK8 : Hid (Blk (((((((((((((((((w7.setCell ⟨w.heap.size, 0, none⟩ (.int .i64 0)).setCell ⟨w.heap.size, 1, none⟩ (.int .i64 0)).setCell ⟨w.heap.size, 2, none⟩ (.int .i64 0)).setCell ⟨w.heap.size, 3, none⟩ (.int .i64 0)).setCell ⟨w.heap.size, 4, none⟩ (.int .i64 0)).setCell ⟨w.heap.size, 5, none⟩ (.int .i64 0)).setCell ⟨w.heap.size, 6, none⟩ (.bool false)).setCell ⟨w.heap.size, 7, none⟩ (.string ⟨#[]⟩)).setCell ⟨w.heap.size, 8, none⟩ (.int .i64 0)).setCell ⟨w.heap.size, 9, none⟩ (.int .i64 0)).setCell ⟨w.heap.size, 10, none⟩ (.int .i64 0)).setCell ⟨w.heap.size, 11, none⟩ (.bool false)).setCell ⟨w.heap.size, 12, none⟩ (.slice none 0 0)).setCell ⟨w.heap.size, 13, none⟩ (.slice none 0 0)).setCell ⟨w.heap.size, 14, none⟩ (.slice none 0 0)).setCell ⟨w.heap.size, 15, none⟩ (.int .i64 0)).setCell ⟨w.heap.size, 16, none⟩ (.int .i64 0)) w.heap.size 34 #[.int .i64 0, .int .i64 0, .int .i64 0, .int .i64 0, .int .i64 0, .int .i64 0, .bool false, .string ⟨#[]⟩, .int .i64 0, .int .i64 0, .int .i64 0, .bool false, .slice none 0 0, .slice none 0 0, .slice none 0 0, .int .i64 0, .int .i64 0]) := Lib.hid (set17 HK7.out (.int .i64 0) (.int .i64 0) (.int .i64 0) (.int .i64 0) (.int .i64 0) (.int .i64 0) (.bool false) (.string ⟨#[]⟩) (.int .i64 0) (.int .i64 0) (.int .i64 0) (.bool false) (.slice none 0 0) (.slice none 0 0) (.slice none 0 0) (.int .i64 0) (.int .i64 0))
      have HB8 : Hid (Below w.heap.size w (((((((((((((((((w7.setCell ⟨w.heap.size, 0, none⟩ (.int .i64 0)).setCell ⟨w.heap.size, 1, none⟩ (.int .i64 0)).setCell ⟨w.heap.size, 2, none⟩ (.int .i64 0)).setCell ⟨w.heap.size, 3, none⟩ (.int .i64 0)).setCell ⟨w.heap.size, 4, none⟩ (.int .i64 0)).setCell ⟨w.heap.size, 5, none⟩ (.int .i64 0)).setCell ⟨w.heap.size, 6, none⟩ (.bool false)).setCell ⟨w.heap.size, 7, none⟩ (.string ⟨#[]⟩)).setCell ⟨w.heap.size, 8, none⟩ (.int .i64 0)).setCell ⟨w.heap.size, 9, none⟩ (.int .i64 0)).setCell ⟨w.heap.size, 10, none⟩ (.int .i64 0)).setCell ⟨w.heap.size, 11, none⟩ (.bool false)).setCell ⟨w.heap.size, 12, none⟩ (.slice none 0 0)).setCell ⟨w.heap.size, 13, none⟩ (.slice none 0 0)).setCell ⟨w.heap.size, 14, none⟩ (.slice none 0 0)).setCell ⟨w.heap.size, 15, none⟩ (.int .i64 0)).setCell ⟨w.heap.size, 16, none⟩ (.int .i64 0))) := Lib.hid (below_grown HB7.out (gr17 w7 w.heap.size (.int .i64 0) (.int .i64 0) (.int .i64 0) (.int .i64 0) (.int .i64 0) (.int .i64 0) (.bool false) (.string ⟨#[]⟩) (.int .i64 0) (.int .i64 0) (.int .i64 0) (.bool false) (.slice none 0 0) (.slice none 0 0) (.slice none 0 0) (.int .i64 0) (.int .i64 0)) HB7.out.size (Nat.le_refl _))
      go_wp2_with (refine wpList_store_mid rfl 34 _ _ rfl w.heap.size 0 #[.int .i64 0, .int .i64 0, .int .i64 0, .int .i64 0, .int .i64 0, .int .i64 0, .bool false, .string ⟨#[]⟩, .int .i64 0, .int .i64 0, .int .i64 0, .bool false, .slice none 0 0, .slice none 0 0, .slice none 0 0, .int .i64 0, .int .i64 0] rfl rfl HTH.out (by kernel_rfl) (by kernel_rfl) ?_)
      exact bodyPost_ret (v := .tuple #[.agg #[.int .i64 0, .int .i64 0, .int .i64 0, .int .i64 0, .int .i64 0, .int .i64 0, .bool false, .string ⟨#[]⟩, .int .i64 0, .int .i64 0, .int .i64 0, .bool false, .slice none 0 0, .slice none 0 0, .slice none 0 0, .int .i64 0, .int .i64 0], .int .i64 11]) (results_cell_row2 (p := 2) (q := 3) (ty := 34) Tryd.results17 _ _ w.heap.size 34 #[.int .i64 0, .int .i64 0, .int .i64 0, .int .i64 0, .int .i64 0, .int .i64 0, .bool false, .string ⟨#[]⟩, .int .i64 0, .int .i64 0, .int .i64 0, .bool false, .slice none 0 0, .slice none 0 0, .slice none 0 0, .int .i64 0, .int .i64 0] (0, 0) _ rfl HK8.out Tryd.underlying34 rfl (by kernel_rfl)) rfl ⟨rfl, HB8.out⟩
end Go.Proofs.YtgmennblbeefhaaDoor
