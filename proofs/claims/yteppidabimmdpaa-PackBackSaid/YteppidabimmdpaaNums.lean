/- All numbers that bytes are, by the program: a panic that is recovered. -/
import Derived.Test.YteppidabimmdpaaSames
import Derived.Test.YteppidabimmdpaaOne
import Derived.Recover
import Derived.WideLaws
import Derived.Deep.RegionLaw
import Derived.Deep.RegionHeld3
import Derived.Deep.LoopGhost
import Derived.Laws.Pointers
namespace Go.Proofs.Yteppidabimmdpaa
open Go.RowKit Mem Be
set_option maxRecDepth 10000
set_option maxHeartbeats 1000000
theorem caught_nil (w : World) : Calls Try.prog 34 #[.nilIface] w fun e w' => e = .returned (.int .i64 0) ∧ w = w' := by
  go_enter Try.func34, Try.ntmps34
  go_wp2
  go_ret
  exact ⟨rfl, rfl⟩
theorem assert_err (er : Int) (w : World) : (Instr.typeAssert (.iface 24 (.int .i64 er)) 20 24 true).run Try.prog w = .ok (.tuple #[.int .i64 er, .bool true]) w := by
  simp [Instr.typeAssert, run_underlying Try.underlying24]
theorem caught_err (er : Int) (w : World) : Calls Try.prog 34 #[.iface 24 (.int .i64 er)] w fun e w' => e = .returned (.int .i64 er) ∧ w = w' := by
  have ha := assert_err er
  go_enter Try.func34, Try.ntmps34
  go_wp2
  go_ret
  exact ⟨rfl, rfl⟩
/-- The closure that reads one number: it is there, or the error is thrown. -/
theorem next_yes (p g : Nat) (rest : List UInt8) (x : Int) (k : Nat) (hg : getN rest = (x, k, 0)) (w : World) (hp : w.cell? ⟨p, 0, none⟩ = some (.pointer (some ⟨g, 0, none⟩))) (hpg : g < p) (h : Rd w g rest 0) :
    Calls Try.prog 35 #[.pointer (some ⟨p, 0, none⟩)] w (Reads g (.int .i64 x) (rest.drop k) 0 w) := by
  have HD := Lib.hid h
  have HP := Lib.hid hp
  have HS : Hid (stepN rest 0 = (x, rest.drop k, 0)) := Lib.hid (by unfold stepN; rw [if_pos rfl, hg])
  clear h hg
  go_enter Try.func35, Try.ntmps35
  go_wp2_with fail
  refine (num_call g _ 0 _ HD.out).mono ?_
  rw [HS.out]
  rintro e w1 ⟨rfl, hrd, hgr⟩
  have HD1 := Lib.hid hrd
  have HG1 := Lib.hid hgr
  have hp1 := hgr.cell HP.out (fun e => by injection e with e; exact Nat.ne_of_gt hpg e)
  clear hrd hgr
  go_wp2_with fail
  refine (failed_no g _ _ HD1.out).mono ?_
  rintro e w' ⟨rfl, rfl⟩
  go_wp2
  go_ret
  exact ⟨rfl, HD1.out, HG1.out⟩
def Throws (g : Nat) (rest : List UInt8) (er : Int) (w : World) (e : Ending) (w' : World) : Prop :=
  e = .panicked [{ v := .iface 24 (.int .i64 er), recovered := false }] ∧ Rd w' g rest er ∧ w.grownBy w' (some g)
theorem next_no (p g : Nat) (rest : List UInt8) (x : Int) (k : Nat) (er : Int) (hg : getN rest = (x, k, er)) (he : er ≠ 0) (w : World) (hp : w.cell? ⟨p, 0, none⟩ = some (.pointer (some ⟨g, 0, none⟩))) (hpg : g < p) (h : Rd w g rest 0) :
    Calls Try.prog 35 #[.pointer (some ⟨p, 0, none⟩)] w (Throws g (rest.drop k) er w) := by
  have HD := Lib.hid h
  have HP := Lib.hid hp
  have HE := Lib.hid he
  have HS : Hid (stepN rest 0 = (x, rest.drop k, er)) := Lib.hid (by unfold stepN; rw [if_pos rfl, hg])
  have HEE : Hid (endZ (rest.drop k) er = er) := Lib.hid (end_no _ er he)
  clear h hg he
  go_enter Try.func35, Try.ntmps35
  go_wp2_with fail
  refine (num_call g _ 0 _ HD.out).mono ?_
  rw [HS.out]
  rintro e w1 ⟨rfl, hrd, hgr⟩
  have HD1 := Lib.hid hrd
  have HG1 := Lib.hid hgr
  have hp1 := hgr.cell HP.out (fun e => by injection e with e; exact Nat.ne_of_gt hpg e)
  clear hrd hgr
  go_wp2_with fail
  refine (failed_yes g _ er HE.out _ HD1.out).mono ?_
  rintro e w' ⟨rfl, rfl⟩
  go_wp2_with fail
  refine (end_any g _ er _ HD1.out).mono ?_
  rw [HEE.out]
  rintro e w' ⟨rfl, rfl⟩
  go_wp2
  exact ⟨rfl, rfl, HD1.out, HG1.out⟩
theorem door_panic (pe pl : Nat) (er : Int) (he : er ≠ 0) (older : List PanicEntry) (w : World) (hc : w.cell? ⟨pe, 0, none⟩ = some (.int .i64 0)) (hz : w.frozen? ⟨pe, 0, none⟩ = false) (v : Value) (hl : w.cell? ⟨pl, 0, none⟩ = some v) (hlz : w.frozen? ⟨pl, 0, none⟩ = false) (hne : pe ≠ pl) :
    CallsD Try.prog 33 #[.pointer (some ⟨pe, 0, none⟩), .pointer (some ⟨pl, 0, none⟩)] (.panicking ({ v := .iface 24 (.int .i64 er), recovered := false } :: older)) w fun e u' w' =>
      e = .returned (.tuple #[]) ∧ u' = .panicking ({ v := .iface 24 (.int .i64 er), recovered := true } :: older) ∧ w' = (w.setCell ⟨pe, 0, none⟩ (.int .i64 er)).setCell ⟨pl, 0, none⟩ (.slice none 0 0) := by
  refine callsD_of_wpS Try.func33 rfl fun c₀ cs hu => ?_
  apply wpS_seq
  apply wpS_region
  simp [wpOpsS, go_sem, recoverD, hu, Try.ntmps33, Exit.thenS]
  refine (caught_err er w).mono ?_
  rintro e w' ⟨rfl, rfl⟩
  simp [go_sem, hc, hz]
  apply wpS_seq
  apply wpS_region
  simp [wpOpsS, go_sem, hc, Exit.thenS]
  refine wpS_cond (t := true) (by simp [Act.eval, Array.replicate, he]) ?_
  simp only [if_true]
  apply wpS_region
  have hl' : (w.setCell ⟨pe, 0, none⟩ (.int .i64 er)).cell? ⟨pl, 0, none⟩ = some v := by
    rw [World.cell?_setCell_other _ _ _ _ (fun e => hne (by injection e))]; exact hl
  simp [wpOpsS, go_sem, hl', hlz, bodyPostS, results, Try.results33]
theorem door_idle (pe pl : Nat) (w : World) (hc : w.cell? ⟨pe, 0, none⟩ = some (.int .i64 0)) (hz : w.frozen? ⟨pe, 0, none⟩ = false) :
    CallsD Try.prog 33 #[.pointer (some ⟨pe, 0, none⟩), .pointer (some ⟨pl, 0, none⟩)] .returning w fun e u' w' =>
      e = .returned (.tuple #[]) ∧ u' = .returning ∧ w' = w.setCell ⟨pe, 0, none⟩ (.int .i64 0) := by
  refine callsD_of_wpS Try.func33 rfl fun c₀ cs hu => ?_
  apply wpS_seq
  apply wpS_region
  simp [wpOpsS, go_sem, recoverD, hu, Try.ntmps33, Exit.thenS]
  refine (caught_nil w).mono ?_
  rintro e w' ⟨rfl, rfl⟩
  simp [go_sem, hc, hz]
  apply wpS_seq
  apply wpS_region
  simp [wpOpsS, go_sem, hc, Exit.thenS]
  refine wpS_cond (t := false) (by simp [Act.eval, Array.replicate]) ?_
  simp only [Bool.false_eq_true, if_false]
  refine wpS_of_wp (wp_skip ?_)
  cases c₀
  simp_all [bodyPostS, results, Try.results33]
/-- What the loop keeps: the two results' variables L and E, the reader's p, what is left, what is gathered. -/
structure Kept (w wr : World) (L E p g : Nat) (cv lv : Value) (rest : List UInt8) (acc : List Int) : Prop where
  kl : Blk wr L 32 #[cv]
  ke : Blk wr E 24 #[.int .i64 0]
  kp : Blk wr p 47 #[.pointer (some ⟨g, 0, none⟩)]
  krd : Rd wr g rest 0
  kown : wr.ownsRow (p + 1) 3 1 lv acc.length (acc.map iV)
  kbelow : Below w.heap.size w wr
  ksize : p + 1 ≤ wr.heap.size
theorem Kept.read {w wr w2 : World} {L E p g : Nat} {cv lv : Value} {rest rest' : List UInt8} {acc : List Int} (K : Kept w wr L E p g cv lv rest acc) (hL : L < g) (hE : E < g) (hp : g < p) (hw : w.heap.size ≤ g) (hg : wr.grownBy w2 (some g)) (hr : Rd w2 g rest' 0) : Kept w w2 L E p g cv lv rest' acc where
  kl := K.kl.grown hg (fun e => by injection e with e; omega)
  ke := K.ke.grown hg (fun e => by injection e with e; omega)
  kp := K.kp.grown hg (fun e => by injection e with e; omega)
  krd := hr
  kown := K.kown.kept hg (by
    cases hv : lv.ownBlock with
    | none => exact Or.inl rfl
    | some k => exact Or.inr (fun e => by injection e with e; have := (K.kown.lt k hv).1; omega))
  kbelow := below_grown K.kbelow hg K.kbelow.size hw
  ksize := Nat.le_trans K.ksize hg.size
theorem Kept.alloc {w wr : World} {L E p g : Nat} {cv lv : Value} {rest : List UInt8} {acc : List Int} (K : Kept w wr L E p g cv lv rest acc) (o : Obj) : Kept w (wr.alloc o) L E p g cv lv rest acc where
  kl := K.kl.alloc o
  ke := K.ke.alloc o
  kp := K.kp.alloc o
  krd := rd_alloc K.krd o
  kown := K.kown.alloc o
  kbelow := K.kbelow.alloc K.kbelow.size o
  ksize := by have := K.ksize; simp; omega
theorem Kept.app {w wr w2 : World} {L E p g : Nat} {cv lv v' : Value} {rest : List UInt8} {acc acc' : List Int} (K : Kept w wr L E p g cv lv rest acc) (hL : L < p) (hE : E < p) (hp : g < p) (hw : w.heap.size ≤ p) (hg : wr.grownBy w2 lv.ownBlock) (ho : w2.ownsRow (p + 1) 3 1 v' acc'.length (acc'.map iV)) : Kept w w2 L E p g cv v' rest acc' where
  kl := K.kl.grown hg (fun e => by have := (K.kown.lt L e.symm).1; omega)
  ke := K.ke.grown hg (fun e => by have := (K.kown.lt E e.symm).1; omega)
  kp := K.kp.grown hg (fun e => by have := (K.kown.lt p e.symm).1; omega)
  krd := rd_grownBy K.krd hg (fun k hk => by have := (K.kown.lt k hk).1; omega)
  kown := ho
  kbelow := K.kbelow.grown hg K.kbelow.size (fun k hk => by have := (K.kown.lt k hk).1; omega)
  ksize := Nat.le_trans K.ksize hg.size
theorem Kept.put {w wr : World} {L E p g : Nat} {cv lv : Value} {rest : List UInt8} {acc : List Int} (K : Kept w wr L E p g cv lv rest acc) (hL : L < g) (hLE : L ≠ E) (hp : g < p) (hw : w.heap.size ≤ L) (u : Value) : Kept w (wr.setCell ⟨L, 0, none⟩ u) L E p g u lv rest acc where
  kl := K.kl.set_ 0 u
  ke := K.ke.far (p := ⟨L, 0, none⟩) (fun e => hLE e.symm) u
  kp := K.kp.far (p := ⟨L, 0, none⟩) (by show p ≠ L; omega) u
  krd := rd_low K.krd K.kl (by decide) (Nat.ne_of_gt hL) 0 u
  kown := own_set K.kown (by omega) u
  kbelow := K.kbelow.setCell (by show w.heap.size ≤ L; omega) u
  ksize := by have := K.ksize; simpa [World.setCell] using this
theorem any_step {P : Program} {md : Region.Mode} {ops : Array Oper} {Q : Exit → Act → World → Prop} {fuel : Nat} {listed : Array Bool} {a : Act} {w : World} (l : List Nat) (hr : Region.ready md ops listed = l) (hne : l ≠ [])
    (h : ∀ i ∈ l, wpOp P ops Q i (wpAny P md ops Q fuel (listed.setIfInBounds i true)) a w) : wpAny P md ops Q (fuel + 1) listed a w :=
  ⟨fun e => absurd (hr.symm.trans e) hne, by rw [hr]; exact h⟩
theorem op_run {P : Program} {ops : Array Oper} {Q : Exit → Act → World → Prop} {i : Nat} {o : Oper} {K : Act → World → Prop} {a : Act} {w : World} (ho : ops[i]? = some o) (hg : o.guard = none) (h : o.wp P a w K Q) : wpOp P ops Q i K a w := by
  unfold wpOp
  rw [ho]
  simp only [Region.wanted, hg]
  exact Or.inl h
theorem own_slice {w : World} {base : Nat} {e : TypeId} {v : Value} {n : Nat} {ys : List Value} (h : w.ownsRow base e 1 v n ys) : ∃ A c, v = .slice A n c := by
  rcases h.2 with ⟨rfl, rfl⟩ | ⟨g, cap, cur, rfl, _⟩
  · exact ⟨none, 0, rfl⟩
  · exact ⟨_, cap, rfl⟩
theorem own_less {w : World} {b b' : Nat} {e : TypeId} {v : Value} {n : Nat} {xs : List Value} (h : w.ownsRow b e 1 v n xs) (hb : b' ≤ b) : w.ownsRow b' e 1 v n xs := by
  rcases h.2 with hn | ⟨g, cap, cur, hv, hg, rest⟩
  · exact ⟨h.1, Or.inl hn⟩
  · exact ⟨h.1, Or.inr ⟨g, cap, cur, hv, Nat.le_trans hb hg, rest⟩⟩
theorem nums_any (B c n : Nat) (A : Option Addr) (bs : List UInt8) (hn : n = bs.length) (w : World) (h : Row w B A (bs.map byteV)) (hB : B ≤ w.heap.size) (hl : n ≤ 1000000) :
    Calls Try.prog 16 #[.slice A n c] w (Ints (allA getN bs) w) := by
  obtain ⟨i0, hi0, hz0, hz1, hz2⟩ := info_parts info_i
  have hmf : ∀ (fn : Fn) (first cap : Array Value) (w : World), (Instr.makeFunc fn first cap).run Try.prog w = .ok (.func fn first cap) w := fun _ _ _ _ => rfl
  have HR : Hid (Row ((w.alloc (.cells #[.slice none 0 0] 32)).alloc (.cells #[.int .i64 0] 24)) B A (bs.map byteV)) := Lib.hid ((h.alloc hB _).alloc (by simp; omega) _)
  have HN := Lib.hid hn
  have HL := Lib.hid hl
  clear h hn
  go_enter_defers Try.func16, Try.ntmps16
  go_wp2_with fail
  refine (new_any _ c _ A bs HN.out _ HR.out (by simp; omega) (by rw [← HN.out]; omega)).mono ?_
  rintro e w1 ⟨g, rfl, hg1, hrd, hb⟩
  have hs1 := hb.size
  have K0 : Hid (Kept w (w1.alloc (.cells #[.pointer (some ⟨g, 0, none⟩)] 47)) w.heap.size (w.heap.size + 1) w1.heap.size g (.slice none 0 0) (.slice none 0 0) bs []) := Lib.hid (by
    have b0 : Blk ((w.alloc (.cells #[.slice none 0 0] 32)).alloc (.cells #[.int .i64 0] 24)) w.heap.size 32 #[.slice none 0 0] := (Blk.new w _ _).alloc _
    have b1 : Blk ((w.alloc (.cells #[.slice none 0 0] 32)).alloc (.cells #[.int .i64 0] 24)) (w.heap.size + 1) 24 #[.int .i64 0] := by
      have := Blk.new (w.alloc (.cells #[.slice none 0 0] 32)) 24 #[.int .i64 0]
      simpa using this
    have hlt := rd_lt hrd
    simp only [World.size_alloc] at hs1 hg1
    refine ⟨(b0.below hb b0.lt).alloc _, (b1.below hb b1.lt).alloc _, Blk.new w1 _ _, rd_alloc hrd _, World.ownsRow_nil _ _ _ _, ?_, by simp⟩
    exact ((((Below.refl w.heap.size w).alloc (Nat.le_refl _) _).alloc (by simp) _).trans (hb.mono (by simp; omega))).alloc (by omega) _)
  have HG : Hid (g < w1.heap.size ∧ w.heap.size + 1 < g) := Lib.hid ⟨rd_lt hrd, by simp at hg1; omega⟩
  clear hb hrd hg1 hs1
  go_wp2_with fail
  have hs1 := HG.out
  go_loopg [] n (fun gk wr => ∃ (lv : Value) (rest : List UInt8) (acc : List Int), rest.length ≤ gk ∧ acc.length + rest.length ≤ n ∧ Hid (Kept w wr w.heap.size (w.heap.size + 1) w1.heap.size g lv lv rest acc) ∧ Hid (join acc (allA getN rest) = allA getN bs))
  case atStart => exact ⟨_, bs, [], by have := HN.out; omega, by have := HN.out; simp; omega, K0, Lib.hid (join_start good_num bs).symm⟩
  case round =>
    obtain ⟨lv, rest, acc, hr1, hr2, K, HJ⟩ := hrel
    obtain ⟨lA, lc, rfl⟩ := own_slice K.out.kown
    have H1 := Lib.hid hr1
    have H2 := Lib.hid hr2
    clear hr1 hr2
    have hcl : wr.cell? ⟨w.heap.size, 0, none⟩ = some (.slice lA acc.length lc) := K.out.kl.cell 0
    have hce : wr.cell? ⟨w.heap.size + 1, 0, none⟩ = some (.int .i64 0) := K.out.ke.cell 0
    have hcp : wr.cell? ⟨w1.heap.size, 0, none⟩ = some (.pointer (some ⟨g, 0, none⟩)) := K.out.kp.cell 0
    have hzl := K.out.kl.frozen 0
    have hze := K.out.ke.frozen 0
    by_cases hlen : rest.length = 0
    · have HXX : Hid ((acc, 0) = allA getN bs) := Lib.hid (by rw [← HJ.out]; exact (join_end _ _ hlen).symm)
      have hle : (rest.length : Int) ≤ 0 := by omega
      clear hlen
      go_wp2_with (go_at_call 24; refine (left_any g rest 0 _ K.out.krd).mono ?_; rintro e w' ⟨rfl, rfl⟩)
      have k1 := (K.out.kl.set_ 0 (.slice lA acc.length lc)).far (p := ⟨w.heap.size + 1, 0, none⟩) (by show w.heap.size ≠ w.heap.size + 1; omega) (.int .i64 0)
      have k2 := ((K.out.ke.far (p := ⟨w.heap.size, 0, none⟩) (by show w.heap.size + 1 ≠ w.heap.size; omega) (.slice lA acc.length lc)).set_ 0 (.int .i64 0))
      have c1 := (K.out.kl.set_ 0 (.slice lA acc.length lc)).cell 0
      have c3 := (k2.set_ 0 (.int .i64 0)).cell 0
      simp at c1 c3
      refine leaves_cons (f := 33) (args := #[.pointer (some ⟨w.heap.size + 1, 0, none⟩), .pointer (some ⟨w.heap.size, 0, none⟩)]) (by simp) (by simp [go_sem]) ?_
      refine (door_idle (w.heap.size + 1) w.heap.size _ (k2.cell 0) (k2.frozen 0)).mono ?_
      rintro e u' w'' ⟨rfl, rfl, rfl⟩
      simp [Leaves, settle, results, Try.results16, go_sem, c1, c3]
      exact ints_of HXX.out (own_less (own_set (own_set (own_set K.out.kown (by omega) _) (by omega) _) (by omega) _) (by omega)) (((K.out.kbelow.setCell (by show w.heap.size ≤ w.heap.size; omega) _).setCell (by show w.heap.size ≤ w.heap.size + 1; omega) _).setCell (by show w.heap.size ≤ w.heap.size + 1; omega) _)
    · have hpos : (0 : Int) < (rest.length : Int) := by omega
      have he := getN_err rest
      have hj := join_step good_num acc rest hlen
      have hj2 := join_err (get := getN) acc rest hlen
      obtain ⟨x, k2, er, hg⟩ : ∃ x k2 er, getN rest = (x, k2, er) := ⟨_, _, _, rfl⟩
      rw [hg] at he hj hj2
      simp only at he hj hj2
      have HGN := Lib.hid hg
      by_cases h0 : er = 0
      · subst h0
        have HJ2 : Hid (join (acc ++ [x]) (allA getN (rest.drop k2)) = allA getN bs) := Lib.hid (by rw [← hj rfl]; exact HJ.out)
        obtain ⟨b1, b2⟩ : 1 ≤ k2 ∧ k2 ≤ rest.length := by rcases he with ⟨_, h1, h2⟩ | ⟨_, _, h⟩ <;> omega
        clear hj hj2 he hg hlen
        go_wp2_with (go_at_call 24; refine (left_any g rest 0 _ K.out.krd).mono ?_; rintro e w' ⟨rfl, rfl⟩)
        refine wp_region_noPanic ?_
        go_region_law
          (first
            | (go_simp; go_at_call 35; refine (next_yes w1.heap.size g rest x k2 HGN.out _ (show wr.drew.cell? _ = _ from hcp) HG.out.1 (rd_drew K.out.krd)).mono ?_; rintro e w2 ⟨rfl, hrd, hgr⟩; (have K2 := Lib.hid (Kept.read K.out (by omega) (by omega) (by omega) (by omega) (show wr.grownBy w2 (some g) from ⟨hgr.os, hgr.tape, hgr.output, hgr.size, hgr.block⟩) hrd)); (have hcl2 : w2.cell? ⟨w.heap.size, 0, none⟩ = some (.slice lA acc.length lc) := K2.out.kl.cell 0); (have hcl2b : (w2.alloc (.cells #[.int .i64 x] 3)).cell? ⟨w.heap.size, 0, none⟩ = some (.slice lA acc.length lc) := (K2.out.alloc _).kl.cell 0))
            | (refine step_app _ (by rfl) _ _ 32 (by rfl) (w1.heap.size + 1) 3 i0 (.int .i64 0) 8 Try.underlying32 hi0 hz0 hz1 hz2 rfl _ _ _ (by rfl) (K2.out.kown.alloc _) (w2.heap.size + 1) _ 1 1 [iV x] (by rfl) rfl (row_one w2 _ _) (one_oneI x) (by have := H2.out; unfold maxLen; omega) (by have := H2.out; omega) (by have := K2.out.ksize; simp; omega) ?_; intro v' w3 hown hgr2 hat; obtain ⟨A3, c3, rfl⟩ := own_slice hown; (have K3 := Lib.hid (Kept.app (acc' := acc ++ [x]) (K2.out.alloc _) (by omega) (by omega) (by omega) (by omega) hgr2 (by rw [List.map_append, List.length_append]; exact hown))); (have hcl3 : w3.cell? ⟨w.heap.size, 0, none⟩ = some (.slice lA acc.length lc) := K3.out.kl.cell 0); (have hzl3 := K3.out.kl.frozen 0)))
        all_goals
          have K4 := Lib.hid (Kept.put K3.out (by omega) (by omega) (by omega) (Nat.le_refl _) (.slice A3 (acc.length + 1) c3))
          have HL3 : Hid ((rest.drop k2).length ≤ gk - 1 ∧ (acc ++ [x]).length + (rest.drop k2).length ≤ n ∧ gk - 1 < gk) := Lib.hid (by
            have := H1.out; have := H2.out
            rw [List.length_drop, List.length_append]
            simp
            omega)
          clear hrd hgr hgr2 hown hat hcl2 hcl2b hcl3 hzl3 hcl hce hcp hzl hze
          refine NoPanic.normal ?_
          go_wp2
          go_roundg (gk - 1)
          case measure => exact HL3.out.2.2
          case rel => exact ⟨_, rest.drop k2, acc ++ [x], HL3.out.1, HL3.out.2.1, K4, HJ2⟩
      · have HXX : Hid (([], er) = allA getN bs) := Lib.hid (by rw [← HJ.out]; exact (hj2 h0).symm)
        have HNE := Lib.hid h0
        clear hj hj2 he hg hlen h0
        go_wp2_with (go_at_call 24; refine (left_any g rest 0 _ K.out.krd).mono ?_; rintro e w' ⟨rfl, rfl⟩)
        refine wp_region_any (by kernel_rfl) ?_
        have hzx := HG.out
        have fin : ∀ (w2 : World), Rd w2 g (rest.drop k2) er → wr.drew.grownBy w2 (some g) → ∀ tm : Array Value, tm[2]? = some (.pointer (some ⟨w.heap.size, 0, none⟩)) → tm[3]? = some (.pointer (some ⟨w.heap.size + 1, 0, none⟩)) →
            bodyPostD Try.prog Try.f16 (Ints (allA getN bs) w) (Exit.panic [{ v := .iface 24 (.int .i64 er), recovered := false }])
              { tmps := tm, defers := [{ target := Target.fn (Fn.func 33) #[.pointer (some ⟨w.heap.size + 1, 0, none⟩), .pointer (some ⟨w.heap.size, 0, none⟩)], args := #[] }] } w2 := by
          intro w2 _ hgr tm h2 h3
          have hgr' : wr.grownBy w2 (some g) := ⟨hgr.os, hgr.tape, hgr.output, hgr.size, hgr.block⟩
          have k1 := K.out.kl.grown hgr' (fun e => by injection e with e; omega)
          have k3 := K.out.ke.grown hgr' (fun e => by injection e with e; omega)
          have hb := below_grown K.out.kbelow hgr' K.out.kbelow.size (by omega)
          refine leaves_cons (f := 33) (args := #[.pointer (some ⟨w.heap.size + 1, 0, none⟩), .pointer (some ⟨w.heap.size, 0, none⟩)]) (by simp) (by simp [go_sem]) ?_
          refine (door_panic (w.heap.size + 1) w.heap.size er HNE.out [] _ (k3.cell 0) (k3.frozen 0) _ (k1.cell 0) (k1.frozen 0) (by omega)).mono ?_
          rintro e u' w'' ⟨rfl, rfl, rfl⟩
          have k4 := (k1.far (p := ⟨w.heap.size + 1, 0, none⟩) (by show w.heap.size ≠ w.heap.size + 1; omega) (.int .i64 er)).set_ 0 (.slice none 0 0)
          have k5 := (k3.set_ 0 (.int .i64 er)).far (p := ⟨w.heap.size, 0, none⟩) (by show w.heap.size + 1 ≠ w.heap.size; omega) (.slice none 0 0)
          have c1 := k4.cell 0
          have c3 := k5.cell 0
          simp at c1 c3
          simp [Leaves, settle, results, Try.results16, go_sem, h2, h3, c1, c3]
          exact ints_of HXX.out (World.ownsRow_nil _ _ _ _) ((hb.setCell (by show w.heap.size ≤ w.heap.size + 1; omega) _).setCell (by show w.heap.size ≤ w.heap.size; omega) _)
        refine any_step [0, 1] (by kernel_rfl) (by simp) fun i hi => ?_
        rcases (by simpa using hi : i = 0 ∨ i = 1) with rfl | rfl
        · refine op_run (by rfl) (by rfl) ?_
          go_simp
          refine any_step [1] (by kernel_rfl) (by simp) fun i hi => ?_
          obtain rfl : i = 1 := by simpa using hi
          refine op_run (by rfl) (by rfl) ?_
          go_simp
          refine any_step [2] (by kernel_rfl) (by simp) fun i hi => ?_
          obtain rfl : i = 2 := by simpa using hi
          refine op_run (by rfl) (by rfl) ?_
          go_simp
          refine (next_no w1.heap.size g rest x k2 er HGN.out HNE.out _ (show wr.drew.cell? _ = _ from hcp) HG.out.1 (rd_drew K.out.krd)).mono ?_
          rintro e w2 ⟨rfl, hrd, hgr⟩
          exact fin w2 hrd hgr _ rfl rfl
        · refine op_run (by rfl) (by rfl) ?_
          go_simp
          refine any_step [0, 2] (by kernel_rfl) (by simp) fun i hi => ?_
          rcases (by simpa using hi : i = 0 ∨ i = 2) with rfl | rfl
          · refine op_run (by rfl) (by rfl) ?_
            go_simp
            refine any_step [2] (by kernel_rfl) (by simp) fun i hi => ?_
            obtain rfl : i = 2 := by simpa using hi
            refine op_run (by rfl) (by rfl) ?_
            go_simp
            refine (next_no w1.heap.size g rest x k2 er HGN.out HNE.out _ (show wr.drew.cell? _ = _ from hcp) HG.out.1 (rd_drew K.out.krd)).mono ?_
            rintro e w2 ⟨rfl, hrd, hgr⟩
            exact fin w2 hrd hgr _ rfl rfl
          · refine op_run (by rfl) (by rfl) ?_
            go_simp
            refine (next_no w1.heap.size g rest x k2 er HGN.out HNE.out _ (show wr.drew.cell? _ = _ from hcp) HG.out.1 (rd_drew K.out.krd)).mono ?_
            rintro e w2 ⟨rfl, hrd, hgr⟩
            exact fin w2 hrd hgr _ rfl rfl
end Go.Proofs.Yteppidabimmdpaa
