/- ClR: Package cells: leavesRoom, others. -/
import Derived.Test.YtpebhfjcakllmaaGreatClU
namespace Go.Proofs.YtpebhfjcakllmaaGreat
open Go.RowKit Mem Be Word Rg Go.Maps
set_option maxRecDepth 10000
set_option maxHeartbeats 400000
set_option linter.unusedVariables false
theorem leaves_core (g : Nat) (ai mi z r0 r1 : Int) (key : ByteArray) (s u o : Int) (hs : Bool) (A : Option Addr) (n ca : Nat) (w : World) (hS : ∀ W, Calls Tryz.prog 64 #[entV key s u o hs A n ca] W (IsI z W)) (c0 : w.cell? ⟨g, 0, none⟩ = some (.int .i64 r0)) (c1 : w.cell? ⟨g, 1, none⟩ = some (.int .i64 r1))
    (hmi : mi ≤ 4194304) (hm0 : 0 ≤ mi) (hzi : z ≤ 60250) (hz0 : 0 ≤ z) :
    Calls Tryz.prog 65 #[.pointer (some ⟨g, 0, none⟩), .agg #[.int .i64 ai, .int .i64 mi], entV key s u o hs A n ca] w (IsB (decide (ai < r0 ∧ mi + z ≤ r1)) w) := by
  have HS := Lib.hid hS
  have HB : Hid (Below w.heap.size w ((w.alloc (.cells #[.int .i64 ai, .int .i64 mi] 118)).alloc (.cells #[.string key, .int .i64 s, .int .i64 u, .int .i64 o, .bool hs, .slice A n ca] 43))) := Lib.hid (((Below.refl _ _).alloc (Nat.le_refl _) _).alloc (by simp) _)
  have l0 := later_cell ((HB.out.cell (p := ⟨g, 0, none⟩) (block_lt c0)).trans c0)
  have l1 := later_cell ((HB.out.cell (p := ⟨g, 1, none⟩) (block_lt c1)).trans c1)
  have HX := Lib.hid ((Blk.new w 118 #[.int .i64 ai, .int .i64 mi]).alloc (.cells #[.string key, .int .i64 s, .int .i64 u, .int .i64 o, .bool hs, .slice A n ca] 43))
  have a0 := later_blk_cell HX.out 0 _ rfl
  have a1 := later_blk_cell HX.out 1 _ rfl
  have HY := Lib.hid (blk_at (g' := w.heap.size + 1) (by simp) (Blk.new (w.alloc (.cells #[.int .i64 ai, .int .i64 mi] 118)) 43 #[.string key, .int .i64 s, .int .i64 u, .int .i64 o, .bool hs, .slice A n ca]))
  have b0 := later_blk_cell HY.out 0 _ rfl
  have b1 := later_blk_cell HY.out 1 _ rfl
  have b2 := later_blk_cell HY.out 2 _ rfl
  have b3 := later_blk_cell HY.out 3 _ rfl
  have b4 := later_blk_cell HY.out 4 _ rfl
  have b5 := later_blk_cell HY.out 5 _ rfl
  clear hS c0 c1
  by_cases h1 : ai < r0
  · by_cases h2 : mi + z ≤ r1
    · rw [decide_eq_true (show ai < r0 ∧ mi + z ≤ r1 from ⟨h1, h2⟩)]
      have h1' : decide (ai < r0) = true := by simpa using h1
      go_enter Tryz.func65, Tryz.ntmps65
      go_wp2_with fail
      refine wp_region_later (by kernel_rfl) (by kernel_rfl) ?_
      repeat (go_big_quiet_step (first | (go_at_call 64; with_reducible exact laterI (HS.out _))))
      refine wpQuiet_nil ?_
      intro w' hw'
      obtain ⟨p, rfl⟩ := hw'
      go_wp2
      go_ret
      exact ⟨by simp, HB.out.trans (p.bel.mono HB.out.size)⟩
    · rw [decide_eq_false (show ¬ (ai < r0 ∧ mi + z ≤ r1) from fun h => h2 h.2)]
      have h1' : decide (ai < r0) = true := by simpa using h1
      go_enter Tryz.func65, Tryz.ntmps65
      go_wp2_with fail
      refine wp_region_later (by kernel_rfl) (by kernel_rfl) ?_
      repeat (go_big_quiet_step (first | (go_at_call 64; with_reducible exact laterI (HS.out _))))
      refine wpQuiet_nil ?_
      intro w' hw'
      obtain ⟨p, rfl⟩ := hw'
      go_wp2
      go_ret
      exact ⟨by simp [h2], HB.out.trans (p.bel.mono HB.out.size)⟩
  · rw [decide_eq_false (show ¬ (ai < r0 ∧ mi + z ≤ r1) from fun h => h1 h.1)]
    have h1' : decide (ai < r0) = false := by simpa using h1
    go_enter Tryz.func65, Tryz.ntmps65
    go_wp2_with fail
    refine wp_region_later (by kernel_rfl) (by kernel_rfl) ?_
    repeat (go_big_quiet_step (first | (go_at_call 64; with_reducible exact laterI (HS.out _))))
    refine wpQuiet_nil ?_
    intro w' hw'
    obtain ⟨p, rfl⟩ := hw'
    go_wp2
    go_ret
    exact ⟨rfl, HB.out.trans (p.bel.mono HB.out.size)⟩
theorem leaves_any {F : Nat → Prop} {g b tk c : Nat} {S : Cl} {V : List CV} (ok : OkC S) (a m : Nat) (e : EntP) (A : Option Addr) (ca : Nat) (he : okE e) (hm : m ≤ 4194304) (w : World) (h : ClB w F g b tk S V c) :
    Calls Tryz.prog 65 #[.pointer (some ⟨g, 0, none⟩), .agg #[.int .i64 (a : Int), .int .i64 (m : Int)], entV ⟨e.k.toArray⟩ e.s e.u e.o e.has A e.v.length ca] w (IsB (decide ((a : Int) < S.rc ∧ (m : Int) + (sizE e : Int) ≤ S.rb)) w) := by
  obtain ⟨hs1, hs2, hs3, hs4⟩ := sizE_le he
  exact leaves_core g a m (sizE e) S.rc S.rb ⟨e.k.toArray⟩ e.s e.u e.o e.has A e.v.length ca w (fun W => sizeC_any e A ca hs2 hs3 W) h.c0 h.c1 (by omega) (by omega) (by omega) (by omega)
/-- A load that a call hands back. -/
def IsL (a m : Nat) (w : World) (e : Ending) (w' : World) : Prop := e = .returned (.agg #[.int .i64 (a : Int), .int .i64 (m : Int)]) ∧ Below w.heap.size w w'
theorem len_anyC {w : World} {F : Nat → Prop} {g b tk c : Nat} {S : Cl} {V : List CV} (h : ClB w F g b tk S V c) (ty : TypeId) (W : World) (hb : Below w.heap.size w W) :
    (Builtin.len_ #[71] ty #[.map (some b)]).run Tryz.prog W = .ok (.int .i64 (S.T.length : Int)) W := by
  have := len_runC (w := W) (mo := some b) (T := V) (Or.inr ⟨b, rfl, h.map.keep (hb.block b (h.lt b h.fb))⟩) ty
  rwa [h.lens] at this
theorem look_ok {w : World} {F : Nat → Prop} {g b tk c : Nat} {S : Cl} {V : List CV} (h : ClB w F g b tk S V c) {k : List UInt8} (hk : k.length ≤ 1000000) (W : World) (hb : Below w.heap.size w W) :
    (Instr.lookup 71 (.map (some b)) (.string ⟨k.toArray⟩) true).run Tryz.prog W = .ok (.tuple #[cV (oldC V k), .bool (getK kC V k).isSome]) W := by
  have := look_runC (w := W) (mo := some b) (T := V) (Or.inr ⟨b, rfl, h.map.keep (hb.block b (h.lt b h.fb))⟩) (k := k) (by unfold maxLen; omega) true
  rw [look_old] at this
  exact this
theorem others_any {F : Nat → Prop} {g b tk c : Nat} {S : Cl} {V : List CV} (ok : OkC S) (k : List UInt8) (hk : k.length ≤ 100000) (w : World) (h : ClB w F g b tk S V c) :
    Calls Tryz.prog 66 #[.pointer (some ⟨g, 0, none⟩), .string ⟨k.toArray⟩] w (IsL (delK kP k S.T).length (sumC (delK kP k S.T)) w) := by
  obtain ⟨ol1, ol2⟩ := old_len h ok k
  have hos := old_size h ok k
  have hsum := ok.sum
  have hrb := ok.rb
  have hTn : (S.T.length : Int) ≤ 4096 := by have h1 := ok.len; have h2 := ok.rc; omega
  have hal : ∀ ob, Below w.heap.size w (w.alloc ob) := fun ob => (Below.refl _ _).alloc (Nat.le_refl _) ob
  have hal2 : ∀ o1 o2, Below w.heap.size w ((w.alloc o1).alloc o2) := fun o1 o2 => (hal o1).alloc (by simp) o2
  have hlook := fun ob => look_ok h (k := k) (by omega) (w.alloc ob) (hal ob)
  have c4 := h.c4
  have hgl := h.lt g h.fg
  cases hg : getK kC V k with
  | none =>
    have hgP : getK kP S.T k = none := by rw [h.get, hg]; rfl
    rw [del_of_none (get_none.1 hgP)]
    rw [hg] at hlook
    simp only [Option.isSome_none] at hlook
    have HB : Hid (Below w.heap.size w ((w.alloc (.cells #[.int .i64 0, .int .i64 0] 118)).alloc (.cells #[.string ⟨(oldC V k).1.e.k.toArray⟩, .int .i64 (oldC V k).1.e.s, .int .i64 (oldC V k).1.e.u, .int .i64 (oldC V k).1.e.o, .bool (oldC V k).1.e.has, .slice (oldC V k).2.1 (oldC V k).1.e.v.length (oldC V k).2.2, .bool (oldC V k).1.wh, .bool (oldC V k).1.cl, .int .i64 (oldC V k).1.us] 88))) := Lib.hid (hal2 _ _)
    have e2 := h.below HB.out
    have l4 := later_cell e2.c4
    have l5 := later_cell e2.c5
    have hln : ∀ (p : Later ((w.alloc (.cells #[.int .i64 0, .int .i64 0] 118)).alloc (.cells #[.string ⟨(oldC V k).1.e.k.toArray⟩, .int .i64 (oldC V k).1.e.s, .int .i64 (oldC V k).1.e.u, .int .i64 (oldC V k).1.e.o, .bool (oldC V k).1.e.has, .slice (oldC V k).2.1 (oldC V k).1.e.v.length (oldC V k).2.2, .bool (oldC V k).1.wh, .bool (oldC V k).1.cl, .int .i64 (oldC V k).1.us] 88))) (ty : TypeId), (Builtin.len_ #[71] ty #[.map (some b)]).run Tryz.prog p.world = .ok (.int .i64 (S.T.length : Int)) p.world := fun p ty => len_anyC h ty p.world (HB.out.trans (p.bel.mono HB.out.size))
    have HR := Lib.hid ((Blk.new w 118 #[.int .i64 0, .int .i64 0]).alloc (.cells #[.string ⟨(oldC V k).1.e.k.toArray⟩, .int .i64 (oldC V k).1.e.s, .int .i64 (oldC V k).1.e.u, .int .i64 (oldC V k).1.e.o, .bool (oldC V k).1.e.has, .slice (oldC V k).2.1 (oldC V k).1.e.v.length (oldC V k).2.2, .bool (oldC V k).1.wh, .bool (oldC V k).1.cl, .int .i64 (oldC V k).1.us] 88))
    unfold cV at hlook
    clear h ok hos e2 hal hal2 hgP hg ol1 ol2
    go_enter Tryz.func66, Tryz.ntmps66
    go_wp2_with fail
    refine wp_region_later_tail 10 (by kernel_rfl) (by kernel_rfl) ?_
    simp only [List.take_succ_cons, List.take_zero, List.drop_succ_cons, List.drop_zero]
    repeat (go_big_quiet_step (fail))
    refine wpQuiet_nil ?_
    intro w' hw'
    obtain ⟨p, rfl⟩ := hw'
    have HB3 : Hid (Below w.heap.size w p.world) := Lib.hid (HB.out.trans (p.bel.mono HB.out.size))
    have HR3 := Lib.hid (later_blk HR.out p)
    obtain ⟨w3, hw3⟩ : ∃ w3, p.world = w3 := ⟨_, rfl⟩
    rw [hw3] at HB3 HR3 ⊢
    have r0 := HR3.out.cell 0
    have r1 := HR3.out.cell 1
    have z0 := HR3.out.frozen 0
    have z1 := HR3.out.frozen 1
    clear l4 l5 hln hw3 p
    simp only [List.getElem?_toArray] at r0 r1
    go_wp2
    exact bodyPost_ret (v := .agg #[.int .i64 (S.T.length : Int), .int .i64 (sumC S.T : Int)]) (by simp [results, Tryz.results66, go_sem, r0, r1]) rfl ⟨rfl, below_set (below_set HB3.out (Nat.le_refl _) _ _) (Nat.le_refl _) _ _⟩
  | some y =>
    have hold : oldC V k = y := by unfold oldC; rw [hg]; rfl
    have hmem := h.mem (get_some hg).1
    have hyk : y.1.e.k = k := (get_some hg).2
    obtain ⟨d1, d2⟩ := del_cons ok.srt hmem
    rw [hyk] at d1 d2
    rw [hg, hold] at hlook
    rw [hold] at ol1 ol2
    simp only [Option.isSome_some] at hlook
    have HD : Hid ((S.T.length : Int) - 1 = ((delK kP k S.T).length : Int) ∧ (sumC S.T : Int) - (sizE y.1.e : Int) = (sumC (delK kP k S.T) : Int)) := Lib.hid ⟨by omega, by omega⟩
    have hyi : (sizE y.1.e : Int) ≤ 60250 := by unfold sizE; omega
    have hy0 : (0 : Int) ≤ (sizE y.1.e : Int) := by omega
    have hmi : (sumC S.T : Int) ≤ 4194304 := by omega
    have hm0 : (0 : Int) ≤ (sumC S.T : Int) := by omega
    have hT0 : (0 : Int) ≤ (S.T.length : Int) := by omega
    have HS : Hid (∀ W, Calls Tryz.prog 64 #[entV ⟨y.1.e.k.toArray⟩ y.1.e.s y.1.e.u y.1.e.o y.1.e.has y.2.1 y.1.e.v.length y.2.2] W (IsI (sizE y.1.e : Int) W)) := Lib.hid fun W => sizeC_any y.1.e y.2.1 y.2.2 ol1 ol2 W
    have HB : Hid (Below w.heap.size w ((w.alloc (.cells #[.int .i64 0, .int .i64 0] 118)).alloc (.cells #[.string ⟨y.1.e.k.toArray⟩, .int .i64 y.1.e.s, .int .i64 y.1.e.u, .int .i64 y.1.e.o, .bool y.1.e.has, .slice y.2.1 y.1.e.v.length y.2.2, .bool y.1.wh, .bool y.1.cl, .int .i64 y.1.us] 88))) := Lib.hid (hal2 _ _)
    have e2 := h.below HB.out
    have l4 := later_cell e2.c4
    have l5 := later_cell e2.c5
    have hln : ∀ (p : Later ((w.alloc (.cells #[.int .i64 0, .int .i64 0] 118)).alloc (.cells #[.string ⟨y.1.e.k.toArray⟩, .int .i64 y.1.e.s, .int .i64 y.1.e.u, .int .i64 y.1.e.o, .bool y.1.e.has, .slice y.2.1 y.1.e.v.length y.2.2, .bool y.1.wh, .bool y.1.cl, .int .i64 y.1.us] 88))) (ty : TypeId), (Builtin.len_ #[71] ty #[.map (some b)]).run Tryz.prog p.world = .ok (.int .i64 (S.T.length : Int)) p.world := fun p ty => len_anyC h ty p.world (HB.out.trans (p.bel.mono HB.out.size))
    have HR := Lib.hid ((Blk.new w 118 #[.int .i64 0, .int .i64 0]).alloc (.cells #[.string ⟨y.1.e.k.toArray⟩, .int .i64 y.1.e.s, .int .i64 y.1.e.u, .int .i64 y.1.e.o, .bool y.1.e.has, .slice y.2.1 y.1.e.v.length y.2.2, .bool y.1.wh, .bool y.1.cl, .int .i64 y.1.us] 88))
    have HX := Lib.hid (blk_at (g' := w.heap.size + 1) (by simp) (Blk.new (w.alloc (.cells #[.int .i64 0, .int .i64 0] 118)) 88 #[.string ⟨y.1.e.k.toArray⟩, .int .i64 y.1.e.s, .int .i64 y.1.e.u, .int .i64 y.1.e.o, .bool y.1.e.has, .slice y.2.1 y.1.e.v.length y.2.2, .bool y.1.wh, .bool y.1.cl, .int .i64 y.1.us]))
    have b0 := later_blk_cell HX.out 0 _ rfl
    have b1 := later_blk_cell HX.out 1 _ rfl
    have b2 := later_blk_cell HX.out 2 _ rfl
    have b3 := later_blk_cell HX.out 3 _ rfl
    have b4 := later_blk_cell HX.out 4 _ rfl
    have b5 := later_blk_cell HX.out 5 _ rfl
    unfold cV at hlook
    clear h ok hos e2 hal hal2 hg ol1 ol2 hold hmem hyk d1 d2
    obtain ⟨n0, hn0⟩ : ∃ n, (sumC S.T : Int) = n := ⟨_, rfl⟩
    obtain ⟨n1, hn1⟩ : ∃ n, (sizE y.1.e : Int) = n := ⟨_, rfl⟩
    obtain ⟨n2, hn2⟩ : ∃ n, (S.T.length : Int) = n := ⟨_, rfl⟩
    rw [hn0] at l5 hmi hm0 HD
    rw [hn1] at HS hyi hy0 HD
    rw [hn2] at hTn hT0 HD
    simp only [hn2] at hln
    clear hn0 hn1 hn2 hsum
    go_enter Tryz.func66, Tryz.ntmps66
    go_wp2_with fail
    refine wp_region_later_tail 15 (by kernel_rfl) (by kernel_rfl) ?_
    simp only [List.take_succ_cons, List.take_zero, List.drop_succ_cons, List.drop_zero]
    repeat (go_big_quiet_step (first | (go_at_call 64; with_reducible exact laterI (HS.out _))))
    refine wpQuiet_nil ?_
    intro w' hw'
    obtain ⟨p, rfl⟩ := hw'
    have HB3 : Hid (Below w.heap.size w p.world) := Lib.hid (HB.out.trans (p.bel.mono HB.out.size))
    have HR3 := Lib.hid (later_blk HR.out p)
    obtain ⟨w3, hw3⟩ : ∃ w3, p.world = w3 := ⟨_, rfl⟩
    rw [hw3] at HB3 HR3 ⊢
    have r0 := HR3.out.cell 0
    have r1 := HR3.out.cell 1
    have z0 := HR3.out.frozen 0
    have z1 := HR3.out.frozen 1
    clear l4 l5 hln hw3 p b0 b1 b2 b3 b4 b5
    simp only [List.getElem?_toArray] at r0 r1
    go_wp2
    have hd := HD.out
    exact bodyPost_ret (v := .agg #[.int .i64 (n2 - 1), .int .i64 (n0 - n1)]) (by simp [results, Tryz.results66, go_sem, r0, r1]) rfl ⟨by rw [hd.1, hd.2], below_set (below_set HB3.out (Nat.le_refl _) _ _) (Nat.le_refl _) _ _⟩
end Go.Proofs.YtpebhfjcakllmaaGreat
