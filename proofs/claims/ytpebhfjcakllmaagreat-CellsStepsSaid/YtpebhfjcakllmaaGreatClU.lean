/- ClU: Package cells: use, evict. -/
import Derived.Test.YtpebhfjcakllmaaGreatClA
import Derived.Deep.RegionLaw
namespace Go.Proofs.YtpebhfjcakllmaaGreat
open Go.RowKit Mem Be Word Rg Go.Maps
set_option maxRecDepth 10000
set_option maxHeartbeats 400000
set_option linter.unusedVariables false
instance laterNE (w : World) : Nonempty (Later w) := ⟨⟨w, Below.refl _ _⟩⟩
theorem laterI {P : Program} {f : FuncId} {args : Array Value} {w : World} {p : Later w} {b : Int} (h : Calls P f args p.world (IsI b p.world)) : Calls P f args p.world fun e w'' => e = .returned (.int .i64 b) ∧ ∃ q : Later w, w'' = q.world := later_of h
/-- The cell of a key, or the empty one. -/
def oldC (V : List CV) (k : List UInt8) : CV := (getK kC V k).getD (cvN [])
theorem look_old (V : List CV) (k : List UInt8) : lookVC V k = cV (oldC V k) := by
  unfold lookVC oldC
  cases getK kC V k <;> rfl
theorem field_ent (k : ByteArray) (s u o : Int) (has : Bool) (A : Option Addr) (m c : Nat) (wh cl : Bool) (us : Int) (W : World) : (Instr.field 88 (.agg #[.string k, .int .i64 s, .int .i64 u, .int .i64 o, .bool has, .slice A m c, .bool wh, .bool cl, .int .i64 us]) 0).run Tryz.prog W = .ok (entV k s u o has A m c) W := by kernel_rfl
theorem field_clean (k : ByteArray) (s u o : Int) (has : Bool) (A : Option Addr) (m c : Nat) (wh cl : Bool) (us : Int) (W : World) : (Instr.field 88 (.agg #[.string k, .int .i64 s, .int .i64 u, .int .i64 o, .bool has, .slice A m c, .bool wh, .bool cl, .int .i64 us]) 2).run Tryz.prog W = .ok (.bool cl) W := by kernel_rfl
section
variable {w w' : World} {F : Nat → Prop} {g b tk c : Nat} {S : Cl} {V : List CV}
theorem old_len (h : ClB w F g b tk S V c) (ok : OkC S) (k : List UInt8) : (oldC V k).1.e.k.length ≤ 250 ∧ (oldC V k).1.e.v.length ≤ 60000 := by
  unfold oldC
  cases hg : getK kC V k with
  | none => exact ⟨Nat.zero_le _, Nat.zero_le _⟩
  | some y => have := sizE_le (h.okE ok (get_some hg).1); exact ⟨this.2.1, this.2.2.1⟩
theorem old_size (h : ClB w F g b tk S V c) (ok : OkC S) (k : List UInt8) : sumC S.T = sizE (oldC V k).1.e + sumC (delK kP k S.T) := by
  unfold oldC
  cases hg : getK kC V k with
  | none =>
    have : getK kP S.T k = none := by rw [h.get, hg]; rfl
    rw [del_of_none (get_none.1 this)]
    show _ = sizE (entN []) + _
    simp [sizE, entN]
  | some y =>
    obtain ⟨h1, h2⟩ := get_some hg
    have := (del_cons ok.srt (h.mem h1)).2
    rw [this]
    have e : y.1.e.k = k := h2
    rw [e]; rfl
theorem look_any (h : ClB w F g b tk S V c) {k : List UInt8} (hk : k.length ≤ 1000000) (W : World) (hb : Below w.heap.size w W) :
    (Instr.lookup 71 (.map (some b)) (.string ⟨k.toArray⟩) false).run Tryz.prog W = .ok (cV (oldC V k)) W := by
  have := look_runC (w := W) (mo := some b) (T := V) (Or.inr ⟨b, rfl, h.map.keep (hb.block b (h.lt b h.fb))⟩) (k := k) (by unfold maxLen; omega) false
  rw [look_old] at this
  exact this
/-- What use leaves. -/
theorem use_end {w2 w6 w7 : World} {x : CV} {y : CV} {bx : Nat} {n : Int} (h : ClB w F g b tk S V c) (hx : ValF F w x) (hbx : w.heap.size ≤ bx) (hb2 : Below w.heap.size w w2)
    (hy : y = ({ x.1 with us := S.us + 1 }, x.2)) (hn : n = (sumC (putK kP S.T y.1) : Int))
    (hb6 : Below (((w2.setCell ⟨g, 5, none⟩ (.int .i64 n)).setCell ⟨g, 7, none⟩ (.int .i64 (S.us + 1))).setCell ⟨bx, 8, none⟩ (.int .i64 (S.us + 1))).heap.size (((w2.setCell ⟨g, 5, none⟩ (.int .i64 n)).setCell ⟨g, 7, none⟩ (.int .i64 (S.us + 1))).setCell ⟨bx, 8, none⟩ (.int .i64 (S.us + 1))) w6)
    (hT : TabBC w7 b (putK kC V y)) (ht : w6.mapTurned w7 b) : ClB w7 F g b tk (useS S x.1) (putK kC V y) c ∧ Touch (Own3 g b tk) w w7 := by
  subst hy
  subst hn
  have hgl := h.lt g h.fg
  have hbl := h.lt b h.fb
  have htl := h.tok.lt
  have hgb := h.gb
  have hgt := h.gt
  have hbt := h.bt
  have e2 := h.below hb2
  have t2 : Touch (Own3 g b tk) w w2 := Touch.ofBelow hb2
  have t5 := ((t2.set_ (p := ⟨g, 5, none⟩) (Or.inl (Or.inl rfl)) (.int .i64 (sumC (putK kP S.T { x.1 with us := S.us + 1 }) : Int))).set_ (p := ⟨g, 7, none⟩) (Or.inl (Or.inl rfl)) (.int .i64 (S.us + 1))).set_ (p := ⟨bx, 8, none⟩) (Or.inr hbx) (.int .i64 (S.us + 1))
  have t6 := t5.thenBelow hb6
  have t7 := t6.trans (touch_turned ht) fun k hk => Or.inl (Or.inr (Or.inl hk))
  have k5 : Blk (((w2.setCell ⟨g, 5, none⟩ (.int .i64 (sumC (putK kP S.T { x.1 with us := S.us + 1 }) : Int))).setCell ⟨g, 7, none⟩ (.int .i64 (S.us + 1))).setCell ⟨bx, 8, none⟩ (.int .i64 (S.us + 1))) g 73 (clC (useS S x.1) b tk c) := by
    have := ((e2.blk.set_ 5 (.int .i64 (sumC (putK kP S.T { x.1 with us := S.us + 1 }) : Int))).set_ 7 (.int .i64 (S.us + 1))).far (p := ⟨bx, 8, none⟩) (by show g ≠ bx; omega) (.int .i64 (S.us + 1))
    simpa [clC, useS] using this
  have k7 : Blk w7 g 73 (clC (useS S x.1) b tk c) := (ht.grown.block g (by have := (k5.below hb6 k5.lt).lt; exact this) (by intro e; injection e with e; exact hgb e.symm)).trans (k5.below hb6 k5.lt)
  refine ⟨⟨?_, k7, hT, ?_, h.fg, h.fb, h.ft, fun z hz => ?_, fun k hk => Nat.lt_of_lt_of_le (h.lt k hk) t7.size⟩, t7⟩
  · rw [put_map (f := Prod.fst) (key := kC) (key' := kP) (fun x => rfl), h.ent]; rfl
  · have a5 := ((e2.tok.keep (w' := w2.setCell ⟨g, 5, none⟩ (.int .i64 (sumC (putK kP S.T { x.1 with us := S.us + 1 }) : Int))) (Below.heap_setCell _ ⟨g, 5, none⟩ _ tk hgt)).keep (Below.heap_setCell _ ⟨g, 7, none⟩ (.int .i64 (S.us + 1)) tk hgt)).keep (Below.heap_setCell _ ⟨bx, 8, none⟩ (.int .i64 (S.us + 1)) tk (by show tk ≠ bx; omega))
    have a6 := a5.keep (hb6.block tk a5.lt)
    exact a6.keep (ht.grown.block tk a6.lt (by intro e; injection e with e; exact hbt e))
  · have tF := t7.mono (G := F) fun k hk => by rcases hk with rfl | rfl | rfl; exact h.fg; exact h.fb; exact h.ft
    rcases mem_put_of hz with rfl | hz
    · exact ⟨hx.row.touch tF, hx.cap, hx.mx⟩
    · exact (h.val z hz).touch tF
end
def UsedC (F : Nat → Prop) (g b tk : Nat) (S : Cl) (w : World) (e : Ending) (w' : World) : Prop := e = .returned (.tuple #[]) ∧ ClAt w' F g b tk S ∧ Touch (Own3 g b tk) w w'
theorem use_any {F : Nat → Prop} {g b tk c : Nat} {S : Cl} {V : List CV} (ok : OkC S) (x : CV) (ho : okE x.1.e) (hu : S.us ≤ 4611686018427387904) (w : World) (h : ClB w F g b tk S V c) (hv : ValF F w x) :
    Calls Tryz.prog 44 #[.pointer (some ⟨g, 0, none⟩), cV x] w (UsedC F g b tk (useS S x.1) w) := by
  obtain ⟨hs1, hs2, hs3, hs4⟩ := sizE_le ho
  obtain ⟨ol1, ol2⟩ := old_len h ok x.1.e.k
  have hos := old_size h ok x.1.e.k
  have hlk := look_any h (k := x.1.e.k) (by omega)
  have hsum := ok.sum
  have hrb := ok.rb
  have hu0 := ok.u0
  have hn : (sumC S.T : Int) + ((sizE x.1.e : Int) - (sizE (oldC V x.1.e.k).1.e : Int)) = (sumC (putK kP S.T { x.1 with us := S.us + 1 }) : Int) := by
    rw [sumC_put]
    show _ = ((sizE x.1.e + sumC (delK kP x.1.e.k S.T) : Nat) : Int)
    omega
  have hoz : (sizE (oldC V x.1.e.k).1.e : Int) ≤ 60250 := by unfold sizE; omega
  have hVn : V.length ≤ 4096 := by rw [h.lens]; have h1 := ok.len; have h2 := ok.rc; omega
  have H := Lib.hid h
  have HV := Lib.hid hv
  have HN := Lib.hid hn
  have HK : Hid (x.1.e.k.length ≤ 250) := Lib.hid hs2
  have HL := Lib.hid hVn
  have hmi : (sumC S.T : Int) ≤ 4194304 := by omega
  have hxi : (sizE x.1.e : Int) ≤ 60250 := by omega
  have hm0 : (0 : Int) ≤ (sumC S.T : Int) := by omega
  have hx0 : (0 : Int) ≤ (sizE x.1.e : Int) := by omega
  have ho0 : (0 : Int) ≤ (sizE (oldC V x.1.e.k).1.e : Int) := by omega
  have HS1 : Hid (∀ W, Calls Tryz.prog 64 #[entV ⟨x.1.e.k.toArray⟩ x.1.e.s x.1.e.u x.1.e.o x.1.e.has x.2.1 x.1.e.v.length x.2.2] W (IsI (sizE x.1.e : Int) W)) := Lib.hid fun W => sizeC_any x.1.e x.2.1 x.2.2 hs2 hs3 W
  obtain ⟨y, hy⟩ : ∃ y, oldC V x.1.e.k = y := ⟨_, rfl⟩
  rw [hy] at hlk hoz ho0 HN ol1 ol2
  have HS2 : Hid (∀ W, Calls Tryz.prog 64 #[entV ⟨y.1.e.k.toArray⟩ y.1.e.s y.1.e.u y.1.e.o y.1.e.has y.2.1 y.1.e.v.length y.2.2] W (IsI (sizE y.1.e : Int) W)) := Lib.hid fun W => sizeC_any y.1.e y.2.1 y.2.2 ol1 ol2 W
  have hal : ∀ ob, Below w.heap.size w (w.alloc ob) := fun ob => (Below.refl _ _).alloc (Nat.le_refl _) ob
  have l4 := later_cell ((h.below (hal (.cells #[.string ⟨x.1.e.k.toArray⟩, .int .i64 x.1.e.s, .int .i64 x.1.e.u, .int .i64 x.1.e.o, .bool x.1.e.has, .slice x.2.1 x.1.e.v.length x.2.2, .bool x.1.wh, .bool x.1.cl, .int .i64 x.1.us] 88))).c4)
  have l5 := later_cell ((h.below (hal (.cells #[.string ⟨x.1.e.k.toArray⟩, .int .i64 x.1.e.s, .int .i64 x.1.e.u, .int .i64 x.1.e.o, .bool x.1.e.has, .slice x.2.1 x.1.e.v.length x.2.2, .bool x.1.wh, .bool x.1.cl, .int .i64 x.1.us] 88))).c5)
  have HBX := Lib.hid (Blk.new w 88 #[.string ⟨x.1.e.k.toArray⟩, .int .i64 x.1.e.s, .int .i64 x.1.e.u, .int .i64 x.1.e.o, .bool x.1.e.has, .slice x.2.1 x.1.e.v.length x.2.2, .bool x.1.wh, .bool x.1.cl, .int .i64 x.1.us])
  have b0 := later_blk_cell HBX.out 0 _ rfl
  have b1 := later_blk_cell HBX.out 1 _ rfl
  have b2 := later_blk_cell HBX.out 2 _ rfl
  have b3 := later_blk_cell HBX.out 3 _ rfl
  have b4 := later_blk_cell HBX.out 4 _ rfl
  have b5 := later_blk_cell HBX.out 5 _ rfl
  have hlk2 : ∀ p : Later (w.alloc (.cells #[.string ⟨x.1.e.k.toArray⟩, .int .i64 x.1.e.s, .int .i64 x.1.e.u, .int .i64 x.1.e.o, .bool x.1.e.has, .slice x.2.1 x.1.e.v.length x.2.2, .bool x.1.wh, .bool x.1.cl, .int .i64 x.1.us] 88)),
      (Instr.lookup 71 (.map (some b)) (.string ⟨x.1.e.k.toArray⟩) false).run Tryz.prog p.world = .ok (cV y) p.world := fun p => hlk p.world ((hal _).trans (p.bel.mono (by simp)))
  have hft := field_ent ⟨y.1.e.k.toArray⟩ y.1.e.s y.1.e.u y.1.e.o y.1.e.has y.2.1 y.1.e.v.length y.2.2 y.1.wh y.1.cl y.1.us
  clear h hv hos hlk hsum hrb hn hVn hs1 hs2 hs3 hs4 ol1 ol2 hal hy ok ho
  obtain ⟨n0, hn0⟩ : ∃ n, (sumC S.T : Int) = n := ⟨_, rfl⟩
  obtain ⟨n1, hn1⟩ : ∃ n, (sizE x.1.e : Int) = n := ⟨_, rfl⟩
  obtain ⟨n2, hn2⟩ : ∃ n, (sizE y.1.e : Int) = n := ⟨_, rfl⟩
  rw [hn0] at hmi hm0 l5 HN
  rw [hn1] at hxi hx0 HN HS1
  rw [hn2] at hoz ho0 HN HS2
  clear hn0 hn1 hn2
  unfold cV at hlk2 ⊢
  go_enter Tryz.func44, Tryz.ntmps44
  go_wp2_with fail
  refine wp_region_later_tail 21 (by kernel_rfl) (by kernel_rfl) ?_
  simp only [List.take_succ_cons, List.take_zero, List.drop_succ_cons, List.drop_zero]
  repeat (go_big_quiet_step (first | (go_at_call 64; first | with_reducible exact laterI (HS1.out _) | with_reducible exact laterI (HS2.out _))))
  refine wpQuiet_nil ?_
  intro w' hw'
  obtain ⟨p, rfl⟩ := hw'
  have HB2 : Hid (Below w.heap.size w p.world) := Lib.hid (((Below.refl _ _).alloc (Nat.le_refl _) _).trans (p.bel.mono (by simp)))
  have e2 := H.out.below HB2.out
  have d4 := e2.c4
  have d5 := l5 p
  have d7 := e2.c7
  have z5 := e2.z 5
  have z7 := e2.z 7
  have hgx : g ≠ w.heap.size := by have := H.out.lt g H.out.fg; omega
  have HX2 := Lib.hid (later_blk HBX.out p)
  have f0 := b0 p
  have f1 := b1 p
  have f2 := b2 p
  have f3 := b3 p
  have f4 := b4 p
  have f5 := b5 p
  have f6 : p.world.cell? ⟨w.heap.size, 6, none⟩ = some (.bool x.1.wh) := HX2.out.cell 6
  have f7 : p.world.cell? ⟨w.heap.size, 7, none⟩ = some (.bool x.1.cl) := HX2.out.cell 7
  have f8 : p.world.cell? ⟨w.heap.size, 8, none⟩ = some (.int .i64 x.1.us) := HX2.out.cell 8
  have fz := HX2.out.frozen 8
  obtain ⟨w2, hw2⟩ : ∃ w2, p.world = w2 := ⟨_, rfl⟩
  rw [hw2] at HB2 d4 d5 d7 z5 z7 HX2 f0 f1 f2 f3 f4 f5 f6 f7 f8 fz ⊢
  clear e2 hw2 p hlk2 l4 l5 b0 b1 b2 b3 b4 b5
  obtain ⟨nb, hnb⟩ : ∃ nb, n0 + (n1 - n2) = nb := ⟨_, rfl⟩
  go_wp2_with fail
  rw [hnb] at HN ⊢
  have HX5 : Hid (Blk (((w2.setCell ⟨g, 5, none⟩ (.int .i64 nb)).setCell ⟨g, 7, none⟩ (.int .i64 (S.us + 1))).setCell ⟨w.heap.size, 8, none⟩ (.int .i64 (S.us + 1))) w.heap.size 88
      #[.string ⟨x.1.e.k.toArray⟩, .int .i64 x.1.e.s, .int .i64 x.1.e.u, .int .i64 x.1.e.o, .bool x.1.e.has, .slice x.2.1 x.1.e.v.length x.2.2, .bool x.1.wh, .bool x.1.cl, .int .i64 (S.us + 1)]) := Lib.hid (by
    have := ((HX2.out.far (p := ⟨g, 5, none⟩) (by show w.heap.size ≠ g; omega) (.int .i64 nb)).far (p := ⟨g, 7, none⟩) (by show w.heap.size ≠ g; omega) (.int .i64 (S.us + 1))).set_ 8 (.int .i64 (S.us + 1))
    simpa using this)
  have HM5 : Hid (TabBC (((w2.setCell ⟨g, 5, none⟩ (.int .i64 nb)).setCell ⟨g, 7, none⟩ (.int .i64 (S.us + 1))).setCell ⟨w.heap.size, 8, none⟩ (.int .i64 (S.us + 1))) b V) := Lib.hid (by
    have e2 := H.out.below HB2.out
    have hbl := H.out.lt b H.out.fb
    exact ((e2.map.keep (Below.heap_setCell _ ⟨g, 5, none⟩ (.int .i64 nb) b H.out.gb)).keep (Below.heap_setCell _ ⟨g, 7, none⟩ (.int .i64 (S.us + 1)) b H.out.gb)).keep (Below.heap_setCell _ ⟨w.heap.size, 8, none⟩ (.int .i64 (S.us + 1)) b (by show b ≠ w.heap.size; omega)))
  have HG5 : Hid ((((w2.setCell ⟨g, 5, none⟩ (.int .i64 nb)).setCell ⟨g, 7, none⟩ (.int .i64 (S.us + 1))).setCell ⟨w.heap.size, 8, none⟩ (.int .i64 (S.us + 1))).cell? ⟨g, 4, none⟩ = some (.map (some b))) := Lib.hid (by
    have e2 := H.out.below HB2.out
    have := (((e2.blk.set_ 5 (.int .i64 nb)).set_ 7 (.int .i64 (S.us + 1))).far (p := ⟨w.heap.size, 8, none⟩) (by show g ≠ w.heap.size; omega) (.int .i64 (S.us + 1))).cell 4
    rw [this]
    simp [clC])
  have l4 := later_cell HG5.out
  have b0 := later_blk_cell HX5.out 0 _ rfl
  have b1 := later_blk_cell HX5.out 1 _ rfl
  have b2 := later_blk_cell HX5.out 2 _ rfl
  have b3 := later_blk_cell HX5.out 3 _ rfl
  have b4 := later_blk_cell HX5.out 4 _ rfl
  have b5 := later_blk_cell HX5.out 5 _ rfl
  have b6 := later_blk_cell HX5.out 6 _ rfl
  have b7 := later_blk_cell HX5.out 7 _ rfl
  have b8 := later_blk_cell HX5.out 8 _ rfl
  clear d4 d5 d7 z5 z7 HX2 f0 f1 f2 f3 f4 f5 f6 f7 f8 fz
  refine wp_region_later_tail 8 (by kernel_rfl) (by kernel_rfl) ?_
  simp only [List.take_succ_cons, List.take_zero, List.drop_succ_cons, List.drop_zero]
  repeat (go_big_quiet_step (fail))
  refine wpQuiet_nil ?_
  intro w' hw'
  obtain ⟨p, rfl⟩ := hw'
  obtain ⟨w7, hrun, hT7, ht7⟩ := put_runC (HM5.out.keep (p.bel.block b (by have := HM5.out.lt; exact this))) ({ x.1 with us := S.us + 1 }, x.2) (by have := HK.out; show x.1.e.k.length ≤ maxLen; unfold maxLen; omega) (by have := HL.out; unfold maxLen; omega)
  have HE := Lib.hid (use_end (bx := w.heap.size) (n := nb) H.out HV.out (Nat.le_refl _) HB2.out rfl HN.out p.bel hT7 ht7)
  unfold cV at hrun
  clear hT7 ht7 l4 b0 b1 b2 b3 b4 b5 b6 b7 b8 HX5 HM5 HG5
  obtain ⟨w6, hw6⟩ : ∃ w6, p.world = w6 := ⟨_, rfl⟩
  rw [hw6] at hrun ⊢
  clear hw6 p
  go_wp2
  go_end0
  exact ⟨rfl, ⟨_, _, HE.out.1⟩, HE.out.2⟩
section
variable {w w' : World} {F : Nat → Prop} {g b tk c : Nat} {S : Cl} {V : List CV}
/-- What evict leaves. -/
theorem gone_end {w2 w4 w5 : World} {k : List UInt8} {n t : Int} {i : Nat} (h : ClB w F g b tk S V c) (hb2 : Below w.heap.size w w2) (hn : n = (sumC (delK kP k S.T) : Int)) (hi : bk S.nb k = i) (ht : S.tok.getD i 0 + 1 = t)
    (hT : TabBC w4 b (delK kC k V)) (h4 : (w2.setCell ⟨g, 5, none⟩ (.int .i64 n)).mapTurned w4 b) (hb5 : Below w4.heap.size w4 w5) :
    ClB (w5.setCell ⟨tk, i, none⟩ (.int .i64 t)) F g b tk (goneS S k) (delK kC k V) c ∧ Touch (Own3 g b tk) w (w5.setCell ⟨tk, i, none⟩ (.int .i64 t)) := by
  subst hn
  subst hi
  subst ht
  have hgl := h.lt g h.fg
  have hbl := h.lt b h.fb
  have htl := h.tok.lt
  have hgb := h.gb
  have hgt := h.gt
  have hbt := h.bt
  have e2 := h.below hb2
  have t4 := ((Touch.ofBelow (F := Own3 g b tk) hb2).set_ (p := ⟨g, 5, none⟩) (Or.inl (Or.inl rfl)) (.int .i64 (sumC (delK kP k S.T) : Int))).trans (touch_turned h4) fun k hk => Or.inl (Or.inr (Or.inl hk))
  have t6 := (t4.thenBelow hb5).set_ (p := ⟨tk, bk S.nb k, none⟩) (Or.inl (Or.inr (Or.inr rfl))) (.int .i64 (S.tok.getD (bk S.nb k) 0 + 1))
  have k3 : Blk (w2.setCell ⟨g, 5, none⟩ (.int .i64 (sumC (delK kP k S.T) : Int))) g 73 (clC (goneS S k) b tk c) := by
    have := e2.blk.set_ 5 (.int .i64 (sumC (delK kP k S.T) : Int))
    simpa [clC, goneS] using this
  have k4 : Blk w4 g 73 (clC (goneS S k) b tk c) := (h4.grown.block g k3.lt (by intro e; injection e with e; exact hgb e.symm)).trans k3
  have k6 := (k4.below hb5 k4.lt).far (p := ⟨tk, bk S.nb k, none⟩) (fun e => hgt e.symm) (.int .i64 (S.tok.getD (bk S.nb k) 0 + 1))
  have a3 := e2.tok.keep (w' := w2.setCell ⟨g, 5, none⟩ (.int .i64 (sumC (delK kP k S.T) : Int))) (Below.heap_setCell _ ⟨g, 5, none⟩ _ tk hgt)
  have a4 := a3.keep (h4.grown.block tk a3.lt (by intro e; injection e with e; exact hbt e))
  have a5 := a4.keep (hb5.block tk a4.lt)
  refine ⟨⟨?_, k6, ?_, ?_, h.fg, h.fb, h.ft, fun z hz => ?_, fun k hk => Nat.lt_of_lt_of_le (h.lt k hk) t6.size⟩, t6⟩
  · show (delK kC k V).map Prod.fst = delK kP k S.T
    rw [← h.ent]
    exact del_map (f := Prod.fst) (key := kC) (key' := kP) (fun x => rfl) k V
  · exact (hT.keep (hb5.block b hT.lt)).keep (Below.heap_setCell _ ⟨tk, bk S.nb k, none⟩ _ b (fun e => hbt e.symm))
  · exact a5.set_ _ _
  · have tF := t6.mono (G := F) fun k hk => by rcases hk with rfl | rfl | rfl; exact h.fg; exact h.fb; exact h.ft
    exact (h.val z (mem_del.1 hz).1).touch tF
end
theorem evict_any {F : Nat → Prop} {g b tk c : Nat} {S : Cl} {V : List CV} (ok : OkC S) (k : List UInt8) (hk : k.length ≤ 100000) (hu : tokK S k ≤ 4611686018427387904) (w : World) (h : ClB w F g b tk S V c) :
    Calls Tryz.prog 46 #[.pointer (some ⟨g, 0, none⟩), .string ⟨k.toArray⟩] w (UsedC F g b tk (goneS S k) w) := by
  obtain ⟨ol1, ol2⟩ := old_len h ok k
  have hos := old_size h ok k
  have hlk := look_any h (k := k) (by omega)
  have hsum := ok.sum
  have hrb := ok.rb
  have hn : (sumC S.T : Int) - (sizE (oldC V k).1.e : Int) = (sumC (delK kP k S.T) : Int) := by omega
  have hoz : (sizE (oldC V k).1.e : Int) ≤ 60250 := by unfold sizE; omega
  have hbl := bk_lt ok k
  have ht0 : 0 ≤ tokK S k := ok.t0 _ (tokK_mem ok k)
  have hin : ((bk S.nb k : Nat) : Int) < (S.nb : Int) := by have := ok.tl; omega
  have ct : S.tok[bk S.nb k] = tokK S k := by unfold tokK; rw [List.getD_eq_getElem?_getD, List.getElem?_eq_getElem hbl]; rfl
  have HC := Lib.hid (fun W => bucket_any ⟨k.toArray⟩ (S.nb : Int) (by show k.toArray.size ≤ _; rw [List.size_toArray]; omega) W)
  rw [bucket_bk ok.nb k] at HC
  have hn2 : (S.nb : Int) ≤ 256 := by have := ok.nb; omega
  have H := Lib.hid h
  have HN := Lib.hid hn
  have HK : Hid (k.length ≤ 100000) := Lib.hid hk
  have hmi : (sumC S.T : Int) ≤ 4194304 := by omega
  have hm0 : (0 : Int) ≤ (sumC S.T : Int) := by omega
  have ho0 : (0 : Int) ≤ (sizE (oldC V k).1.e : Int) := by omega
  obtain ⟨y, hy⟩ : ∃ y, oldC V k = y := ⟨_, rfl⟩
  rw [hy] at hlk hoz ho0 HN ol1 ol2
  have HS2 : Hid (∀ W, Calls Tryz.prog 64 #[entV ⟨y.1.e.k.toArray⟩ y.1.e.s y.1.e.u y.1.e.o y.1.e.has y.2.1 y.1.e.v.length y.2.2] W (IsI (sizE y.1.e : Int) W)) := Lib.hid fun W => sizeC_any y.1.e y.2.1 y.2.2 ol1 ol2 W
  have l4 := later_cell h.c4
  have l5 := later_cell h.c5
  have hlk2 : ∀ p : Later w, (Instr.lookup 71 (.map (some b)) (.string ⟨k.toArray⟩) false).run Tryz.prog p.world = .ok (cV y) p.world := fun p => hlk p.world p.bel
  have hft := field_ent ⟨y.1.e.k.toArray⟩ y.1.e.s y.1.e.u y.1.e.o y.1.e.has y.2.1 y.1.e.v.length y.2.2 y.1.wh y.1.cl y.1.us
  have HT : Hid (S.tok[bk S.nb k]? = some (tokK S k)) := Lib.hid (by rw [List.getElem?_eq_getElem hbl, ct])
  obtain ⟨i, hi⟩ : ∃ i, bk S.nb k = i := ⟨_, rfl⟩
  have HI := Lib.hid hi
  obtain ⟨t, ht⟩ : ∃ t, tokK S k = t := ⟨_, rfl⟩
  have HTT : Hid (S.tok.getD i 0 = t) := Lib.hid (by rw [← ht, ← hi]; rfl)
  simp only [hi, ht] at HC hin hu ht0 HT
  obtain ⟨n, hnn⟩ : ∃ n, S.nb = n := ⟨_, rfl⟩
  have c6 := h.c6
  simp only [hnn] at c6 HC hin hn2
  obtain ⟨n0, hn0⟩ : ∃ n, (sumC S.T : Int) = n := ⟨_, rfl⟩
  obtain ⟨n2, hn2'⟩ : ∃ n, (sizE y.1.e : Int) = n := ⟨_, rfl⟩
  rw [hn0] at hmi hm0 l5 HN
  rw [hn2'] at hoz ho0 HN HS2
  clear h hos hlk hsum hrb hn ol1 ol2 hy ok hbl ct hi ht hnn hn0 hn2' hk
  unfold cV at hlk2
  go_enter Tryz.func46, Tryz.ntmps46
  go_wp2_with fail
  refine wp_region_later_tail 15 (by kernel_rfl) (by kernel_rfl) ?_
  simp only [List.take_succ_cons, List.take_zero, List.drop_succ_cons, List.drop_zero]
  repeat (go_big_quiet_step (first | (go_at_call 64; with_reducible exact laterI (HS2.out _))))
  refine wpQuiet_nil ?_
  intro w' hw'
  obtain ⟨p, rfl⟩ := hw'
  have HB2 : Hid (Below w.heap.size w p.world) := Lib.hid p.bel
  have e2 := H.out.below HB2.out
  have d4 := e2.c4
  have d5 := l5 p
  have d6 := c6
  rw [← p.bel.cell (p := ⟨g, 6, none⟩) (H.out.lt g H.out.fg)] at d6
  have z5 := e2.z 5
  obtain ⟨w2, hw2⟩ : ∃ w2, p.world = w2 := ⟨_, rfl⟩
  rw [hw2] at HB2 d4 d5 d6 z5 e2 ⊢
  obtain ⟨nb, hnb⟩ : ∃ nb, n0 - n2 = nb := ⟨_, rfl⟩
  have HM3 : Hid (TabBC (w2.setCell ⟨g, 5, none⟩ (.int .i64 nb)) b V) := Lib.hid (e2.map.keep (Below.heap_setCell _ ⟨g, 5, none⟩ (.int .i64 nb) b H.out.gb))
  obtain ⟨w4, hdr, hT4, ht4⟩ := drop_runC HM3.out (k := k) (by have := HK.out; unfold maxLen; omega) 0
  rw [hnb] at HN
  have HT4 := Lib.hid hT4
  have HM4 := Lib.hid ht4
  have d6' : w4.cell? ⟨g, 6, none⟩ = some (.slice (some ⟨tk, 0, none⟩) n c) := by
    have h1 : (w2.setCell ⟨g, 5, none⟩ (.int .i64 nb)).cell? ⟨g, 6, none⟩ = some (.slice (some ⟨tk, 0, none⟩) n c) :=
      ((e2.blk.set_ 5 (.int .i64 nb)).cell 6).trans ((show ((clC S b tk c).setIfInBounds 5 (.int .i64 nb))[6]? = (clC S b tk c)[6]? by simp [clC]).trans ((e2.blk.cell 6).symm.trans d6))
    rw [← h1]
    exact World.cell?_of_block (ht4.grown.block g (block_lt h1) (by intro e; injection e with e; exact H.out.gb e.symm))
  have dt4 : w4.cell? ⟨tk, i, none⟩ = some (.int .i64 t) := by
    obtain ⟨hb1, hb2⟩ := List.getElem?_eq_some_iff.1 HT.out
    have h1 := e2.tok.keep (w' := w2.setCell ⟨g, 5, none⟩ (.int .i64 nb)) (Below.heap_setCell _ ⟨g, 5, none⟩ _ tk H.out.gt)
    have h2 := h1.keep (ht4.grown.block tk h1.lt (by intro e; injection e with e; exact H.out.bt e))
    have := h2.cell i hb1
    rwa [hb2] at this
  have zt4 : w4.frozen? ⟨tk, i, none⟩ = false := by
    have h1 := e2.tok.keep (w' := w2.setCell ⟨g, 5, none⟩ (.int .i64 nb)) (Below.heap_setCell _ ⟨g, 5, none⟩ _ tk H.out.gt)
    have h2 := h1.keep (ht4.grown.block tk h1.lt (by intro e; injection e with e; exact H.out.bt e))
    exact h2.zero i
  clear hT4 ht4 e2 hw2 p l4 l5 hlk2 c6
  go_wp2_with fail
  refine (HC.out w4).mono ?_
  rintro e w5 ⟨rfl, hb⟩
  have g6 : w5.cell? ⟨g, 6, none⟩ = some (.slice (some ⟨tk, 0, none⟩) n c) := (hb.cell (p := ⟨g, 6, none⟩) (block_lt d6')).trans d6'
  have gt : w5.cell? ⟨tk, i, none⟩ = some (.int .i64 t) := (hb.cell (p := ⟨tk, i, none⟩) (block_lt dt4)).trans dt4
  have gz : w5.frozen? ⟨tk, i, none⟩ = false := (hb.frozen (p := ⟨tk, i, none⟩) (block_lt dt4)).trans zt4
  have HE := Lib.hid (gone_end H.out HB2.out HN.out HI.out (by rw [HTT.out]) HT4.out HM4.out hb)
  clear hb d6' dt4 zt4 HT4 HM4 HM3 hdr HB2 d4 d5 d6 z5 HC
  go_wp2
  go_end0
  exact ⟨rfl, ⟨_, _, HE.out.1⟩, HE.out.2⟩
end Go.Proofs.YtpebhfjcakllmaaGreat
