/- Rows of things that are done to a disk, as they come in; whether they are more than is looked at; one that is done. -/
/- Something that is done to a disk, by the statements' own call; whether they are more than is looked at. -/
/- The law DiskSyncs, walked. -/
/- The document's own answer for a disk: two rows joined; a step. -/
import Derived.Test.YtndbggkpobcpjaaGreatDk
import Derived.Test.YtndbggkpobcpjaaGreatCore
import Derived.Test.YtndbggkpobcpjaaGreatSized
import Derived.Deep.Slices
import Derived.Deep.Fields
import Derived.Lib.SlBytesConst
import Derived.Deep.RegionHeld3
namespace Go.Proofs.YtndbggkpobcpjaaGreat
open Go.RowKit Go.ChangeShapes Go.WideShapes Mem
set_option maxRecDepth 10000
set_option maxHeartbeats 2000000
set_option linter.unusedVariables false
/-- Something that is done: its kind; where its bytes are, which, with how much room; how much is kept. -/
structure DoV where
  kind : Int
  row : RowV
  kept : Int
instance doVInh : Inhabited DoV := ⟨⟨0, (none, [], 0), 0⟩⟩
/-- What may come in: numbers of 64 bits, and rows that lie below B. -/
structure DoOk (w : World) (B : Nat) (r : DoV) : Prop where
  row : RowOk w B r.row
  k0 : -9223372036854775808 ≤ r.kind
  k1 : r.kind ≤ 9223372036854775807
  p0 : -9223372036854775808 ≤ r.kept
  p1 : r.kept ≤ 9223372036854775807
section
variable {H : Type} {enc : TypeId × Value → H} {w : World} {base : Nat} {held : Bool}
end
theorem DoOk.below {w w' : World} {B : Nat} {r : DoV} (h : DoOk w B r) (hb : Below B w w') : DoOk w' B r := ⟨h.row.below hb, h.k0, h.k1, h.p0, h.p1⟩
end Go.Proofs.YtndbggkpobcpjaaGreat
namespace Go.Proofs.YtndbggkpobcpjaaGreat
open Go.RowKit Mem
set_option maxRecDepth 10000
set_option maxHeartbeats 2000000
set_option linter.unusedVariables false
/-- A disk behind something that is done to it, and what is told. -/
def doS (L T : List UInt8) (n : Nat) (k : Int) (bs : List UInt8) (kp : Int) : List UInt8 × List UInt8 × Nat × Int :=
  if k = 1 then (if 4194304 < L.length + T.length + bs.length then (L, T, n, 3) else (L, T ++ bs, n, 0))
  else if k = 2 then (L ++ T, [], upN T n, 0)
  else if k = 3 then (if 4194304 < bs.length then (L, T, n, 3) else (bs, [], n, 0))
  else if kp < 0 then (L, T, n, 2) else (L ++ T.take kp.toNat, [], n, 0)
theorem rowN_blk {F : Nat → Prop} {w : World} {b : Nat} {t : TypeId} {cs : Array Value} (h : Blk w b t cs) (hf : ¬ F b) {xs : List Value} (hx : cs.toList = xs) : RowN F w (some ⟨b, 0, none⟩) xs := by
  subst hx
  refine Or.inr ⟨b, 0, rfl, hf, h.lt, fun j hj => ?_⟩
  rw [Nat.zero_add, h.cell j]
  simp
theorem rowN_new {F : Nat → Prop} {w : World} {t : TypeId} {m : Nat × Nat} {cs : Array Value} {xs : List Value} (p : Nat) (hp : p = w.heap.size) (hf : ¬ F p) (hx : cs.toList = xs) : RowN F (w.alloc (.cells cs t m)) (some ⟨p, 0, none⟩) xs := by
  subst hp; subst hx
  refine Or.inr ⟨w.heap.size, 0, rfl, hf, by simp, fun j hj => ?_⟩
  have := cell_of_row (w.alloc (.cells cs t m)) w.heap.size j cs t m (heap_alloc_new w _)
  rw [Nat.zero_add, this]
  simp
theorem RowN.alloc {F : Nat → Prop} {w : World} {A : Option Addr} {xs : List Value} (h : RowN F w A xs) (o : Obj) : RowN F (w.alloc o) A xs := h.touch ((Touch.refl F w).alloc o)
/-- What lasts is below what the disk stands in. -/
def NewF (w : World) (F : Nat → Prop) : Prop := ∀ k, F k → w.heap.size ≤ k
theorem newF_step {w w1 : World} {F F' : Nat → Prop} (h : NewF w F) (hs : w.heap.size ≤ w1.heap.size) (h' : ∀ k, F' k → F k ∨ w1.heap.size ≤ k) : NewF w F' := fun k hk => by
  rcases h' k hk with h1 | h1
  · exact h k h1
  · omega
end Go.Proofs.YtndbggkpobcpjaaGreat
namespace Go.Proofs.YtndbggkpobcpjaaGreat
open Go.RowKit Mem
set_option maxRecDepth 100000
set_option maxHeartbeats 2000000
set_option linter.unusedVariables false
theorem same6_true (B B' c c' n n' : Nat) (A A' : Option Addr) (xs : List UInt8) (w : World) (h : Row w B A (xs.map byteV)) (h' : Row w B' A' (xs.map byteV)) (hn : n = xs.length) (hn' : n' = xs.length) :
    Calls Tryz.prog 28 #[.slice A n c, .slice A' n' c'] w fun e w' => e = .returned (.bool true) ∧ w = w' := by
  have := same_any B B' c c' n n' A A' xs xs w h h' hn hn'
  rw [show (xs == xs) = true by simp] at this
  exact this
theorem RowN.step {F F' : Nat → Prop} {w w1 : World} {A : Option Addr} {xs : List Value} (h : RowN F w A xs) (ht : Touch F w w1) (hf : ∀ k, F' k → F k ∨ w.heap.size ≤ k) : RowN F' w1 A xs := by
  rcases h with h | ⟨b, o, e, hb, hl, hc⟩
  · exact Or.inl h
  · refine Or.inr ⟨b, o, e, fun hx => ?_, Nat.lt_of_lt_of_le hl ht.size, fun j hj => (World.cell?_of_block (ht.block b hl hb)).trans (hc j hj)⟩
    rcases hf b hx with h1 | h1
    · exact hb h1
    · omega
theorem RowN.below {F : Nat → Prop} {w w1 : World} {A : Option Addr} {xs : List Value} (h : RowN F w A xs) (hb : Below w.heap.size w w1) : RowN F w1 A xs := h.touch (Touch.ofBelow hb)
theorem rowN_made {F : Nat → Prop} {w w1 : World} {A : Option Addr} {n c : Nat} {xs : List Value} (hF : ∀ k, F k → k < w.heap.size) (ho : w1.ownsRow w.heap.size 5 1 (.slice A n c) n xs) : RowN F w1 A xs := by
  rcases Row.of_own ho with h | ⟨b, o, rfl, hb, hc⟩
  · exact Or.inl h
  · exact Or.inr ⟨b, o, rfl, fun hf => by have := hF b hf; have h2 := (ownIn ho rfl).1; simp only at h2; omega, hb, hc⟩
/-- A disk of a statement's own, in blocks that are new since w0. -/
structure Dk1 (w0 w : World) (F : Nat → Prop) (g : Nat) (L T : List UInt8) (q : Nat) : Prop where
  new : NewF w0 F
  at_ : DkAt dk0 w F g L T q
  bel : Below w0.heap.size w0 w
theorem Dk1.below {w0 w w1 : World} {F : Nat → Prop} {g q : Nat} {L T : List UInt8} (h : Dk1 w0 w F g L T q) (hb : Below w.heap.size w w1) : Dk1 w0 w1 F g L T q := ⟨h.new, h.at_.below hb, h.bel.trans (hb.mono h.bel.size)⟩
theorem Dk1.to {w0 w w1 : World} {F F' : Nat → Prop} {g q q' : Nat} {L T L' T' : List UInt8} (h : Dk1 w0 w F g L T q) (hf : ∀ k, F' k → F k ∨ w.heap.size ≤ k) (hd : DkAt dk0 w1 F' g L' T' q') (ht : Touch F w w1) : Dk1 w0 w1 F' g L' T' q' :=
  ⟨newF_step h.new h.bel.size hf, hd, h.bel.trans (ht.below h.bel.size h.new)⟩
theorem upN_nil (q : Nat) : upN [] q = q := rfl
end Go.Proofs.YtndbggkpobcpjaaGreat
namespace Go.Proofs.YtndbggkpobcpjaaGreat
open Go.RowKit Mem
set_option maxRecDepth 100000
set_option maxHeartbeats 8000000
set_option linter.unusedVariables false
theorem join_made {w w1 w2 : World} {xs ys : List UInt8} {v : Value} {m : Nat} (hm : ys.length = m) (hb : Below w.heap.size w w1) (ho : w2.ownsRow w.heap.size 5 1 v (xs.length + m) (xs.map byteV ++ ys.map byteV)) {A : Option Addr} {c : Nat} (hA : w1.ownsRow w.heap.size 5 1 (.slice A xs.length c) xs.length (xs.map byteV)) (hg : w1.grownBy w2 (Value.slice A xs.length c).ownBlock) :
    Made w.heap.size (xs ++ ys) w (.returned v) w2 := by
  subst hm
  refine made_of ho (by rw [List.map_append]) (hb.grown hg hb.size fun k hk => ?_)
  cases A with
  | none => cases hk
  | some a =>
    have : a.block = k := by simpa [Value.ownBlock] using hk
    subst this
    exact (ownIn hA rfl).1
theorem join_any (n m c c' : Nat) (A A' : Option Addr) (xs ys : List UInt8) (hn : n = xs.length) (hm : m = ys.length) (w : World) (h : Row w w.heap.size A (xs.map byteV)) (h' : Row w w.heap.size A' (ys.map byteV)) (hl : n + m ≤ 1073741824) :
    Calls Tryz.prog 107 #[.slice A n c, .slice A' m c'] w (Made w.heap.size (xs ++ ys) w) := by
  obtain ⟨i0, hi0, hz0, hz1, hz2⟩ := info_parts info_b
  have HC := Lib.hid (copyb_any w.heap.size c n A xs hn w h (Nat.le_refl _) (by omega))
  have HR := Lib.hid h'
  have HM := Lib.hid hm
  have HL := Lib.hid hl
  have HN := Lib.hid hn
  clear h h' hm hl hn
  go_enter Tryz.func107, Tryz.ntmps107
  go_wp2_with fail
  refine HC.out.mono ?_
  rintro e w1 ⟨A1, c1, rfl, ho, hb⟩
  have HO := Lib.hid ho
  have HB := Lib.hid hb
  have HR := Lib.hid ((HR.out.below hb).more hb.size)
  clear ho hb
  go_wp2_with (at_builtin; refine wpList_app _ rfl _ _ 27 rfl w.heap.size 5 i0 (.int .u8 0) 1 Tryz.underlying27 hi0 hz0 hz1 hz2 rfl _ _ _ rfl HO.out w1.heap.size _ m c' (ys.map byteV) rfl (by rw [List.length_map]; exact HM.out.symm) HR.out (byte_one ys) (by have h1 := HL.out; have h2 := HN.out; unfold maxLen; omega) (by have h1 := HL.out; have h2 := HN.out; omega) HB.out.size ?_)
  intro v' w2 hown hgr _
  have HX := Lib.hid (join_made HM.out.symm HB.out hown HO.out hgr)
  clear hown hgr
  go_wp2
  go_ret
  exact HX.out
theorem far3 {w : World} {b i g : Nat} {x : Option Value} {u0 u1 u2 : Value} (h : w.cell? ⟨b, i, none⟩ = x) (hb : b ≠ g) : (((w.setCell ⟨g, 0, none⟩ u0).setCell ⟨g, 1, none⟩ u1).setCell ⟨g, 2, none⟩ u2).cell? ⟨b, i, none⟩ = x := by
  have hk : (((w.setCell ⟨g, 0, none⟩ u0).setCell ⟨g, 1, none⟩ u1).setCell ⟨g, 2, none⟩ u2).heap[b]? = w.heap[b]? :=
    ((Below.heap_setCell _ ⟨g, 2, none⟩ u2 b hb).trans (Below.heap_setCell _ ⟨g, 1, none⟩ u1 b hb)).trans (Below.heap_setCell _ ⟨g, 0, none⟩ u0 b hb)
  exact (World.cell?_of_block (a := ⟨b, i, none⟩) hk).trans h
theorem step_fin {w w1 : World} {g B : Nat} {x y z u0 u1 u2 : Value} {A1 : Option Addr} {c1 : Nat} {xs : List UInt8} (hb : Below w.heap.size w w1) (hblk : Blk w1 g 29 #[x, y, z]) (hg : w.heap.size ≤ g) (hB : w.heap.size ≤ B) (ho : w1.ownsRow B 5 1 (.slice A1 xs.length c1) xs.length (xs.map byteV)) {F : Nat → Prop} (hF : ∀ k, F k → k < w.heap.size) :
    Blk (((w1.setCell ⟨g, 0, none⟩ u0).setCell ⟨g, 1, none⟩ u1).setCell ⟨g, 2, none⟩ u2) g 29 #[u0, u1, u2] ∧ Below w.heap.size w (((w1.setCell ⟨g, 0, none⟩ u0).setCell ⟨g, 1, none⟩ u1).setCell ⟨g, 2, none⟩ u2) ∧
      RowN F (((w1.setCell ⟨g, 0, none⟩ u0).setCell ⟨g, 1, none⟩ u1).setCell ⟨g, 2, none⟩ u2) A1 (xs.map byteV) ∧ xs.length ≤ c1 := by
  refine ⟨((hblk.set_ 0 u0).set_ 1 u1).set_ 2 u2, ((hb.setCell (p := ⟨g, 0, none⟩) hg _).setCell (p := ⟨g, 1, none⟩) hg _).setCell (p := ⟨g, 2, none⟩) hg _, rowN_made hF (ownKeep (ownBase ho hB) fun a ha => ?_), (own_cap ho).1⟩
  have hne := ownNe ho hblk (by decide) ha
  exact ((Below.heap_setCell _ ⟨g, 2, none⟩ u2 _ hne).trans (Below.heap_setCell _ ⟨g, 1, none⟩ u1 _ hne)).trans (Below.heap_setCell _ ⟨g, 0, none⟩ u0 _ hne)
/-- A step of the document's disk: its rows, their count, and the error. -/
def StepP (F : Nat → Prop) (s : List UInt8 × List UInt8 × Nat × Int) (w : World) (e : Ending) (w' : World) : Prop :=
  ∃ A1 c1 A2 c2, e = .returned (.tuple #[.agg #[.slice A1 s.1.length c1, .slice A2 s.2.1.length c2, .int .i64 (s.2.2.1 : Int)], .int .i64 s.2.2.2]) ∧ s.1.length ≤ c1 ∧ s.2.1.length ≤ c2 ∧ RowN F w' A1 (s.1.map byteV) ∧ RowN F w' A2 (s.2.1.map byteV) ∧ Below w.heap.size w w'
theorem step6_any (F : Nat → Prop) (L T bs : List UInt8) (q : Nat) (k kp : Int) (A A' B : Option Addr) (n m l c c' d : Nat) (hn : n = L.length) (hm : m = T.length) (hl : l = bs.length) (hc : n ≤ c) (hc' : m ≤ c') (hll : l ≤ 140737488355328) (hmx : n + m ≤ 4194304) (hq : q ≤ 4611686018427387904) (w : World) (hF : ∀ k, F k → k < w.heap.size)
    (h : RowN F w A (L.map byteV)) (h' : RowN F w A' (T.map byteV)) (hb : RowN F w B (bs.map byteV)) :
    Calls Tryz.prog 79 #[.agg #[.slice A n c, .slice A' m c', .int .i64 (q : Int)], .agg #[.int .i64 k, .slice B l d, .int .i64 kp]] w (StepP F (doS L T q k bs kp) w) := by
  have hB0 : Below w.heap.size w (((w.alloc (.cells #[.slice A n c, .slice A' m c', .int .i64 (q : Int)] 29)).alloc (.cells #[.int .i64 k, .slice B l d, .int .i64 kp] 142)).alloc (.cells #[.slice none 0 0, .slice none 0 0, .int .i64 0] 29)).drew :=
    ((((Below.refl _ _).alloc (Nat.le_refl _) _).alloc (by simp) _).alloc (by simp; omega) _).drew
  have HB0 := Lib.hid hB0
  have HT : Hid (Blk (((w.alloc (.cells #[.slice A n c, .slice A' m c', .int .i64 (q : Int)] 29)).alloc (.cells #[.int .i64 k, .slice B l d, .int .i64 kp] 142)).alloc (.cells #[.slice none 0 0, .slice none 0 0, .int .i64 0] 29)).drew w.heap.size 29 #[.slice A n c, .slice A' m c', .int .i64 (q : Int)]) :=
    Lib.hid ((((Blk.new w _ _).alloc _).alloc _).drew)
  have HDo : Hid (Blk (((w.alloc (.cells #[.slice A n c, .slice A' m c', .int .i64 (q : Int)] 29)).alloc (.cells #[.int .i64 k, .slice B l d, .int .i64 kp] 142)).alloc (.cells #[.slice none 0 0, .slice none 0 0, .int .i64 0] 29)).drew (w.heap.size + 1) 142 #[.int .i64 k, .slice B l d, .int .i64 kp]) :=
    Lib.hid (by
      have := Blk.new (w.alloc (.cells #[.slice A n c, .slice A' m c', .int .i64 (q : Int)] 29)) 142 #[.int .i64 k, .slice B l d, .int .i64 kp]
      simp at this
      exact (this.alloc _).drew)
  have HRs : Hid (Blk (((w.alloc (.cells #[.slice A n c, .slice A' m c', .int .i64 (q : Int)] 29)).alloc (.cells #[.int .i64 k, .slice B l d, .int .i64 kp] 142)).alloc (.cells #[.slice none 0 0, .slice none 0 0, .int .i64 0] 29)).drew (w.heap.size + 1 + 1) 29 #[.slice none 0 0, .slice none 0 0, .int .i64 0]) :=
    Lib.hid (by
      have := Blk.new ((w.alloc (.cells #[.slice A n c, .slice A' m c', .int .i64 (q : Int)] 29)).alloc (.cells #[.int .i64 k, .slice B l d, .int .i64 kp] 142)) 29 #[.slice none 0 0, .slice none 0 0, .int .i64 0]
      simp at this
      exact this.drew)
  obtain ⟨S, hS⟩ : ∃ S, doS L T q k bs kp = S := ⟨_, rfl⟩
  rw [hS]
  unfold doS at hS
  have HA := Lib.hid h
  have HA' := Lib.hid h'
  have HBr := Lib.hid hb
  have HFF := Lib.hid hF
  have hni : (n : Int) ≤ 4194304 := by omega
  have hmi : (m : Int) ≤ 4194304 := by omega
  have hnm : (n : Int) + (m : Int) ≤ 4194304 := by omega
  have hlm : (l : Int) ≤ 140737488355328 := by omega
  have hl0 : (0 : Int) ≤ (l : Int) := by omega
  have hn0 : (0 : Int) ≤ (n : Int) := by omega
  have hm0 : (0 : Int) ≤ (m : Int) := by omega
  have hqi : (q : Int) ≤ 4611686018427387904 := by omega
  have hq0 : (0 : Int) ≤ (q : Int) := by omega
  clear h h' hb hF hB0
  by_cases h1 : k = 1
  · rw [if_pos h1] at hS
    subst h1
    by_cases hf : 4194304 < L.length + T.length + bs.length
    · have hfi : (4194304 : Int) < (n : Int) + (m : Int) + (l : Int) := by omega
      rw [if_pos hf] at hS
      have HX : Hid (∀ w', Below w.heap.size w w' → StepP F S w (.returned (.tuple #[.agg #[.slice A n c, .slice A' m c', .int .i64 (q : Int)], .int .i64 3])) w') := Lib.hid fun w' hb => by
        subst hS
        exact ⟨A, c, A', c', by rw [← hn, ← hm], by rw [← hn]; exact hc, by rw [← hm]; exact hc', HA.out.below hb, HA'.out.below hb, hb⟩
      clear hf
      clear hS hn hm hl hc hc' hll hmx hq
      go_enter Tryz.func79, Tryz.ntmps79
      go_wp2
      exact bodyPost_ret (v := .tuple #[.agg #[.slice A n c, .slice A' m c', .int .i64 (q : Int)], .int .i64 3]) (by simp [results, Tryz.results79, go_sem]) rfl (HX.out _ ((((Below.refl _ _).alloc (Nat.le_refl _) _).alloc (by simp) _).alloc (by simp; omega) _))
    · have hfi : (n : Int) + (m : Int) + (l : Int) ≤ 4194304 := by omega
      rw [if_neg hf] at hS
      obtain ⟨X, hX⟩ : ∃ X, T ++ bs = X := ⟨_, rfl⟩
      have HJ : Hid (∀ W, Below w.heap.size w W → Calls Tryz.prog 107 #[.slice A' m c', .slice B l d] W (Made W.heap.size X W)) := Lib.hid fun W hb => by
        rw [← hX]
        exact join_any m l c' d A' B T bs hm hl W (HA'.out.below hb).row (HBr.out.below hb).row (by omega)
      rw [hX] at hS
      have HE := Lib.hid (And.intro hn (And.intro hm (And.intro hl (And.intro hc hc'))))
      clear hf hn hm hl hc hc' hll hmx hq hX
      go_enter Tryz.func79, Tryz.ntmps79
      go_wp2_with fail
      go_region_held3 (fun w' => w'.cell? ⟨w.heap.size, 0, none⟩ = some (.slice A n c) ∧ w'.cell? ⟨w.heap.size, 1, none⟩ = some (.slice A' m c') ∧ w'.cell? ⟨w.heap.size, 2, none⟩ = some (.int .i64 (q : Int)) ∧ w'.cell? ⟨w.heap.size + 1, 1, none⟩ = some (.slice B l d) ∧ w'.cell? ⟨w.heap.size + 1, 2, none⟩ = some (.int .i64 kp))
        (first | exact ⟨f0, f1, f2, f3, f4⟩ | exact ⟨far3 f0 (by omega), far3 f1 (by omega), far3 f2 (by omega), far3 f3 (by omega), far3 f4 (by omega)⟩ | exact ⟨HT.out.cell 0, HT.out.cell 1, HT.out.cell 2, HDo.out.cell 1, HDo.out.cell 2⟩ | go_keep)
        ((go_at_call 107; refine (HJ.out _ HB0.out).mono ?_; rintro e w1 ⟨A1, c1, rfl, ho, hb⟩; have HO := Lib.hid ho; have HB := Lib.hid hb; (have f0 : w1.cell? ⟨w.heap.size, 0, none⟩ = some (.slice A n c) := (HT.out.below HB.out HT.out.lt).cell 0); (have f1 : w1.cell? ⟨w.heap.size, 1, none⟩ = some (.slice A' m c') := (HT.out.below HB.out HT.out.lt).cell 1); (have f2 : w1.cell? ⟨w.heap.size, 2, none⟩ = some (.int .i64 (q : Int)) := (HT.out.below HB.out HT.out.lt).cell 2); (have f3 : w1.cell? ⟨w.heap.size + 1, 1, none⟩ = some (.slice B l d) := (HDo.out.below HB.out HDo.out.lt).cell 1); (have f4 : w1.cell? ⟨w.heap.size + 1, 2, none⟩ = some (.int .i64 kp) := (HDo.out.below HB.out HDo.out.lt).cell 2); (have r0 : w1.cell? ⟨w.heap.size + 1 + 1, 0, none⟩ = some (.slice none 0 0) := (HRs.out.below HB.out HRs.out.lt).cell 0); (have r1 : w1.cell? ⟨w.heap.size + 1 + 1, 1, none⟩ = some (.slice none 0 0) := (HRs.out.below HB.out HRs.out.lt).cell 1); (have r2 : w1.cell? ⟨w.heap.size + 1 + 1, 2, none⟩ = some (.int .i64 0) := (HRs.out.below HB.out HRs.out.lt).cell 2); (have z0 := (HRs.out.below HB.out HRs.out.lt).frozen 0); (have z1 := (HRs.out.below HB.out HRs.out.lt).frozen 1); (have z2 := (HRs.out.below HB.out HRs.out.lt).frozen 2); clear ho hb))
      · have hfin := step_fin (u0 := .slice A n c) (u1 := .slice A1 X.length c1) (u2 := .int .i64 (q : Int)) (HB0.out.trans (HB.out.mono HB0.out.size)) (HRs.out.below HB.out HRs.out.lt) (by omega) HB0.out.size HO.out HFF.out
        have g0 := hfin.1.cell 0
        have g1 := hfin.1.cell 1
        have g2 := hfin.1.cell 2
        have HFIN := Lib.hid hfin
        clear hfin
        go_wp2
        refine bodyPost_ret (v := .tuple #[.agg #[.slice A n c, .slice A1 X.length c1, .int .i64 (q : Int)], .int .i64 0]) (by simp [results, Tryz.results79, go_sem, g0, g1, g2]) rfl ?_
        subst hS
        exact ⟨A, c, A1, c1, by rw [← HE.out.1], by rw [← HE.out.1]; exact HE.out.2.2.2.1, HFIN.out.2.2.2, HA.out.below HFIN.out.2.1, HFIN.out.2.2.1, HFIN.out.2.1⟩
  rw [if_neg h1] at hS
  by_cases h2 : k = 2
  · rw [if_pos h2] at hS
    subst h2
    by_cases hT : T.length = 0
    · have hm00 : m = 0 := by omega
      obtain rfl : T = [] := List.eq_nil_of_length_eq_zero hT
      subst hm00
      rw [List.append_nil, upN_nil] at hS
      have HX : Hid (∀ w', Below w.heap.size w w' → StepP F S w (.returned (.tuple #[.agg #[.slice A n c, .slice A' 0 c', .int .i64 (q : Int)], .int .i64 0])) w') := Lib.hid fun w' hb => by
        subst hS
        exact ⟨A, c, A', c', by rw [← hn]; rfl, by rw [← hn]; exact hc, hc', HA.out.below hb, HA'.out.below hb, hb⟩
      clear h1 hT hmi hnm hm0 HT HDo HRs HB0
      clear hS hn hl hc hc' hll hmx hq hm
      go_enter Tryz.func79, Tryz.ntmps79
      go_wp2
      exact bodyPost_ret (v := .tuple #[.agg #[.slice A n c, .slice A' 0 c', .int .i64 (q : Int)], .int .i64 0]) (by simp [results, Tryz.results79, go_sem]) rfl (HX.out _ ((((Below.refl _ _).alloc (Nat.le_refl _) _).alloc (by simp) _).alloc (by simp; omega) _))
    · have hmp : (0 : Int) < (m : Int) := by omega
      obtain ⟨X, hX⟩ : ∃ X, L ++ T = X := ⟨_, rfl⟩
      have HJ : Hid (∀ W, Below w.heap.size w W → Calls Tryz.prog 107 #[.slice A n c, .slice A' m c'] W (Made W.heap.size X W)) := Lib.hid fun W hb => by
        rw [← hX]
        exact join_any n m c c' A A' L T hn hm W (HA.out.below hb).row (HA'.out.below hb).row (by omega)
      rw [hX, show upN T q = q + 1 from if_neg hT] at hS
      have HE := Lib.hid (And.intro hn (And.intro hm (And.intro hl (And.intro hc hc'))))
      clear h1 hT hn hm hl hc hc' hll hmx hq hX
      go_enter Tryz.func79, Tryz.ntmps79
      go_wp2_with fail
      go_region_held3 (fun w' => w'.cell? ⟨w.heap.size, 0, none⟩ = some (.slice A n c) ∧ w'.cell? ⟨w.heap.size, 1, none⟩ = some (.slice A' m c') ∧ w'.cell? ⟨w.heap.size, 2, none⟩ = some (.int .i64 (q : Int)) ∧ w'.cell? ⟨w.heap.size + 1, 1, none⟩ = some (.slice B l d) ∧ w'.cell? ⟨w.heap.size + 1, 2, none⟩ = some (.int .i64 kp))
        (first | exact ⟨f0, f1, f2, f3, f4⟩ | exact ⟨far3 f0 (by omega), far3 f1 (by omega), far3 f2 (by omega), far3 f3 (by omega), far3 f4 (by omega)⟩ | exact ⟨HT.out.cell 0, HT.out.cell 1, HT.out.cell 2, HDo.out.cell 1, HDo.out.cell 2⟩ | go_keep)
        ((go_at_call 107; refine (HJ.out _ HB0.out).mono ?_; rintro e w1 ⟨A1, c1, rfl, ho, hb⟩; have HO := Lib.hid ho; have HB := Lib.hid hb; (have f0 : w1.cell? ⟨w.heap.size, 0, none⟩ = some (.slice A n c) := (HT.out.below HB.out HT.out.lt).cell 0); (have f1 : w1.cell? ⟨w.heap.size, 1, none⟩ = some (.slice A' m c') := (HT.out.below HB.out HT.out.lt).cell 1); (have f2 : w1.cell? ⟨w.heap.size, 2, none⟩ = some (.int .i64 (q : Int)) := (HT.out.below HB.out HT.out.lt).cell 2); (have f3 : w1.cell? ⟨w.heap.size + 1, 1, none⟩ = some (.slice B l d) := (HDo.out.below HB.out HDo.out.lt).cell 1); (have f4 : w1.cell? ⟨w.heap.size + 1, 2, none⟩ = some (.int .i64 kp) := (HDo.out.below HB.out HDo.out.lt).cell 2); (have r0 : w1.cell? ⟨w.heap.size + 1 + 1, 0, none⟩ = some (.slice none 0 0) := (HRs.out.below HB.out HRs.out.lt).cell 0); (have r1 : w1.cell? ⟨w.heap.size + 1 + 1, 1, none⟩ = some (.slice none 0 0) := (HRs.out.below HB.out HRs.out.lt).cell 1); (have r2 : w1.cell? ⟨w.heap.size + 1 + 1, 2, none⟩ = some (.int .i64 0) := (HRs.out.below HB.out HRs.out.lt).cell 2); (have z0 := (HRs.out.below HB.out HRs.out.lt).frozen 0); (have z1 := (HRs.out.below HB.out HRs.out.lt).frozen 1); (have z2 := (HRs.out.below HB.out HRs.out.lt).frozen 2); clear ho hb))
      · have hfin := step_fin (u0 := .slice A1 X.length c1) (u1 := .slice none 0 0) (u2 := .int .i64 (IntKind.i64.wrap ((q : Int) + 1))) (HB0.out.trans (HB.out.mono HB0.out.size)) (HRs.out.below HB.out HRs.out.lt) (by omega) HB0.out.size HO.out HFF.out
        have g0 := hfin.1.cell 0
        have g1 := hfin.1.cell 1
        have g2 := hfin.1.cell 2
        have HFIN := Lib.hid hfin
        clear hfin
        go_wp2
        refine bodyPost_ret (v := .tuple #[.agg #[.slice A1 X.length c1, .slice none 0 0, .int .i64 (IntKind.i64.wrap ((q : Int) + 1))], .int .i64 0]) (by simp [results, Tryz.results79, go_sem, g0, g1, g2]) rfl ?_
        subst hS
        have hwq : IntKind.i64.wrap ((q : Int) + 1) = ((q + 1 : Nat) : Int) := by rw [IntKind.wrap_i64]; omega
        exact ⟨A1, c1, none, 0, by rw [hwq]; rfl, HFIN.out.2.2.2, Nat.le_refl _, HFIN.out.2.2.1, Or.inl rfl, HFIN.out.2.1⟩
  rw [if_neg h2] at hS
  by_cases h3 : k = 3
  · rw [if_pos h3] at hS
    subst h3
    by_cases hf : 4194304 < bs.length
    · have hfi : (4194304 : Int) < (l : Int) := by omega
      rw [if_pos hf] at hS
      have HX : Hid (∀ w', Below w.heap.size w w' → StepP F S w (.returned (.tuple #[.agg #[.slice A n c, .slice A' m c', .int .i64 (q : Int)], .int .i64 3])) w') := Lib.hid fun w' hb => by
        subst hS
        exact ⟨A, c, A', c', by rw [← hn, ← hm], by rw [← hn]; exact hc, by rw [← hm]; exact hc', HA.out.below hb, HA'.out.below hb, hb⟩
      clear hf h1 h2
      clear hS hn hm hl hc hc' hll hmx hq
      go_enter Tryz.func79, Tryz.ntmps79
      go_wp2
      exact bodyPost_ret (v := .tuple #[.agg #[.slice A n c, .slice A' m c', .int .i64 (q : Int)], .int .i64 3]) (by simp [results, Tryz.results79, go_sem]) rfl (HX.out _ ((((Below.refl _ _).alloc (Nat.le_refl _) _).alloc (by simp) _).alloc (by simp; omega) _))
    · have hfi : (l : Int) ≤ 4194304 := by omega
      rw [if_neg hf] at hS
      have HJ : Hid (∀ W, Below w.heap.size w W → Calls Tryz.prog 108 #[.slice B l d] W (Made W.heap.size bs W)) := Lib.hid fun W hb =>
        copyb_any _ d l B bs hl W (HBr.out.below hb).row (Nat.le_refl _) (by omega)
      have HE := Lib.hid (And.intro hn (And.intro hm (And.intro hl (And.intro hc hc'))))
      clear hf h1 h2 hn hm hl hc hc' hll hmx hq
      go_enter Tryz.func79, Tryz.ntmps79
      go_wp2_with fail
      go_region_held3 (fun w' => w'.cell? ⟨w.heap.size, 0, none⟩ = some (.slice A n c) ∧ w'.cell? ⟨w.heap.size, 1, none⟩ = some (.slice A' m c') ∧ w'.cell? ⟨w.heap.size, 2, none⟩ = some (.int .i64 (q : Int)) ∧ w'.cell? ⟨w.heap.size + 1, 1, none⟩ = some (.slice B l d) ∧ w'.cell? ⟨w.heap.size + 1, 2, none⟩ = some (.int .i64 kp))
        (first | exact ⟨f0, f1, f2, f3, f4⟩ | exact ⟨far3 f0 (by omega), far3 f1 (by omega), far3 f2 (by omega), far3 f3 (by omega), far3 f4 (by omega)⟩ | exact ⟨HT.out.cell 0, HT.out.cell 1, HT.out.cell 2, HDo.out.cell 1, HDo.out.cell 2⟩ | go_keep)
        ((go_at_call 108; refine (HJ.out _ HB0.out).mono ?_; rintro e w1 ⟨A1, c1, rfl, ho, hb⟩; have HO := Lib.hid ho; have HB := Lib.hid hb; (have f0 : w1.cell? ⟨w.heap.size, 0, none⟩ = some (.slice A n c) := (HT.out.below HB.out HT.out.lt).cell 0); (have f1 : w1.cell? ⟨w.heap.size, 1, none⟩ = some (.slice A' m c') := (HT.out.below HB.out HT.out.lt).cell 1); (have f2 : w1.cell? ⟨w.heap.size, 2, none⟩ = some (.int .i64 (q : Int)) := (HT.out.below HB.out HT.out.lt).cell 2); (have f3 : w1.cell? ⟨w.heap.size + 1, 1, none⟩ = some (.slice B l d) := (HDo.out.below HB.out HDo.out.lt).cell 1); (have f4 : w1.cell? ⟨w.heap.size + 1, 2, none⟩ = some (.int .i64 kp) := (HDo.out.below HB.out HDo.out.lt).cell 2); (have r0 : w1.cell? ⟨w.heap.size + 1 + 1, 0, none⟩ = some (.slice none 0 0) := (HRs.out.below HB.out HRs.out.lt).cell 0); (have r1 : w1.cell? ⟨w.heap.size + 1 + 1, 1, none⟩ = some (.slice none 0 0) := (HRs.out.below HB.out HRs.out.lt).cell 1); (have r2 : w1.cell? ⟨w.heap.size + 1 + 1, 2, none⟩ = some (.int .i64 0) := (HRs.out.below HB.out HRs.out.lt).cell 2); (have z0 := (HRs.out.below HB.out HRs.out.lt).frozen 0); (have z1 := (HRs.out.below HB.out HRs.out.lt).frozen 1); (have z2 := (HRs.out.below HB.out HRs.out.lt).frozen 2); clear ho hb))
      · have hfin := step_fin (u0 := .slice A1 bs.length c1) (u1 := .slice none 0 0) (u2 := .int .i64 (q : Int)) (HB0.out.trans (HB.out.mono HB0.out.size)) (HRs.out.below HB.out HRs.out.lt) (by omega) HB0.out.size HO.out HFF.out
        have g0 := hfin.1.cell 0
        have g1 := hfin.1.cell 1
        have g2 := hfin.1.cell 2
        have HFIN := Lib.hid hfin
        clear hfin
        go_wp2
        refine bodyPost_ret (v := .tuple #[.agg #[.slice A1 bs.length c1, .slice none 0 0, .int .i64 (q : Int)], .int .i64 0]) (by simp [results, Tryz.results79, go_sem, g0, g1, g2]) rfl ?_
        subst hS
        exact ⟨A1, c1, none, 0, rfl, HFIN.out.2.2.2, Nat.le_refl _, HFIN.out.2.2.1, Or.inl rfl, HFIN.out.2.1⟩
  rw [if_neg h3] at hS
  by_cases h4 : kp < 0
  · rw [if_pos h4] at hS
    have HX : Hid (∀ w', Below w.heap.size w w' → StepP F S w (.returned (.tuple #[.agg #[.slice A n c, .slice A' m c', .int .i64 (q : Int)], .int .i64 2])) w') := Lib.hid fun w' hb => by
      subst hS
      exact ⟨A, c, A', c', by rw [← hn, ← hm], by rw [← hn]; exact hc, by rw [← hm]; exact hc', HA.out.below hb, HA'.out.below hb, hb⟩
    clear hS hn hm hl hc hc' hll hmx hq
    go_enter Tryz.func79, Tryz.ntmps79
    go_wp2
    exact bodyPost_ret (v := .tuple #[.agg #[.slice A n c, .slice A' m c', .int .i64 (q : Int)], .int .i64 2]) (by simp [results, Tryz.results79, go_sem]) rfl (HX.out _ ((((Below.refl _ _).alloc (Nat.le_refl _) _).alloc (by simp) _).alloc (by simp; omega) _))
  · rw [if_neg h4] at hS
    obtain ⟨p, rfl⟩ : ∃ p : Nat, kp = (p : Int) := ⟨kp.toNat, by omega⟩
    rw [Int.toNat_natCast] at hS
    obtain ⟨j, hj⟩ : ∃ j, min p T.length = j := ⟨_, rfl⟩
    have htk : T.take p = T.take j := by rw [List.take_eq_take_iff]; omega
    obtain ⟨X, hX⟩ : ∃ X, L ++ T.take p = X := ⟨_, rfl⟩
    have hcut := fun W => run_cut_h (P := Tryz.prog) (w := W) 27 5 _ _ Tryz.underlying27 info_b A' m c' j (by omega)
    have HJ : Hid (∀ W, Below w.heap.size w W → Calls Tryz.prog 107 #[.slice A n c, .slice A' j c'] W (Made W.heap.size X W)) := Lib.hid fun W hb => by
      rw [← hX, htk]
      exact join_any n j c c' A A' L (T.take j) hn (by rw [List.length_take]; omega) W (HA.out.below hb).row (by rw [List.map_take]; exact take_row (HA'.out.below hb).row j) (by omega)
    rw [hX] at hS
    have hp0 : (0 : Int) ≤ (p : Int) := by omega
    have HE := Lib.hid (And.intro hn (And.intro hm (And.intro hl (And.intro hc hc'))))
    by_cases hpt : m < p
    · obtain rfl : j = m := by omega
      have hpi : (j : Int) < (p : Int) := by omega
      clear h4 hpt hj htk hX hn hl hc hc' hll hmx hq hm
      go_enter Tryz.func79, Tryz.ntmps79
      go_wp2_with fail
      go_region_held3 (fun w' => w'.cell? ⟨w.heap.size, 0, none⟩ = some (.slice A n c) ∧ w'.cell? ⟨w.heap.size, 1, none⟩ = some (.slice A' j c') ∧ w'.cell? ⟨w.heap.size, 2, none⟩ = some (.int .i64 (q : Int)) ∧ w'.cell? ⟨w.heap.size + 1, 1, none⟩ = some (.slice B l d) ∧ w'.cell? ⟨w.heap.size + 1, 2, none⟩ = some (.int .i64 (p : Int)))
        (first | exact ⟨f0, f1, f2, f3, f4⟩ | exact ⟨far3 f0 (by omega), far3 f1 (by omega), far3 f2 (by omega), far3 f3 (by omega), far3 f4 (by omega)⟩ | exact ⟨HT.out.cell 0, HT.out.cell 1, HT.out.cell 2, HDo.out.cell 1, HDo.out.cell 2⟩ | go_keep)
        ((go_at_call 107; refine (HJ.out _ HB0.out).mono ?_; rintro e w1 ⟨A1, c1, rfl, ho, hb⟩; have HO := Lib.hid ho; have HB := Lib.hid hb; (have f0 : w1.cell? ⟨w.heap.size, 0, none⟩ = some (.slice A n c) := (HT.out.below HB.out HT.out.lt).cell 0); (have f1 : w1.cell? ⟨w.heap.size, 1, none⟩ = some (.slice A' j c') := (HT.out.below HB.out HT.out.lt).cell 1); (have f2 : w1.cell? ⟨w.heap.size, 2, none⟩ = some (.int .i64 (q : Int)) := (HT.out.below HB.out HT.out.lt).cell 2); (have f3 : w1.cell? ⟨w.heap.size + 1, 1, none⟩ = some (.slice B l d) := (HDo.out.below HB.out HDo.out.lt).cell 1); (have f4 : w1.cell? ⟨w.heap.size + 1, 2, none⟩ = some (.int .i64 (p : Int)) := (HDo.out.below HB.out HDo.out.lt).cell 2); (have r0 : w1.cell? ⟨w.heap.size + 1 + 1, 0, none⟩ = some (.slice none 0 0) := (HRs.out.below HB.out HRs.out.lt).cell 0); (have r1 : w1.cell? ⟨w.heap.size + 1 + 1, 1, none⟩ = some (.slice none 0 0) := (HRs.out.below HB.out HRs.out.lt).cell 1); (have r2 : w1.cell? ⟨w.heap.size + 1 + 1, 2, none⟩ = some (.int .i64 0) := (HRs.out.below HB.out HRs.out.lt).cell 2); (have z0 := (HRs.out.below HB.out HRs.out.lt).frozen 0); (have z1 := (HRs.out.below HB.out HRs.out.lt).frozen 1); (have z2 := (HRs.out.below HB.out HRs.out.lt).frozen 2); clear ho hb))
      · have hfin := step_fin (u0 := .slice A1 X.length c1) (u1 := .slice none 0 0) (u2 := .int .i64 (q : Int)) (HB0.out.trans (HB.out.mono HB0.out.size)) (HRs.out.below HB.out HRs.out.lt) (by omega) HB0.out.size HO.out HFF.out
        have g0 := hfin.1.cell 0
        have g1 := hfin.1.cell 1
        have g2 := hfin.1.cell 2
        have HFIN := Lib.hid hfin
        clear hfin
        go_wp2
        refine bodyPost_ret (v := .tuple #[.agg #[.slice A1 X.length c1, .slice none 0 0, .int .i64 (q : Int)], .int .i64 0]) (by simp [results, Tryz.results79, go_sem, g0, g1, g2]) rfl ?_
        subst hS
        exact ⟨A1, c1, none, 0, rfl, HFIN.out.2.2.2, Nat.le_refl _, HFIN.out.2.2.1, Or.inl rfl, HFIN.out.2.1⟩
    · obtain rfl : j = p := by omega
      have hpi : (j : Int) ≤ (m : Int) := by omega
      have hpf : ((m : Int) < (j : Int)) = False := by simp; omega
      clear h4 hpt hj htk hX hn hm hl hc hc' hll hmx hq
      go_enter Tryz.func79, Tryz.ntmps79
      go_wp2_with fail
      go_region_held3 (fun w' => w'.cell? ⟨w.heap.size, 0, none⟩ = some (.slice A n c) ∧ w'.cell? ⟨w.heap.size, 1, none⟩ = some (.slice A' m c') ∧ w'.cell? ⟨w.heap.size, 2, none⟩ = some (.int .i64 (q : Int)) ∧ w'.cell? ⟨w.heap.size + 1, 1, none⟩ = some (.slice B l d) ∧ w'.cell? ⟨w.heap.size + 1, 2, none⟩ = some (.int .i64 (j : Int)))
        (first | exact ⟨f0, f1, f2, f3, f4⟩ | exact ⟨far3 f0 (by omega), far3 f1 (by omega), far3 f2 (by omega), far3 f3 (by omega), far3 f4 (by omega)⟩ | exact ⟨HT.out.cell 0, HT.out.cell 1, HT.out.cell 2, HDo.out.cell 1, HDo.out.cell 2⟩ | go_keep)
        ((go_at_call 107; refine (HJ.out _ HB0.out).mono ?_; rintro e w1 ⟨A1, c1, rfl, ho, hb⟩; have HO := Lib.hid ho; have HB := Lib.hid hb; (have f0 : w1.cell? ⟨w.heap.size, 0, none⟩ = some (.slice A n c) := (HT.out.below HB.out HT.out.lt).cell 0); (have f1 : w1.cell? ⟨w.heap.size, 1, none⟩ = some (.slice A' m c') := (HT.out.below HB.out HT.out.lt).cell 1); (have f2 : w1.cell? ⟨w.heap.size, 2, none⟩ = some (.int .i64 (q : Int)) := (HT.out.below HB.out HT.out.lt).cell 2); (have f3 : w1.cell? ⟨w.heap.size + 1, 1, none⟩ = some (.slice B l d) := (HDo.out.below HB.out HDo.out.lt).cell 1); (have f4 : w1.cell? ⟨w.heap.size + 1, 2, none⟩ = some (.int .i64 (j : Int)) := (HDo.out.below HB.out HDo.out.lt).cell 2); (have r0 : w1.cell? ⟨w.heap.size + 1 + 1, 0, none⟩ = some (.slice none 0 0) := (HRs.out.below HB.out HRs.out.lt).cell 0); (have r1 : w1.cell? ⟨w.heap.size + 1 + 1, 1, none⟩ = some (.slice none 0 0) := (HRs.out.below HB.out HRs.out.lt).cell 1); (have r2 : w1.cell? ⟨w.heap.size + 1 + 1, 2, none⟩ = some (.int .i64 0) := (HRs.out.below HB.out HRs.out.lt).cell 2); (have z0 := (HRs.out.below HB.out HRs.out.lt).frozen 0); (have z1 := (HRs.out.below HB.out HRs.out.lt).frozen 1); (have z2 := (HRs.out.below HB.out HRs.out.lt).frozen 2); clear ho hb))
      · have hfin := step_fin (u0 := .slice A1 X.length c1) (u1 := .slice none 0 0) (u2 := .int .i64 (q : Int)) (HB0.out.trans (HB.out.mono HB0.out.size)) (HRs.out.below HB.out HRs.out.lt) (by omega) HB0.out.size HO.out HFF.out
        have g0 := hfin.1.cell 0
        have g1 := hfin.1.cell 1
        have g2 := hfin.1.cell 2
        have HFIN := Lib.hid hfin
        clear hfin
        go_wp2
        refine bodyPost_ret (v := .tuple #[.agg #[.slice A1 X.length c1, .slice none 0 0, .int .i64 (q : Int)], .int .i64 0]) (by simp [results, Tryz.results79, go_sem, g0, g1, g2]) rfl ?_
        subst hS
        exact ⟨A1, c1, none, 0, rfl, HFIN.out.2.2.2, Nat.le_refl _, HFIN.out.2.2.1, Or.inl rfl, HFIN.out.2.1⟩
end Go.Proofs.YtndbggkpobcpjaaGreat
