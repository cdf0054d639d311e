/- ClA: A table of cells in memory: its block, its map, its tokens; the bytes of its cells. Package cells: oneTo, token. -/
import Derived.Test.YtpebhfjcakllmaaGreatCls
import Derived.Test.YtpebhfjcakllmaaGreatTail
import Derived.Test.YtpebhfjcakllmaaGreatQmA
namespace Go.Proofs.YtpebhfjcakllmaaGreat
open Go.RowKit Mem Be Word Rg Go.Maps
set_option maxRecDepth 10000
set_option maxHeartbeats 2000000
set_option linter.unusedVariables false
/-- The tokens, in memory of their own. -/
def TokB (w : World) (tk c : Nat) (l : List Int) : Prop := w.ownsRow 0 3 1 (.slice (some ⟨tk, 0, none⟩) l.length c) l.length (l.map iV)
section
variable {w w' : World} {tk c : Nat} {l : List Int}
theorem TokB.cell (h : TokB w tk c l) (i : Nat) (hi : i < l.length) : w.cell? ⟨tk, i, none⟩ = some (.int .i64 l[i]) := by
  have := World.ownsRow.cellAt h i (by omega)
  rw [this, List.getElem?_map, List.getElem?_eq_getElem hi]
  rfl
theorem TokB.lt (h : TokB w tk c l) : tk < w.heap.size := (ownIn h rfl).2.1
theorem TokB.keep (h : TokB w tk c l) (hk : w'.heap[tk]? = w.heap[tk]?) : TokB w' tk c l := ownKeep h fun a ha => by injection ha with ha; subst ha; exact hk
theorem TokB.zero (h : TokB w tk c l) (i : Nat) : w.frozen? ⟨tk, i, none⟩ = false := World.ownsRow.frozenAt h i
theorem TokB.set_ (h : TokB w tk c l) (i : Nat) (x : Int) : TokB (w.setCell ⟨tk, i, none⟩ (.int .i64 x)) tk c (l.set i x) := by
  have h1 := (World.ownsRow.stored h i (.int .i64 x)).1
  have e : (l.map iV).set i (.int .i64 x) = (l.set i x).map iV := by rw [List.map_set]; rfl
  unfold TokB
  rw [List.length_set, ← e]
  exact h1
theorem TokB.cap (h : TokB w tk c l) : l.length ≤ c ∧ c ≤ maxLen := own_cap h
theorem TokB.ne (h : TokB w tk c l) {g : Nat} {t : TypeId} {cs : Array Value} (hb : Blk w g t cs) (ht : 3 ≠ t) : tk ≠ g := by
  obtain ⟨_, _, cur, h1⟩ := ownIn h rfl
  rintro rfl
  simp only at h1
  unfold Blk at hb
  rw [hb] at h1
  injection h1 with h1
  injection h1 with _ h1
  exact ht h1.symm
theorem TokB.neM (h : TokB w tk c l) {b : Nat} {T : List CV} (hb : TabBC w b T) : tk ≠ b := by
  obtain ⟨_, _, cur, h1⟩ := ownIn h rfl
  obtain ⟨es, clock, h2, _⟩ := hb
  rintro rfl
  simp only at h1
  rw [h2] at h1; cases h1
end
/-- A value's bytes, outside of the blocks of F. -/
structure ValF (F : Nat → Prop) (w : World) (x : CV) : Prop where
  row : RowN F w x.2.1 (x.1.e.v.map byteV)
  cap : x.1.e.v.length ≤ x.2.2
  mx : x.2.2 ≤ maxLen
theorem ValF.touch {F : Nat → Prop} {w w' : World} {x : CV} (h : ValF F w x) (ht : Touch F w w') : ValF F w' x := ⟨h.row.touch ht, h.cap, h.mx⟩
theorem ValF.ok {F : Nat → Prop} {w : World} {x : CV} (h : ValF F w x) (hl : x.1.e.v.length ≤ 60000) : ValOk w x.1.e.has x.2.1 x.1.e.v x.2.2 := ⟨h.row.row, by omega, h.cap⟩
/-- The cells of a table's block. -/
def clC (S : Cl) (b tk c : Nat) : Array Value := #[.int .i64 S.rc, .int .i64 S.rb, .int .i64 (S.nb : Int), .bool S.fr, .map (some b), .int .i64 (sumC S.T : Int), .slice (some ⟨tk, 0, none⟩) S.nb c, .int .i64 S.us]
/-- A table in block g, its map in b, its tokens in tk; all three are of F, and no cell's bytes lie there. -/
structure ClB (w : World) (F : Nat → Prop) (g b tk : Nat) (S : Cl) (V : List CV) (c : Nat) : Prop where
  ent : V.map Prod.fst = S.T
  blk : Blk w g 73 (clC S b tk c)
  map : TabBC w b V
  tok : TokB w tk c S.tok
  fg : F g
  fb : F b
  ft : F tk
  val : ∀ x ∈ V, ValF F w x
  lt : ∀ k, F k → k < w.heap.size
def ClAt (w : World) (F : Nat → Prop) (g b tk : Nat) (S : Cl) : Prop := ∃ V c, ClB w F g b tk S V c
/-- The blocks that calls on a table may turn. -/
def Own3 (g b tk : Nat) (k : Nat) : Prop := k = g ∨ k = b ∨ k = tk
section
variable {w w' : World} {F : Nat → Prop} {g b tk c : Nat} {S : Cl} {V : List CV}
theorem ClB.keep (h : ClB w F g b tk S V c) (hs : w.heap.size ≤ w'.heap.size) (hg : w'.heap[g]? = w.heap[g]?) (hb : w'.heap[b]? = w.heap[b]?) (ht : w'.heap[tk]? = w.heap[tk]?) (hv : ∀ x ∈ V, ValF F w' x) : ClB w' F g b tk S V c :=
  ⟨h.ent, hg.trans h.blk, h.map.keep hb, h.tok.keep ht, h.fg, h.fb, h.ft, hv, fun k hk => Nat.lt_of_lt_of_le (h.lt k hk) hs⟩
theorem ClB.below (h : ClB w F g b tk S V c) (hb : Below w.heap.size w w') : ClB w' F g b tk S V c :=
  h.keep hb.size (hb.block g (h.lt g h.fg)) (hb.block b (h.lt b h.fb)) (hb.block tk (h.lt tk h.ft)) fun x hx => (h.val x hx).touch (Touch.ofBelow hb)
theorem ClB.touch {G : Nat → Prop} (h : ClB w F g b tk S V c) (ht : Touch G w w') (hg : ¬ G g) (hb : ¬ G b) (hk : ¬ G tk) (hF : ∀ k, G k → F k) : ClB w' F g b tk S V c :=
  h.keep ht.size (ht.block g (h.lt g h.fg) hg) (ht.block b (h.lt b h.fb) hb) (ht.block tk (h.lt tk h.ft) hk) fun x hx => (h.val x hx).touch (ht.mono hF)
theorem ClB.srt (h : ClB w F g b tk S V c) (ok : OkC S) : SortT kC V := (sort_map (f := Prod.fst) (key := kC) (key' := kP) fun x => rfl).2 (by rw [h.ent]; exact ok.srt)
theorem ClB.get (h : ClB w F g b tk S V c) (k : List UInt8) : getK kP S.T k = (getK kC V k).map Prod.fst := by rw [← h.ent]; exact get_map (f := Prod.fst) (key := kC) (key' := kP) (fun x => rfl) V k
theorem ClB.mem (h : ClB w F g b tk S V c) {x : CV} (hx : x ∈ V) : x.1 ∈ S.T := by rw [← h.ent]; exact List.mem_map_of_mem hx
theorem ClB.okE (h : ClB w F g b tk S V c) (ok : OkC S) {x : CV} (hx : x ∈ V) : Go.Proofs.YtpebhfjcakllmaaGreat.okE x.1.e := ok.ok _ (h.mem hx)
theorem ClB.vals (h : ClB w F g b tk S V c) (ok : OkC S) {x : CV} (hx : x ∈ V) : ValOk w x.1.e.has x.2.1 x.1.e.v x.2.2 := (h.val x hx).ok (sizE_le (h.okE ok hx)).2.2.1
theorem ClB.c0 (h : ClB w F g b tk S V c) : w.cell? ⟨g, 0, none⟩ = some (.int .i64 S.rc) := (h.blk.cell 0).trans rfl
theorem ClB.c1 (h : ClB w F g b tk S V c) : w.cell? ⟨g, 1, none⟩ = some (.int .i64 S.rb) := (h.blk.cell 1).trans rfl
theorem ClB.c2 (h : ClB w F g b tk S V c) : w.cell? ⟨g, 2, none⟩ = some (.int .i64 (S.nb : Int)) := (h.blk.cell 2).trans rfl
theorem ClB.c3 (h : ClB w F g b tk S V c) : w.cell? ⟨g, 3, none⟩ = some (.bool S.fr) := (h.blk.cell 3).trans rfl
theorem ClB.c4 (h : ClB w F g b tk S V c) : w.cell? ⟨g, 4, none⟩ = some (.map (some b)) := (h.blk.cell 4).trans rfl
theorem ClB.c5 (h : ClB w F g b tk S V c) : w.cell? ⟨g, 5, none⟩ = some (.int .i64 (sumC S.T : Int)) := (h.blk.cell 5).trans rfl
theorem ClB.c6 (h : ClB w F g b tk S V c) : w.cell? ⟨g, 6, none⟩ = some (.slice (some ⟨tk, 0, none⟩) S.nb c) := (h.blk.cell 6).trans rfl
theorem ClB.c7 (h : ClB w F g b tk S V c) : w.cell? ⟨g, 7, none⟩ = some (.int .i64 S.us) := (h.blk.cell 7).trans rfl
theorem ClB.z (h : ClB w F g b tk S V c) (i : Nat) : w.frozen? ⟨g, i, none⟩ = false := h.blk.frozen i
theorem ClB.gb (h : ClB w F g b tk S V c) : b ≠ g := h.map.ne h.blk
theorem ClB.gt (h : ClB w F g b tk S V c) : tk ≠ g := h.tok.ne h.blk (by decide)
theorem ClB.bt (h : ClB w F g b tk S V c) : tk ≠ b := h.tok.neM h.map
theorem ClB.lens (h : ClB w F g b tk S V c) : V.length = S.T.length := by rw [← h.ent, List.length_map]
end
def IsII0 (a b : Int) (w : World) (e : Ending) (w' : World) : Prop := e = .returned (.tuple #[.int .i64 a, .int .i64 b]) ∧ Below w.heap.size w w'
theorem bucket_bk {n : Nat} (h1 : 1 ≤ n ∧ n ≤ 256) (k : List UInt8) : bucketN (keyN (kb ⟨k.toArray⟩)) (n : Int) = (((bk n k : Nat) : Int), 0) := by
  unfold bucketN bk
  rw [if_pos (by omega), kb_mk]
  simp
theorem sizeC_any (e : EntP) (A : Option Addr) (c : Nat) (h1 : e.k.length ≤ 250) (h2 : e.v.length ≤ 60000) (w : World) :
    Calls Tryz.prog 64 #[entV ⟨e.k.toArray⟩ e.s e.u e.o e.has A e.v.length c] w (IsI (sizE e : Int) w) := by
  have e1 : ((⟨e.k.toArray⟩ : ByteArray).size : Int) = (e.k.length : Int) := by
    show ((e.k.toArray.size : Nat) : Int) = _
    rw [List.size_toArray]
  have := size_any ⟨e.k.toArray⟩ e.s e.u e.o e.has A e.v.length c (by omega) (by omega) w
  rw [e1] at this
  unfold sizE
  rwa [Int.natCast_add]
theorem oneTo_any (n m : Int) (w : World) : Calls Tryz.prog 24 #[.int .i64 n, .int .i64 m] w fun e w' => e = .returned (.bool (decide (1 ≤ n ∧ n ≤ m))) ∧ w = w' := by
  by_cases h1 : 1 ≤ n
  · by_cases h2 : n ≤ m
    · rw [decide_eq_true (show 1 ≤ n ∧ n ≤ m from ⟨h1, h2⟩)]
      go_enter Tryz.func24, Tryz.ntmps24
      go_wp2
      go_ret
      exact ⟨rfl, rfl⟩
    · rw [decide_eq_false (show ¬ (1 ≤ n ∧ n ≤ m) from fun h => h2 h.2)]
      go_enter Tryz.func24, Tryz.ntmps24
      go_wp2
      go_ret
      exact ⟨rfl, rfl⟩
  · rw [decide_eq_false (show ¬ (1 ≤ n ∧ n ≤ m) from fun h => h1 h.1)]
    have h3 : n < 1 := by omega
    go_enter Tryz.func24, Tryz.ntmps24
    go_wp2
    go_ret
    exact ⟨rfl, rfl⟩
theorem token_any {F : Nat → Prop} {g b tk c : Nat} {S : Cl} {V : List CV} (ok : OkC S) (k : List UInt8) (hk : k.length ≤ 100000) (w : World) (h : ClB w F g b tk S V c) :
    Calls Tryz.prog 42 #[.pointer (some ⟨g, 0, none⟩), .string ⟨k.toArray⟩] w (IsII0 (tokK S k) 0 w) := by
  have c6 := h.c6
  have hbl := bk_lt ok k
  have ct := h.tok.cell _ hbl
  have e1 : S.tok[bk S.nb k] = tokK S k := by unfold tokK; rw [List.getD_eq_getElem?_getD, List.getElem?_eq_getElem hbl]; rfl
  rw [e1] at ct
  have hin : ((bk S.nb k : Nat) : Int) < (S.nb : Int) := by have := ok.tl; omega
  have HG := Lib.hid (h.lt g h.fg)
  have HT := Lib.hid h.tok.lt
  have HC := Lib.hid (bucket_any ⟨k.toArray⟩ (S.nb : Int) (by show k.toArray.size ≤ _; rw [List.size_toArray]; omega) w)
  rw [bucket_bk ok.nb k] at HC
  obtain ⟨i, hi⟩ : ∃ i, bk S.nb k = i := ⟨_, rfl⟩
  obtain ⟨n, hn⟩ : ∃ n, S.nb = n := ⟨_, rfl⟩
  obtain ⟨t, ht⟩ : ∃ t, tokK S k = t := ⟨_, rfl⟩
  have hn2 : (n : Int) ≤ 256 := by have := ok.nb; omega
  rw [hi] at HC hin ct
  rw [hn] at HC hin c6
  rw [ht] at ct ⊢
  clear h hbl e1 hi hn ht ok
  go_enter Tryz.func42, Tryz.ntmps42
  go_wp2_with fail
  refine HC.out.mono ?_
  rintro e w1 ⟨rfl, hb⟩
  have d6 : w1.cell? ⟨g, 6, none⟩ = some (.slice (some ⟨tk, 0, none⟩) n c) := (hb.cell (p := ⟨g, 6, none⟩) HG.out).trans c6
  have dt : w1.cell? ⟨tk, i, none⟩ = some (.int .i64 t) := (hb.cell (p := ⟨tk, i, none⟩) HT.out).trans ct
  have HB := Lib.hid hb
  clear hb HC
  go_wp2
  go_ret2
  exact ⟨rfl, HB.out⟩
end Go.Proofs.YtpebhfjcakllmaaGreat
