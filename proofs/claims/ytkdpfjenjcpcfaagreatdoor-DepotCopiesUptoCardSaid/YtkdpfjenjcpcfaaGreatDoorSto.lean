/- Sto: A store in memory: its log, its tables, its acks; what keeps it.
   StoA: Package store: New, Get, newest, Newest, All, Waiting, Disk.
   StoB: Package store: newest, Newest, All, Waiting, Disk.
   StoC: What a table's set does to a store.
   StoD: Package store: write.
   StoE: Package store: Put. -/
import Derived.Test.YtkdpfjenjcpcfaaGreatDoorRec8
import Derived.Test.YtkdpfjenjcpcfaaGreatDoorTb8
import Derived.Test.YtkdpfjenjcpcfaaGreatDoorLog
import Derived.Deep.RegionHeld3
import Derived.Deep.RegionLaw
namespace Go.Proofs.YtkdpfjenjcpcfaaGreatDoor
open Go.RowKit Mem Be Word Frm Go.Maps
set_option maxRecDepth 10000
set_option maxHeartbeats 1000000
set_option linter.unusedVariables false
/-- That an entry of a key lasts, told to whom. -/
structure AckP where
  who : Int
  k : List UInt8
  s : Int
  u : Int
  o : Int
def ackC (a : AckP) : List Value := [.int .i64 a.who, .string ⟨a.k.toArray⟩, .int .i64 a.s, .int .i64 a.u, .int .i64 a.o]
abbrev acksC (l : List AckP) : List Value := l.flatMap ackC
theorem acksC_len (l : List AckP) : (acksC l).length = l.length * 5 := by
  induction l with
  | nil => rfl
  | cons p l ih => simp only [acksC, List.flatMap_cons, List.length_append, ackC, List.length_cons, List.length_nil]; have := ih; unfold acksC at this; omega
theorem acksC_app (a b : List AckP) : acksC (a ++ b) = acksC a ++ acksC b := List.flatMap_append
theorem acksC_one (l : List AckP) : ∀ u ∈ acksC l, u.oneCell' = true := by
  intro u hu
  obtain ⟨x, _, hx⟩ := List.mem_flatMap.1 hu
  simp only [ackC, List.mem_cons, List.not_mem_nil, or_false] at hx
  rcases hx with rfl | rfl | rfl | rfl | rfl <;> rfl
theorem acksC_at (l : List AckP) (i : Nat) (h : i < l.length) (j : Nat) (hj : j < 5) : (acksC l)[i * 5 + j]? = (ackC l[i])[j]? := by
  induction l generalizing i with
  | nil => simp at h
  | cons p l ih =>
    have hc : acksC (p :: l) = ackC p ++ acksC l := rfl
    rw [hc]
    have hl : (ackC p).length = 5 := rfl
    rcases i with _ | i
    · rw [List.getElem?_append_left (by omega), Nat.zero_mul, Nat.zero_add]; rfl
    · rw [List.getElem?_append_right (by omega), hl, show (i + 1) * 5 + j - 5 = i * 5 + j by omega, ih i (by simpa using h)]
      rfl
theorem acks_open {w : World} {B : Nat} {A : Option Addr} {l : List AckP} (h : Row w B A (acksC l)) (hn : 0 < l.length) :
    ∃ b o, A = some ⟨b, o, none⟩ ∧ b < B ∧ ∀ i (hi : i < l.length), w.cell? ⟨b, o + i * 5, none⟩ = some (.int .i64 l[i].who) ∧ w.cell? ⟨b, o + i * 5 + 1, none⟩ = some (.string ⟨l[i].k.toArray⟩) ∧ w.cell? ⟨b, o + i * 5 + 2, none⟩ = some (.int .i64 l[i].s) ∧
      w.cell? ⟨b, o + i * 5 + 3, none⟩ = some (.int .i64 l[i].u) ∧ w.cell? ⟨b, o + i * 5 + 4, none⟩ = some (.int .i64 l[i].o) := by
  obtain ⟨b, o, hA, hb, hc⟩ := h.open_ (by rw [acksC_len]; omega)
  refine ⟨b, o, hA, hb, fun i hi => ?_⟩
  have key : ∀ j, j < 5 → w.cell? ⟨b, o + i * 5 + j, none⟩ = (ackC l[i])[j]? := fun j hj => by
    have hlt : i * 5 + j < (acksC l).length := by rw [acksC_len]; omega
    rw [show o + i * 5 + j = o + (i * 5 + j) by omega, hc (i * 5 + j) hlt, ← acksC_at l i hi j hj, List.getElem?_eq_getElem hlt]
  exact ⟨key 0 (by omega), key 1 (by omega), key 2 (by omega), key 3 (by omega), key 4 (by omega)⟩
theorem info_ack : (Tryz.prog.info? 130).map (fun i => (i.zero, i.size, i.bytes)) = some (some (.agg #[.int .i64 0, .string .empty, .int .i64 0, .int .i64 0, .int .i64 0]), 5, 48) := by kernel_rfl
theorem ack_lit {w : World} {x : AckP} {g : Nat} (h : Blk w g 130 ⟨ackC x⟩) {B : Nat} (hB : g < B) : Row w B (some ⟨g, 0, none⟩) (acksC [x]) := by
  refine Or.inr ⟨g, 0, rfl, hB, fun j hj => ?_⟩
  have e : acksC [x] = ackC x := by simp [acksC]
  have h1 := h.cell (0 + j)
  rw [h1]
  have hj2 : j < (ackC x).length := by rw [← e]; exact hj
  rw [Nat.zero_add]
  rw [List.getElem_of_eq e hj]
  show (⟨ackC x⟩ : Array Value)[j]? = _
  rw [List.getElem?_toArray, List.getElem?_eq_getElem hj2]
/-- What a store lies in: the type of its block, and the cells behind it (of a struct that has it at its beginning). -/
structure StK where
  ty : TypeId
  Y : List Value
  hne : ty ≠ 5
/-- A store alone. -/
def st0K : StK := ⟨108, [], by decide⟩
/-- What a store has behind its log: two tables, and its acks. -/
def stK (KS : StK) (lm fm : Option Nat) (pv : Value) : LgK := ⟨KS.ty, .map lm :: .map fm :: pv :: KS.Y, KS.hne⟩
variable {KS KS' : StK}
section
variable {w : World} {g m : Nat} {t : TypeId} {a b c v pv : Value} {lm fm : Option Nat}
theorem st_c5 (h : Blk w g t (dkC (lgK (stK KS lm fm pv) v m) [a, b, c])) : w.cell? ⟨g, 5, none⟩ = some (.map lm) := (h.cell 5).trans (by simp [dkC, lgK, stK])
theorem st_c6 (h : Blk w g t (dkC (lgK (stK KS lm fm pv) v m) [a, b, c])) : w.cell? ⟨g, 6, none⟩ = some (.map fm) := (h.cell 6).trans (by simp [dkC, lgK, stK])
theorem st_c7 (h : Blk w g t (dkC (lgK (stK KS lm fm pv) v m) [a, b, c])) : w.cell? ⟨g, 7, none⟩ = some pv := (h.cell 7).trans (by simp [dkC, lgK, stK])
theorem st_e5 (h : Blk w g t (dkC (lgK (stK KS lm fm pv) v m) [a, b, c])) (u : Option Nat) : Blk (w.setCell ⟨g, 5, none⟩ (.map u)) g t (dkC (lgK (stK KS u fm pv) v m) [a, b, c]) := by simpa [dkC, lgK, stK] using h.set_ 5 (.map u)
theorem st_e6 (h : Blk w g t (dkC (lgK (stK KS lm fm pv) v m) [a, b, c])) (u : Option Nat) : Blk (w.setCell ⟨g, 6, none⟩ (.map u)) g t (dkC (lgK (stK KS lm u pv) v m) [a, b, c]) := by simpa [dkC, lgK, stK] using h.set_ 6 (.map u)
theorem st_e7 (h : Blk w g t (dkC (lgK (stK KS lm fm pv) v m) [a, b, c])) (u : Value) : Blk (w.setCell ⟨g, 7, none⟩ u) g t (dkC (lgK (stK KS lm fm u) v m) [a, b, c]) := by simpa [dkC, lgK, stK] using h.set_ 7 u
end
section
variable {w : World} {F : Nat → Prop} {g q m i : Nat} {rs : List Rc} {lm fm u : Option Nat} {pv : Value} {J J' : LgK} {x : Value}
/-- A cell behind the log alone is another one. -/
theorem lg_cell (h : LgAt J w F g rs m q) (hJ : ∀ {v : Value} {a b c : Value}, Blk w g (lgK J v m).ty (dkC (lgK J v m) [a, b, c]) → Blk (w.setCell ⟨g, i, none⟩ x) g (lgK J' v m).ty (dkC (lgK J' v m) [a, b, c])) : LgAt J' (w.setCell ⟨g, i, none⟩ x) F g rs m q := by
  obtain ⟨FD, FR, vs, R, c, h1, h2, h3, h4⟩ := h
  have hg := dka_fg h4.dk
  have hk : ∀ j, j ≠ g → (w.setCell ⟨g, i, none⟩ x).heap[j]? = w.heap[j]? := fun j hj => Below.heap_setCell w ⟨g, i, none⟩ _ j hj
  have hsz : (w.setCell ⟨g, i, none⟩ x).heap.size = w.heap.size := by simp [World.setCell]
  refine ⟨FD, FR, vs, R, c, h1, h2, h3, ?_, ownKeep h4.own fun a ha => hk _ fun e => h4.dis g hg (by rw [← e]; exact h4.inR a ha), fun r hr => ownKeep (h4.byt r hr) fun a ha => hk _ fun e => h4.dis g hg (by rw [← e]; exact h4.inB r hr a ha),
    h4.inR, h4.inB, h4.dis, h4.sub, fun k hf => by rw [hsz]; exact h4.lt k hf⟩
  obtain ⟨A, cA, A', cA', hd⟩ := h4.dk
  exact ⟨A, cA, A', cA', hJ hd.blk, ownKeep hd.ol fun a ha => hk _ (ownNe hd.ol hd.blk (lgK J _ m).hne ha), ownKeep hd.ot fun a ha => hk _ (ownNe hd.ot hd.blk (lgK J _ m).hne ha), hd.fl, hd.ft, hd.ap, hd.fg,
    fun k hf => by rw [hsz]; exact hd.lt k hf, hd.mx⟩
theorem lg_blk (h : LgAt J w F g rs m q) : ∃ v a b c, Blk w g (lgK J v m).ty (dkC (lgK J v m) [a, b, c]) := by
  obtain ⟨FD, FR, vs, R, c, h1, h2, h3, h4⟩ := h
  obtain ⟨A, cA, A', cA', hd⟩ := h4.dk
  exact ⟨_, _, _, _, hd.blk⟩
theorem lg_fg (h : LgAt J w F g rs m q) : F g := by
  obtain ⟨FD, FR, vs, R, c, h1, h2, h3, h4⟩ := h
  exact h4.sub g (Or.inl (dka_fg h4.dk))
theorem lst_c5 (h : LgAt (stK KS lm fm pv) w F g rs m q) : w.cell? ⟨g, 5, none⟩ = some (.map lm) := by obtain ⟨v, a, b, c, h⟩ := lg_blk h; exact st_c5 h
theorem lst_c6 (h : LgAt (stK KS lm fm pv) w F g rs m q) : w.cell? ⟨g, 6, none⟩ = some (.map fm) := by obtain ⟨v, a, b, c, h⟩ := lg_blk h; exact st_c6 h
theorem lst_c7 (h : LgAt (stK KS lm fm pv) w F g rs m q) : w.cell? ⟨g, 7, none⟩ = some pv := by obtain ⟨v, a, b, c, h⟩ := lg_blk h; exact st_c7 h
theorem lst_z (h : LgAt (stK KS lm fm pv) w F g rs m q) (i : Nat) : w.frozen? ⟨g, i, none⟩ = false := by obtain ⟨v, a, b, c, h⟩ := lg_blk h; exact h.frozen i
theorem lst_e5 (h : LgAt (stK KS lm fm pv) w F g rs m q) (u : Option Nat) : LgAt (stK KS u fm pv) (w.setCell ⟨g, 5, none⟩ (.map u)) F g rs m q := lg_cell h fun hb => st_e5 hb u
theorem lst_e6 (h : LgAt (stK KS lm fm pv) w F g rs m q) (u : Option Nat) : LgAt (stK KS lm u pv) (w.setCell ⟨g, 6, none⟩ (.map u)) F g rs m q := lg_cell h fun hb => st_e6 hb u
theorem lst_e7 (h : LgAt (stK KS lm fm pv) w F g rs m q) (u : Value) : LgAt (stK KS lm fm u) (w.setCell ⟨g, 7, none⟩ u) F g rs m q := lg_cell h fun hb => st_e7 hb u
end
/-- A table in blocks of F: a map, or nil; each entry's bytes in a row of F. -/
structure TabAt (w : World) (F : Nat → Prop) (mo : Option Nat) (T : List EV) : Prop where
  map : TabM w mo T
  inM : ∀ b, mo = some b → F b
  srt : SortT kV T
  own : EntsO w 0 T
  inF : ∀ x ∈ T, InF F x.2.1
  ok : ∀ x ∈ T, okE x.1
/-- The entries of a table, without where they lie. -/
abbrev entT (T : List EV) : List EntP := T.map Prod.fst
theorem ent_sort {T : List EV} : SortT kV T ↔ SortT kE (entT T) := sort_map (f := Prod.fst) fun x => rfl
theorem ent_put (T : List EV) (x : EV) : entT (putK kV T x) = putK kE (entT T) x.1 := put_map (f := Prod.fst) (fun x => rfl) x T
theorem ent_merge (L F : List EV) : entT (mergeT kV L F) = mergeT kE (entT L) (entT F) := merge_map (f := Prod.fst) (fun x => rfl) F L
section
variable {w w' : World} {F F' G : Nat → Prop} {mo : Option Nat} {T : List EV}
theorem TabAt.keep (h : TabAt w F mo T) (hk : ∀ k, F k → w'.heap[k]? = w.heap[k]?) : TabAt w' F mo T :=
  ⟨h.map.keep fun b hb => hk b (h.inM b hb), h.inM, h.srt, fun x hx => ownKeep (h.own x hx) fun a ha => hk _ (h.inF x hx a ha), h.inF, h.ok⟩
theorem TabAt.wide (h : TabAt w F mo T) (hF : ∀ k, F k → F' k) : TabAt w F' mo T := ⟨h.map, fun b hb => hF b (h.inM b hb), h.srt, h.own, fun x hx a ha => hF _ (h.inF x hx a ha), h.ok⟩
theorem TabAt.val (h : TabAt w F mo T) : ∀ x ∈ T, ValOk w x.1.has x.2.1 x.1.v x.2.2 := fun x hx => ownE_val (h.own x hx) (by have := rightE_yes (h.ok x hx); omega)
theorem TabAt.key (h : TabAt w F mo T) : ∀ x ∈ T, x.1.k.length ≤ 250 := fun x hx => (rightE_yes (h.ok x hx)).2.1
end
/-- A store's log, tables and acks, and the blocks that they stand in. -/
structure StB (KS : StK) (w : World) (F FL FS : Nat → Prop) (g : Nat) (rs : List Rc) (m q : Nat) (lm fm : Option Nat) (TL TF : List EV) (A : Option Addr) (c : Nat) (acks : List AckP) : Prop where
  lg : LgAt (stK KS lm fm (.slice A acks.length c)) w FL g rs m q
  tl : TabAt w FS lm TL
  tf : TabAt w FS fm TF
  ne : ∀ b, lm = some b → fm = some b → False
  own : w.ownsRow 0 130 5 (.slice A acks.length c) acks.length (acksC acks)
  inA : InF FS A
  dis : ∀ k, FL k → ¬ FS k
  sub : ∀ k, FL k ∨ FS k → F k
  lt : ∀ k, F k → k < w.heap.size
/-- What a store is, whatever memory it has: its log's records, how many last, the entries that last, the newest ones, its acks. -/
structure St8 where
  rs : List Rc
  m : Nat
  L : List EntP
  N : List EntP
  acks : List AckP
structure Ok8 (S : St8) : Prop where
  le : S.m ≤ S.rs.length
  newer : recS S.rs = some S.N
  lasts : recS (S.rs.take S.m) = some S.L
  told : Told8 S.rs S.m
/-- A store in block g, which stands in the blocks of F; q: how often its disk was synced. -/
def StAt (KS : StK) (w : World) (F : Nat → Prop) (g : Nat) (S : St8) (q : Nat) : Prop :=
  Ok8 S ∧ ∃ FL FS lm fm TL TF A c, entT TL = S.L ∧ mergeT kE S.L (entT TF) = S.N ∧ TF.length ≤ S.rs.length ∧ StB KS w F FL FS g S.rs S.m q lm fm TL TF A c S.acks
section
variable {w w' : World} {F FL FS G : Nat → Prop} {g q m : Nat} {rs : List Rc} {lm fm : Option Nat} {TL TF : List EV} {A : Option Addr} {c : Nat} {acks : List AckP} {S : St8}
theorem StB.keep (h : StB KS w F FL FS g rs m q lm fm TL TF A c acks) (hs : w.heap.size ≤ w'.heap.size) (hk : ∀ k, F k → w'.heap[k]? = w.heap[k]?) : StB KS w' F FL FS g rs m q lm fm TL TF A c acks :=
  ⟨h.lg.keep hs fun k hf => hk k (h.sub k (Or.inl hf)), h.tl.keep fun k hf => hk k (h.sub k (Or.inr hf)), h.tf.keep fun k hf => hk k (h.sub k (Or.inr hf)), h.ne, ownKeep h.own fun a ha => hk _ (h.sub _ (Or.inr (h.inA a ha))), h.inA, h.dis, h.sub,
    fun k hf => Nat.lt_of_lt_of_le (h.lt k hf) hs⟩
theorem StAt.keep (h : StAt KS w F g S q) (hs : w.heap.size ≤ w'.heap.size) (hk : ∀ k, F k → w'.heap[k]? = w.heap[k]?) : StAt KS w' F g S q := by
  obtain ⟨h0, FL, FS, lm, fm, TL, TF, A, c, h1, h2, hfl, h⟩ := h
  exact ⟨h0, FL, FS, lm, fm, TL, TF, A, c, h1, h2, hfl, h.keep hs hk⟩
theorem StAt.lt (h : StAt KS w F g S q) : ∀ k, F k → k < w.heap.size := by
  obtain ⟨h0, FL, FS, lm, fm, TL, TF, A, c, h1, h2, hfl, h⟩ := h
  exact h.lt
theorem StAt.below (h : StAt KS w F g S q) (hb : Below w.heap.size w w') : StAt KS w' F g S q := h.keep hb.size fun k hk => hb.block k (h.lt k hk)
theorem StAt.touch (h : StAt KS w F g S q) (ht : Touch G w w') (hd : ∀ k, F k → ¬ G k) : StAt KS w' F g S q := h.keep ht.size fun k hk => ht.block k (h.lt k hk) (hd k hk)
theorem StAt.ok (h : StAt KS w F g S q) : Ok8 S := h.1
theorem StAt.mx (h : StAt KS w F g S q) : (allB S.rs).length ≤ 4194304 := by
  obtain ⟨h0, FL, FS, lm, fm, TL, TF, A, c, h1, h2, hfl, h⟩ := h
  exact h.lg.mx
theorem StAt.many (h : StAt KS w F g S q) : S.rs.length ≤ 419430 := by
  have h1 := h.mx
  have h2 := long_many S.rs
  unfold longN at h2
  omega
theorem Ok8.nOk (h : Ok8 S) : OkT S.N := (recS_ok h.newer).1
theorem Ok8.lOk (h : Ok8 S) : OkT S.L := (recS_ok h.lasts).1
end
end Go.Proofs.YtkdpfjenjcpcfaaGreatDoor
namespace Go.Proofs.YtkdpfjenjcpcfaaGreatDoor
open Go.RowKit Mem Be Word Frm Go.Maps
set_option maxRecDepth 10000
set_option maxHeartbeats 2000000
set_option linter.unusedVariables false
variable {KS KS' : StK}
/-- A log that is moved into a block of more. -/
theorem lg_move {w : World} {F : Nat → Prop} {y q m : Nat} {rs : List Rc} (J : LgK) (h : LgAt lg0 w F y rs m q) :
    ∃ a b c v, w.cell? ⟨y, 0, none⟩ = some a ∧ w.cell? ⟨y, 1, none⟩ = some b ∧ w.cell? ⟨y, 2, none⟩ = some c ∧ w.cell? ⟨y, 3, none⟩ = some v ∧ w.cell? ⟨y, 4, none⟩ = some (.int .i64 (m : Int)) ∧
      LgAt J (w.alloc (.cells (dkC (lgK J v m) [a, b, c]) J.ty)) (fun k => F k ∨ k = w.heap.size) w.heap.size rs m q := by
  obtain ⟨FD, FR, vs, R, cR, h1, h2, h3, h4⟩ := h
  obtain ⟨A, cA, A', cA', hd⟩ := h4.dk
  refine ⟨_, _, _, _, hd.blk.d0, hd.blk.d1, hd.blk.d2, dka_c3 h4.dk, dka_c4 h4.dk, ?_⟩
  have hal : ∀ o, Below w.heap.size w (w.alloc o) := fun o => (Below.refl _ _).alloc (Nat.le_refl _) o
  have hsz : ∀ o, (w.alloc o).heap.size = w.heap.size + 1 := fun o => by simp
  refine ⟨fun k => FD k ∨ k = w.heap.size, FR, vs, R, cR, h1, h2, h3, ⟨A, cA, A', cA', ⟨Blk.new _ _ _, ownLater hd.ol (hal _), ownLater hd.ot (hal _), fun a ha => Or.inl (hd.fl a ha), fun a ha => Or.inl (hd.ft a ha), hd.ap, Or.inr rfl, fun j hj => ?_, hd.mx⟩⟩,
    ownLater h4.own (hal _), recsO_below h4.byt (hal _), h4.inR, h4.inB, fun j hj hr => ?_, fun j hj => ?_, fun j hj => ?_⟩
  · rw [hsz]
    rcases hj with hj | hj
    · have := hd.lt j hj; omega
    · omega
  · rcases hj with hj | hj
    · exact h4.dis j hj hr
    · have := h4.lt j (h4.sub j (Or.inr hr)); omega
  · rcases hj with (hj | hj) | hj
    · exact Or.inl (h4.sub j (Or.inl hj))
    · exact Or.inr hj
    · exact Or.inl (h4.sub j (Or.inr hj))
  · rw [hsz]
    rcases hj with hj | hj
    · have := h4.lt j hj; omega
    · omega
theorem tabAt_nil (w : World) (F : Nat → Prop) : TabAt w F none [] := ⟨Or.inl ⟨rfl, rfl⟩, (fun b h => by cases h), sort_nil, entsO_nil _ _, (fun x h => by cases h), (fun x h => by cases h)⟩
/-- A call on a store: its answer, the store behind it; nothing but its own blocks was changed. -/
def StTo (KS : StK) (v : Value) (F : Nat → Prop) (g : Nat) (S : St8) (q : Nat) (w : World) (e : Ending) (w' : World) : Prop := e = .returned v ∧ ∃ F', (∀ k, F' k → F k ∨ w.heap.size ≤ k) ∧ StAt KS w' F' g S q ∧ Touch F w w'
/-- A new store, in blocks of its own. -/
def NewSt (v : Value → Value) (S : St8) (q : Nat) (w : World) (e : Ending) (w' : World) : Prop :=
  ∃ g F, e = .returned (v (.pointer (some ⟨g, 0, none⟩))) ∧ (∀ k, F k → w.heap.size ≤ k) ∧ StAt st0K w' F g S q ∧ Below w.heap.size w w'
def st0 : St8 := ⟨[], 0, [], [], []⟩
/-- A store is laid out of a log, and a table. -/
theorem st_made {w : World} {F FS : Nat → Prop} {q m : Nat} {rs : List Rc} {T : List EV} {lm : Option Nat} {g : Nat} (hm : m = rs.length) (hr : recS rs = some (entT T)) (ht : TabAt w FS lm T) (hdis : ∀ k, F k → ¬ FS k) (hlt : ∀ k, FS k → k < w.heap.size) (hg : g = w.heap.size)
    {v a b c : Value} (h : LgAt (stK st0K lm none (.slice none 0 0)) (w.alloc (.cells (dkC (lgK (stK st0K lm none (.slice none 0 0)) v m) [a, b, c]) 108)) (fun k => F k ∨ k = w.heap.size) w.heap.size rs m q) :
    StAt st0K (w.alloc (.cells #[a, b, c, v, .int .i64 (m : Int), .map lm, .map none, .slice none 0 0] 108)) (fun k => F k ∨ FS k ∨ k = w.heap.size) g ⟨rs, m, entT T, entT T, []⟩ q := by
  subst hg
  subst hm
  have hal : ∀ o, Below w.heap.size w (w.alloc o) := fun o => (Below.refl _ _).alloc (Nat.le_refl _) o
  refine ⟨⟨Nat.le_refl _, hr, by simpa using hr, fun j h1 h2 => ?_⟩, fun k => F k ∨ k = w.heap.size, FS, lm, none, T, [], none, 0, rfl, rfl, Nat.zero_le _, ⟨h, ?_, tabAt_nil _ _, (fun b _ h => by cases h), World.ownsRow_nil _ _ _ _, inF_none _, fun k hk hs => ?_, fun k hk => ?_, fun k hk => ?_⟩⟩
  · have : j = rs.length := Nat.le_antisymm h2 h1
    subst this
    simp [hr]
  · exact ht.keep fun k hk => (hal _).block k (hlt k hk)
  · rcases hk with hk | hk
    · exact hdis k hk hs
    · have := hlt k hs; omega
  · rcases hk with (hk | hk) | hk
    · exact Or.inl hk
    · exact Or.inr (Or.inr hk)
    · exact Or.inr (Or.inl hk)
  · have hsz : ∀ o, (w.alloc o).heap.size = w.heap.size + 1 := fun o => by simp
    rw [hsz]
    rcases hk with hk | hk | hk
    · have := h.lt k (Or.inl hk); rw [hsz] at this; exact this
    · have := hlt k hk; omega
    · omega
theorem newst_any (w : World) : Calls Tryz.prog 35 #[] w (NewSt id st0 0 w) := by
  go_enter Tryz.func35, Tryz.ntmps35
  go_wp2_with fail
  refine (newlg_any w).mono ?_
  rintro e w1 ⟨y, F, rfl, hF, hl, hb⟩
  obtain ⟨a, b, c, v, c0, c1, c2, c3, c4, hmv⟩ := lg_move (stK st0K none none (.slice none 0 0)) hl
  have HX : Hid (StAt st0K (w1.alloc (.cells #[a, b, c, v, .int .i64 ((0 : Nat) : Int), .map none, .map none, .slice none 0 0] 108)) (fun k => F k ∨ False ∨ k = w1.heap.size) w1.heap.size st0 0) := Lib.hid (st_made (FS := fun _ => False) (T := []) rfl rfl (tabAt_nil _ _) (fun k _ h => h) (fun k h => h.elim) rfl hmv)
  have HF := Lib.hid hF
  have HB := Lib.hid hb
  simp only [id]
  clear hF hl hb hmv
  go_wp2
  go_ret
  refine ⟨w1.heap.size, _, rfl, fun k hk => ?_, HX.out, HB.out.alloc HB.out.size _⟩
  rcases hk with h | h | h
  · exact HF.out k h
  · exact h.elim
  · have := HB.out.size; omega
/-- An entry with bytes of its own. -/
def GetP (x : EntP) (w : World) (e : Ending) (w' : World) : Prop := ∃ A c, e = .returned (evV (x, A, c)) ∧ OwnE w' w.heap.size (x, A, c) ∧ Below w.heap.size w w'
theorem ofV_val {w : World} {F : Nat → Prop} {mo : Option Nat} {T : List EV} (h : TabAt w F mo T) (k : List UInt8) : ValOk w (ofV T k).1.has (ofV T k).2.1 (ofV T k).1.v (ofV T k).2.2 := by
  unfold ofV
  cases hg : getK kV T k with
  | none => exact ⟨Row.nil _ _ _, by simp [evN, entN], Nat.le_refl _⟩
  | some x => exact h.val x (get_some hg).1
theorem get_any8 (F : Nat → Prop) (g q : Nat) (S : St8) (k : List UInt8) (hk : k.length ≤ maxLen) (w : World) (h : StAt KS w F g S q) :
    Calls Tryz.prog 45 #[.pointer (some ⟨g, 0, none⟩), .string ⟨k.toArray⟩] w (GetP (ofT S.L k) w) := by
  obtain ⟨h0, FL, FS, lm, fm, TL, TF, A, c, h1, h2, hfl, h⟩ := h
  have c5 := lst_c5 h.lg
  have hgl : g < w.heap.size := block_lt c5
  have HTL := Lib.hid h.tl
  have HO : Hid (∀ o, Calls Tryz.prog 73 #[.map lm, .string ⟨k.toArray⟩] (w.alloc o) (IsE (ofV TL k) (w.alloc o))) := Lib.hid fun o => tabof_any TL lm k hk _ (h.tl.map.below ((Below.refl _ _).alloc (Nat.le_refl _) _))
  have HV := Lib.hid (ofV_val h.tl k)
  have HE : Hid ((ofV TL k).1 = ofT S.L k) := Lib.hid ((ofV_ent TL k).trans (by rw [show TL.map Prod.fst = S.L from h1]))
  have HA : Hid (∀ o, Below w.heap.size w (w.alloc o)) := Lib.hid fun o => (Below.refl _ _).alloc (Nat.le_refl _) _
  clear h h0 h1 h2 hfl
  obtain ⟨x, hx⟩ : ∃ x, ofV TL k = x := ⟨_, rfl⟩
  rw [hx] at HO HV HE
  clear hx
  go_enter Tryz.func45, Tryz.ntmps45
  go_wp2_with fail
  refine (HO.out _).mono ?_
  rintro e w1 ⟨rfl, hb⟩
  have HB1 := Lib.hid hb
  have HBW : Hid (Below w.heap.size w w1) := Lib.hid ((HA.out _).trans (hb.mono (by simp)))
  have HC := Lib.hid (copyE_any ⟨x.1.k.toArray⟩ x.1.s x.1.u x.1.o x.1.has x.2.1 x.1.v x.1.v.length x.2.2 rfl w1 (HV.out.below HBW.out))
  have HK1 := Lib.hid ((Blk.new w 46 zeroC).below hb (by simp))
  clear hb HO
  unfold evV
  go_wp2_with fail
  refine HC.out.mono ?_
  rintro e w2 ⟨A2, c2, rfl, ho, hb⟩
  have HK2 := Lib.hid (HK1.out.below hb HK1.out.lt)
  have HO2 : Hid (w2.ownsRow (w.heap.size + 1) 5 1 (.slice A2 x.1.v.length c2) x.1.v.length (x.1.v.map byteV)) := Lib.hid (own_base ho HK1.out.lt)
  have HB2 : Hid (Below w.heap.size w w2) := Lib.hid (HBW.out.trans (hb.mono HBW.out.size))
  have r0 : w2.cell? ⟨w.heap.size, 0, none⟩ = some (.string ⟨#[]⟩) := HK2.out.cell 0
  have r1 : w2.cell? ⟨w.heap.size, 1, none⟩ = some (.int .i64 0) := HK2.out.cell 1
  have r2 : w2.cell? ⟨w.heap.size, 2, none⟩ = some (.int .i64 0) := HK2.out.cell 2
  have r3 : w2.cell? ⟨w.heap.size, 3, none⟩ = some (.int .i64 0) := HK2.out.cell 3
  have r4 : w2.cell? ⟨w.heap.size, 4, none⟩ = some (.bool false) := HK2.out.cell 4
  have r5 : w2.cell? ⟨w.heap.size, 5, none⟩ = some (.slice none 0 0) := HK2.out.cell 5
  have z0 := HK2.out.frozen 0
  have z1 := HK2.out.frozen 1
  have z2 := HK2.out.frozen 2
  have z3 := HK2.out.frozen 3
  have z4 := HK2.out.frozen 4
  have z5 := HK2.out.frozen 5
  clear ho hb HC
  go_wp2
  refine bodyPost_ret (v := entV ⟨x.1.k.toArray⟩ x.1.s x.1.u x.1.o x.1.has A2 x.1.v.length c2) (by simp [results, Tryz.results45, go_sem, r0, r1, r2, r3, r4, r5]) rfl ?_
  rw [← HE.out]
  refine ⟨A2, c2, rfl, ?_, below_set (below_set (below_set (below_set (below_set (below_set HB2.out (Nat.le_refl _) _ _) (Nat.le_refl _) _ _) (Nat.le_refl _) _ _) (Nat.le_refl _) _ _) (Nat.le_refl _) _ _) (Nat.le_refl _) _ _⟩
  exact own_base (own_put (own_put (own_put (own_put (own_put (own_put HO2.out (by omega) _ _) (by omega) _ _) (by omega) _ _) (by omega) _ _) (by omega) _ _) (by omega) _ _) (by omega)
end Go.Proofs.YtkdpfjenjcpcfaaGreatDoor
namespace Go.Proofs.YtkdpfjenjcpcfaaGreatDoor
open Go.RowKit Mem Be Word Frm Go.Maps
set_option maxRecDepth 10000
set_option maxHeartbeats 2000000
set_option linter.unusedVariables false
variable {KS KS' : StK}
theorem ofT_merge {L : List EntP} {TF : List EV} {k : List UInt8} (h : SortT kV TF) : ofT (mergeT kE L (entT TF)) k = match getK kV TF k with | some x => x.1 | none => ofT L k := by
  unfold ofT
  rw [get_merge (ent_sort.1 h), show getK kE (entT TF) k = (getK kV TF k).map Prod.fst from get_map (f := Prod.fst) (fun x => rfl) TF k]
  cases getK kV TF k <;> rfl
theorem newest_any8 (F : Nat → Prop) (g q : Nat) (S : St8) (k : List UInt8) (hk : k.length ≤ maxLen) (w : World) (h : StAt KS w F g S q) :
    ∃ x : EV, x.1 = ofT S.N k ∧ ValOk w x.1.has x.2.1 x.1.v x.2.2 ∧ ∀ W, Below w.heap.size w W → Calls Tryz.prog 115 #[.pointer (some ⟨g, 0, none⟩), .string ⟨k.toArray⟩] W (IsE x W) := by
  obtain ⟨h0, FL, FS, lm, fm, TL, TF, A, c, h1, h2, hfl, h⟩ := h
  have hof := ofT_merge (L := S.L) (k := k) h.tf.srt
  rw [h2] at hof
  have d5 := lst_c5 h.lg
  have d6 := lst_c6 h.lg
  have hgl : g < w.heap.size := block_lt d5
  cases hg : getK kV TF k with
  | some x =>
    rw [hg] at hof
    refine ⟨x, hof.symm, h.tf.val x (get_some hg).1, fun W hb => ?_⟩
    have c6 : W.cell? ⟨g, 6, none⟩ = some (.map fm) := (hb.cell (p := ⟨g, 6, none⟩) hgl).trans d6
    have hgW : g < W.heap.size := Nat.lt_of_lt_of_le hgl hb.size
    have hL : ∀ o : Obj, (Instr.lookup 106 (.map fm) (.string ⟨k.toArray⟩) true).run Tryz.prog (W.alloc o) = .ok (.tuple #[evV x, .bool true]) (W.alloc o) := fun o => by
      have := look_run (h.tf.map.below (hb.trans (((Below.refl _ W).alloc (Nat.le_refl _) o).mono hb.size))) hk true
      rw [show lookV TF k = evV x by unfold lookV; rw [hg], hg] at this
      exact this
    clear h h0 h1 h2 hfl hof hg d5 d6 hb hgl
    unfold evV at hL
    unfold entV at hL
    go_enter Tryz.func115, Tryz.ntmps115
    go_wp2
    exact bodyPost_ret (v := entV ⟨x.1.k.toArray⟩ x.1.s x.1.u x.1.o x.1.has x.2.1 x.1.v.length x.2.2) (by simp [results, Tryz.results115, go_sem]) rfl ⟨rfl, ((Below.refl _ _).alloc (Nat.le_refl _) _).alloc (by simp) _⟩
  | none =>
    rw [hg] at hof
    refine ⟨ofV TL k, ((ofV_ent TL k).trans (by rw [show TL.map Prod.fst = S.L from h1])).trans hof.symm, ofV_val h.tl k, fun W hb => ?_⟩
    have c5 : W.cell? ⟨g, 5, none⟩ = some (.map lm) := (hb.cell (p := ⟨g, 5, none⟩) hgl).trans d5
    have c6 : W.cell? ⟨g, 6, none⟩ = some (.map fm) := (hb.cell (p := ⟨g, 6, none⟩) hgl).trans d6
    have hgW : g < W.heap.size := Nat.lt_of_lt_of_le hgl hb.size
    have hal : ∀ o o', Below w.heap.size w ((W.alloc o).alloc o') := fun o o' => hb.trans ((((Below.refl _ W).alloc (Nat.le_refl _) o).alloc (by simp) o').mono hb.size)
    have HO : Hid (∀ o o', Calls Tryz.prog 73 #[.map lm, .string ⟨k.toArray⟩] ((W.alloc o).alloc o') (IsE (ofV TL k) ((W.alloc o).alloc o'))) := Lib.hid fun o o' => tabof_any TL lm k hk _ (h.tl.map.below (hal o o'))
    have hL : ∀ o : Obj, (Instr.lookup 106 (.map fm) (.string ⟨k.toArray⟩) true).run Tryz.prog (W.alloc o) = .ok (.tuple #[evV (evN []), .bool false]) (W.alloc o) := fun o => by
      have := look_run (h.tf.map.below (hb.trans (((Below.refl _ W).alloc (Nat.le_refl _) o).mono hb.size))) hk true
      rw [show lookV TF k = evV (evN []) by unfold lookV; rw [hg], hg] at this
      exact this
    obtain ⟨x, hx⟩ : ∃ x, ofV TL k = x := ⟨_, rfl⟩
    rw [hx] at HO ⊢
    clear h h0 h1 h2 hfl hof hg d5 d6 hb hgl hal hx
    unfold evV evN entN at hL
    unfold entV at hL
    simp only [List.length_nil] at hL
    go_enter Tryz.func115, Tryz.ntmps115
    go_wp2_with fail
    refine (HO.out _ _).mono ?_
    rintro e w1 ⟨rfl, hb⟩
    have HB : Hid (Below W.heap.size W w1) := Lib.hid ((((Below.refl _ W).alloc (Nat.le_refl _) _).alloc (by simp) _).trans (hb.mono (by simp; omega)))
    have HK := Lib.hid (((Blk.new W 46 zeroC).alloc _).below hb (by simp; omega))
    have r0 : w1.cell? ⟨W.heap.size, 0, none⟩ = some (.string ⟨#[]⟩) := HK.out.cell 0
    have r1 : w1.cell? ⟨W.heap.size, 1, none⟩ = some (.int .i64 0) := HK.out.cell 1
    have r2 : w1.cell? ⟨W.heap.size, 2, none⟩ = some (.int .i64 0) := HK.out.cell 2
    have r3 : w1.cell? ⟨W.heap.size, 3, none⟩ = some (.int .i64 0) := HK.out.cell 3
    have r4 : w1.cell? ⟨W.heap.size, 4, none⟩ = some (.bool false) := HK.out.cell 4
    have r5 : w1.cell? ⟨W.heap.size, 5, none⟩ = some (.slice none 0 0) := HK.out.cell 5
    have z0 := HK.out.frozen 0
    have z1 := HK.out.frozen 1
    have z2 := HK.out.frozen 2
    have z3 := HK.out.frozen 3
    have z4 := HK.out.frozen 4
    have z5 := HK.out.frozen 5
    clear hb HO
    unfold evV
    go_wp2
    exact bodyPost_ret (v := entV ⟨x.1.k.toArray⟩ x.1.s x.1.u x.1.o x.1.has x.2.1 x.1.v.length x.2.2) (by simp [results, Tryz.results115, go_sem, r0, r1, r2, r3, r4, r5]) rfl
      ⟨rfl, below_set (below_set (below_set (below_set (below_set (below_set HB.out (Nat.le_refl _) _ _) (Nat.le_refl _) _ _) (Nat.le_refl _) _ _) (Nat.le_refl _) _ _) (Nat.le_refl _) _ _) (Nat.le_refl _) _ _⟩
theorem tab_many {w : World} {F : Nat → Prop} {g q : Nat} {S : St8} (h : StAt KS w F g S q) : S.L.length ≤ 8388608 ∧ S.N.length ≤ 8388608 := by
  have h1 := h.mx
  have h2 := (recS_ok h.ok.newer).2
  have h3 := (recS_ok h.ok.lasts).2
  have h4 := congrArg List.length (all_drop S.rs S.m)
  rw [List.length_append] at h4
  exact ⟨by omega, by omega⟩
theorem all_any8 (F : Nat → Prop) (g q : Nat) (S : St8) (w : World) (h : StAt KS w F g S q) :
    Calls Tryz.prog 53 #[.pointer (some ⟨g, 0, none⟩)] w (EntsP S.L w) := by
  have hm := tab_many h
  obtain ⟨h0, FL, FS, lm, fm, TL, TF, A, c, h1, h2, hfl, h⟩ := h
  have c5 := lst_c5 h.lg
  have hS := tabsorted_any TL lm h.tl.srt (by have := congrArg List.length h1; rw [List.length_map] at this; omega) w h.tl.map h.tl.val (fun x hx => by have := h.tl.key x hx; unfold maxLen; omega)
  rw [show TL.map Prod.fst = S.L from h1] at hS
  have HS := Lib.hid hS
  clear h h0 h1 h2 hfl hm hS
  go_enter Tryz.func53, Tryz.ntmps53
  go_wp2_with fail
  refine HS.out.mono ?_
  rintro e w1 ⟨us, A1, c1, h1, rfl, h2, h3, h4⟩
  have HX := Lib.hid (And.intro h1 (And.intro h2 (And.intro h3 h4)))
  clear h1 h2 h3 h4 HS
  go_wp2
  go_ret
  exact ⟨us, A1, c1, HX.out.1, rfl, HX.out.2.1, HX.out.2.2.1, HX.out.2.2.2⟩
theorem disk_any8 (F : Nat → Prop) (g q : Nat) (S : St8) (w : World) (h : StAt KS w F g S q) :
    Calls Tryz.prog 55 #[.pointer (some ⟨g, 0, none⟩)] w (NewDk id (allB (S.rs.take S.m)) (allB (S.rs.drop S.m)) q w) := by
  obtain ⟨h0, FL, FS, lm, fm, TL, TF, A, c, h1, h2, hfl, h⟩ := h
  have c5 := lst_c5 h.lg
  have HD := Lib.hid (disk7_any FL g S.m q S.rs w h.lg)
  clear h h0 h1 h2 hfl
  go_enter Tryz.func55, Tryz.ntmps55
  go_wp2_with fail
  refine HD.out.mono ?_
  rintro e w1 ⟨y, F1, rfl, hx⟩
  have HX := Lib.hid hx
  simp only [id]
  clear hx
  go_wp2
  go_ret
  exact ⟨y, F1, rfl, HX.out⟩
end Go.Proofs.YtkdpfjenjcpcfaaGreatDoor
namespace Go.Proofs.YtkdpfjenjcpcfaaGreatDoor
open Go.RowKit Mem Be Word Frm Go.Maps
set_option maxRecDepth 10000
set_option maxHeartbeats 2000000
set_option linter.unusedVariables false
variable {KS KS' : StK}
theorem own_not_map {w : World} {B s n m c b : Nat} {e : TypeId} {A : Option Addr} {xs : List Value} {T : List EV} (h : w.ownsRow B e s (.slice A m c) n xs) (hb : TabB w b T) {a : Addr} (ha : A = some a) : a.block ≠ b := by
  obtain ⟨_, _, cur, hh⟩ := ownIn h ha
  exact fun e => hb.ne hh e.symm
theorem touch_cell_size {w w' : World} {p : Addr} {v : Value} (h : Touch (fun _ => False) (w.setCell p v) w') : w.heap.size ≤ w'.heap.size := by have := h.size; simpa [World.setCell] using this
/-- The blocks of F, and those that are new since w, as far as there are any in w'. -/
def Now (w w' : World) (F : Nat → Prop) (k : Nat) : Prop := (F k ∨ w.heap.size ≤ k) ∧ k < w'.heap.size
theorem tab_set {w4 w5 w6 : World} {FS : Nat → Prop} {g i : Nat} {mo mo2 : Option Nat} {T T2 : List EV} {y : EV} {e : Ending} (hT : TabAt w4 FS mo T) (hT2 : TabAt w4 FS mo2 T2) (hne : ∀ b, mo = some b → mo2 = some b → False) (hlt : ∀ k, FS k → k < w4.heap.size) (hg : ¬ FS g) (hgl : g < w4.heap.size)
    (hb : Below w4.heap.size w4 w5) (hy : OwnE w5 0 y) (hyF : ∀ a, y.2.1 = some a → FS a.block ∨ w4.heap.size ≤ a.block) (ok : okE y.1) (hs : SetP g i mo T y w5 e w6) :
    e = .returned (.tuple #[]) ∧ ∃ b', TabAt w6 (Now w4 w6 FS) (some b') (putK kV T y) ∧ TabAt w6 (Now w4 w6 FS) mo2 T2 ∧ mo2 ≠ some b' ∧ (∀ k, k < w4.heap.size → k ≠ g → ¬ mo = some k → w6.heap[k]? = w4.heap[k]?) ∧
      ((mo = some b' ∧ Touch FS w4 w6) ∨ (mo = none ∧ w5.heap.size ≤ b' ∧ Touch (fun _ => False) (w5.setCell ⟨g, i, none⟩ (.map (some b'))) w6)) := by
  obtain ⟨he, hs⟩ := hs
  refine ⟨he, ?_⟩
  rcases hs with ⟨b, rfl, h1, h2⟩ | ⟨rfl, b, hbl, h1, h2⟩
  · have hbF := hT.inM b rfl
    have hbT : TabB w4 b T := by
      rcases hT.map with ⟨h, _⟩ | ⟨b2, h, h3⟩
      · cases h
      · injection h with h; subst h; exact h3
    have hsz : w4.heap.size ≤ w6.heap.size := Nat.le_trans hb.size h2.size
    have hkp : ∀ k, k < w4.heap.size → k ≠ b → w6.heap[k]? = w4.heap[k]? := fun k hk hn => (h2.block k (Nat.lt_of_lt_of_le hk hb.size) hn).trans (hb.block k hk)
    have hnow : ∀ k, FS k → Now w4 w6 FS k := fun k hk => ⟨Or.inl hk, Nat.lt_of_lt_of_le (hlt k hk) hsz⟩
    have hrow : ∀ {F2 : List EV}, EntsO w4 0 F2 → (∀ x ∈ F2, InF FS x.2.1) → EntsO w6 0 F2 := fun {F2} ho hi x hx => ownKeep (ho x hx) fun a ha => hkp _ (hlt _ (hi x hx a ha)) (own_not_map (ho x hx) hbT ha)
    have hyo : OwnE w6 0 y := ownKeep hy fun a ha => h2.block _ (ownIn hy ha).2.1 fun e => own_not_map hy (hbT.keep (hb.block b hbT.lt)) ha e
    refine ⟨b, ⟨Or.inr ⟨b, rfl, h1⟩, fun b' hb' => by injection hb' with hb'; subst hb'; exact hnow _ hbF, put_sort hT.srt, fun x hx => ?_, fun x hx a ha => ?_, fun x hx => ?_⟩, ⟨?_, fun b' hb' => hnow _ (hT2.inM b' hb'), hT2.srt, hrow hT2.own hT2.inF, fun x hx a ha => hnow _ (hT2.inF x hx a ha), hT2.ok⟩,
      fun e => hne b rfl e, fun k hk _ hn => hkp k hk (fun e => hn (by rw [e])), Or.inl ⟨rfl, (Touch.ofBelow hb).trans h2 fun k hk => by subst hk; exact Or.inl hbF⟩⟩
    · rcases mem_put_of hx with rfl | hx
      · exact hyo
      · exact hrow hT.own hT.inF x hx
    · rcases mem_put_of hx with rfl | hx
      · exact ⟨hyF a ha, (ownIn hyo ha).2.1⟩
      · exact hnow _ (hT.inF x hx a ha)
    · rcases mem_put_of hx with rfl | hx
      · exact ok
      · exact hT.ok x hx
    · exact hT2.map.keep fun b' hb' => hkp b' (hlt b' (hT2.inM b' hb')) fun e => hne b rfl (by rw [hb', e])
  · have hTn : T = [] := by
      rcases hT.map with ⟨_, h⟩ | ⟨b2, h, _⟩
      · exact h
      · cases h
    subst hTn
    have hsz5 := touch_cell_size h2
    have hsz : w4.heap.size ≤ w6.heap.size := Nat.le_trans hb.size hsz5
    have hkp5 : ∀ k, k < w5.heap.size → k ≠ g → w6.heap[k]? = w5.heap[k]? := fun k hk hn => (h2.block k (by simpa [World.setCell] using hk) (fun h => h)).trans (Below.heap_setCell w5 ⟨g, i, none⟩ _ k hn)
    have hkp : ∀ k, k < w4.heap.size → k ≠ g → w6.heap[k]? = w4.heap[k]? := fun k hk hn => (hkp5 k (Nat.lt_of_lt_of_le hk hb.size) hn).trans (hb.block k hk)
    have hnow : ∀ k, FS k → Now w4 w6 FS k := fun k hk => ⟨Or.inl hk, Nat.lt_of_lt_of_le (hlt k hk) hsz⟩
    have hng : ∀ k, FS k → k ≠ g := fun k hk e => hg (by rw [← e]; exact hk)
    have hyo : OwnE w6 0 y := ownKeep hy fun a ha => hkp5 _ (ownIn hy ha).2.1 fun e => by
      rcases hyF a ha with h | h
      · exact hng _ h e
      · omega
    have hp : putK kV ([] : List EV) y = [y] := rfl
    refine ⟨b, ⟨Or.inr ⟨b, rfl, h1⟩, fun b' hb' => by injection hb' with hb'; subst hb'; exact ⟨Or.inr (Nat.le_trans hb.size hbl), h1.lt⟩, put_sort sort_nil, fun x hx => ?_, fun x hx a ha => ?_, fun x hx => ?_⟩,
      ⟨hT2.map.keep fun b' hb' => hkp b' (hlt b' (hT2.inM b' hb')) (hng _ (hT2.inM b' hb')), fun b' hb' => hnow _ (hT2.inM b' hb'), hT2.srt, fun x hx => ownKeep (hT2.own x hx) fun a ha => hkp _ (hlt _ (hT2.inF x hx a ha)) (hng _ (hT2.inF x hx a ha)), fun x hx a ha => hnow _ (hT2.inF x hx a ha), hT2.ok⟩,
      fun e => ?_, fun k hk hn _ => hkp k hk hn, Or.inr ⟨rfl, hbl, h2⟩⟩
    · rw [hp] at hx
      have : x = y := by simpa using hx
      subst this; exact hyo
    · rw [hp] at hx
      have : x = y := by simpa using hx
      subst this
      exact ⟨hyF a ha, (ownIn hyo ha).2.1⟩
    · rw [hp] at hx
      have : x = y := by simpa using hx
      subst this; exact ok
    · have h3 := hlt b (hT2.inM b e)
      have h4 := hb.size
      omega
section
variable {w4 w5 w6 : World} {F FL FS : Nat → Prop} {g m q : Nat} {rs : List Rc} {lm fm : Option Nat} {TL TF : List EV} {A : Option Addr} {c : Nat} {acks : List AckP} {y : EV} {e : Ending}
theorem st_own6 (h : StB KS w4 F FL FS g rs m q lm fm TL TF A c acks) (hk : ∀ k, k < w4.heap.size → k ≠ g → (∀ T, ¬ TabB w4 k T) → w6.heap[k]? = w4.heap[k]?) : w6.ownsRow 0 130 5 (.slice A acks.length c) acks.length (acksC acks) :=
  ownKeep h.own fun a ha => hk _ (ownIn h.own ha).2.1 (fun e => h.dis g (lg_fg h.lg) (by rw [← e]; exact h.inA a ha)) fun T hT => own_not_map h.own hT ha rfl
theorem tabM_some {w : World} {b : Nat} {T : List EV} (h : TabM w (some b) T) : TabB w b T := by
  rcases h with ⟨h, _⟩ | ⟨b2, h, h3⟩
  · cases h
  · injection h with h; subst h; exact h3
/-- One more among those that do not last yet. -/
theorem st_put6 (h : StB KS w4 F FL FS g rs m q lm fm TL TF A c acks) (hb : Below w4.heap.size w4 w5) (hy : OwnE w5 w4.heap.size y) (ok : okE y.1) (hs : SetP g 6 fm TF y w5 e w6) :
    e = .returned (.tuple #[]) ∧ (∃ fm', StB KS w6 (Now w4 w6 F) FL (Now w4 w6 FS) g rs m q lm fm' TL (putK kV TF y) A c acks) ∧ Touch F w4 w6 ∧ (∀ k, k < w4.heap.size → k ≠ g → ¬ fm = some k → w6.heap[k]? = w4.heap[k]?) := by
  have hgF := lg_fg h.lg
  have hgl : g < w4.heap.size := h.lt g (h.sub g (Or.inl hgF))
  have hlt : ∀ k, FS k → k < w4.heap.size := fun k hk => h.lt k (h.sub k (Or.inr hk))
  obtain ⟨he, b', h1, h2, h3, h4, h5⟩ := tab_set h.tf h.tl (fun b h1 h2 => h.ne b h2 h1) hlt (h.dis g hgF) hgl hb (ownBase hy (Nat.zero_le _)) (fun a ha => Or.inr (ownIn hy ha).1) ok hs
  have hkp : ∀ k, k < w4.heap.size → k ≠ g → (∀ T, ¬ TabB w4 k T) → w6.heap[k]? = w4.heap[k]? := fun k hk hn hT => h4 k hk hn fun e => hT TF (by have := h.tf.map; rw [e] at this; exact tabM_some this)
  refine ⟨he, ?_, ?_, h4⟩
  · rcases h5 with ⟨rfl, ht⟩ | ⟨rfl, hbl, ht⟩
    · have hkl : ∀ k, FL k → w6.heap[k]? = w4.heap[k]? := fun k hk => ht.block k (h.lt k (h.sub k (Or.inl hk))) (h.dis k hk)
      refine ⟨some b', ⟨h.lg.keep ht.size hkl, h2, h1, fun b h6 h7 => h3 (by rw [h6, ← h7]), st_own6 h hkp, fun a ha => ⟨Or.inl (h.inA a ha), Nat.lt_of_lt_of_le (hlt _ (h.inA a ha)) ht.size⟩, fun k hk hn => ?_, fun k hk => ?_, fun k hk => hk.2⟩⟩
      · rcases hn.1 with hn | hn
        · exact h.dis k hk hn
        · have := h.lt k (h.sub k (Or.inl hk)); omega
      · rcases hk with hk | hk
        · exact ⟨Or.inl (h.sub k (Or.inl hk)), Nat.lt_of_lt_of_le (h.lt k (h.sub k (Or.inl hk))) ht.size⟩
        · exact ⟨hk.1.imp (fun h6 => h.sub k (Or.inr h6)) id, hk.2⟩
    · have hsz5 := touch_cell_size ht
      have hsz : w4.heap.size ≤ w6.heap.size := Nat.le_trans hb.size hsz5
      have hlg := (lst_e6 (h.lg.below hb) (some b')).keep ht.size (fun k hk => ht.block k (by have := h.lt k (h.sub k (Or.inl hk)); have := hb.size; simp [World.setCell]; omega) (fun h => h))
      refine ⟨some b', ⟨hlg, h2, h1, fun b h6 h7 => h3 (by rw [h6, ← h7]), st_own6 h hkp, fun a ha => ⟨Or.inl (h.inA a ha), Nat.lt_of_lt_of_le (hlt _ (h.inA a ha)) hsz⟩, fun k hk hn => ?_, fun k hk => ?_, fun k hk => hk.2⟩⟩
      · rcases hn.1 with hn | hn
        · exact h.dis k hk hn
        · have := h.lt k (h.sub k (Or.inl hk)); omega
      · rcases hk with hk | hk
        · exact ⟨Or.inl (h.sub k (Or.inl hk)), Nat.lt_of_lt_of_le (h.lt k (h.sub k (Or.inl hk))) hsz⟩
        · exact ⟨hk.1.imp (fun h6 => h.sub k (Or.inr h6)) id, hk.2⟩
  · rcases h5 with ⟨_, ht⟩ | ⟨_, _, ht⟩
    · exact ht.mono fun k hk => h.sub k (Or.inr hk)
    · exact ((Touch.ofBelow hb).set_ (p := ⟨g, 6, none⟩) (Or.inl (h.sub g (Or.inl hgF))) _).trans ht fun k hk => hk.elim
/-- One that does not last yet stands among those that do. -/
theorem st_put5 (h : StB KS w4 F FL FS g rs m q lm fm TL TF A c acks) (hb : Below w4.heap.size w4 w5) (hy : OwnE w5 0 y) (hyF : InF FS y.2.1) (ok : okE y.1) (hs : SetP g 5 lm TL y w5 e w6) :
    e = .returned (.tuple #[]) ∧ (∃ lm', StB KS w6 (Now w4 w6 F) FL (Now w4 w6 FS) g rs m q lm' fm (putK kV TL y) TF A c acks) ∧ Touch F w4 w6 ∧ (∀ k, k < w4.heap.size → k ≠ g → ¬ lm = some k → w6.heap[k]? = w4.heap[k]?) := by
  have hgF := lg_fg h.lg
  have hgl : g < w4.heap.size := h.lt g (h.sub g (Or.inl hgF))
  have hlt : ∀ k, FS k → k < w4.heap.size := fun k hk => h.lt k (h.sub k (Or.inr hk))
  obtain ⟨he, b', h1, h2, h3, h4, h5⟩ := tab_set h.tl h.tf h.ne hlt (h.dis g hgF) hgl hb hy (fun a ha => Or.inl (hyF a ha)) ok hs
  have hkp : ∀ k, k < w4.heap.size → k ≠ g → (∀ T, ¬ TabB w4 k T) → w6.heap[k]? = w4.heap[k]? := fun k hk hn hT => h4 k hk hn fun e => hT TL (by have := h.tl.map; rw [e] at this; exact tabM_some this)
  refine ⟨he, ?_, ?_, h4⟩
  · rcases h5 with ⟨rfl, ht⟩ | ⟨rfl, hbl, ht⟩
    · have hkl : ∀ k, FL k → w6.heap[k]? = w4.heap[k]? := fun k hk => ht.block k (h.lt k (h.sub k (Or.inl hk))) (h.dis k hk)
      refine ⟨some b', ⟨h.lg.keep ht.size hkl, h1, h2, fun b h6 h7 => h3 (by rw [h7, ← h6]), st_own6 h hkp, fun a ha => ⟨Or.inl (h.inA a ha), Nat.lt_of_lt_of_le (hlt _ (h.inA a ha)) ht.size⟩, fun k hk hn => ?_, fun k hk => ?_, fun k hk => hk.2⟩⟩
      · rcases hn.1 with hn | hn
        · exact h.dis k hk hn
        · have := h.lt k (h.sub k (Or.inl hk)); omega
      · rcases hk with hk | hk
        · exact ⟨Or.inl (h.sub k (Or.inl hk)), Nat.lt_of_lt_of_le (h.lt k (h.sub k (Or.inl hk))) ht.size⟩
        · exact ⟨hk.1.imp (fun h6 => h.sub k (Or.inr h6)) id, hk.2⟩
    · have hsz5 := touch_cell_size ht
      have hsz : w4.heap.size ≤ w6.heap.size := Nat.le_trans hb.size hsz5
      have hlg := (lst_e5 (h.lg.below hb) (some b')).keep ht.size (fun k hk => ht.block k (by have := h.lt k (h.sub k (Or.inl hk)); have := hb.size; simp [World.setCell]; omega) (fun h => h))
      refine ⟨some b', ⟨hlg, h1, h2, fun b h6 h7 => h3 (by rw [h7, ← h6]), st_own6 h hkp, fun a ha => ⟨Or.inl (h.inA a ha), Nat.lt_of_lt_of_le (hlt _ (h.inA a ha)) hsz⟩, fun k hk hn => ?_, fun k hk => ?_, fun k hk => hk.2⟩⟩
      · rcases hn.1 with hn | hn
        · exact h.dis k hk hn
        · have := h.lt k (h.sub k (Or.inl hk)); omega
      · rcases hk with hk | hk
        · exact ⟨Or.inl (h.sub k (Or.inl hk)), Nat.lt_of_lt_of_le (h.lt k (h.sub k (Or.inl hk))) hsz⟩
        · exact ⟨hk.1.imp (fun h6 => h.sub k (Or.inr h6)) id, hk.2⟩
  · rcases h5 with ⟨_, ht⟩ | ⟨_, _, ht⟩
    · exact ht.mono fun k hk => h.sub k (Or.inr hk)
    · exact ((Touch.ofBelow hb).set_ (p := ⟨g, 5, none⟩) (Or.inl (h.sub g (Or.inl hgF))) _).trans ht fun k hk => hk.elim
end
end Go.Proofs.YtkdpfjenjcpcfaaGreatDoor
namespace Go.Proofs.YtkdpfjenjcpcfaaGreatDoor
open Go.RowKit Mem Be Word Frm Go.Maps
set_option maxRecDepth 10000
set_option maxHeartbeats 2000000
set_option linter.unusedVariables false
variable {KS KS' : StK}
/-- What an append of an entry leaves, and tells. -/
def writeS (S : St8) (e : EntP) : St8 × Int := if (allB (S.rs ++ [(1, putE e)])).length ≤ 4194304 then (⟨S.rs ++ [(1, putE e)], S.m, S.L, putK kE S.N e, S.acks⟩, 0) else (S, 3)
theorem add_put (rs : List Rc) {e : EntP} (h : okE e) : addS rs 1 [putE e] = if (allB (rs ++ [(1, putE e)])).length ≤ 4194304 then (rs ++ [(1, putE e)], 0) else (rs, 3) := by
  have h1 := putE_len h
  unfold addS
  have e1 : newR 1 [putE e] = [(1, putE e)] := rfl
  rw [e1]
  by_cases h2 : (allB (rs ++ [(1, putE e)])).length ≤ 4194304
  · rw [if_pos h2, if_pos ⟨fun b hb => (by have h3 : b = putE e := (by simpa using hb); rw [h3]; exact h1), h2⟩]
  · rw [if_neg h2, if_neg fun h => h2 h.2]
theorem bytesE_any (x : EV) (ok : okE x.1) (w : World) (h : ValOk w x.1.has x.2.1 x.1.v x.2.2) : Calls Tryz.prog 121 #[evV x] w (Made2 w.heap.size (putE x.1) 0 w) := by
  obtain ⟨⟨k, s, u, o, has, v⟩, A, c⟩ := x
  have hk : (⟨k.toArray⟩ : ByteArray).size = k.length := by show k.toArray.size = _; simp
  unfold okE at ok
  simp only at ok h ⊢
  cases has
  · have := bytes_no ⟨k.toArray⟩ s u o A v v.length c rfl (by rw [hk]; exact ok) w h
    rw [kb_mk] at this
    exact this
  · have := bytes_yes ⟨k.toArray⟩ s u o A v v.length c rfl (by rw [hk]; exact ok) w h
    rw [kb_mk] at this
    exact this
section
variable {w w2 w3 : World} {F FL FL' FS : Nat → Prop} {g m q m' q' : Nat} {rs rs' : List Rc} {lm fm : Option Nat} {TL TF : List EV} {A : Option Addr} {c : Nat} {acks : List AckP}
/-- Whatever the log does, the tables and the acks stay. -/
theorem st_log (h : StB KS w F FL FS g rs m q lm fm TL TF A c acks) (hb : Below w.heap.size w w2) (hF : ∀ k, FL' k → FL k ∨ w2.heap.size ≤ k) (hl : LgAt (stK KS lm fm (.slice A acks.length c)) w3 FL' g rs' m' q') (ht : Touch FL w2 w3) :
    StB KS w3 (Now w w3 F) FL' FS g rs' m' q' lm fm TL TF A c acks ∧ Touch F w w3 := by
  have hlt : ∀ k, FS k → k < w.heap.size := fun k hk => h.lt k (h.sub k (Or.inr hk))
  have hsz : w.heap.size ≤ w3.heap.size := Nat.le_trans hb.size ht.size
  have hk : ∀ k, FS k → w3.heap[k]? = w.heap[k]? := fun k hs => (ht.block k (Nat.lt_of_lt_of_le (hlt k hs) hb.size) fun hl => h.dis k hl hs).trans (hb.block k (hlt k hs))
  refine ⟨⟨hl, h.tl.keep hk, h.tf.keep hk, h.ne, ownKeep h.own fun a ha => hk _ (h.inA a ha), h.inA, fun k h1 h2 => ?_, fun k h1 => ?_, fun k h1 => h1.2⟩, (Touch.ofBelow hb).trans ht fun k hk => Or.inl (h.sub k (Or.inl hk))⟩
  · rcases hF k h1 with h3 | h3
    · exact h.dis k h3 h2
    · have := hlt k h2; have := hb.size; omega
  · rcases h1 with h1 | h1
    · refine ⟨?_, hl.lt k h1⟩
      rcases hF k h1 with h3 | h3
      · exact Or.inl (h.sub k (Or.inl h3))
      · exact Or.inr (Nat.le_trans hb.size h3)
    · exact ⟨Or.inl (h.sub k (Or.inr h1)), Nat.lt_of_lt_of_le (hlt k h1) hsz⟩
end
theorem ok8_put {S : St8} (h : Ok8 S) {e : EntP} (ok : okE e) (hs : e.s ≠ 0) (hc : ¬ cmpE e (ofT S.N e.k) < 0) : Ok8 ⟨S.rs ++ [(1, putE e)], S.m, S.L, putK kE S.N e, S.acks⟩ := by
  have h1 := recS_snoc h.newer ok hs
  rw [show layT S.N e = putK kE S.N e from if_neg hc] at h1
  refine ⟨by have := h.le; simp; omega, h1, ?_, fun j hj hl => ?_⟩
  · show recS ((S.rs ++ [(1, putE e)]).take S.m) = _
    rw [List.take_append_of_le_length h.le]; exact h.lasts
  · by_cases hj2 : j ≤ S.rs.length
    · show (recS ((S.rs ++ [(1, putE e)]).take j)).isSome = true
      rw [List.take_append_of_le_length hj2]; exact h.told j hj hj2
    · have : (S.rs ++ [(1, putE e)]).take j = S.rs ++ [(1, putE e)] := List.take_of_length_le (by simp; omega)
      show (recS ((S.rs ++ [(1, putE e)]).take j)).isSome = true
      rw [this, h1]; rfl
theorem write_any8 (F : Nat → Prop) (g q : Nat) (S : St8) (x : EV) (ok : okE x.1) (hs : x.1.s ≠ 0) (hc : ¬ cmpE x.1 (ofT S.N x.1.k) < 0) (w : World) (h : StAt KS w F g S q) (hv : ValOk w x.1.has x.2.1 x.1.v x.2.2) (hN : RowN F w x.2.1 (x.1.v.map byteV)) :
    Calls Tryz.prog 116 #[.pointer (some ⟨g, 0, none⟩), evV x] w (StTo KS (.int .i64 (writeS S x.1).2) F g (writeS S x.1).1 q w) := by
  by_cases hfit : (allB (S.rs ++ [(1, putE x.1)])).length ≤ 4194304
  · rw [show writeS S x.1 = (⟨S.rs ++ [(1, putE x.1)], S.m, S.L, putK kE S.N x.1, S.acks⟩, 0) from if_pos hfit]
    simp only
    have hmany := h.many
    have hO8 := h.ok
    obtain ⟨h0, FL, FS, lm, fm, TL, TF, A, c, h1, h2, hfl, h⟩ := h
    have HFL := Lib.hid hfl
    have hTFl : TF.length ≤ 419430 := by omega
    have HS := Lib.hid h
    have HO8 := Lib.hid hO8
    have H12 := Lib.hid (And.intro h1 h2)
    have HOK := Lib.hid ok
    have HSN := Lib.hid hs
    have HC := Lib.hid hc
    have c5 := lst_c5 h.lg
    have hgl : g < w.heap.size := block_lt c5
    have HTF := Lib.hid hTFl
    have HBL := Lib.hid (Blk.new w 46 ⟨entC x⟩)
    have HAL : Hid (Below w.heap.size w (w.alloc (.cells ⟨entC x⟩ 46))) := Lib.hid ((Below.refl _ _).alloc (Nat.le_refl _) _)
    have HBY := Lib.hid (bytesE_any x ok (w.alloc (.cells ⟨entC x⟩ 46)) (hv.below HAL.out))
    have HV := Lib.hid hv
    have HRN := Lib.hid hN
    have hadd := add_put S.rs ok
    have HADD := Lib.hid hadd
    have HPL := Lib.hid (putE_len ok)
    obtain ⟨B, hB⟩ : ∃ B, putE x.1 = B := ⟨_, rfl⟩
    have HPB := Lib.hid hB
    rw [hB] at HBY
    clear h h0 h1 h2 hfl hO8 ok hs hc hv hN hmany hTFl hadd hB c5
    unfold evV
    unfold evV at HBY
    go_enter Tryz.func116, Tryz.ntmps116
    go_wp2_with fail
    refine HBY.out.mono ?_
    rintro e w1 ⟨A1, c1, rfl, ho1, hb1⟩
    have HB1 : Hid (Below w.heap.size w w1) := Lib.hid (HAL.out.trans (hb1.mono HAL.out.size))
    have HK1 := Lib.hid (HBL.out.below hb1 HBL.out.lt)
    have hlg1 := (HS.out.lg.below HB1.out).below ((Below.refl w1.heap.size w1).alloc (Nat.le_refl _) (.cells #[.slice A1 B.length c1] 27))
    have happ := append7_any (J := stK KS lm fm (.slice A S.acks.length c)) FL g S.m q 1 1 1 (by decide) S.rs (some ⟨w1.heap.size, 0, none⟩) [(A1, B, c1)] rfl (by omega) (fun r hr => by
        have : r = (A1, B, c1) := by simpa using hr
        subst this
        have h3 := HPL.out
        rw [HPB.out] at h3
        show B.length ≤ maxLen
        unfold maxLen; omega) _ hlg1 (by
        refine Or.inr ⟨w1.heap.size, 0, rfl, fun hf => ?_, by simp, fun j hj => ?_⟩
        · have h3 := HS.out.lt _ (HS.out.sub _ (Or.inl hf)); have h4 := HB1.out.size; omega
        · have hj0 : j = 0 := by simp at hj; omega
          subst hj0
          exact (Blk.new w1 27 #[.slice A1 B.length c1]).cell 0) (fun r hr => by
        have : r = (A1, B, c1) := by simpa using hr
        subst this
        have ho2 := ownLater ho1 ((Below.refl w1.heap.size w1).alloc (Nat.le_refl _) (.cells #[.slice A1 B.length c1] 27))
        exact rowN_own (w := w.alloc (.cells ⟨entC x⟩ 46)) (fun k hk => Nat.lt_of_lt_of_le (HS.out.lt k (HS.out.sub k (Or.inl hk))) HAL.out.size) ho2)
    rw [show (((1 : UInt8).toNat : Nat) : Int) = 1 from rfl, show bytesR [(A1, B, c1)] = [B] from rfl, ← HPB.out, HADD.out, HPB.out] at happ
    have HAPP := Lib.hid happ
    clear happ hlg1 ho1 hb1 HBY
    rw [HPB.out] at hfit
    rw [if_pos hfit] at HAPP
    clear hfit HADD
    go_wp2_with fail
    refine HAPP.out.mono ?_
    rintro e w3 ⟨rfl, FL', hF', hl', ht'⟩
    have hst := st_log HS.out (HB1.out.alloc HB1.out.size _) hF' hl' ht'
    have hne : ∀ k, FL k → k ≠ w.heap.size := fun k hk e => by have := HS.out.lt k (HS.out.sub k (Or.inl hk)); omega
    have hk3 : w3.heap[w.heap.size]? = w1.heap[w.heap.size]? := (ht'.block _ (by have := HK1.out.lt; simp; omega) fun hf => hne _ hf rfl).trans (((Below.refl w1.heap.size w1).alloc (Nat.le_refl _) _).block _ HK1.out.lt)
    have HK3 : Hid (Blk w3 w.heap.size 46 ⟨entC x⟩) := Lib.hid (hk3.trans HK1.out)
    have HST := Lib.hid hst
    have hV3 : ValOk w3 x.1.has x.2.1 x.1.v x.2.2 := ⟨(HRN.out.touch hst.2).row, HV.out.len, HV.out.cap⟩
    have HCP : Hid (∀ W, Below w3.heap.size w3 W → Calls Tryz.prog 72 #[entV ⟨x.1.k.toArray⟩ x.1.s x.1.u x.1.o x.1.has x.2.1 x.1.v.length x.2.2] W (MadeE W.heap.size ⟨x.1.k.toArray⟩ x.1.s x.1.u x.1.o x.1.has x.1.v W)) := Lib.hid fun W hb => copyE_any ⟨x.1.k.toArray⟩ x.1.s x.1.u x.1.o x.1.has x.2.1 x.1.v x.1.v.length x.2.2 rfl W (hV3.below hb)
    have HDR : Hid (Below w3.heap.size w3 w3.drew) := Lib.hid (Below.refl _ _).drew
    have hg3 : g < w3.heap.size := Nat.lt_of_lt_of_le hgl (by have := HB1.out.size; have := ht'.size; simp at this; omega)
    have s0 : w3.cell? ⟨w.heap.size, 0, none⟩ = some (.string ⟨x.1.k.toArray⟩) := HK3.out.cell 0
    have s1 : w3.cell? ⟨w.heap.size, 1, none⟩ = some (.int .i64 x.1.s) := HK3.out.cell 1
    have s2 : w3.cell? ⟨w.heap.size, 2, none⟩ = some (.int .i64 x.1.u) := HK3.out.cell 2
    have s3 : w3.cell? ⟨w.heap.size, 3, none⟩ = some (.int .i64 x.1.o) := HK3.out.cell 3
    have s4 : w3.cell? ⟨w.heap.size, 4, none⟩ = some (.bool x.1.has) := HK3.out.cell 4
    have s5 : w3.cell? ⟨w.heap.size, 5, none⟩ = some (.slice x.2.1 x.1.v.length x.2.2) := HK3.out.cell 5
    have HSK : Hid (∀ W' : World, W'.heap[w.heap.size]? = w3.heap[w.heap.size]? → W'.cell? ⟨w.heap.size, 0, none⟩ = some (.string ⟨x.1.k.toArray⟩) ∧ W'.cell? ⟨w.heap.size, 1, none⟩ = some (.int .i64 x.1.s) ∧ W'.cell? ⟨w.heap.size, 2, none⟩ = some (.int .i64 x.1.u) ∧
      W'.cell? ⟨w.heap.size, 3, none⟩ = some (.int .i64 x.1.o) ∧ W'.cell? ⟨w.heap.size, 4, none⟩ = some (.bool x.1.has) ∧ W'.cell? ⟨w.heap.size, 5, none⟩ = some (.slice x.2.1 x.1.v.length x.2.2)) := Lib.hid fun W' h => by
        have hb : Blk W' w.heap.size 46 ⟨entC x⟩ := h.trans HK3.out
        exact ⟨hb.cell 0, hb.cell 1, hb.cell 2, hb.cell 3, hb.cell 4, hb.cell 5⟩
    have HFM : Hid (¬ fm = some w.heap.size) := Lib.hid fun e => by have := HS.out.lt _ (HS.out.sub _ (Or.inr (HS.out.tf.inM _ e))); omega
    have HGW : Hid (w.heap.size ≠ g) := Lib.hid (by omega)
    clear hF' hl' ht' HAPP hst hne hk3 hV3
    go_wp2_with fail
    go_region_held3 (fun w' => w'.cell? ⟨w.heap.size, 0, none⟩ = some (.string ⟨x.1.k.toArray⟩) ∧ w'.cell? ⟨w.heap.size, 1, none⟩ = some (.int .i64 x.1.s) ∧ w'.cell? ⟨w.heap.size, 2, none⟩ = some (.int .i64 x.1.u) ∧ w'.cell? ⟨w.heap.size, 3, none⟩ = some (.int .i64 x.1.o) ∧ w'.cell? ⟨w.heap.size, 4, none⟩ = some (.bool x.1.has) ∧ w'.cell? ⟨w.heap.size, 5, none⟩ = some (.slice x.2.1 x.1.v.length x.2.2))
      (first | go_keep | exact HSK.out _ HKD.out | exact HSK.out _ HKC.out)
      (first
        | (go_at_call 72; refine (HCP.out _ HDR.out).mono ?_; rintro e w5 ⟨A5, c5, rfl, ho, hb⟩; (have HB5 := Lib.hid (HDR.out.trans (hb.mono HDR.out.size))); (have HO5 : Hid (OwnE w5 w3.heap.size (x.1, A5, c5)) := Lib.hid (ownBase ho HDR.out.size)); (have HKC : Hid (w5.heap[w.heap.size]? = w3.heap[w.heap.size]?) := Lib.hid (HB5.out.block _ HK3.out.lt)); (have HSE := Lib.hid (set_any TF fm g 6 (x.1, A5, c5) (rightE_yes HOK.out).2.1 (by have := HTF.out; omega) w5 (lst_c6 (HST.out.1.lg.below HB5.out)) (lst_z (HST.out.1.lg.below HB5.out) 6) (HST.out.1.tf.map.below HB5.out))); clear ho hb)
        | (go_at_call 124; refine HSE.out.mono ?_; rintro e w6 hx; obtain ⟨rfl, hx1, hx2, hx3⟩ := st_put6 HST.out.1 HB5.out HO5.out HOK.out hx; (have HKD : Hid (w6.heap[w.heap.size]? = w3.heap[w.heap.size]?) := Lib.hid (hx3 _ HK3.out.lt HGW.out HFM.out)); (have HFIN := Lib.hid (And.intro hx1 hx2)); clear hx hx1 hx2 hx3))
    all_goals
      clear s0 s1 s2 s3 s4 s5
      go_wp2
      go_ret
      obtain ⟨⟨fm', hfin⟩, hto⟩ := HFIN.out
      rw [← HPB.out] at hfin
      refine ⟨rfl, _, fun k hk => ?_, ⟨ok8_put HO8.out HOK.out HSN.out (by have := HC.out; omega), FL', _, lm, fm', TL, _, A, c, H12.out.1, ?_, ?_, hfin⟩, HST.out.2.trans hto fun k hk => hk.1⟩
      · rcases hk.1 with h | h
        · exact h.1
        · exact Or.inr (Nat.le_trans HST.out.2.size h)
      · rw [ent_put, merge_put HO8.out.lOk.srt (ent_sort.1 HS.out.tf.srt), H12.out.2]
      · have h1 := put_len (key := kV) (x.1, A5, c5) TF
        have h2 := HFL.out
        show _ ≤ (S.rs ++ [(1, putE x.1)]).length
        rw [List.length_append]
        simp only [List.length_cons, List.length_nil]
        omega
  · rw [show writeS S x.1 = (S, 3) from if_neg hfit]
    simp only
    have hmany := h.many
    have hO8 := h.ok
    obtain ⟨h0, FL, FS, lm, fm, TL, TF, A, c, h1, h2, hfl, h⟩ := h
    have HFL := Lib.hid hfl
    have hTFl : TF.length ≤ 419430 := by omega
    have HS := Lib.hid h
    have HO8 := Lib.hid hO8
    have H12 := Lib.hid (And.intro h1 h2)
    have HOK := Lib.hid ok
    have HSN := Lib.hid hs
    have HC := Lib.hid hc
    have c5 := lst_c5 h.lg
    have hgl : g < w.heap.size := block_lt c5
    have HTF := Lib.hid hTFl
    have HBL := Lib.hid (Blk.new w 46 ⟨entC x⟩)
    have HAL : Hid (Below w.heap.size w (w.alloc (.cells ⟨entC x⟩ 46))) := Lib.hid ((Below.refl _ _).alloc (Nat.le_refl _) _)
    have HBY := Lib.hid (bytesE_any x ok (w.alloc (.cells ⟨entC x⟩ 46)) (hv.below HAL.out))
    have HV := Lib.hid hv
    have HRN := Lib.hid hN
    have hadd := add_put S.rs ok
    have HADD := Lib.hid hadd
    have HPL := Lib.hid (putE_len ok)
    obtain ⟨B, hB⟩ : ∃ B, putE x.1 = B := ⟨_, rfl⟩
    have HPB := Lib.hid hB
    rw [hB] at HBY
    clear h h0 h1 h2 hfl hO8 ok hs hc hv hN hmany hTFl hadd hB c5
    unfold evV
    unfold evV at HBY
    go_enter Tryz.func116, Tryz.ntmps116
    go_wp2_with fail
    refine HBY.out.mono ?_
    rintro e w1 ⟨A1, c1, rfl, ho1, hb1⟩
    have HB1 : Hid (Below w.heap.size w w1) := Lib.hid (HAL.out.trans (hb1.mono HAL.out.size))
    have HK1 := Lib.hid (HBL.out.below hb1 HBL.out.lt)
    have hlg1 := (HS.out.lg.below HB1.out).below ((Below.refl w1.heap.size w1).alloc (Nat.le_refl _) (.cells #[.slice A1 B.length c1] 27))
    have happ := append7_any (J := stK KS lm fm (.slice A S.acks.length c)) FL g S.m q 1 1 1 (by decide) S.rs (some ⟨w1.heap.size, 0, none⟩) [(A1, B, c1)] rfl (by omega) (fun r hr => by
        have : r = (A1, B, c1) := by simpa using hr
        subst this
        have h3 := HPL.out
        rw [HPB.out] at h3
        show B.length ≤ maxLen
        unfold maxLen; omega) _ hlg1 (by
        refine Or.inr ⟨w1.heap.size, 0, rfl, fun hf => ?_, by simp, fun j hj => ?_⟩
        · have h3 := HS.out.lt _ (HS.out.sub _ (Or.inl hf)); have h4 := HB1.out.size; omega
        · have hj0 : j = 0 := by simp at hj; omega
          subst hj0
          exact (Blk.new w1 27 #[.slice A1 B.length c1]).cell 0) (fun r hr => by
        have : r = (A1, B, c1) := by simpa using hr
        subst this
        have ho2 := ownLater ho1 ((Below.refl w1.heap.size w1).alloc (Nat.le_refl _) (.cells #[.slice A1 B.length c1] 27))
        exact rowN_own (w := w.alloc (.cells ⟨entC x⟩ 46)) (fun k hk => Nat.lt_of_lt_of_le (HS.out.lt k (HS.out.sub k (Or.inl hk))) HAL.out.size) ho2)
    rw [show (((1 : UInt8).toNat : Nat) : Int) = 1 from rfl, show bytesR [(A1, B, c1)] = [B] from rfl, ← HPB.out, HADD.out, HPB.out] at happ
    have HAPP := Lib.hid happ
    clear happ hlg1 ho1 hb1 HBY
    rw [HPB.out] at hfit
    rw [if_neg hfit] at HAPP
    clear hfit HADD
    go_wp2_with fail
    refine HAPP.out.mono ?_
    rintro e w3 ⟨rfl, FL', hF', hl', ht'⟩
    have HX := Lib.hid (st_log HS.out (HB1.out.alloc HB1.out.size _) hF' hl' ht')
    have HL' := Lib.hid hF'
    clear hF' hl' ht' HAPP
    go_wp2
    go_ret
    exact ⟨rfl, _, fun k hk => hk.1, ⟨HO8.out, FL', FS, lm, fm, TL, TF, A, c, H12.out.1, H12.out.2, HFL.out, HX.out.1⟩, HX.out.2⟩
end Go.Proofs.YtkdpfjenjcpcfaaGreatDoor
namespace Go.Proofs.YtkdpfjenjcpcfaaGreatDoor
open Go.RowKit Mem Be Word Frm Go.Maps
set_option maxRecDepth 10000
set_option maxHeartbeats 2000000
set_option linter.unusedVariables false
variable {KS KS' : StK}
def ackOf (e : EntP) (who : Int) : AckP := ⟨who, e.k, e.s, e.u, e.o⟩
def pushS (S : St8) (a : AckP) : St8 := ⟨S.rs, S.m, S.L, S.N, S.acks ++ [a]⟩
/-- May an entry be put, for whom? -/
def mayP (e : EntP) (who : Int) : Prop := okE e ∧ e.s ≠ 0 ∧ 0 ≤ who ∧ who ≤ 1048575
instance mayPdec (e : EntP) (who : Int) : Decidable (mayP e who) := by unfold mayP okE; infer_instance
/-- What a Put leaves, and tells. -/
def putS (S : St8) (e : EntP) (who : Int) : St8 × Int :=
  if mayP e who then (if 0 < cmpE e (ofT S.N e.k) then (if (writeS S e).2 = 0 then (pushS (writeS S e).1 (ackOf e who), 0) else (S, (writeS S e).2)) else (pushS S (ackOf e who), 0)) else (S, 2)
theorem TabAt.keepBut {w w' : World} {F : Nat → Prop} {mo : Option Nat} {T : List EV} (h : TabAt w F mo T) (hk : ∀ k, F k → (∀ cur, w.heap[k]? ≠ some (.cells cur 130 (0, 0))) → w'.heap[k]? = w.heap[k]?) : TabAt w' F mo T := by
  refine ⟨?_, h.inM, h.srt, fun x hx => ownKeep (h.own x hx) fun a ha => hk _ (h.inF x hx a ha) fun cur e => ?_, h.inF, h.ok⟩
  · rcases h.map with h1 | ⟨b, h1, h2⟩
    · exact Or.inl h1
    · refine Or.inr ⟨b, h1, h2.keep (hk b (h.inM b h1) fun cur e => ?_)⟩
      exact h2.ne e rfl
  · obtain ⟨_, _, cur', hh⟩ := ownIn (h.own x hx) ha
    rw [e] at hh
    injection hh with hh
    injection hh with _ hh
    exact absurd hh (by decide)
theorem st_ack {W w4 w5 : World} {F FL FS : Nat → Prop} {g m q : Nat} {rs : List Rc} {lm fm : Option Nat} {TL TF : List EV} {A A' : Option Addr} {c c' : Nat} {acks : List AckP} {a : AckP} (h : StB KS W F FL FS g rs m q lm fm TL TF A c acks) (hb : Below W.heap.size W w4)
    (hown : w5.ownsRow 0 130 5 (.slice A' (acks.length + 1) c') (acks.length + 1) (acksC (acks ++ [a]))) (hgr : w4.grownBy w5 (Value.slice A acks.length c).ownBlock)
    (hat : (Value.slice A' (acks.length + 1) c').ownBlock = (Value.slice A acks.length c).ownBlock ∨ (Value.slice A' (acks.length + 1) c').ownBlock = some w4.heap.size) :
    StB KS (w5.setCell ⟨g, 7, none⟩ (.slice A' (acks.length + 1) c')) (Now W w5 F) FL (Now W w5 FS) g rs m q lm fm TL TF A' c' (acks ++ [a]) ∧ Touch F W (w5.setCell ⟨g, 7, none⟩ (.slice A' (acks.length + 1) c')) ∧ w5.cell? ⟨g, 7, none⟩ = some (.slice A acks.length c) ∧ w5.frozen? ⟨g, 7, none⟩ = false := by
  have hgF := lg_fg h.lg
  have hblk : ∀ k, (Value.slice A acks.length c).ownBlock = some k → FS k ∧ ∃ cur, W.heap[k]? = some (.cells cur 130 (0, 0)) := fun k hk => by
    cases A with
    | none => cases hk
    | some x =>
      have : x.block = k := by simpa [Value.ownBlock] using hk
      subst this
      exact ⟨h.inA x rfl, (ownIn h.own rfl).2.2⟩
  have hlt : ∀ k, F k → k < W.heap.size := h.lt
  have hsz : W.heap.size ≤ w5.heap.size := Nat.le_trans hb.size hgr.size
  have hsz2 : (w5.setCell ⟨g, 7, none⟩ (.slice A' (acks.length + 1) c')).heap.size = w5.heap.size := by simp [World.setCell]
  have hk5 : ∀ k, k < W.heap.size → ¬ (∃ cur, W.heap[k]? = some (.cells cur 130 (0, 0))) → w5.heap[k]? = W.heap[k]? := fun k hk hn =>
    (hgr.block k (Nat.lt_of_lt_of_le hk hb.size) fun e => hn (hblk k e.symm).2).trans (hb.block k hk)
  have hkL : ∀ k, FL k → w5.heap[k]? = W.heap[k]? := fun k hk => (hgr.block k (Nat.lt_of_lt_of_le (hlt k (h.sub k (Or.inl hk))) hb.size) fun e => h.dis k hk (hblk k e.symm).1).trans (hb.block k (hlt k (h.sub k (Or.inl hk))))
  have hlg5 := h.lg.keep hsz hkL
  have hgn : ∀ k, FS k → k ≠ g := fun k hk e => h.dis g hgF (by rw [← e]; exact hk)
  have hkS : ∀ k, k ≠ g → (w5.setCell ⟨g, 7, none⟩ (.slice A' (acks.length + 1) c')).heap[k]? = w5.heap[k]? := fun k hk => Below.heap_setCell w5 ⟨g, 7, none⟩ _ k hk
  have hin : ∀ x, A' = some x → Now W w5 FS x.block := fun x hx => by
    refine ⟨?_, (ownIn hown hx).2.1⟩
    subst hx
    rcases hat with h4 | h4
    · exact Or.inl (hblk _ h4.symm).1
    · have : x.block = w4.heap.size := by simpa [Value.ownBlock] using h4
      have := hb.size
      exact Or.inr (by omega)
  have hl : (acks ++ [a]).length = acks.length + 1 := by simp
  have htab : ∀ {mo : Option Nat} {T : List EV}, TabAt W FS mo T → TabAt (w5.setCell ⟨g, 7, none⟩ (.slice A' (acks.length + 1) c')) (Now W w5 FS) mo T := fun {mo T} ht =>
    (ht.keepBut fun k hk hn => (hkS k (hgn k hk)).trans (hk5 k (hlt k (h.sub k (Or.inr hk))) fun ⟨cur, e⟩ => hn cur e)).wide fun k hk => ⟨Or.inl hk, Nat.lt_of_lt_of_le (hlt k (h.sub k (Or.inr hk))) hsz⟩
  refine ⟨⟨?_, htab h.tl, htab h.tf, h.ne, ?_, hin, fun k h1 h2 => ?_, fun k hk => ?_, fun k hk => by rw [hsz2]; exact hk.2⟩, ?_, lst_c7 hlg5, lst_z hlg5 7⟩
  · rw [hl]; exact lst_e7 hlg5 _
  · rw [hl]
    exact ownKeep hown fun x hx => hkS _ fun e => by
      rcases (hin x hx).1 with h3 | h3
      · exact hgn _ h3 e
      · have := hlt g (h.sub g (Or.inl hgF)); omega
  · rcases h2.1 with h3 | h3
    · exact h.dis k h1 h3
    · have := hlt k (h.sub k (Or.inl h1)); omega
  · rcases hk with hk | hk
    · exact ⟨Or.inl (h.sub k (Or.inl hk)), Nat.lt_of_lt_of_le (hlt k (h.sub k (Or.inl hk))) hsz⟩
    · exact ⟨hk.1.imp (fun h6 => h.sub k (Or.inr h6)) (fun h6 => h6), hk.2⟩
  · exact ((Touch.ofBelow hb).grown hgr fun k hk => Or.inl (h.sub k (Or.inr (hblk k hk).1))).set_ (p := ⟨g, 7, none⟩) (Or.inl (h.sub g (Or.inl hgF))) _
end Go.Proofs.YtkdpfjenjcpcfaaGreatDoor
