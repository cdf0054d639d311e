/- SvA: A server in memory: a store, with what was put since the last tick behind it; New, serverOf, stored, Get, All, Disk, Crash. -/
/- SvB: Get, All, Disk, Crash, Compact of a server: those of its store. -/
/- SvC: What is put is laid behind what was put since the last tick: (*depot.Store).Put. -/
/- SvD: (*depot.Store).Put: what is put; and (*depot.Store).Tick. -/
/- SvE: (*depot.Store).Tick: what is acknowledged; nothing waits then. -/
/- SvF: What is told of an ack (messageOf, messagesOf); (*depot.Server).Tick. -/
/- SvG: What is told of acks (messagesOf). -/
/- SvH: (*depot.Server).Tick. -/
/- What comes in takes no more bytes than an address may reach: rows of bytes, opened with that. No dump is imported here. -/
/- Dos8: Rows of things that are done to a store, as they come in; how much they have in them.
   Long8: How much things to be done to a store have in them, told by the reference.
   Done8: Something that is done to a store, by the statements' own call.
   Acks8: Whether acks are the same, told by the reference.
   Known8: What the chapter's example fixes, of a store.
   Law8A: Things are done to a store, one behind the other: one round; what lasts of a key is no newer than its newest entry. -/
/- What was acknowledged lasts: what holds of a store, whatever is done. -/
/- Whether rows of entries are the same, told by the reference. -/
/- Entries that lie in a row, apart from some blocks (cut out of Silent8). -/
import Derived.Test.YtkdpfjenjcpcfaaGreatDoorStoK
import Derived.Test.YtkdpfjenjcpcfaaGreatDoorStoF
import Derived.Test.YtkdpfjenjcpcfaaGreatDoorCore
import Derived.SizedLaws
import Derived.Deep.Slices
import Derived.Deep.Fields
import Derived.BigQuiet
namespace Go.Proofs.YtkdpfjenjcpcfaaGreatDoor
open Go.RowKit Mem Be Word Frm Go.Maps
set_option maxRecDepth 10000
set_option maxHeartbeats 2000000
set_option linter.unusedVariables false
variable {KS KS' : StK}
/-- A server's block: a store, and what was put behind it. -/
def srK (pv : Value) : StK := ⟨113, [pv], by decide⟩
/-- What was put: the entry, and who is told. -/
abbrev PtV := EV × Int
def putC14 (r : PtV) : List Value := entC r.1 ++ [.int .i64 r.2]
abbrev ptsC14 (l : List PtV) : List Value := l.flatMap putC14
def ptOf (r : PtV) : EntP × Int := (r.1.1, r.2)
theorem lg_moveK {w : World} {F : Nat → Prop} {y q m : Nat} {rs : List Rc} {J0 : LgK} (J : LgK) (h : LgAt J0 w F y rs m q) :
    ∃ a b c v, w.cell? ⟨y, 0, none⟩ = some a ∧ w.cell? ⟨y, 1, none⟩ = some b ∧ w.cell? ⟨y, 2, none⟩ = some c ∧ w.cell? ⟨y, 3, none⟩ = some v ∧ w.cell? ⟨y, 4, none⟩ = some (.int .i64 (m : Int)) ∧
      LgAt J (w.alloc (.cells (dkC (lgK J v m) [a, b, c]) J.ty)) (fun k => F k ∨ k = w.heap.size) w.heap.size rs m q := by
  obtain ⟨FD, FR, vs, R, cR, h1, h2, h3, h4⟩ := h
  obtain ⟨A, cA, A', cA', hd⟩ := h4.dk
  refine ⟨_, _, _, _, hd.blk.d0, hd.blk.d1, hd.blk.d2, dka_c3 h4.dk, dka_c4 h4.dk, ?_⟩
  have hal : ∀ o, Below w.heap.size w (w.alloc o) := fun o => (Below.refl _ _).alloc (Nat.le_refl _) o
  have hsz : ∀ o, (w.alloc o).heap.size = w.heap.size + 1 := fun o => by simp
  refine ⟨fun k => FD k ∨ k = w.heap.size, FR, vs, R, cR, h1, h2, h3, ⟨A, cA, A', cA', ⟨Blk.new _ _ _, ownLater hd.ol (hal _), ownLater hd.ot (hal _), fun a ha => Or.inl (hd.fl a ha), fun a ha => Or.inl (hd.ft a ha), hd.ap, Or.inr rfl, fun j hj => ?_, hd.mx⟩⟩,
    ownLater h4.own (hal _), recsO_below h4.byt (hal _), h4.inR, h4.inB, fun j hj hr => ?_, fun j hj => ?_, fun j hj => ?_⟩
  · rw [hsz]
    rcases hj with hj | hj
    · have := hd.lt j hj; omega
    · omega
  · rcases hj with hj | hj
    · exact h4.dis j hj hr
    · have := h4.lt j (h4.sub j (Or.inr hr)); omega
  · rcases hj with (hj | hj) | hj
    · exact Or.inl (h4.sub j (Or.inl hj))
    · exact Or.inr hj
    · exact Or.inl (h4.sub j (Or.inr hj))
  · rw [hsz]
    rcases hj with hj | hj
    · have := h4.lt j hj; omega
    · omega
/-- A store that is moved into a block of more. -/
theorem st_move {w : World} {F : Nat → Prop} {y q : Nat} {S : St8} (KS' : StK) (h : StAt KS w F y S q) :
    ∃ (a b c v : Value) (m : Nat) (lm fm : Option Nat) (pv : Value), y < w.heap.size ∧ w.cell? ⟨y, 0, none⟩ = some a ∧ w.cell? ⟨y, 1, none⟩ = some b ∧ w.cell? ⟨y, 2, none⟩ = some c ∧ w.cell? ⟨y, 3, none⟩ = some v ∧ w.cell? ⟨y, 4, none⟩ = some (.int .i64 (m : Int)) ∧
      w.cell? ⟨y, 5, none⟩ = some (.map lm) ∧ w.cell? ⟨y, 6, none⟩ = some (.map fm) ∧ w.cell? ⟨y, 7, none⟩ = some pv ∧
      StAt KS' (w.alloc (.cells (dkC (lgK (stK KS' lm fm pv) v m) [a, b, c]) KS'.ty)) (fun k => F k ∨ k = w.heap.size) w.heap.size S q := by
  obtain ⟨h0, FL, FS, lm, fm, TL, TF, A, c, h1, h2, hfl, h⟩ := h
  have c5 := lst_c5 h.lg
  have c6 := lst_c6 h.lg
  have c7 := lst_c7 h.lg
  obtain ⟨x0, x1, x2, x3, e0, e1, e2, e3, e4, hmv⟩ := lg_moveK (stK KS' lm fm (.slice A S.acks.length c)) h.lg
  refine ⟨x0, x1, x2, x3, S.m, lm, fm, _, block_lt c5, e0, e1, e2, e3, e4, c5, c6, c7, h0, fun k => FL k ∨ k = w.heap.size, FS, lm, fm, TL, TF, A, c, h1, h2, hfl, ?_⟩
  have hal : ∀ o, Below w.heap.size w (w.alloc o) := fun o => (Below.refl _ _).alloc (Nat.le_refl _) o
  have hsz : ∀ o, (w.alloc o).heap.size = w.heap.size + 1 := fun o => by simp
  have hls : ∀ k, FS k → k < w.heap.size := fun k hk => h.lt k (h.sub k (Or.inr hk))
  refine ⟨hmv, h.tl.keep fun k hk => (hal _).block k (hls k hk), h.tf.keep fun k hk => (hal _).block k (hls k hk), h.ne, ownLater h.own (hal _), h.inA, fun k hk hs => ?_, fun k hk => ?_, fun k hk => ?_⟩
  · rcases hk with hk | hk
    · exact h.dis k hk hs
    · have := hls k hs; omega
  · rcases hk with (hk | hk) | hk
    · exact Or.inl (h.sub k (Or.inl hk))
    · exact Or.inr hk
    · exact Or.inl (h.sub k (Or.inr hk))
  · rw [hsz]
    rcases hk with hk | hk
    · have := h.lt k hk; omega
    · omega
/-- Block g is a server: its store S stands in blocks of FS, what was put since the last tick in blocks of FP. -/
structure SvB (w : World) (F FS FP : Nat → Prop) (g : Nat) (S : St8) (vs : List PtV) (A : Option Addr) (c q : Nat) : Prop where
  st : StAt (srK (.slice A vs.length c)) w FS g S q
  own : w.ownsRow 0 115 7 (.slice A vs.length c) vs.length (ptsC14 vs)
  byt : EntsO w 0 (vs.map Prod.fst)
  inA : InF FP A
  inB : ∀ r ∈ vs, InF FP r.1.2.1
  dis : ∀ k, FS k → ¬ FP k
  sub : ∀ k, FS k ∨ FP k → F k
  lt : ∀ k, F k → k < w.heap.size
def SvAt (w : World) (F : Nat → Prop) (g : Nat) (S : St8) (ps : List (EntP × Int)) (q : Nat) : Prop :=
  ∃ FS FP vs A c, vs.map ptOf = ps ∧ SvB w F FS FP g S vs A c q
section
variable {w w' : World} {F FS FP G : Nat → Prop} {g q c : Nat} {S : St8} {vs : List PtV} {A : Option Addr} {ps : List (EntP × Int)}
theorem SvB.keep (h : SvB w F FS FP g S vs A c q) (hs : w.heap.size ≤ w'.heap.size) (hk : ∀ k, F k → w'.heap[k]? = w.heap[k]?) : SvB w' F FS FP g S vs A c q :=
  ⟨h.st.keep hs fun k hf => hk k (h.sub k (Or.inl hf)), ownKeep h.own fun a ha => hk _ (h.sub _ (Or.inr (h.inA a ha))), fun x hx => by
    obtain ⟨r, hr, rfl⟩ := List.mem_map.1 hx
    exact ownKeep (h.byt _ hx) fun a ha => hk _ (h.sub _ (Or.inr (h.inB r hr a ha))), h.inA, h.inB, h.dis, h.sub, fun k hf => Nat.lt_of_lt_of_le (h.lt k hf) hs⟩
theorem SvAt.keep (h : SvAt w F g S ps q) (hs : w.heap.size ≤ w'.heap.size) (hk : ∀ k, F k → w'.heap[k]? = w.heap[k]?) : SvAt w' F g S ps q := by
  obtain ⟨FS, FP, vs, A, c, h1, h⟩ := h
  exact ⟨FS, FP, vs, A, c, h1, h.keep hs hk⟩
theorem SvAt.lt (h : SvAt w F g S ps q) : ∀ k, F k → k < w.heap.size := by
  obtain ⟨FS, FP, vs, A, c, h1, h⟩ := h
  exact h.lt
theorem SvAt.below (h : SvAt w F g S ps q) (hb : Below w.heap.size w w') : SvAt w' F g S ps q := h.keep hb.size fun k hk => hb.block k (h.lt k hk)
theorem SvAt.touch (h : SvAt w F g S ps q) (ht : Touch G w w') (hd : ∀ k, F k → ¬ G k) : SvAt w' F g S ps q := h.keep ht.size fun k hk => ht.block k (h.lt k hk) (hd k hk)
theorem SvAt.stAt (h : SvAt w F g S ps q) : ∃ K FS, StAt K w FS g S q := by
  obtain ⟨FS, FP, vs, A, c, h1, h⟩ := h
  exact ⟨_, _, h.st⟩
end
/-- A new server, in blocks of its own. -/
def NewSv (v : Value → Value) (S : St8) (ps : List (EntP × Int)) (q : Nat) (w : World) (e : Ending) (w' : World) : Prop :=
  ∃ g F, e = .returned (v (.pointer (some ⟨g, 0, none⟩))) ∧ (∀ k, F k → w.heap.size ≤ k) ∧ SvAt w' F g S ps q ∧ Below w.heap.size w w'
/-- A call on a server: its answer, the server behind it; nothing but its own blocks was changed. -/
def SvTo (v : Value) (F : Nat → Prop) (g : Nat) (S : St8) (ps : List (EntP × Int)) (q : Nat) (w : World) (e : Ending) (w' : World) : Prop := e = .returned v ∧ ∃ F', (∀ k, F' k → F k ∨ w.heap.size ≤ k) ∧ SvAt w' F' g S ps q ∧ Touch F w w'
theorem serverof_any (F : Nat → Prop) (y q : Nat) (S : St8) (w : World) (h : StAt st0K w F y S q) :
    Calls Tryz.prog 34 #[.pointer (some ⟨y, 0, none⟩)] w fun e w' => ∃ g, e = .returned (.pointer (some ⟨g, 0, none⟩)) ∧ w.heap.size ≤ g ∧ SvAt w' (fun k => F k ∨ w.heap.size ≤ k ∧ k = g) g S [] q ∧ Below w.heap.size w w' := by
  obtain ⟨a, b, c, v, m, lm, fm, pv, hyl, c0, c1, c2, c3, c4, c5, c6, c7, hmv⟩ := st_move (srK (.slice none 0 0)) h
  have HX : Hid (SvAt (w.alloc (.cells #[a, b, c, v, .int .i64 (m : Int), .map lm, .map fm, pv, .slice none 0 0] 113)) (fun k => F k ∨ w.heap.size ≤ k ∧ k = w.heap.size) w.heap.size S [] q) := Lib.hid
    ⟨_, fun _ => False, [], none, 0, rfl, ⟨hmv, World.ownsRow_nil _ _ _ _, entsO_nil _ _, inF_none _, (fun r hr => by cases hr), (fun k _ h => h.elim), (fun k hk => by
      rcases hk with (hk | hk) | hk
      · exact Or.inl hk
      · exact Or.inr ⟨by omega, hk⟩
      · exact hk.elim), (fun k hk => hmv.lt k (by
      rcases hk with hk | hk
      · exact Or.inl hk
      · exact Or.inr hk.2))⟩⟩
  clear h hmv
  go_enter Tryz.func34, Tryz.ntmps34
  go_wp2
  go_ret
  exact ⟨w.heap.size, rfl, Nat.le_refl _, HX.out, (Below.refl _ _).alloc (Nat.le_refl _) _⟩
theorem newsv_any (w : World) : Calls Tryz.prog 11 #[] w (NewSv id st0 [] 0 w) := by
  go_enter Tryz.func11, Tryz.ntmps11
  go_wp2_with fail
  refine (newst_any w).mono ?_
  rintro e w1 ⟨y, F, rfl, hF, hl, hb⟩
  have HF := Lib.hid hF
  have HB := Lib.hid hb
  have HS := Lib.hid (serverof_any F y 0 st0 w1 hl)
  simp only [id]
  clear hF hl hb
  go_wp2_with fail
  refine HS.out.mono ?_
  rintro e w2 ⟨g, rfl, hg, hs, hb2⟩
  have HSV := Lib.hid hs
  have HB2 := Lib.hid hb2
  clear hs hb2 HS
  go_wp2
  go_ret
  exact ⟨g, _, rfl, (fun k hk => by
    rcases hk with h | h
    · exact HF.out k h
    · have := HB.out.size; omega), HSV.out, HB.out.trans (HB2.out.mono HB.out.size)⟩
theorem stored_any (g : Nat) (w : World) (hg : g < w.heap.size) :
    Calls Tryz.prog 44 #[.pointer (some ⟨g, 0, none⟩)] w fun e w' => e = .returned (.pointer (some ⟨g, 0, none⟩)) ∧ w = w' := by
  go_enter Tryz.func44, Tryz.ntmps44
  go_wp2
  go_ret
  exact ⟨rfl, rfl⟩
theorem stored_nil (w : World) :
    Calls Tryz.prog 44 #[.pointer none] w fun e w' => e = .returned (.pointer none) ∧ w = w' := by
  go_enter Tryz.func44, Tryz.ntmps44
  go_wp2
  go_ret
  exact ⟨rfl, rfl⟩
end Go.Proofs.YtkdpfjenjcpcfaaGreatDoor
namespace Go.Proofs.YtkdpfjenjcpcfaaGreatDoor
open Go.RowKit Mem Be Word Frm Go.Maps
set_option maxRecDepth 10000
set_option maxHeartbeats 2000000
set_option linter.unusedVariables false
variable {KS KS' : StK}
theorem st_glt {w : World} {F : Nat → Prop} {g q : Nat} {S : St8} (h : StAt KS w F g S q) : g < w.heap.size := by
  obtain ⟨h0, FL, FS, lm, fm, TL, TF, A, c, h1, h2, hfl, h⟩ := h
  exact block_lt (lst_c5 h.lg)
theorem st_fg {w : World} {F : Nat → Prop} {g q : Nat} {S : St8} (h : StAt KS w F g S q) : F g := by
  obtain ⟨h0, FL, FS, lm, fm, TL, TF, A, c, h1, h2, hfl, h⟩ := h
  exact h.sub g (Or.inl (lg_fg h.lg))
theorem st_tail {w : World} {F : Nat → Prop} {g q : Nat} {S : St8} {p p' : Value} (h : StAt (srK p) w F g S q) : StAt (srK p') (w.setCell ⟨g, 8, none⟩ p') F g S q := by
  obtain ⟨h0, FL, FS, lm, fm, TL, TF, A, c, h1, h2, hfl, h⟩ := h
  have hk : ∀ j, j ≠ g → (w.setCell ⟨g, 8, none⟩ p').heap[j]? = w.heap[j]? := fun j hj => Below.heap_setCell w ⟨g, 8, none⟩ _ j hj
  have hne : ∀ k, FS k → k ≠ g := fun k hk e => h.dis g (lg_fg h.lg) (by rw [← e]; exact hk)
  refine ⟨h0, FL, FS, lm, fm, TL, TF, A, c, h1, h2, hfl, ⟨lg_cell h.lg fun hb => ?_, h.tl.keep fun k hf => hk k (hne k hf), h.tf.keep fun k hf => hk k (hne k hf), h.ne, ownKeep h.own fun a ha => hk _ (hne _ (h.inA a ha)), h.inA, h.dis, h.sub, fun k hf => ?_⟩⟩
  · simpa [dkC, lgK, stK, srK] using hb.set_ 8 p'
  · have := h.lt k hf
    simpa [World.setCell] using this
theorem st_c8 {w : World} {F : Nat → Prop} {g q : Nat} {S : St8} {p : Value} (h : StAt (srK p) w F g S q) : w.cell? ⟨g, 8, none⟩ = some p := by
  obtain ⟨h0, FL, FS, lm, fm, TL, TF, A, c, h1, h2, hfl, h⟩ := h
  obtain ⟨v, a, b, c, hb⟩ := lg_blk h.lg
  exact (hb.cell 8).trans (by simp [dkC, lgK, stK, srK])
theorem st_z8 {w : World} {F : Nat → Prop} {g q : Nat} {S : St8} (h : StAt KS w F g S q) (i : Nat) : w.frozen? ⟨g, i, none⟩ = false := by
  obtain ⟨h0, FL, FS, lm, fm, TL, TF, A, c, h1, h2, hfl, h⟩ := h
  exact lst_z h.lg i
/-- What a call on the store leaves is a server again. -/
theorem svB_of {v : Value} {w w1 : World} {e : Ending} {F FS FP : Nat → Prop} {g c q q' : Nat} {S S' : St8} {vs : List PtV} {A : Option Addr} (h : SvB w F FS FP g S vs A c q)
    (hto : e = .returned v ∧ ∃ F', (∀ k, F' k → FS k ∨ w.heap.size ≤ k) ∧ StAt (srK (.slice A vs.length c)) w1 F' g S' q' ∧ Touch FS w w1) :
    e = .returned v ∧ ∃ F' FS', (∀ k, F' k → F k ∨ w.heap.size ≤ k) ∧ SvB w1 F' FS' FP g S' vs A c q' ∧ Touch F w w1 := by
  obtain ⟨rfl, F', hF, hs, ht⟩ := hto
  have hp : ∀ k, FP k → k < w.heap.size := fun k hk => h.lt k (h.sub k (Or.inr hk))
  have hkeep : ∀ k, FP k → w1.heap[k]? = w.heap[k]? := fun k hk => ht.block k (hp k hk) fun hf => h.dis k hf hk
  refine ⟨rfl, fun k => F' k ∨ FP k, F', fun k hk => ?_, ⟨hs, ownKeep h.own fun a ha => hkeep _ (h.inA a ha), fun x hx => ?_, h.inA, h.inB, fun k hk hp2 => ?_, fun k hk => hk, fun k hk => ?_⟩, ht.mono fun k hk => h.sub k (Or.inl hk)⟩
  · rcases hk with hk | hk
    · rcases hF k hk with h1 | h1
      · exact Or.inl (h.sub k (Or.inl h1))
      · exact Or.inr h1
    · exact Or.inl (h.sub k (Or.inr hk))
  · obtain ⟨r, hr, rfl⟩ := List.mem_map.1 hx
    exact ownKeep (h.byt _ hx) fun a ha => hkeep _ (h.inB r hr a ha)
  · rcases hF k hk with h1 | h1
    · exact h.dis k h1 hp2
    · have := hp k hp2; omega
  · rcases hk with hk | hk
    · exact hs.lt k hk
    · exact Nat.lt_of_lt_of_le (hp k hk) ht.size
theorem svTo_of {v : Value} {w w1 : World} {e : Ending} {F FS FP : Nat → Prop} {g c q q' : Nat} {S S' : St8} {vs : List PtV} {A : Option Addr} (h : SvB w F FS FP g S vs A c q)
    (hto : e = .returned v ∧ ∃ F', (∀ k, F' k → FS k ∨ w.heap.size ≤ k) ∧ StAt (srK (.slice A vs.length c)) w1 F' g S' q' ∧ Touch FS w w1) : SvTo v F g S' (vs.map ptOf) q' w e w1 := by
  obtain ⟨he, F', FS', h1, h2, h3⟩ := svB_of h hto
  exact ⟨he, F', h1, ⟨FS', FP, vs, A, c, rfl, h2⟩, h3⟩
theorem svget_any (F : Nat → Prop) (g q : Nat) (S : St8) (ps : List (EntP × Int)) (k : List UInt8) (hk : k.length ≤ maxLen) (w : World) (h : SvAt w F g S ps q) :
    Calls Tryz.prog 17 #[.pointer (some ⟨g, 0, none⟩), .string ⟨k.toArray⟩] w (GetP (ofT S.L k) w) := by
  obtain ⟨K, FS, hs⟩ := h.stAt
  have hg := st_glt hs
  have HG0 : ∀ W, Below w.heap.size w W → Calls Tryz.prog 45 #[.pointer (some ⟨g, 0, none⟩), .string ⟨k.toArray⟩] W (GetP (ofT S.L k) W) := fun W hb => get_any8 FS g q S k hk W (hs.below hb)
  obtain ⟨x, hxx⟩ : ∃ x, ofT S.L k = x := ⟨_, rfl⟩
  rw [hxx] at HG0 ⊢
  have HG := Lib.hid HG0
  clear HG0 hxx
  have HBX := Lib.hid ((Below.refl w.heap.size w).alloc (Nat.le_refl _) (.cells #[.string ⟨#[]⟩, .int .i64 0, .int .i64 0, .int .i64 0, .bool false, .slice none 0 0] 46))
  have HBK := Lib.hid (Blk.new w 46 #[.string ⟨#[]⟩, .int .i64 0, .int .i64 0, .int .i64 0, .bool false, .slice none 0 0])
  clear hs h hk
  go_enter Tryz.func17, Tryz.ntmps17
  go_wp2_with fail
  refine (stored_any g _ (by have := HBX.out.size; omega)).mono ?_
  rintro e w1 ⟨rfl, rfl⟩
  go_wp2_with fail
  refine (HG.out _ HBX.out).mono ?_
  rintro e w2 ⟨A2, c2, rfl, ho, hb⟩
  have HK2 := Lib.hid (HBK.out.below hb HBK.out.lt)
  have HO2 : Hid (w2.ownsRow (w.heap.size + 1) 5 1 (.slice A2 x.v.length c2) x.v.length (x.v.map byteV)) := Lib.hid (by have h2 : w2.ownsRow _ _ _ _ _ _ := ho; rw [World.size_alloc] at h2; exact h2)
  have HB2 : Hid (Below w.heap.size w w2) := Lib.hid (HBX.out.trans (hb.mono HBX.out.size))
  have r0 : w2.cell? ⟨w.heap.size, 0, none⟩ = some (.string ⟨#[]⟩) := HK2.out.cell 0
  have r1 : w2.cell? ⟨w.heap.size, 1, none⟩ = some (.int .i64 0) := HK2.out.cell 1
  have r2 : w2.cell? ⟨w.heap.size, 2, none⟩ = some (.int .i64 0) := HK2.out.cell 2
  have r3 : w2.cell? ⟨w.heap.size, 3, none⟩ = some (.int .i64 0) := HK2.out.cell 3
  have r4 : w2.cell? ⟨w.heap.size, 4, none⟩ = some (.bool false) := HK2.out.cell 4
  have r5 : w2.cell? ⟨w.heap.size, 5, none⟩ = some (.slice none 0 0) := HK2.out.cell 5
  have z0 := HK2.out.frozen 0
  have z1 := HK2.out.frozen 1
  have z2 := HK2.out.frozen 2
  have z3 := HK2.out.frozen 3
  have z4 := HK2.out.frozen 4
  have z5 := HK2.out.frozen 5
  clear ho hb HG
  unfold evV
  go_wp2
  refine bodyPost_ret (v := entV ⟨x.k.toArray⟩ x.s x.u x.o x.has A2 x.v.length c2) (by simp [results, Tryz.results17, go_sem, r0, r1, r2, r3, r4, r5]) rfl ?_
  refine ⟨A2, c2, rfl, ?_, below_set (below_set (below_set (below_set (below_set (below_set HB2.out (Nat.le_refl _) _ _) (Nat.le_refl _) _ _) (Nat.le_refl _) _ _) (Nat.le_refl _) _ _) (Nat.le_refl _) _ _) (Nat.le_refl _) _ _⟩
  exact own_base (own_put (own_put (own_put (own_put (own_put (own_put HO2.out (by omega) _ _) (by omega) _ _) (by omega) _ _) (by omega) _ _) (by omega) _ _) (by omega) _ _) (by omega)
theorem svall_any (F : Nat → Prop) (g q : Nat) (S : St8) (ps : List (EntP × Int)) (w : World) (h : SvAt w F g S ps q) :
    Calls Tryz.prog 23 #[.pointer (some ⟨g, 0, none⟩)] w (EntsP S.L w) := by
  obtain ⟨K, FS, hs⟩ := h.stAt
  have hg := st_glt hs
  have HG := Lib.hid (all_any8 FS g q S w hs)
  clear hs h
  go_enter Tryz.func23, Tryz.ntmps23
  go_wp2_with fail
  refine (stored_any g w hg).mono ?_
  rintro e w1 ⟨rfl, rfl⟩
  go_wp2_with fail
  refine HG.out.mono ?_
  rintro e w1 hp
  have HX := Lib.hid hp
  unfold EntsP at hp
  obtain ⟨us, A1, c1, hus, rfl, hrest⟩ := hp
  clear hrest hus
  go_wp2
  go_ret
  exact HX.out
theorem svcompact_any (F : Nat → Prop) (g q : Nat) (S : St8) (ps : List (EntP × Int)) (w : World) (h : SvAt w F g S ps q) :
    Calls Tryz.prog 32 #[.pointer (some ⟨g, 0, none⟩)] w (SvTo (.int .i64 (compS S).2) F g (compS S).1 ps q w) := by
  obtain ⟨FS, FP, vs, A, c, rfl, hB⟩ := h
  have hg := st_glt hB.st
  have HG := Lib.hid (compact_any8 FS g q S w hB.st)
  have HB := Lib.hid hB
  clear hB
  go_enter Tryz.func32, Tryz.ntmps32
  go_wp2_with fail
  refine (stored_any g w hg).mono ?_
  rintro e w1 ⟨rfl, rfl⟩
  go_wp2_with fail
  refine HG.out.mono ?_
  rintro e w1 hp
  have HX := Lib.hid (svTo_of HB.out hp)
  obtain ⟨rfl, hrest⟩ := hp
  clear hrest
  go_wp2
  go_ret
  exact HX.out
theorem svcompact_nil (w : World) : Calls Tryz.prog 32 #[.pointer none] w fun e w' => e = .returned (.int .i64 1) ∧ w = w' := by
  go_enter Tryz.func32, Tryz.ntmps32
  go_wp2_with fail
  refine (stored_nil w).mono ?_
  rintro e w1 ⟨rfl, rfl⟩
  go_wp2_with fail
  refine (compact_nil w).mono ?_
  rintro e w1 ⟨rfl, rfl⟩
  go_wp2
  go_ret
  exact ⟨rfl, rfl⟩
theorem svcrash_any (F : Nat → Prop) (g q k : Nat) (S : St8) (ps : List (EntP × Int)) (w : World) (h : SvAt w F g S ps q) :
    Calls Tryz.prog 33 #[.pointer (some ⟨g, 0, none⟩), .int .i64 (k : Int)] w (NewSv (fun p => .tuple #[p, .int .i64 0]) (crash8S S k) [] q w) := by
  obtain ⟨K, FS, hs⟩ := h.stAt
  have hg := st_glt hs
  have HG0 := crash_any8 FS g q k S w hs
  obtain ⟨S2, hS2⟩ : ∃ S2, crash8S S k = S2 := ⟨_, rfl⟩
  rw [hS2] at HG0 ⊢
  have HG := Lib.hid HG0
  clear HG0 hS2
  have hk0 : (0 : Int) ≤ (k : Int) := by omega
  clear hs h
  go_enter Tryz.func33, Tryz.ntmps33
  go_wp2_with fail
  refine (stored_any g w hg).mono ?_
  rintro e w1 ⟨rfl, rfl⟩
  go_wp2_with fail
  refine HG.out.mono ?_
  rintro e w1 ⟨y, F1, rfl, hF, hl, hb⟩
  have HF := Lib.hid hF
  have HB := Lib.hid hb
  have HS := Lib.hid (serverof_any F1 y q S2 w1 hl)
  clear hF hl hb HG
  go_wp2_with fail
  refine HS.out.mono ?_
  rintro e w2 ⟨z, rfl, hz, hs2, hb2⟩
  have HX : Hid (NewSv (fun p => .tuple #[p, .int .i64 0]) S2 [] q w (.returned (.tuple #[.pointer (some ⟨z, 0, none⟩), .int .i64 0])) w2) := Lib.hid ⟨z, _, rfl, (fun k hk => by
    rcases hk with h | h
    · exact HF.out k h
    · have := HB.out.size; omega), hs2, HB.out.trans (hb2.mono HB.out.size)⟩
  clear hz hs2 hb2 HS
  go_wp2
  go_ret2
  exact HX.out
theorem svcrash_neg (F : Nat → Prop) (g q : Nat) (S : St8) (ps : List (EntP × Int)) (k : Int) (hk : k < 0) (w : World) (h : SvAt w F g S ps q) :
    Calls Tryz.prog 33 #[.pointer (some ⟨g, 0, none⟩), .int .i64 k] w fun e w' => e = .returned (.tuple #[.pointer none, .int .i64 2]) ∧ Below w.heap.size w w' := by
  obtain ⟨K, FS, hs⟩ := h.stAt
  have hg := st_glt hs
  have HG := Lib.hid (crash_neg8 FS g q S k hk w hs)
  clear hs h hk
  go_enter Tryz.func33, Tryz.ntmps33
  go_wp2_with fail
  refine (stored_any g w hg).mono ?_
  rintro e w1 ⟨rfl, rfl⟩
  go_wp2_with fail
  refine HG.out.mono ?_
  rintro e w1 ⟨rfl, hb⟩
  have HB := Lib.hid hb
  clear hb
  go_wp2
  go_ret2
  exact ⟨rfl, HB.out⟩
end Go.Proofs.YtkdpfjenjcpcfaaGreatDoor
namespace Go.Proofs.YtkdpfjenjcpcfaaGreatDoor
open Go.RowKit Mem Be Word Frm Go.Maps
set_option maxRecDepth 10000
set_option maxHeartbeats 4000000
set_option linter.unusedVariables false
theorem pts14_app (a b : List PtV) : ptsC14 (a ++ b) = ptsC14 a ++ ptsC14 b := List.flatMap_append
theorem pts14_len (l : List PtV) : (ptsC14 l).length = l.length * 7 := by
  induction l with
  | nil => rfl
  | cons p l ih => simp only [ptsC14, List.flatMap_cons, List.length_append, putC14, entC, List.length_cons, List.length_nil]; have := ih; unfold ptsC14 at this; omega
theorem pts14_one (l : List PtV) : ∀ u ∈ ptsC14 l, u.oneCell' = true := by
  intro u hu
  obtain ⟨x, _, hx⟩ := List.mem_flatMap.1 hu
  simp only [putC14, entC, List.mem_append, List.mem_cons, List.not_mem_nil, or_false] at hx
  rcases hx with (rfl | rfl | rfl | rfl | rfl | rfl) | rfl <;> rfl
theorem info_put : (Tryz.prog.info? 115).map (fun i => (i.zero, i.size, i.bytes)) = some (some (.agg #[.string .empty, .int .i64 0, .int .i64 0, .int .i64 0, .bool false, .slice none 0 0, .int .i64 0]), 7, 80) := by kernel_rfl
theorem pt_lit {w : World} {x : PtV} {g : Nat} (h : Blk w g 115 ⟨putC14 x⟩) {B : Nat} (hB : g < B) : Row w B (some ⟨g, 0, none⟩) (ptsC14 [x]) := by
  refine Or.inr ⟨g, 0, rfl, hB, fun j hj => ?_⟩
  have e : ptsC14 [x] = putC14 x := by simp [ptsC14]
  have h1 := h.cell (0 + j)
  rw [h1]
  have hj2 : j < (putC14 x).length := by rw [← e]; exact hj
  rw [Nat.zero_add]
  rw [List.getElem_of_eq e hj]
  show (⟨putC14 x⟩ : Array Value)[j]? = _
  rw [List.getElem?_toArray, List.getElem?_eq_getElem hj2]
/-- One is laid behind the others, in whatever row. -/
theorem sv_push {W w4 w5 : World} {F FS FP : Nat → Prop} {g c c' q B : Nat} {S : St8} {vs : List PtV} {A A' : Option Addr} {r : PtV} (h : SvB W F FS FP g S vs A c q) (hB : B ≤ W.heap.size) (hb : Below W.heap.size W w4)
    (hr : OwnE W B r.1) (hrS : ∀ a, r.1.2.1 = some a → ¬ FS a.block)
    (hown : w5.ownsRow 0 115 7 (.slice A' (vs.length + 1) c') (vs.length + 1) (ptsC14 (vs ++ [r]))) (hgr : w4.grownBy w5 (Value.slice A vs.length c).ownBlock)
    (hat : (Value.slice A' (vs.length + 1) c').ownBlock = (Value.slice A vs.length c).ownBlock ∨ (Value.slice A' (vs.length + 1) c').ownBlock = some w4.heap.size) :
    (∃ F' FP', (∀ k, F' k → F k ∨ B ≤ k) ∧ SvB (w5.setCell ⟨g, 8, none⟩ (.slice A' (vs.length + 1) c')) F' FS FP' g S (vs ++ [r]) A' c' q) ∧ Touch F W (w5.setCell ⟨g, 8, none⟩ (.slice A' (vs.length + 1) c')) ∧ w5.cell? ⟨g, 8, none⟩ = some (.slice A vs.length c) ∧ w5.frozen? ⟨g, 8, none⟩ = false := by
  have hgF : FS g := st_fg h.st
  have hblk : ∀ k, (Value.slice A vs.length c).ownBlock = some k → FP k ∧ ∃ cur, W.heap[k]? = some (.cells cur 115 (0, 0)) := fun k hk => by
    cases A with
    | none => cases hk
    | some x =>
      have : x.block = k := by simpa [Value.ownBlock] using hk
      subst this
      exact ⟨h.inA x rfl, (ownIn h.own rfl).2.2⟩
  have hlt : ∀ k, F k → k < W.heap.size := h.lt
  have hltS : ∀ k, FS k → k < W.heap.size := fun k hk => hlt k (h.sub k (Or.inl hk))
  have hsz : W.heap.size ≤ w5.heap.size := Nat.le_trans hb.size hgr.size
  have hsz2 : (w5.setCell ⟨g, 8, none⟩ (.slice A' (vs.length + 1) c')).heap.size = w5.heap.size := by simp [World.setCell]
  have hk5 : ∀ k, k < W.heap.size → ¬ (∃ cur, W.heap[k]? = some (.cells cur 115 (0, 0))) → w5.heap[k]? = W.heap[k]? := fun k hk hn =>
    (hgr.block k (Nat.lt_of_lt_of_le hk hb.size) fun e => hn (hblk k e.symm).2).trans (hb.block k hk)
  have hkL : ∀ k, FS k → w5.heap[k]? = W.heap[k]? := fun k hk => (hgr.block k (Nat.lt_of_lt_of_le (hltS k hk) hb.size) fun e => h.dis k hk (hblk k e.symm).1).trans (hb.block k (hltS k hk))
  have hst5 := h.st.keep hsz hkL
  have hkS : ∀ k, k ≠ g → (w5.setCell ⟨g, 8, none⟩ (.slice A' (vs.length + 1) c')).heap[k]? = w5.heap[k]? := fun k hk => Below.heap_setCell w5 ⟨g, 8, none⟩ _ k hk
  have hbyte : ∀ x : EV, OwnE W 0 x → (∀ a, x.2.1 = some a → a.block ≠ g) → OwnE (w5.setCell ⟨g, 8, none⟩ (.slice A' (vs.length + 1) c')) 0 x := fun x hx hng => ownKeep hx fun a ha => by
    obtain ⟨_, h2, cur', hh⟩ := ownIn hx ha
    refine (hkS _ (hng a ha)).trans (hk5 _ h2 fun ⟨cur, e⟩ => ?_)
    rw [e] at hh
    injection hh with hh
    injection hh with _ hh
    exact absurd hh (by decide)
  have hin : ∀ x, A' = some x → (FP x.block ∨ W.heap.size ≤ x.block) ∧ x.block < w5.heap.size := fun x hx => by
    refine ⟨?_, (ownIn hown hx).2.1⟩
    subst hx
    rcases hat with h4 | h4
    · exact Or.inl (hblk _ h4.symm).1
    · have : x.block = w4.heap.size := by simpa [Value.ownBlock] using h4
      have := hb.size
      exact Or.inr (by omega)
  have hl : (vs ++ [r]).length = vs.length + 1 := by simp
  have hrin : ∀ a, r.1.2.1 = some a → B ≤ a.block ∧ a.block < w5.heap.size := fun a ha => ⟨(ownIn hr ha).1, Nat.lt_of_lt_of_le (ownIn hr ha).2.1 hsz⟩
  have hng : ∀ k, FP k → k ≠ g := fun k hk e => h.dis g hgF (by rw [← e]; exact hk)
  refine ⟨⟨fun k => FS k ∨ ((FP k ∨ B ≤ k) ∧ ¬ FS k ∧ k < w5.heap.size), fun k => (FP k ∨ B ≤ k) ∧ ¬ FS k ∧ k < w5.heap.size, fun k hk => ?_, ⟨?_, ?_, fun x hx => ?_, fun x hx => ?_, fun x hx a ha => ?_, fun k h1 h2 => h2.2.1 h1, fun k hk => hk, fun k hk => ?_⟩⟩, ?_, st_c8 hst5, st_z8 hst5 8⟩
  · rcases hk with hk | hk
    · exact Or.inl (h.sub k (Or.inl hk))
    · exact hk.1.imp (fun h6 => h.sub k (Or.inr h6)) (fun h6 => h6)
  · rw [hl]; exact st_tail hst5
  · rw [hl]
    exact ownKeep hown fun x hx => hkS _ fun e => by
      rcases (hin x hx).1 with h3 | h3
      · exact hng _ h3 e
      · have := hltS g hgF; omega
  · obtain ⟨y, hy, rfl⟩ := List.mem_map.1 hx
    rcases List.mem_append.1 hy with hy | hy
    · exact hbyte _ (h.byt _ (List.mem_map_of_mem hy)) fun a ha => hng _ (h.inB y hy a ha)
    · obtain rfl : y = r := by simpa using hy
      exact hbyte _ (ownBase hr (Nat.zero_le _)) fun a ha e => hrS a ha (by rw [e]; exact hgF)
  · have h3 := hin x hx
    refine ⟨h3.1.imp (fun h6 => h6) (fun h6 => Nat.le_trans hB h6), fun h4 => ?_, h3.2⟩
    rcases h3.1 with h5 | h5
    · exact h.dis _ h4 h5
    · have := hltS _ h4; omega
  · rcases List.mem_append.1 hx with hy | hy
    · exact ⟨Or.inl (h.inB x hy a ha), fun h4 => h.dis _ h4 (h.inB x hy a ha), Nat.lt_of_lt_of_le (hlt _ (h.sub _ (Or.inr (h.inB x hy a ha)))) hsz⟩
    · obtain rfl : x = r := by simpa using hy
      exact ⟨Or.inr (hrin a ha).1, hrS a ha, (hrin a ha).2⟩
  · rw [hsz2]
    rcases hk with hk | hk
    · exact Nat.lt_of_lt_of_le (hltS k hk) hsz
    · exact hk.2.2
  · exact ((Touch.ofBelow hb).grown hgr fun k hk => Or.inl (h.sub k (Or.inr (hblk k hk).1))).set_ (p := ⟨g, 8, none⟩) (Or.inl (h.sub g (Or.inl hgF))) _
/-- What a Put leaves to be told. -/
def putP (S : St8) (ps : List (EntP × Int)) (e : EntP) (who : Int) : List (EntP × Int) := if (putS S e who).2 = 0 then ps ++ [(e, who)] else ps
end Go.Proofs.YtkdpfjenjcpcfaaGreatDoor
namespace Go.Proofs.YtkdpfjenjcpcfaaGreatDoor
open Go.RowKit Mem Be Word Frm Go.Maps
set_option maxRecDepth 10000
set_option maxHeartbeats 4000000
set_option linter.unusedVariables false
theorem svTo_pre {v : Value} {w w0 w1 : World} {e : Ending} {F : Nat → Prop} {g q : Nat} {S : St8} {ps : List (EntP × Int)} (hb : Below w.heap.size w w0) (h : SvTo v F g S ps q w0 e w1) : SvTo v F g S ps q w e w1 := by
  obtain ⟨rfl, F', hF, hs, ht⟩ := h
  exact ⟨rfl, F', fun k hk => (hF k hk).imp (fun h => h) (fun h => Nat.le_trans hb.size h), hs, (Touch.ofBelow hb).trans ht fun k hk => Or.inl hk⟩
theorem put_two {S : St8} {e : EntP} {who : Int} (h : (putS S e who).2 = 0) : mayP e who := by
  by_cases hm : mayP e who
  · exact hm
  · unfold putS at h; rw [if_neg hm] at h; simp at h
theorem svput_any (F : Nat → Prop) (g q : Nat) (S : St8) (ps : List (EntP × Int)) (x : EV) (who : Int) (hacks : S.acks.length ≤ 1466015503701) (hps : ps.length ≤ 700000000000) (hl : (x.1.v.length : Int) ≤ 9223372036854775807) (hk : (x.1.k.length : Int) ≤ 9223372036854775807) (w : World) (h : SvAt w F g S ps q)
    (hro : Row w w.heap.size x.2.1 (x.1.v.map byteV)) (hcp : x.1.v.length ≤ x.2.2) (hN : RowN F w x.2.1 (x.1.v.map byteV)) :
    Calls Tryz.prog 52 #[.pointer (some ⟨g, 0, none⟩), evV x, .int .i64 who] w (SvTo (.int .i64 (putS S x.1 who).2) F g (putS S x.1 who).1 (putP S ps x.1 who) q w) := by
  obtain ⟨FS, FP, vs, A, c, rfl, hB⟩ := h
  have hbx : Below w.heap.size w ((w.alloc (.cells ⟨entC x⟩ 46)).drew) := ((Below.refl _ _).alloc (Nat.le_refl _) _).drew
  have hgl := st_glt hB.st
  have hNS : RowN FS w x.2.1 (x.1.v.map byteV) := by
    rcases hN with h | ⟨b, o, e, hf, hb, hc⟩
    · exact Or.inl h
    · exact Or.inr ⟨b, o, e, fun h => hf (hB.sub b (Or.inl h)), hb, hc⟩
  have HNX := Lib.hid (RowN.touch hNS (Touch.ofBelow hbx))
  have HB0 : Hid (SvB ((w.alloc (.cells ⟨entC x⟩ 46)).drew) F FS FP g S vs A c q) := Lib.hid (hB.keep hbx.size fun k hk => hbx.block k (hB.lt k hk))
  have HP := put_any8 FS g q S x who hacks hl hk _ HB0.out.st ((hro.below hbx).more hbx.size) hcp HNX.out
  have HAL := Lib.hid hbx
  have HBL := Lib.hid (Blk.new w 46 ⟨entC x⟩).drew
  have HLT : Hid (¬ FS w.heap.size) := Lib.hid fun hf => by have := hB.lt _ (hB.sub _ (Or.inl hf)); omega
  have HLF : Hid (¬ F w.heap.size) := Lib.hid fun hf => by have := hB.lt _ hf; omega
  have HPS : Hid (vs.length ≤ 700000000000) := Lib.hid (by simpa using hps)
  have HLN : Hid ((putS S x.1 who).2 = 0 → x.1.v.length ≤ 140737488355328) := Lib.hid fun h => by have := rightE_yes (put_two h).1; omega
  have HPP : Hid (putP S (vs.map ptOf) x.1 who = if (putS S x.1 who).2 = 0 then vs.map ptOf ++ [(x.1, who)] else vs.map ptOf) := Lib.hid rfl
  obtain ⟨i1, hi1, hk1, hk2, hk3⟩ := info_parts info_put
  generalize putP S (vs.map ptOf) x.1 who = pp at *
  obtain ⟨R, hR⟩ : ∃ R, putS S x.1 who = R := ⟨_, rfl⟩
  rw [hR] at HP HLN HPP
  rw [hR]
  obtain ⟨S2, e2⟩ := R
  simp only at HP HLN HPP ⊢
  have HPH := Lib.hid HP
  clear HP hbx hNS hN hro hcp hB hacks hps hl hk hR
  unfold evV at HPH ⊢
  by_cases h0 : e2 = 0
  · subst h0
    have hpp : pp = vs.map ptOf ++ [(x.1, who)] := by rw [HPP.out]; rfl
    subst hpp
    have HLN2 := Lib.hid (HLN.out rfl)
    clear HLN HPP
    go_enter Tryz.func52, Tryz.ntmps52
    go_wp2_with fail
    go_region_law (go_simp; go_at_call 81; refine HPH.out.mono ?_; rintro e w1 hp; have HSV := Lib.hid hp; obtain ⟨rfl, hrest⟩ := hp; clear hrest)
    have hp := HSV.out
    clear HSV
    obtain ⟨_, F2, FS2, hF2, hB2, ht2⟩ := svB_of HB0.out hp
    obtain ⟨_, F1, hF1, hst1, hto1⟩ := hp
    have HK1 : Hid (Blk w1 w.heap.size 46 ⟨entC x⟩) := Lib.hid ((hto1.block _ HBL.out.lt HLT.out).trans HBL.out)
    have HN1 := Lib.hid (RowN.touch HNX.out hto1)
    have HSZ : Hid (w.heap.size + 1 ≤ w1.heap.size) := Lib.hid (by have := hto1.size; simpa using this)
    have HF2 : Hid (∀ k, F2 k → F k ∨ w.heap.size ≤ k) := Lib.hid fun k hk => (hF2 k hk).imp (fun h => h) (fun h => Nat.le_trans HAL.out.size h)
    have HN2 : Hid (¬ F2 w.heap.size) := Lib.hid fun hf => by
      rcases hF2 _ hf with h | h
      · exact HLF.out h
      · have h2 : w.heap.size + 1 ≤ w.heap.size := by simpa using h
        omega
    have HT2 : Hid (Touch F w w1) := Lib.hid ((Touch.ofBelow HAL.out).trans ht2 fun k hk => Or.inl hk)
    have HSB2 := Lib.hid hB2
    have s5 : w1.cell? ⟨w.heap.size, 5, none⟩ = some (.slice x.2.1 x.1.v.length x.2.2) := HK1.out.cell 5
    have HCL := Lib.hid (clone_any w1.heap.size x.2.2 x.2.1 x.1.v x.1.v.length rfl w1 HN1.out.row (Nat.le_refl _) HLN2.out)
    clear hF1 hst1 hto1 hF2 hB2 ht2 HPH
    go_wp2_with fail
    refine HCL.out.mono ?_
    rintro e w2 ⟨A1, c1, rfl, ho1, hb1⟩
    have HK2 := Lib.hid (HK1.out.below hb1 HK1.out.lt)
    have s5 : w2.cell? ⟨w.heap.size, 5, none⟩ = some (.slice x.2.1 x.1.v.length x.2.2) := HK2.out.cell 5
    have f5 := HK2.out.frozen 5
    have hkk : ∀ k, k ≠ w.heap.size → (w2.setCell ⟨w.heap.size, 5, none⟩ (.slice A1 x.1.v.length c1)).heap[k]? = w2.heap[k]? := fun k hk => Below.heap_setCell w2 ⟨w.heap.size, 5, none⟩ _ k hk
    have hs3 : (w2.setCell ⟨w.heap.size, 5, none⟩ (.slice A1 x.1.v.length c1)).heap.size = w2.heap.size := by simp [World.setCell]
    have HK3 : Hid (Blk (w2.setCell ⟨w.heap.size, 5, none⟩ (.slice A1 x.1.v.length c1)) w.heap.size 46 ⟨entC (x.1, A1, c1)⟩) := Lib.hid (by simpa [entC] using HK2.out.set_ 5 (.slice A1 x.1.v.length c1))
    have HO3 : Hid (OwnE (w2.setCell ⟨w.heap.size, 5, none⟩ (.slice A1 x.1.v.length c1)) w1.heap.size (x.1, A1, c1)) := Lib.hid (ownKeep ho1 fun a ha => hkk _ fun e => by have := (ownIn ho1 ha).1; have := HSZ.out; omega)
    have HSB3 : Hid (SvB (w2.setCell ⟨w.heap.size, 5, none⟩ (.slice A1 x.1.v.length c1)) F2 FS2 FP g S2 vs A c q) := Lib.hid (HSB2.out.keep (by rw [hs3]; exact hb1.size) fun k hk => (hkk k fun e => HN2.out (by rw [← e]; exact hk)).trans (hb1.block k (HSB2.out.lt k hk)))
    have HT3 : Hid (Touch F w (w2.setCell ⟨w.heap.size, 5, none⟩ (.slice A1 x.1.v.length c1))) := Lib.hid ((HT2.out.thenBelow hb1).set_ (p := ⟨w.heap.size, 5, none⟩) (Or.inr (Nat.le_refl _)) _)
    have HZ3 : Hid (w1.heap.size ≤ (w2.setCell ⟨w.heap.size, 5, none⟩ (.slice A1 x.1.v.length c1)).heap.size) := Lib.hid (by rw [hs3]; exact hb1.size)
    have HRS : Hid (∀ a, A1 = some a → ¬ FS2 a.block) := Lib.hid fun a ha hf => by have := (ownIn ho1 ha).1; have := HSB2.out.lt _ (HSB2.out.sub _ (Or.inl hf)); omega
    clear hb1 ho1 hkk hs3 HCL
    go_upto_region 1 with fail
    obtain ⟨w3, hw3⟩ : ∃ W, w2.setCell ⟨w.heap.size, 5, none⟩ (.slice A1 x.1.v.length c1) = W := ⟨_, rfl⟩
    rw [hw3] at HK3 HO3 HSB3 HT3 HZ3 ⊢
    clear hw3 s5 f5
    have HBDR : Hid (Below w3.heap.size w3 ((w3.alloc (.cells ⟨putC14 ((x.1, A1, c1), who)⟩ 115)).drew)) := Lib.hid ((Below.refl _ _).alloc (Nat.le_refl _) _).drew
    have HOA : Hid (((w3.alloc (.cells ⟨putC14 ((x.1, A1, c1), who)⟩ 115)).drew).ownsRow 0 115 7 (.slice A vs.length c) vs.length (ptsC14 vs)) := Lib.hid (ownLater HSB3.out.own HBDR.out)
    have HRL : Hid (Row ((w3.alloc (.cells ⟨putC14 ((x.1, A1, c1), who)⟩ 115)).drew) (w3.heap.size + 1) (some ⟨w3.heap.size, 0, none⟩) (ptsC14 [((x.1, A1, c1), who)])) := Lib.hid (pt_lit (by exact Blk.new w3 115 ⟨putC14 ((x.1, A1, c1), who)⟩) (Nat.lt_succ_self _))
    have s0 : w3.cell? ⟨w.heap.size, 0, none⟩ = some (.string ⟨x.1.k.toArray⟩) := HK3.out.cell 0
    have s1 : w3.cell? ⟨w.heap.size, 1, none⟩ = some (.int .i64 x.1.s) := HK3.out.cell 1
    have s2 : w3.cell? ⟨w.heap.size, 2, none⟩ = some (.int .i64 x.1.u) := HK3.out.cell 2
    have s3 : w3.cell? ⟨w.heap.size, 3, none⟩ = some (.int .i64 x.1.o) := HK3.out.cell 3
    have s4 : w3.cell? ⟨w.heap.size, 4, none⟩ = some (.bool x.1.has) := HK3.out.cell 4
    have s5 : w3.cell? ⟨w.heap.size, 5, none⟩ = some (.slice A1 x.1.v.length c1) := HK3.out.cell 5
    have c8 : w3.cell? ⟨g, 8, none⟩ = some (.slice A vs.length c) := st_c8 HSB3.out.st
    have c8a : (w3.alloc (.cells #[.string ⟨x.1.k.toArray⟩, .int .i64 x.1.s, .int .i64 x.1.u, .int .i64 x.1.o, .bool x.1.has, .slice A1 x.1.v.length c1, .int .i64 who] 115)).cell? ⟨g, 8, none⟩ = some (.slice A vs.length c) := cell_al _ c8
    go_wp2_with fail
    go_region_law (refine step_appS (P := Tryz.prog) (by rfl) _ _ _ (by rfl) 0 115 i1 (.agg #[.string .empty, .int .i64 0, .int .i64 0, .int .i64 0, .bool false, .slice none 0 0, .int .i64 0]) 7 80 Tryz.underlying109 hi1 hk1 hk2 hk3 rfl (by decide) (.slice A vs.length c) vs.length (ptsC14 vs) (by rfl) (by exact HOA.out) (w3.heap.size + 1) (some ⟨w3.heap.size, 0, none⟩) 1 1 (ptsC14 [((x.1, A1, c1), who)]) (by rfl) (by rfl) (by exact HRL.out) (pts14_one _) (by have := HPS.out; unfold maxLen; omega) (by have := HPS.out; omega) (Nat.zero_le _) ?_; intro v' w7 hown hgr hat; obtain ⟨A7, c7', rfl, _, _⟩ := ownShape hown; (have hx7 := sv_push (r := ((x.1, A1, c1), who)) HSB3.out HZ3.out HBDR.out HO3.out HRS.out (by rw [pts14_app]; exact hown) hgr hat); (have HX7 := Lib.hid hx7); have e8 := hx7.2.2.1; have z8 := hx7.2.2.2; clear hown hgr hat hx7)
    all_goals
      go_wp2
      go_ret
      obtain ⟨F9, FP9, h9, hsb9⟩ := HX7.out.1
      exact ⟨rfl, F9, (fun k hk => by
        rcases h9 k hk with h | h
        · exact HF2.out k h
        · exact Or.inr (by have := HSZ.out; omega)), ⟨FS2, FP9, vs ++ [((x.1, A1, c1), who)], _, _, by simp [ptOf], hsb9⟩, HT3.out.trans HX7.out.2.1 HF2.out⟩
  · have hpp : pp = vs.map ptOf := by rw [HPP.out, if_neg h0]
    subst hpp
    have hb0 : (e2 == 0) = false := by simpa using h0
    clear HLN HPP h0
    go_enter Tryz.func52, Tryz.ntmps52
    go_wp2_with fail
    go_region_law (go_simp; go_at_call 81; refine HPH.out.mono ?_; rintro e w1 hp; have HSV := Lib.hid hp; obtain ⟨rfl, hrest⟩ := hp; clear hrest)
    have hp := HSV.out
    clear HSV
    have HX := Lib.hid (svTo_pre HAL.out (svTo_of HB0.out hp))
    clear hp
    go_wp2
    go_ret
    exact HX.out
end Go.Proofs.YtkdpfjenjcpcfaaGreatDoor
namespace Go.Proofs.YtkdpfjenjcpcfaaGreatDoor
open Go.RowKit Mem Be Word Frm Go.Maps
set_option maxRecDepth 10000
set_option maxHeartbeats 4000000
set_option linter.unusedVariables false
def SvTickP (F : Nat → Prop) (g : Nat) (S : St8) (q : Nat) (w : World) (e : Ending) (w' : World) : Prop :=
  ∃ F' A c q', e = .returned (.tuple #[.slice A S.acks.length c, .int .i64 0]) ∧ w'.ownsRow 0 130 5 (.slice A S.acks.length c) S.acks.length (acksC S.acks) ∧ (∀ a, A = some a → ¬ F' a.block) ∧ (∀ k, F' k → F k ∨ w.heap.size ≤ k) ∧ q' ≤ q + 1 ∧ SvAt w' F' g (tickS S) [] q' ∧ Touch F w w'
theorem svtick0_any (F : Nat → Prop) (g q : Nat) (S : St8) (ps : List (EntP × Int)) (hq : q ≤ 4611686018427387904) (w : World) (h : SvAt w F g S ps q) :
    Calls Tryz.prog 58 #[.pointer (some ⟨g, 0, none⟩)] w (SvTickP F g S q w) := by
  obtain ⟨FS, FP, vs, A, c, rfl, hB⟩ := h
  have c8 := st_c8 hB.st
  have z8 := st_z8 hB.st 8
  have HT := Lib.hid (tick_any8 FS g q S hq _ (st_tail (p' := .slice none 0 0) hB.st))
  have HFS : Hid (∀ k, FS k → F k) := Lib.hid fun k hk => hB.sub k (Or.inl hk)
  have HTT : Hid (Touch F w (w.setCell ⟨g, 8, none⟩ (.slice none 0 0))) := Lib.hid ((Touch.refl F w).set_ (p := ⟨g, 8, none⟩) (Or.inl (hB.sub g (Or.inl (st_fg hB.st)))) _)
  clear hB hq
  go_enter Tryz.func58, Tryz.ntmps58
  go_wp2_with fail
  refine HT.out.mono ?_
  rintro e w1 ⟨F1, A1, c1, q1, rfl, ho, hA, hF, hq1, hs, ht⟩
  have HX : Hid (SvTickP F g S q w (.returned (.tuple #[.slice A1 S.acks.length c1, .int .i64 0])) w1) := Lib.hid
    ⟨F1, A1, c1, q1, rfl, ho, hA, (fun k hk => (hF k hk).imp (fun h => HFS.out k h) (fun h => Nat.le_trans HTT.out.size h)), hq1, ⟨F1, fun _ => False, [], none, 0, rfl, ⟨hs, World.ownsRow_nil _ _ _ _, entsO_nil _ _, inF_none _, (fun r hr => by cases hr), (fun k _ h => h.elim), (fun k hk => hk.elim (fun h => h) (fun h => h.elim)), hs.lt⟩⟩, HTT.out.trans (ht.mono fun k hk => HFS.out k hk) fun k hk => Or.inl hk⟩
  clear ho hA hF hq1 hs ht HT
  go_wp2
  go_ret2
  exact HX.out
end Go.Proofs.YtkdpfjenjcpcfaaGreatDoor
namespace Go.Proofs.YtkdpfjenjcpcfaaGreatDoor
open Go.RowKit Mem Be Word Frm Go.Maps
set_option maxRecDepth 100000
set_option maxHeartbeats 4000000
set_option linter.unusedVariables false
/-- The message that tells of an ack. -/
def fmC (a : AckP) : List Value := [.int .i64 11, .int .i64 1, .int .i64 a.who, .int .i64 0, .int .i64 0, .int .i64 0, .bool false, .string ⟨a.k.toArray⟩, .int .i64 a.s, .int .i64 a.u, .int .i64 a.o, .bool false, .slice none 0 0, .slice none 0 0, .slice none 0 0, .int .i64 0, .int .i64 0]
theorem messageof_any (a : AckP) (w : World) :
    Calls Tryz.prog 87 #[.agg ⟨ackC a⟩] w fun e w' => e = .returned (.agg ⟨fmC a⟩) ∧ Below w.heap.size w w' := by
  have HB : Hid (Below w.heap.size w ((w.alloc (.cells ⟨ackC a⟩ 130)).alloc (.cells ⟨fmC a⟩ 51))) := Lib.hid (((Below.refl _ _).alloc (Nat.le_refl _) _).alloc (by simp) _)
  have HK : Hid (Blk ((w.alloc (.cells ⟨ackC a⟩ 130)).alloc (.cells ⟨fmC a⟩ 51)) (w.heap.size + 1) 51 ⟨fmC a⟩) := Lib.hid (by
    have h := Blk.new (w.alloc (.cells ⟨ackC a⟩ 130)) 51 ⟨fmC a⟩
    rw [World.size_alloc] at h; exact h)
  unfold ackC
  go_enter Tryz.func87, Tryz.ntmps87
  go_wp2
  exact bodyPost_ret (v := .agg ⟨fmC a⟩) (results_cell_row (p := 2) (ty := 51) Tryz.results87 _ _ (w.heap.size + 1) 51 ⟨fmC a⟩ (0, 0) _ rfl HK.out Tryz.underlying51 rfl (by kernel_rfl)) rfl ⟨rfl, HB.out⟩
end Go.Proofs.YtkdpfjenjcpcfaaGreatDoor
namespace Go.Proofs.YtkdpfjenjcpcfaaGreatDoor
open Go.RowKit Mem Be Word Frm Go.Maps
set_option maxRecDepth 100000
set_option maxHeartbeats 1000000
set_option linter.unusedVariables false
abbrev fmsC (l : List AckP) : List Value := l.flatMap fmC
theorem fmsC_one (l : List AckP) : ∀ u ∈ fmsC l, u.oneCell' = true := by
  intro u hu
  obtain ⟨x, _, hx⟩ := List.mem_flatMap.1 hu
  simp only [fmC, List.mem_cons, List.not_mem_nil, or_false] at hx
  rcases hx with rfl | rfl | rfl | rfl | rfl | rfl | rfl | rfl | rfl | rfl | rfl | rfl | rfl | rfl | rfl | rfl | rfl <;> rfl
theorem cutA14 (W : World) (A : Option Addr) (n c k : Nat) (h : k ≤ n) : (Instr.slice 34 (.slice A n c) (some (.int .i64 (k : Int))) none none).run Tryz.prog W = .ok (.slice (if c = k then A else A.map (·.add (k * 5))) (n - k) (c - k)) W := by
  obtain ⟨i, hi, hz, hz1, hz2⟩ := info_parts info_ack
  simp [Instr.slice, run_underlying Tryz.underlying34, Instr.sliceBounds, Instr.sliceBound, asIntOf, sizeOf, typeInfo, hi, hz1, h]
theorem acks_tail {w : World} {B : Nat} {A : Option Addr} {rs : List AckP} {c k : Nat} (h : Row w B A (acksC rs)) (hc : rs.length ≤ c) (hk : k ≤ rs.length) : Row w B (if c = k then A else A.map (·.add (k * 5))) (acksC (rs.drop k)) := by
  rcases Nat.lt_or_ge k rs.length with hlt | hge
  · obtain ⟨b, o, rfl, hb, hcell⟩ := h.open_ (by rw [acksC_len]; omega)
    rw [if_neg (by omega)]
    have e : (some (⟨b, o, none⟩ : Addr)).map (·.add (k * 5)) = some ⟨b, o + k * 5, none⟩ := by
      show some ((⟨b, o, none⟩ : Addr).add (k * 5)) = _
      unfold Addr.add
      split
      · rename_i h0
        rw [h0]; rfl
      · rfl
    rw [e]
    refine Or.inr ⟨b, o + k * 5, rfl, hb, fun j hj => ?_⟩
    have hd : acksC rs = acksC (rs.take k) ++ acksC (rs.drop k) := by rw [← acksC_app, List.take_append_drop]
    have hl : (acksC (rs.take k)).length = k * 5 := by rw [acksC_len, List.length_take]; congr 1; omega
    rw [acksC_len, List.length_drop] at hj
    have := hcell (k * 5 + j) (by rw [acksC_len]; omega)
    rw [Nat.add_assoc, this]
    congr 1
    simp only [hd]
    rw [List.getElem_append_right (by omega)]
    congr 1
    omega
  · rw [List.drop_of_length_le hge]; exact Row.nil _ _ _
theorem fm_lit {w : World} {x : AckP} {g : Nat} (h : Blk w g 51 ⟨fmC x⟩) {B : Nat} (hB : g < B) : Row w B (some ⟨g, 0, none⟩) (fmsC [x]) := by
  refine Or.inr ⟨g, 0, rfl, hB, fun j hj => ?_⟩
  have e : fmsC [x] = fmC x := by simp [fmsC]
  have h1 := h.cell (0 + j)
  rw [h1]
  have hj2 : j < (fmC x).length := by rw [← e]; exact hj
  rw [Nat.zero_add]
  rw [List.getElem_of_eq e hj]
  show (⟨fmC x⟩ : Array Value)[j]? = _
  rw [List.getElem?_toArray, List.getElem?_eq_getElem hj2]
theorem info_msg14 : (Tryz.prog.info? 51).map (fun i => (i.zero, i.size, i.bytes)) = some (some (.agg #[.int .i64 0, .int .i64 0, .int .i64 0, .int .i64 0, .int .i64 0, .int .i64 0, .bool false, .string .empty, .int .i64 0, .int .i64 0, .int .i64 0, .bool false, .slice none 0 0, .slice none 0 0, .slice none 0 0, .int .i64 0, .int .i64 0]), 17, 192) := by kernel_rfl
def lenV14 : Value → Nat
  | .slice _ m _ => m
  | _ => 0
/-- The messages that tell of acks, in a row of their own. -/
def FmP (l : List AckP) (w : World) (e : Ending) (w' : World) : Prop := ∃ A c, e = .returned (.slice A l.length c) ∧ w'.ownsRow w.heap.size 51 17 (.slice A l.length c) l.length (fmsC l) ∧ Below w.heap.size w w'
theorem messagesof_any (A : Option Addr) (n c : Nat) (l : List AckP) (hn : n = l.length) (hc : n ≤ c) (hl : n ≤ 700000000000) (w : World) (h : Row w w.heap.size A (acksC l)) :
    Calls Tryz.prog 59 #[.slice A n c] w (FmP l w) := by
  have HR := Lib.hid h
  have HN := Lib.hid hn
  have HC := Lib.hid hc
  have HL := Lib.hid hl
  obtain ⟨i0, hi0, hz0, hz1, hz2⟩ := info_parts info_msg14
  clear h hn hc hl
  go_enter Tryz.func59, Tryz.ntmps59
  go_wp2
  go_step3
  go_wp2
  go_step3
  go_wp2
  go_loopw [0, 3] (fun av ov wr => ∃ (j : Nat) (A1 : Option Addr) (c1 : Nat) (A3 : Option Addr) (c3 : Nat), j ≤ n ∧ av = .slice A1 (n - j) c1 ∧ ov = .slice A3 j c3 ∧ Hid (n - j ≤ c1) ∧ Hid (Row wr w.heap.size A1 (acksC (l.drop j))) ∧ Hid (wr.ownsRow w.heap.size 51 17 (.slice A3 j c3) j (fmsC (l.take j))) ∧ Hid (Below w.heap.size w wr)) (fun av _ _ => lenV14 av)
  case atStart => exact ⟨0, A, c, none, 0, by omega, rfl, rfl, HC, HR, Lib.hid (World.ownsRow_nil _ _ _ _), Lib.hid (Below.refl _ _)⟩
  case round =>
    obtain ⟨j, A1, c1, A3, c3, hj, rfl, rfl, HCC, HRR, HOO, HB⟩ := hrel
    have hn0 : (n : Int) ≤ 700000000000 := by have := HL.out; omega
    by_cases hlt : j < n
    rotate_left
    · obtain rfl : j = n := by omega
      have HO2 : Hid (wr.ownsRow w.heap.size 51 17 (.slice A3 l.length c3) l.length (fmsC l)) := Lib.hid (by
        have h := HOO.out
        rw [HN.out, List.take_of_length_le (Nat.le_refl _)] at h; exact h)
      have hjl := HN.out
      rw [Nat.sub_self]
      rw [hjl]
      clear hlt hjl
      go_wp2
      rw [Exit.noGoto_ret]
      go_ret
      exact ⟨A3, c3, rfl, HO2.out, HB.out⟩
    obtain ⟨m, hm⟩ : ∃ m, n - j = m + 1 := ⟨n - j - 1, by omega⟩
    have hjr : j < l.length := by rw [← HN.out]; exact hlt
    have hdl : (l.drop j).length = m + 1 := by rw [List.length_drop, ← HN.out]; exact hm
    obtain ⟨b, o, rfl, hbl, hcl⟩ := acks_open HRR.out (by omega)
    obtain ⟨d0, d1, d2, d3, d4⟩ := hcl 0 (by omega)
    have hx : (l.drop j)[0]'(by omega) = l[j] := by rw [List.getElem_drop]; rfl
    obtain ⟨x, hxx⟩ : ∃ x, l[j] = x := ⟨_, rfl⟩
    rw [hx, hxx] at d0 d1 d2 d3 d4
    rw [Nat.zero_mul, Nat.add_zero] at d0 d1 d2 d3 d4
    have HTK : Hid (l.take (j + 1) = l.take j ++ [x]) := Lib.hid (by rw [List.take_succ_eq_append_getElem hjr, hxx])
    have hcm : m + 1 ≤ c1 := by have := HCC.out; omega
    have hcut : ∀ W, (Instr.slice 34 (.slice (some ⟨b, o, none⟩) (m + 1) c1) (some (.int .i64 1)) none none).run Tryz.prog W = .ok (.slice (if c1 = 1 then some ⟨b, o, none⟩ else (some (⟨b, o, none⟩ : Addr)).map (·.add (1 * 5))) m (c1 - 1)) W := fun W => cutA14 W (some ⟨b, o, none⟩) (m + 1) c1 1 (by omega)
    have HRT : Hid (Row wr w.heap.size (if c1 = 1 then some ⟨b, o, none⟩ else (some (⟨b, o, none⟩ : Addr)).map (·.add (1 * 5))) (acksC (l.drop (j + 1)))) := Lib.hid (by
      have h := acks_tail (k := 1) (c := c1) HRR.out (by omega) (by omega)
      rw [List.drop_drop] at h; exact h)
    generalize (if c1 = 1 then some (⟨b, o, none⟩ : Addr) else (some (⟨b, o, none⟩ : Addr)).map (·.add (1 * 5))) = A4 at *
    have hm0 : (0 : Int) ≤ (m : Int) := by omega
    have HMS := Lib.hid (messageof_any x wr)
    unfold ackC fmC at HMS
    rw [hm]
    have HM := Lib.hid hm
    have HCM := Lib.hid hcm
    clear hx hxx hcl hdl hm hcm
    go_wp2_with fail
    refine HMS.out.mono ?_
    rintro e w2 ⟨rfl, hb2⟩
    have HB2 := Lib.hid (HB.out.trans (hb2.mono HB.out.size))
    have HB3 : Hid (Below w.heap.size w (w2.alloc (.cells ⟨fmC x⟩ 51))) := Lib.hid (HB2.out.alloc HB2.out.size _)
    have HO3 : Hid ((w2.alloc (.cells ⟨fmC x⟩ 51)).ownsRow w.heap.size 51 17 (.slice A3 j c3) j (fmsC (l.take j))) := Lib.hid (ownLater (ownLater HOO.out hb2) ((Below.refl _ _).alloc (Nat.le_refl _) _))
    have HBL : Hid (Blk (w2.alloc (.cells ⟨fmC x⟩ 51)) w2.heap.size 51 ⟨fmC x⟩) := Lib.hid (Blk.new _ _ _)
    have HBX : Hid (Below w.heap.size wr (w2.alloc (.cells ⟨fmC x⟩ 51))) := Lib.hid ((hb2.mono HB.out.size).alloc HB2.out.size _)
    have hjn : j + 1 ≤ 700000000000 := by have := HL.out; omega
    clear hb2 HMS
    go_wp2_with (at_builtin; refine wpList_appS (P := Tryz.prog) (by rfl) _ _ _ (by rfl) w.heap.size 51 i0 (.agg #[.int .i64 0, .int .i64 0, .int .i64 0, .int .i64 0, .int .i64 0, .int .i64 0, .bool false, .string .empty, .int .i64 0, .int .i64 0, .int .i64 0, .bool false, .slice none 0 0, .slice none 0 0, .slice none 0 0, .int .i64 0, .int .i64 0]) 17 192 Tryz.underlying37 hi0 hz0 hz1 hz2 rfl (by decide) (.slice A3 j c3) j (fmsC (l.take j)) (by rfl) (by exact HO3.out) (w2.heap.size + 1) (some ⟨w2.heap.size, 0, none⟩) (1) (1) (fmsC [x]) (by rfl) (by rfl) (by exact fm_lit HBL.out (by omega)) (fmsC_one _) (by unfold maxLen; omega) (by omega) (by exact HB3.out.size) ?_)
    intro v1 w3 hown hgr _
    obtain ⟨A5, c5, rfl, _, _⟩ := ownShape hown
    have HB5 : Hid (Below w.heap.size w w3) := Lib.hid (HB3.out.grown hgr HB3.out.size fun g hg => (HO3.out.lt g hg).1)
    have HO5 : Hid (w3.ownsRow w.heap.size 51 17 (.slice A5 (j + 1) c5) (j + 1) (fmsC (l.take (j + 1)))) := Lib.hid (by
      rw [HTK.out]
      show w3.ownsRow _ _ _ _ _ ((l.take j ++ [x]).flatMap fmC)
      rw [List.flatMap_append]; exact hown)
    have HR5 : Hid (Row w3 w.heap.size A4 (acksC (l.drop (j + 1)))) := Lib.hid (HRT.out.below (HBX.out.grown hgr HB3.out.size fun g hg => (HO3.out.lt g hg).1))
    clear hown hgr
    go_wp2
    go_roundw
    case rel => exact ⟨j + 1, A4, c1 - 1, A5, c5, by omega, (by have := HM.out; rw [show n - (j + 1) = m by omega]), rfl, Lib.hid (by have := HCM.out; have := HM.out; omega), HR5, HO5, HB5⟩
    case measure => simp [lenV14]
end Go.Proofs.YtkdpfjenjcpcfaaGreatDoor
namespace Go.Proofs.YtkdpfjenjcpcfaaGreatDoor
open Go.RowKit Mem Be Word Frm Go.Maps
set_option maxRecDepth 100000
set_option maxHeartbeats 1000000
set_option linter.unusedVariables false
/-- What a Tick tells, and leaves. -/
def SvFmP (F : Nat → Prop) (g : Nat) (S : St8) (q : Nat) (w : World) (e : Ending) (w' : World) : Prop :=
  ∃ F' A c q', e = .returned (.slice A S.acks.length c) ∧ w'.ownsRow w.heap.size 51 17 (.slice A S.acks.length c) S.acks.length (fmsC S.acks) ∧ (∀ a, A = some a → ¬ F' a.block) ∧ (∀ k, F' k → F k ∨ w.heap.size ≤ k) ∧ q' ≤ q + 1 ∧ SvAt w' F' g (tickS S) [] q' ∧ Touch F w w'
theorem svtick_any (F : Nat → Prop) (g q : Nat) (S : St8) (ps : List (EntP × Int)) (hq : q ≤ 4611686018427387904) (hacks : S.acks.length ≤ 700000000000) (w : World) (h : SvAt w F g S ps q) :
    Calls Tryz.prog 31 #[.pointer (some ⟨g, 0, none⟩)] w (SvFmP F g S q w) := by
  have hg : g < w.heap.size := by
    obtain ⟨K, FS, hs⟩ := h.stAt
    exact st_glt hs
  have HT := Lib.hid (svtick0_any F g q S ps hq w h)
  have HA := Lib.hid hacks
  obtain ⟨Pm, hPm⟩ : ∃ Pm, SvFmP F g S q w = Pm := ⟨_, rfl⟩
  rw [hPm]
  have HPM := Lib.hid hPm
  clear h hq hacks hPm
  go_enter Tryz.func31, Tryz.ntmps31
  go_wp2_with fail
  refine HT.out.mono ?_
  rintro e w1 ⟨F1, A1, c1, q1, rfl, ho, hA, hF, hq1, hs, ht⟩
  have hcap : S.acks.length ≤ c1 := by
    obtain ⟨x1, x2, hsh, hcap, _⟩ := ownShape ho
    injection hsh with h1 h2 h3
    omega
  have hM := messagesof_any A1 S.acks.length c1 S.acks rfl hcap HA.out w1 (ownRow ho)
  obtain ⟨n, hn⟩ : ∃ n, S.acks.length = n := ⟨_, rfl⟩
  have HNN := Lib.hid hn
  have hM2 : Calls Tryz.prog 59 #[.slice A1 n c1] w1 (FmP S.acks w1) := by rw [← hn]; exact hM
  have HM := Lib.hid hM2
  rw [hn]
  have H1 := Lib.hid (And.intro hF (And.intro hq1 (And.intro hs ht)))
  clear ho hA hF hq1 hs ht hcap hM hM2 hn HT
  go_wp2_with fail
  refine HM.out.mono ?_
  rintro e w2 ⟨A2, c2, rfl, ho2, hb2⟩
  have HX : Hid (Pm (.returned (.slice A2 n c2)) w2) := Lib.hid (by
    rw [← HPM.out, ← HNN.out]
    exact ⟨F1, A2, c2, q1, rfl, ownBase ho2 H1.out.2.2.2.size, (fun a ha hf => by have := (ownIn ho2 ha).1; have := H1.out.2.2.1.lt _ hf; omega), H1.out.1, H1.out.2.1, H1.out.2.2.1.below hb2, H1.out.2.2.2.thenBelow hb2⟩)
  have hn3 := HNN.out
  rw [hn3]
  clear hn3
  clear ho2 hb2 HM
  go_wp2
  exact HX.out
end Go.Proofs.YtkdpfjenjcpcfaaGreatDoor
namespace Go.Proofs.YtkdpfjenjcpcfaaGreatDoor
open Go.RowKit Go.ChangeShapes Go.Deep Go.WideShapes
namespace Mem
section
variable {H : Type} {enc : TypeId × Value → H} {P : Program} {w : World} {base : Nat} {held : Bool}
def SizedD (P : Program) (t : TypeId) (d : DataW H) : Prop := ∀ n ∈ d.weights P t, n ≤ reachBytes
theorem SizedD.len {t e : TypeId} {elems spare : List (DataW H)} (h : SizedD P t (.slice elems spare)) (ht : P.underlying t = some (.slice e)) : (elems.length + spare.length) * P.bytesOf e ≤ reachBytes :=
  h _ (by simp [DataW.weights, ht])
end
end Mem
end Go.Proofs.YtkdpfjenjcpcfaaGreatDoor
namespace Go.Proofs.YtkdpfjenjcpcfaaGreatDoor
open Go.RowKit Go.ChangeShapes Go.WideShapes Mem
set_option maxRecDepth 10000
set_option maxHeartbeats 2000000
set_option linter.unusedVariables false
/-- Something that is done: its kind, the entry, for whom, how much is kept. -/
structure D8 where
  kind : Int
  e : EV
  who : Int
  kept : Int
instance d8inh : Inhabited D8 := ⟨⟨0, evN [], 0, 0⟩⟩
def d8C (r : D8) : List Value := [.int .i64 r.kind, .string ⟨r.e.1.k.toArray⟩, .int .i64 r.e.1.s, .int .i64 r.e.1.u, .int .i64 r.e.1.o, .bool r.e.1.has, .slice r.e.2.1 r.e.1.v.length r.e.2.2, .int .i64 r.who, .int .i64 r.kept]
abbrev d8sC (rs : List D8) : List Value := rs.flatMap d8C
/-- What may come in. -/
structure D8Ok (w : World) (B : Nat) (r : D8) : Prop where
  row : Row w B r.e.2.1 (r.e.1.v.map byteV)
  cap : r.e.1.v.length ≤ r.e.2.2
  capm : r.e.2.2 ≤ maxLen
  key : r.e.1.k.length ≤ maxLen
  k0 : -9223372036854775808 ≤ r.kind
  k1 : r.kind ≤ 9223372036854775807
  p0 : -9223372036854775808 ≤ r.kept
  p1 : r.kept ≤ 9223372036854775807
def InD8 (w : World) (A : Option Addr) (rs : List D8) : Prop := ∀ W, Below w.heap.size w W → Row W w.heap.size A (d8sC rs) ∧ ∀ r ∈ rs, D8Ok W w.heap.size r
theorem D8Ok.below {w w' : World} {B : Nat} {r : D8} (h : D8Ok w B r) (hb : Below B w w') : D8Ok w' B r := ⟨h.row.below hb, h.cap, h.capm, h.key, h.k0, h.k1, h.p0, h.p1⟩
section
variable {H : Type} {enc : TypeId × Value → H} {w : World} {base : Nat} {held : Bool}
end
end Go.Proofs.YtkdpfjenjcpcfaaGreatDoor
namespace Go.Proofs.YtkdpfjenjcpcfaaGreatDoor
open Go.RowKit Go.ChangeShapes Mem Be
set_option maxRecDepth 100000
set_option maxHeartbeats 4000000
set_option linter.unusedVariables false
end Go.Proofs.YtkdpfjenjcpcfaaGreatDoor
namespace Go.Proofs.YtkdpfjenjcpcfaaGreatDoor
open Go.RowKit Go.ChangeShapes Mem Be Word Frm
set_option maxRecDepth 10000
set_option maxHeartbeats 4000000
set_option linter.unusedVariables false
def DoneS (F : Nat → Prop) (R : St8 × List AckP × Int) (q : Nat) (w : World) (e : Ending) (w' : World) : Prop :=
  ∃ g F' q' A c, e = .returned (.tuple #[.pointer (some ⟨g, 0, none⟩), .slice A R.2.1.length c, .int .i64 R.2.2]) ∧ (∀ k, F' k → F k ∨ w.heap.size ≤ k) ∧ StAt st0K w' F' g R.1 q' ∧ q' ≤ q + 1 ∧ Touch F w w' ∧
    w'.ownsRow 0 130 5 (.slice A R.2.1.length c) R.2.1.length (acksC R.2.1) ∧ (∀ a, A = some a → ¬ F' a.block)
end Go.Proofs.YtkdpfjenjcpcfaaGreatDoor
namespace Go.Proofs.YtkdpfjenjcpcfaaGreatDoor
open Go.RowKit Go.ChangeShapes Mem Be
set_option maxRecDepth 100000
set_option maxHeartbeats 4000000
set_option linter.unusedVariables false
end Go.Proofs.YtkdpfjenjcpcfaaGreatDoor
namespace Go.Proofs.YtkdpfjenjcpcfaaGreatDoor
open Go.RowKit Go.ChangeShapes Mem Be Word Frm
set_option maxRecDepth 10000
set_option maxHeartbeats 4000000
set_option linter.unusedVariables false
def NewF8 (w : World) (F : Nat → Prop) : Prop := ∀ k, F k → w.heap.size ≤ k
theorem newF8_step {w w1 : World} {F F' : Nat → Prop} (h : NewF8 w F) (hs : w.heap.size ≤ w1.heap.size) (h' : ∀ k, F' k → F k ∨ w1.heap.size ≤ k) : NewF8 w F' := fun k hk => by
  rcases h' k hk with h1 | h1
  · exact h k h1
  · omega
def IsT8 (v : Bool) (w : World) (e : Ending) (w' : World) : Prop := e = .returned (.bool v) ∧ Below w.heap.size w w'
/-- A store of a statement's own, in blocks that are new since w0. -/
structure St1 (w0 w : World) (F : Nat → Prop) (g : Nat) (S : St8) (q : Nat) : Prop where
  new : NewF8 w0 F
  at_ : StAt st0K w F g S q
  bel : Below w0.heap.size w0 w
theorem St1.below {w0 w w1 : World} {F : Nat → Prop} {g q : Nat} {S : St8} (h : St1 w0 w F g S q) (hb : Below w.heap.size w w1) : St1 w0 w1 F g S q := ⟨h.new, h.at_.below hb, h.bel.trans (hb.mono h.bel.size)⟩
theorem St1.to {w0 w w1 : World} {F F' : Nat → Prop} {g g' q q' : Nat} {S S' : St8} (h : St1 w0 w F g S q) (hf : ∀ k, F' k → F k ∨ w.heap.size ≤ k) (hl : StAt st0K w1 F' g' S' q') (ht : Touch F w w1) : St1 w0 w1 F' g' S' q' :=
  ⟨newF8_step h.new h.bel.size hf, hl, h.bel.trans (ht.below h.bel.size h.new)⟩
/-- A new store beside it. -/
theorem St1.new_ {w0 w w1 : World} {F F' : Nat → Prop} {g g' q q' : Nat} {S S' : St8} (h : St1 w0 w F g S q) (hf : ∀ k, F' k → w.heap.size ≤ k) (hl : StAt st0K w1 F' g' S' q') (hb : Below w.heap.size w w1) : St1 w0 w1 F' g' S' q' :=
  ⟨fun k hk => Nat.le_trans h.bel.size (hf k hk), hl, h.bel.trans (hb.mono h.bel.size)⟩
def e3 : EntP := ⟨[107], 3, 0, 0, false, []⟩
def e2 : EntP := ⟨[107], 2, 0, 0, false, []⟩
theorem okE2 : okE e2 := by unfold okE; decide
end Go.Proofs.YtkdpfjenjcpcfaaGreatDoor
namespace Go.Proofs.YtkdpfjenjcpcfaaGreatDoor
open Go.RowKit Go.ChangeShapes Mem Be Word Frm Go.Maps
set_option maxRecDepth 10000
set_option maxHeartbeats 4000000
set_option linter.unusedVariables false
theorem St1.done {w0 w w1 : World} {F : Nat → Prop} {g q : Nat} {S : St8} {R : St8 × List AckP × Int} {e : Ending} (h : St1 w0 w F g S q) (hd : DoneS F R q w e w1) :
    ∃ g' F' q' A c, e = .returned (.tuple #[.pointer (some ⟨g', 0, none⟩), .slice A R.2.1.length c, .int .i64 R.2.2]) ∧ q' ≤ q + 1 ∧ St1 w0 w1 F' g' R.1 q' ∧ w1.ownsRow 0 130 5 (.slice A R.2.1.length c) R.2.1.length (acksC R.2.1) ∧ (∀ a, A = some a → ¬ F' a.block) := by
  obtain ⟨g', F', q', A, c, h1, h2, h3, h4, h5, h6, h7⟩ := hd
  exact ⟨g', F', q', A, c, h1, h4, h.to h2 h3 h5, h6, h7⟩
theorem St1.touch {w0 w w1 : World} {F G : Nat → Prop} {g q : Nat} {S : St8} (h : St1 w0 w F g S q) (ht : Touch G w w1) (hd : ∀ k, F k → ¬ G k) (hG : ∀ k, G k → w0.heap.size ≤ k) : St1 w0 w1 F g S q := ⟨h.new, h.at_.touch ht hd, h.bel.trans (ht.below h.bel.size hG)⟩
theorem cmpE_ge (a b : EntP) : 0 ≤ cmpE a b ↔ (b.s < a.s ∨ (a.s = b.s ∧ (b.u < a.u ∨ (a.u = b.u ∧ b.o ≤ a.o)))) := by
  unfold cmpE cmpT
  rcases cmpI_cases a.s b.s with ⟨g, h⟩ | ⟨g, h⟩ | ⟨g, h⟩ <;> rcases cmpI_cases a.u b.u with ⟨g', h'⟩ | ⟨g', h'⟩ | ⟨g', h'⟩ <;> rcases cmpI_cases a.o b.o with ⟨g'', h''⟩ | ⟨g'', h''⟩ | ⟨g'', h''⟩ <;> rw [h, h', h''] <;> simp <;> omega
theorem cmpE_le (a b : EntP) : cmpE a b ≤ 0 ↔ (a.s < b.s ∨ (a.s = b.s ∧ (a.u < b.u ∨ (a.u = b.u ∧ a.o ≤ b.o)))) := by
  unfold cmpE cmpT
  rcases cmpI_cases a.s b.s with ⟨g, h⟩ | ⟨g, h⟩ | ⟨g, h⟩ <;> rcases cmpI_cases a.u b.u with ⟨g', h'⟩ | ⟨g', h'⟩ | ⟨g', h'⟩ <;> rcases cmpI_cases a.o b.o with ⟨g'', h''⟩ | ⟨g'', h''⟩ | ⟨g'', h''⟩ <;> rw [h, h', h''] <;> simp <;> omega
/-- b is no newer than a. -/
def GeE (a b : EntP) : Prop := b.s < a.s ∨ (a.s = b.s ∧ (b.u < a.u ∨ (a.u = b.u ∧ b.o ≤ a.o)))
theorem GeE.refl (a : EntP) : GeE a a := Or.inr ⟨rfl, Or.inr ⟨rfl, by omega⟩⟩
theorem GeE.trans {a b c : EntP} (h : GeE a b) (h' : GeE b c) : GeE a c := by unfold GeE at *; omega
theorem GeE.le {a b : EntP} (h : GeE a b) : cmpE b a ≤ 0 := (cmpE_le b a).2 (by unfold GeE at h; omega)
theorem GeE.ge {a b : EntP} (h : GeE a b) : 0 ≤ cmpE a b := (cmpE_ge a b).2 h
theorem geE_of {a b : EntP} (h : 0 < cmpE a b) : GeE a b := (cmpE_ge a b).1 (by omega)
theorem ofT_put (T : List EntP) (e : EntP) (k : List UInt8) : ofT (putK kE T e) k = if e.k = k then e else ofT T k := by
  unfold ofT
  rw [get_put]
  split <;> rfl
theorem ofT_len {T : List EntP} (h : OkT T) (k : List UInt8) : (ofT T k).v.length ≤ 60000 := by
  unfold ofT
  cases hg : getK kE T k with
  | none => exact Nat.zero_le _
  | some x => have := (rightE_yes (h.2 x (get_some hg).1)).2.2.1; show x.v.length ≤ _; omega
theorem getP_open {x : EntP} {k : List UInt8} {w w' : World} {e : Ending} (hx : x.k = k) (hl : x.v.length ≤ 60000) (h : GetP x w e w') :
    ∃ A c, e = .returned (.agg #[.string ⟨k.toArray⟩, .int .i64 x.s, .int .i64 x.u, .int .i64 x.o, .bool x.has, .slice A x.v.length c]) ∧ ValOk w' x.has A x.v c ∧ OwnE w' w.heap.size (x, A, c) ∧ Below w.heap.size w w' := by
  obtain ⟨A, c, h1, h2, h3⟩ := h
  subst hx
  exact ⟨A, c, h1, ownE_val h2 (by simp only; omega), h2, h3⟩
theorem sameE_self (k : ByteArray) (s u o : Int) (h : Bool) (xs : List UInt8) : sameE k k s u o s u o h h xs xs = true := by
  unfold sameE eqT sameV; simp
theorem refsame_true (k : ByteArray) (s u o : Int) (h : Bool) (A A' : Option Addr) (xs : List UInt8) (c c' n n' : Nat) (hn : n = xs.length) (hn' : n' = xs.length) (w : World) (h1 : ValOk w h A xs c) (h2 : ValOk w h A' xs c') :
    Calls Tryz.prog 16 #[.agg #[.string k, .int .i64 s, .int .i64 u, .int .i64 o, .bool h, .slice A n c], .agg #[.string k, .int .i64 s, .int .i64 u, .int .i64 o, .bool h, .slice A' n' c']] w (IsB true w) := by
  have := refsame_ent k k s u o s u o h h A A' xs xs c c' n n' hn hn' w h1 h2
  rw [sameE_self] at this; exact this
end Go.Proofs.YtkdpfjenjcpcfaaGreatDoor
namespace Go.Proofs.YtkdpfjenjcpcfaaGreatDoor
open Go.RowKit Go.ChangeShapes Mem Be Word Frm Go.Maps
set_option maxRecDepth 10000
set_option maxHeartbeats 2000000
set_option linter.unusedVariables false
theorem StAt.short {w : World} {F : Nat → Prop} {g q : Nat} {S : St8} (h : StAt st0K w F g S q) : Short S.rs := by
  obtain ⟨h0, FL, FS, lm, fm, TL, TF, A, c, h1, h2, hfl, h⟩ := h
  exact h.lg.short
/-- The entry is no older than the ack's tag. -/
def TagLe (a : AckP) (x : EntP) : Prop := a.s < x.s ∨ (x.s = a.s ∧ (a.u < x.u ∨ (x.u = a.u ∧ a.o ≤ x.o)))
theorem TagLe.trans {a : AckP} {x y : EntP} (h : TagLe a x) (h' : GeE y x) : TagLe a y := by unfold TagLe GeE at *; omega
theorem TagLe.ge {a : AckP} {x : EntP} (h : TagLe a x) : 0 ≤ cmpT x.s x.u x.o a.s a.u a.o := (cmpE_ge x ⟨[], a.s, a.u, a.o, false, []⟩).2 (by unfold TagLe at h; exact h)
structure InvA (S : St8) (told : List AckP) (P : EntP → Prop) : Prop where
  all : ∀ p T, S.m ≤ p → p ≤ S.rs.length → recS (S.rs.take p) = some T → (∀ e ∈ T, P e) ∧ ∀ a ∈ told, TagLe a (ofT T a.k)
  acks : ∀ a ∈ S.acks, TagLe a (ofT S.N a.k)
theorem InvA.lasts {S : St8} {told : List AckP} {P : EntP → Prop} (h : InvA S told P) (ok : Ok8 S) : (∀ e ∈ S.L, P e) ∧ ∀ a ∈ told, TagLe a (ofT S.L a.k) := h.all S.m S.L (Nat.le_refl _) ok.le ok.lasts
theorem InvA.newer {S : St8} {told : List AckP} {P : EntP → Prop} (h : InvA S told P) (ok : Ok8 S) : (∀ e ∈ S.N, P e) ∧ ∀ a ∈ told, TagLe a (ofT S.N a.k) :=
  h.all S.rs.length S.N ok.le (Nat.le_refl _) (by rw [List.take_length]; exact ok.newer)
theorem InvA.more {S : St8} {told : List AckP} {P P' : EntP → Prop} (h : InvA S told P) (hp : ∀ e, P e → P' e) : InvA S told P' := ⟨fun p T h1 h2 h3 => ⟨fun e he => hp e ((h.all p T h1 h2 h3).1 e he), (h.all p T h1 h2 h3).2⟩, h.acks⟩
end Go.Proofs.YtkdpfjenjcpcfaaGreatDoor
namespace Go.Proofs.YtkdpfjenjcpcfaaGreatDoor
open Go.RowKit Go.ChangeShapes Mem Be Word Frm Go.Maps
set_option maxRecDepth 100000
set_option maxHeartbeats 4000000
set_option linter.unusedVariables false
theorem sameall_true (n c m c' : Nat) (A A' : Option Addr) (us vs : List EV) (hn : n = us.length) (hm : m = vs.length) (he : us.map Prod.fst = vs.map Prod.fst) (hl : n ≤ 1073741824) (w : World) (h : EnV w A us) (h' : EnV w A' vs) :
    Calls Tryz.prog 25 #[.slice A n c, .slice A' m c'] w (IsT8 true w) := by
  have hlen : vs.length = us.length := by have := congrArg List.length he; simpa using this.symm
  have hmn : m = n := by omega
  subst hmn
  have HN := Lib.hid hn
  have HM := Lib.hid hm
  have HE := Lib.hid he
  have HU := Lib.hid h
  have HV := Lib.hid h'
  have hni : (m : Int) ≤ 1073741824 := by omega
  have hni0 : (0 : Int) ≤ (m : Int) := by omega
  clear hn hm he h h' hl hlen
  go_enter Tryz.func25, Tryz.ntmps25
  go_wp2
  go_loopw [5] (fun i wr => ∃ k : Nat, k ≤ m ∧ i = .int .i64 k ∧ Hid (Below w.heap.size w wr)) (fun i _ => m - (intOf i).toNat)
  case atStart => exact ⟨0, by omega, rfl, Lib.hid (Below.refl _ _)⟩
  case round =>
    obtain ⟨k, hk, rfl, HB⟩ := hrel
    by_cases hlt : k < m
    · have hk1 : k < us.length := by rw [← HN.out]; exact hlt
      have hk2 : k < vs.length := by rw [← HM.out]; exact hlt
      obtain ⟨b, o, rfl, hb, hc⟩ := ents_open (HU.out.below HB.out).row (by omega)
      obtain ⟨b', o', rfl, hb', hc'⟩ := ents_open (HV.out.below HB.out).row (by omega)
      obtain ⟨a0, a1, a2, a3, a4, a5⟩ := hc k hk1
      obtain ⟨b0, b1, b2, b3, b4, b5⟩ := hc' k hk2
      have v1 := (HU.out.below HB.out).val us[k] (List.getElem_mem hk1)
      have v2 := (HV.out.below HB.out).val vs[k] (List.getElem_mem hk2)
      have hee : (us[k]).1 = (vs[k]).1 := by
        have := List.getElem_of_eq HE.out (i := k) (by simpa using hk1)
        simpa using this
      obtain ⟨⟨x, A1, c1⟩, hx⟩ : ∃ p, us[k]'hk1 = p := ⟨_, rfl⟩
      obtain ⟨⟨y, A2, c2⟩, hy⟩ : ∃ p, vs[k]'hk2 = p := ⟨_, rfl⟩
      rw [hx] at a0 a1 a2 a3 a4 a5 v1 hee
      rw [hy] at b0 b1 b2 b3 b4 b5 v2 hee
      simp only at a0 a1 a2 a3 a4 a5 b0 b1 b2 b3 b4 b5 v1 v2 hee
      subst hee
      have HC := Lib.hid (fun p : Later wr => refsame_true ⟨x.k.toArray⟩ x.s x.u x.o x.has A1 A2 x.v c1 c2 x.v.length x.v.length rfl rfl p.world (v1.below p.bel) (v2.below p.bel))
      have l0 := later_cell a0
      have l1 := later_cell a1
      have l2 := later_cell a2
      have l3 := later_cell a3
      have l4 := later_cell a4
      have l5 := later_cell a5
      have m0 := later_cell b0
      have m1 := later_cell b1
      have m2 := later_cell b2
      have m3 := later_cell b3
      have m4 := later_cell b4
      have m5 := later_cell b5
      have hki : (0 : Int) ≤ (k : Int) := by omega
      have hki2 : (k : Int) < (m : Int) := by omega
      clear hc hc' a0 a1 a2 a3 a4 a5 b0 b1 b2 b3 b4 b5 hx hy v1 v2
      go_wp2_with fail
      refine wp_region_later (by kernel_rfl) (by kernel_rfl) ?_
      repeat (go_big_quiet_step (first
        | (go_at_call 16; exact later_of (HC.out _))))
      refine wpQuiet_nil ?_
      intro w' hw'
      obtain ⟨p, rfl⟩ := hw'
      go_wp2
      go_roundw
      case rel => exact ⟨k + 1, by omega, by go_num, Lib.hid (HB.out.trans (p.bel.mono HB.out.size))⟩
      case measure => simp [intOf]; omega
    · obtain rfl : k = m := by omega
      go_wp2
      go_ret
      exact ⟨rfl, HB.out⟩
end Go.Proofs.YtkdpfjenjcpcfaaGreatDoor
namespace Go.Proofs.YtkdpfjenjcpcfaaGreatDoor
open Go.RowKit Go.ChangeShapes Mem Be Word Frm Go.Maps
set_option maxRecDepth 100000
set_option maxHeartbeats 4000000
set_option linter.unusedVariables false
theorem InD8.move {w w1 : World} {A : Option Addr} {rs : List D8} (h : InD8 w A rs) (hb : Below w.heap.size w w1) : InD8 w1 A rs := fun W hb2 => by
  obtain ⟨h1, h2⟩ := h W (hb.trans (hb2.mono hb.size))
  exact ⟨h1.more hb.size, fun r hr => by have := h2 r hr; exact ⟨this.row.more hb.size, this.cap, this.capm, this.key, this.k0, this.k1, this.p0, this.p1⟩⟩
theorem RowN.grow {F F' : Nat → Prop} {w w' : World} {A : Option Addr} {xs : List Value} (h : RowN F w A xs) (hf : ∀ k, F' k → F k ∨ w.heap.size ≤ k) (ht : Touch F w w') : RowN F' w' A xs := by
  have h2 := h.touch ht
  rcases h with h | ⟨b, o, rfl, hb, hl, hc⟩
  · exact Or.inl h
  · rcases h2 with h2 | ⟨b2, o2, e, hb2, hl2, hc2⟩
    · exact Or.inl h2
    · injection e with e
      injection e with e1 e2
      subst e1; subst e2
      refine Or.inr ⟨_, _, rfl, fun hF => ?_, hl2, hc2⟩
      rcases hf _ hF with h | h
      · exact hb h
      · omega
/-- Entries that lie in a row, apart from F. -/
structure EnN (F : Nat → Prop) (w : World) (A : Option Addr) (us : List EV) : Prop where
  row : RowN F w A (entsC us)
  val : ∀ x ∈ us, RowN F w x.2.1 (x.1.v.map byteV) ∧ x.1.v.length ≤ 60000 ∧ x.1.v.length ≤ x.2.2
theorem EnN.env {F : Nat → Prop} {w : World} {A : Option Addr} {us : List EV} (h : EnN F w A us) : EnV w A us :=
  ⟨h.row.row, fun x hx => ⟨(h.val x hx).1.row, by have := (h.val x hx).2.1; omega, (h.val x hx).2.2⟩⟩
theorem EnN.to {F F' : Nat → Prop} {w w' : World} {A : Option Addr} {us : List EV} (h : EnN F w A us) (hf : ∀ k, F' k → F k ∨ w.heap.size ≤ k) (ht : Touch F w w') : EnN F' w' A us :=
  ⟨h.row.grow hf ht, fun x hx => ⟨(h.val x hx).1.grow hf ht, (h.val x hx).2⟩⟩
theorem EnN.below {F : Nat → Prop} {w w' : World} {A : Option Addr} {us : List EV} (h : EnN F w A us) (hb : Below w.heap.size w w') : EnN F w' A us := h.to (fun k hk => Or.inl hk) (Touch.ofBelow hb)
theorem enN_of {F : Nat → Prop} {w w1 : World} {A : Option Addr} {n c : Nat} {us : List EV} (hF : ∀ k, F k → k < w.heap.size) (ho : w1.ownsRow w.heap.size 46 6 (.slice A n c) n (entsC us)) (he : EntsO w1 w.heap.size us) (hl : ∀ x ∈ us, x.1.v.length ≤ 60000) : EnN F w1 A us :=
  ⟨rowN_own hF ho, fun x hx => ⟨rowN_own hF (he x hx), hl x hx, (own_cap (he x hx)).1⟩⟩
theorem okT_lens {T : List EntP} {us : List EV} (h : OkT T) (he : us.map Prod.fst = T) : ∀ x ∈ us, x.1.v.length ≤ 60000 := fun x hx => by
  have := (rightE_yes (h.2 x.1 (by rw [← he]; exact List.mem_map.2 ⟨x, hx, rfl⟩))).2.2.1
  omega
end Go.Proofs.YtkdpfjenjcpcfaaGreatDoor
