/- CrY: Cl1: A table of a statement's own: one thing that is done; what a table tells once it forgot; what a query tells.
Cl3: What a fill of a table leaves, and a query tells then.
Cl4: What a table tells when it is asked twice.
Cl2: Two tables of a statement's own, one a copy of the other.
Cl5: What is done to a statement's own table: a store, a clean, an evict; what is whole, at the start.
ClI: A room, an entry that come in, opened.
CrA: What is not clean, in rows; whether entries in rows are the same.
CrD: The reference, one thing behind the other.
CrJ: What the reference does, told in the statement: the call, and the boxes for what it tells, in whatever order.
Cl11S: All that is done to a table is told, and leaves it, as the chapter says. -/
import Derived.Test.YtpebhfjcakllmaaGreatClK
import Derived.Test.YtpebhfjcakllmaaGreatClD
import Derived.OpenShut
import Derived.WideShapes
import Derived.Test.YtpebhfjcakllmaaGreatCrZ
import Derived.Test.YtpebhfjcakllmaaGreatClT
import Derived.BigFrame
import Derived.Test.YtpebhfjcakllmaaGreatRelyV
import Derived.Test.YtpebhfjcakllmaaGreatRelyJ
namespace Go.Proofs.YtpebhfjcakllmaaGreat
open Go.RowKit Go.ChangeShapes Mem Be Word Rg Go.Maps
set_option maxRecDepth 10000
set_option maxHeartbeats 4000000
set_option linter.unusedVariables false
theorem InD11.at_ {w0 w : World} {A : Option Addr} {rs : List D11} (h : InD11 w0 A rs) (hb : Below w0.heap.size w0 w) : InD11 w A rs := fun W hb2 => by
  have hb3 := hb.trans (hb2.mono hb.size)
  obtain ⟨h1, h2⟩ := h W hb3
  exact ⟨h1.more hb.size, fun r hr => by have := h2 r hr; exact ⟨this.row.more hb.size, this.cap, this.capm, this.key, this.k0, this.k1, this.p0, this.p1⟩⟩
/-- One thing is done. -/
def DoneT (w0 : World) (F : Nat → Prop) (g b tk q : Nat) (R : Cl × RpP × Bool × Int) (w : World) (e : Ending) (w' : World) : Prop :=
  ∃ A c, e = .returned (.tuple #[repV R.2.1 A c, .bool R.2.2.1, .int .i64 R.2.2.2]) ∧ OwnE w' w.heap.size (R.2.1.e, A, c) ∧ Tb1 w0 w' F g b tk R.1 (q + 1) ∧ Touch (Own3 g b tk) w w'
theorem done11_round {w0 w : World} {A : Option Addr} {rs : List D11} (hin : InD11 w0 A rs) {F : Nat → Prop} {g b tk q k : Nat} {S : Cl} (h : Tb1 w0 w F g b tk S q) (hk : k < rs.length) (hq : q ≤ 100000000000000) :
    Calls Tryz.prog 8 #[.pointer (some ⟨g, 0, none⟩), dV11 rs[k]] w (DoneT w0 F g b tk q (d11S S rs[k]) w) := by
  have hok := (hin w h.bel).2 rs[k] (List.getElem_mem hk)
  have hu := h.us hq
  refine (done11_any h.ok rs[k] ⟨hok.cap, hok.capm⟩ hok.key hu.1 hu.2 w h.at_ (RowN.of_low hok.row h.bel.size fun k hk => (h.own k hk).1)).mono ?_
  rintro e w' ⟨A2, c2, he, ho, ha, ht⟩
  exact ⟨A2, c2, he, ho, h.to (ok_do ⟨h.ok, h.lim⟩ _ _ _) ha ht, ht⟩
theorem tb1_new2 {w0 w : World} {v : Value → Value} {e : Ending} {w' : World} {S : Cl} {q : Nat} (hb : Below w0.heap.size w0 w) (h : NewT v S w e w') (ho : OkC S ∧ LimC S q) : ∃ g b tk, e = .returned (v (.pointer (some ⟨g, 0, none⟩))) ∧ Tb1 w0 w' (Own3 g b tk) g b tk S q ∧ (∀ k, k < w.heap.size → ¬ Own3 g b tk k) ∧ Below w.heap.size w w' := by
  obtain ⟨g, b, tk, h1, h2, h3, h4⟩ := h
  exact ⟨g, b, tk, h1, ⟨fun k hk => by have := hb.size; rcases hk with rfl | rfl | rfl <;> omega, ho.1, ho.2, h3, hb.trans (h4.mono hb.size)⟩, fun k hk ho => by rcases ho with rfl | rfl | rfl <;> omega, h4⟩
/-- What a query of a table tells, and leaves. -/
def QueryT (w0 : World) (F : Nat → Prop) (g b tk q : Nat) (R : Cl × RpP × Int) (w : World) (e : Ending) (w' : World) : Prop :=
  ∃ A c, e = .returned (.tuple #[repV R.2.1 A c, .int .i64 R.2.2]) ∧ RowN (Own3 g b tk) w' A (R.2.1.e.v.map byteV) ∧ (R.2.1.e.v.length ≤ c ∧ c ≤ maxLen) ∧ Tb1 w0 w' F g b tk R.1 (q + 1) ∧ Touch (Own3 g b tk) w w'
theorem Tb1.query {w0 w : World} {F : Nat → Prop} {g b tk q : Nat} {S : Cl} (h : Tb1 w0 w F g b tk S q) (k : List UInt8) (hk : k.length ≤ maxLen) (hq : q ≤ 100000000000000) :
    Calls Tryz.prog 23 #[.pointer (some ⟨g, 0, none⟩), .string ⟨k.toArray⟩] w (QueryT w0 F g b tk q (queryS S k) w) := by
  refine (query_any h.ok k hk (h.us hq).1 w h.at_).mono ?_
  rintro e w' ⟨A2, c2, he, ho, ha, ht⟩
  exact ⟨A2, c2, he, rowN_own (fun k hk => (h.own k hk).2) ho, ⟨(own_cap ho).1, (own_cap ho).2⟩, h.to (ok_query ⟨h.ok, h.lim⟩ k) ha ht, ht⟩
theorem Tb1.fill {w0 w : World} {F : Nat → Prop} {g b tk q : Nat} {S : Cl} (h : Tb1 w0 w F g b tk S q) (x : EV) (t : Int) (hl : x.1.v.length ≤ x.2.2 ∧ x.2.2 ≤ maxLen) (hk : x.1.k.length ≤ maxLen) (hN : RowN (Own3 g b tk) w x.2.1 (x.1.v.map byteV)) (hq : q ≤ 100000000000000) :
    Calls Tryz.prog 26 #[.pointer (some ⟨g, 0, none⟩), entV ⟨x.1.k.toArray⟩ x.1.s x.1.u x.1.o x.1.has x.2.1 x.1.v.length x.2.2, .int .i64 t] w (fun e w' => e = .returned (.tuple #[.bool (fillS S x.1 t).2.1, .int .i64 (fillS S x.1 t).2.2]) ∧ Tb1 w0 w' F g b tk (fillS S x.1 t).1 (q + 1) ∧ Touch (Own3 g b tk) w w') := by
  have hu := h.us hq
  refine (fill_any h.ok x t hl hk hu.1 hu.2 w h.at_ hN).mono ?_
  rintro e w' ⟨he, ha, ht⟩
  exact ⟨he, h.to (ok_fill ⟨h.ok, h.lim⟩ _ _) ha ht, ht⟩
theorem Tb1.forget {w0 w : World} {F : Nat → Prop} {g b tk q : Nat} {S : Cl} (h : Tb1 w0 w F g b tk S q) (hq : q ≤ 100000000000000) :
    Calls Tryz.prog 25 #[.pointer (some ⟨g, 0, none⟩)] w (fun e w' => e = .returned (.tuple #[]) ∧ Tb1 w0 w' F g b tk (forgetS S) (q + 1) ∧ Touch (Own3 g b tk) w w') := by
  have hu := h.us hq
  refine (forget_any h.ok (fun t ht => by have := hu.2 t ht; omega) w h.at_).mono ?_
  rintro e w' ⟨he, ha, ht⟩
  exact ⟨he, h.to (ok_forget ⟨h.ok, h.lim⟩) ha ht, ht⟩
/-- The tokens that are told. -/
theorem Tb1.tokens {w0 w : World} {F : Nat → Prop} {g b tk q : Nat} {S : Cl} (h : Tb1 w0 w F g b tk S q) :
    Calls Tryz.prog 15 #[.pointer (some ⟨g, 0, none⟩)] w (fun e w' => ∃ A c, e = .returned (.slice A S.nb c) ∧ RowN (Own3 g b tk) w' A (S.tok.map iV) ∧ Below w.heap.size w w') := by
  refine (tokens_any h.ok w h.at_).mono ?_
  rintro e w' ⟨A2, c2, he, ho, hb⟩
  rw [h.ok.tl] at he
  exact ⟨A2, c2, he, rowN_own (fun k hk => (h.own k hk).2) ho, hb⟩
theorem Tb1.cellsC {w0 w : World} {F : Nat → Prop} {g b tk q : Nat} {S : Cl} (h : Tb1 w0 w F g b tk S q) :
    Calls Tryz.prog 13 #[.pointer (some ⟨g, 0, none⟩)] w (fun e w' => ∃ (us : List CV) (A : Option Addr) (c : Nat), us.map Prod.fst = S.T ∧ e = .returned (.slice A us.length c) ∧ CeN (Own3 g b tk) w' A us ∧ us.length ≤ 4096 ∧ Below w.heap.size w w') :=
  (cells_any h.ok w h.at_).mono fun e w' hx => h.cells hx
theorem query_ok {S : Cl} {k : List UInt8} (h0 : k ≠ []) (h1 : k.length ≤ 250) : (queryS S k).2.2 = 0 ∧ (queryS S k).2.1.tok = tokK S k ∧ (queryS S k).1.tok = S.tok ∧ (queryS S k).1.nb = S.nb ∧ (queryS S k).2.1.e.k = k := by
  unfold queryS
  rw [if_neg (by intro h; rcases h with h | h; exact h0 h; omega)]
  cases hg : getK kP S.T k with
  | none => exact ⟨rfl, rfl, rfl, rfl, rfl⟩
  | some x => exact ⟨rfl, rfl, rfl, rfl, (get_some hg).2⟩
theorem forget_query {S : Cl} (ok : OkC S) (k : List UInt8) : (queryS (forgetS S) k).2.1.wh = false := by
  unfold queryS
  split
  · rfl
  · cases hg : getK kP (forgetS S).T k with
    | none =>
      have ok2 : OkC (forgetS S) := (ok_forget (q := S.us.toNat + 1 + (S.tok.map Int.toNat).sum) ⟨ok, ⟨by have := ok.u0; omega, fun t ht => by
        have h1 : t.toNat ≤ (S.tok.map Int.toNat).sum := by
          have h2 : t.toNat ∈ S.tok.map Int.toNat := List.mem_map_of_mem ht
          generalize S.tok.map Int.toNat = l at h2 ⊢
          induction l with
          | nil => cases h2
          | cons a r ih =>
            rw [List.sum_cons]
            rcases List.mem_cons.1 h2 with rfl | h2
            · omega
            · have := ih h2; omega
        have := ok.t0 t ht; omega⟩⟩).1
      have hm := tokK_mem ok2 k
      obtain ⟨t, ht, he⟩ := List.mem_map.1 (show tokK (forgetS S) k ∈ S.tok.map (· + 1) from hm)
      have := ok.t0 t ht
      show (tokK (forgetS S) k == 0) = false
      simp
      omega
    | some x =>
      obtain ⟨y, hy, rfl⟩ := List.mem_map.1 (show x ∈ S.T.map unW from (get_some hg).1)
      rfl
end Go.Proofs.YtpebhfjcakllmaaGreat
namespace Go.Proofs.YtpebhfjcakllmaaGreat
open Go.RowKit Go.ChangeShapes Mem Be Word Rg Go.Maps
set_option maxRecDepth 10000
set_option maxHeartbeats 4000000
set_option linter.unusedVariables false
theorem fill_wrong {S : Cl} {e : EntP} {t : Int} (h : t ≠ tokK S e.k) : (fillS S e t).2.1 = false ∧ (fillS S e t).1 = S := by
  unfold fillS
  split
  · exact ⟨rfl, rfl⟩
  · first | exact ⟨rfl, rfl⟩ | (rw [if_pos h]; exact ⟨rfl, rfl⟩)
/-- The room of a table stays. -/
def SameR (S S' : Cl) : Prop := S'.rc = S.rc ∧ S'.rb = S.rb ∧ S'.nb = S.nb
theorem sameR_lay {S : Cl} {e : EntP} {wh cl : Bool} (hs : SortT kP S.T) : SameR S (layS S e wh cl).1 := by
  rcases lay_cases S e wh cl hs with ⟨h, _⟩ | ⟨_, h⟩
  · rw [h]; exact ⟨rfl, rfl, rfl⟩
  · rw [h]
    have := evs_keep (room_evs (S.T.length + 1) S e) hs
    exact ⟨this.rc, this.rb, this.nb⟩
theorem sameR_do {S : Cl} (hs : SortT kP S.T) (kd : Int) (e : EntP) (t : Int) : SameR S (doS S kd e t).1 := by
  have hr : SameR S S := ⟨rfl, rfl, rfl⟩
  unfold doS
  split
  · unfold queryS
    split
    · exact hr
    · cases getK kP S.T e.k <;> exact hr
  split
  · unfold storeS
    split
    · exact hr
    · cases hg : getK kP S.T e.k with
      | none => exact sameR_lay hs
      | some x =>
        simp only
        split
        · exact hr
        · exact sameR_lay hs
  split
  · unfold fillS
    split
    · exact hr
    split
    · exact hr
    · cases hg : getK kP S.T e.k with
      | none => exact sameR_lay hs
      | some x =>
        simp only
        split
        · exact hr
        · exact sameR_lay hs
  split
  · unfold cleanS
    cases hg : getK kP S.T e.k with
    | none => exact hr
    | some x =>
      simp only
      split <;> exact hr
  split
  · exact hr
  · unfold evictS
    cases hg : getK kP S.T e.k with
    | none => exact hr
    | some x =>
      simp only
      split <;> exact hr
theorem fold_room {q : Nat} : ∀ (rs : List D11) (S : Cl), OkC S ∧ LimC S q → SameR S (rs.foldl (fun S d => (d11S S d).1) S)
  | [], S, _ => ⟨rfl, rfl, rfl⟩
  | d :: rs, S, h => by
    have h1 := ok_do h d.kind d.e.1 d.tok
    have h2 := sameR_do h.1.srt d.kind d.e.1 d.tok
    have h3 := fold_room (q := q + 1) rs (d11S S d).1 h1
    rw [List.foldl_cons]
    exact ⟨h3.1.trans h2.1, h3.2.1.trans h2.2.1, h3.2.2.trans h2.2.2⟩
theorem newS_room (rc rb : Int) (nb : Nat) (fr : Bool) : (newS rc rb nb fr).rc = rc ∧ (newS rc rb nb fr).rb = rb ∧ (newS rc rb nb fr).nb = nb := by
  unfold newS
  split <;> exact ⟨rfl, rfl, rfl⟩
theorem map_inc_ne {l : List Int} (i : Nat) (h1 : i < (l.map (· + 1)).length) (h2 : i < l.length) : (l.map (· + 1))[i] ≠ l[i] := by
  rw [List.getElem_map]
  omega
/-- What one loads of a cell that lies in a row. -/
theorem CeV.at_ {w : World} {A : Option Addr} {us : List CV} (h : CeV w A us) (hn : 0 < us.length) : ∃ b o, A = some ⟨b, o, none⟩ ∧ ∀ i (hi : i < us.length), (w.cell? ⟨b, o + i * 9, none⟩ = some (.string ⟨us[i].1.e.k.toArray⟩) ∧ ∀ j v, (cellC us[i])[j]? = some v → w.cell? ⟨b, o + i * 9 + j, none⟩ = some v) := by
  obtain ⟨b, o, hA, _, hc⟩ := cells_open h.row hn
  refine ⟨b, o, hA, fun i hi => ⟨?_, hc i hi⟩⟩
  have := hc i hi 0 _ rfl
  rwa [Nat.add_zero] at this
end Go.Proofs.YtpebhfjcakllmaaGreat
namespace Go.Proofs.YtpebhfjcakllmaaGreat
open Go.RowKit Go.ChangeShapes Mem Be Word Rg Go.Maps
set_option maxRecDepth 10000
set_option maxHeartbeats 1000000
set_option linter.unusedVariables false
theorem fill_fails {S : Cl} {t : Int} (ok : OkC S) (e : EntP) (hf : (fillS S e t).2.1 = false) (ht : t = tokK S e.k) : (fillS S e t).1 = S ∧ ((fillS S e t).2.2 = 30 ∨ (fillS S e t).2.2 = 2) := by
  have hl : (layF S e).2.1 = false → (layF S e).1 = S ∧ ((layF S e).2.2 = 30 ∨ (layF S e).2.2 = 2) := fun h => by
    unfold layF at h ⊢
    rcases lay_cases S e true true ok.srt with ⟨h1, _⟩ | ⟨_, h1⟩
    · rw [h1]; exact ⟨rfl, Or.inl rfl⟩
    · rw [h1] at h; cases h
  by_cases h1 : okE e
  · have h2 : fillS S e t = match getK kP S.T e.k with | none => layF S e | some x => if 0 < cE x.e e then (useS S { x with wh := true }, true, 0) else layF S e := by
      unfold fillS
      rw [if_neg (not_not_intro h1), if_neg (not_not_intro ht)]
      cases getK kP S.T e.k <;> rfl
    rw [h2] at hf ⊢
    cases hg : getK kP S.T e.k with
    | none => rw [hg] at hf; exact hl hf
    | some x =>
      rw [hg] at hf
      simp only at hf ⊢
      by_cases h3 : 0 < cE x.e e
      · rw [if_pos h3] at hf; cases hf
      · rw [if_neg h3] at hf ⊢
        exact hl hf
  · have h2 : fillS S e t = (S, false, 2) := by unfold fillS; rw [if_pos h1]
    rw [h2]; exact ⟨rfl, Or.inr rfl⟩
theorem query_put {S : Cl} {k : List UInt8} (h0 : k ≠ []) (h1 : k.length ≤ 250) {y : CP} (hy : getK kP S.T k = some y) : (queryS S k).2.2 = 0 ∧ (queryS S k).2.1.wh = y.wh ∧ (queryS S k).2.1.e = y.e := by
  unfold queryS
  rw [if_neg (by intro h; rcases h with h | h; exact h0 h; omega), hy]
  exact ⟨rfl, rfl, rfl⟩
theorem fill_tells {S : Cl} {t : Int} (ok : OkC S) (e : EntP) (hf : (fillS S e t).2.1 = true) : (fillS S e t).2.2 = 0 ∧ (queryS (fillS S e t).1 e.k).2.2 = 0 ∧ (queryS (fillS S e t).1 e.k).2.1.wh = true ∧ 0 ≤ cmpT (queryS (fillS S e t).1 e.k).2.1.e.s (queryS (fillS S e t).1 e.k).2.1.e.u (queryS (fillS S e t).1 e.k).2.1.e.o e.s e.u e.o := by
  by_cases h1 : okE e
  · obtain ⟨_, k1, _, k0⟩ := sizE_le h1
    have hk0 : e.k ≠ [] := fun h => by rw [h] at k0; simp at k0
    have hl : (layF S e).2.1 = true → (layF S e).2.2 = 0 ∧ (queryS (layF S e).1 e.k).2.2 = 0 ∧ (queryS (layF S e).1 e.k).2.1.wh = true ∧ 0 ≤ cmpT (queryS (layF S e).1 e.k).2.1.e.s (queryS (layF S e).1 e.k).2.1.e.u (queryS (layF S e).1 e.k).2.1.e.o e.s e.u e.o := fun h => by
      unfold layF at h ⊢
      rcases lay_cases S e true true ok.srt with ⟨h1, _⟩ | ⟨_, h1⟩
      · rw [h1] at h; cases h
      · rw [h1]
        simp only
        have hg : getK kP (useS (roomS S e).1 ⟨e, true, true, 0⟩).T e.k = some ⟨e, true, true, (roomS S e).1.us + 1⟩ := by
          show getK kP (putK kP _ _) e.k = _
          rw [get_put, if_pos rfl]
        obtain ⟨q1, q2, q3⟩ := query_put hk0 k1 hg
        rw [q1, q2, q3]
        exact ⟨by trivial, by trivial, by trivial, (geT_iff _ _ _ _ _ _).2 (geT_refl _)⟩
    by_cases h2 : t = tokK S e.k
    · have h3 : fillS S e t = match getK kP S.T e.k with | none => layF S e | some x => if 0 < cE x.e e then (useS S { x with wh := true }, true, 0) else layF S e := by
        unfold fillS
        rw [if_neg (not_not_intro h1), if_neg (not_not_intro h2)]
        cases getK kP S.T e.k <;> rfl
      rw [h3] at hf ⊢
      cases hg : getK kP S.T e.k with
      | none => rw [hg] at hf; exact hl hf
      | some x =>
        rw [hg] at hf
        simp only at hf ⊢
        by_cases h4 : 0 < cE x.e e
        · rw [if_pos h4]
          have hxk : x.e.k = e.k := (get_some hg).2
          have hg2 : getK kP (useS S { x with wh := true }).T e.k = some { x with wh := true, us := S.us + 1 } := by
            show getK kP (putK kP _ _) e.k = _
            rw [get_put, if_pos hxk]
          obtain ⟨q1, q2, q3⟩ := query_put hk0 k1 hg2
          simp only
          rw [q1, q2, q3]
          exact ⟨by trivial, by trivial, by trivial, by have := h4; unfold cE at this; simp only; omega⟩
        · rw [if_neg h4] at hf ⊢
          exact hl hf
    · have h3 := (fill_wrong (S := S) (e := e) h2).1
      rw [h3] at hf; cases hf
  · have h2 : fillS S e t = (S, false, 2) := by unfold fillS; rw [if_pos h1]
    rw [h2] at hf; cases hf
end Go.Proofs.YtpebhfjcakllmaaGreat
namespace Go.Proofs.YtpebhfjcakllmaaGreat
open Go.RowKit Go.ChangeShapes Mem Be Word Rg Go.Maps
set_option maxRecDepth 10000
set_option maxHeartbeats 1000000
set_option linter.unusedVariables false
theorem query_eq {S : Cl} {k : List UInt8} (h0 : k ≠ []) (h1 : k.length ≤ 250) : queryS S k = match getK kP S.T k with | none => (S, ⟨entN k, tokK S k == 0, tokK S k⟩, 0) | some x => (useS S x, ⟨x.e, x.wh, tokK S k⟩, 0) := by
  unfold queryS
  rw [if_neg (by intro h; rcases h with h | h; exact h0 h; omega)]
  cases getK kP S.T k <;> rfl
theorem use_same {S : Cl} {x : CP} (ok : OkC S) (hx : x ∈ S.T) : (useS S x).T.length = S.T.length ∧ sumC (useS S x).T = sumC S.T ∧ getK kP (useS S x).T x.e.k = some { x with us := S.us + 1 } ∧ OkC (useS S x) := by
  refine ⟨?_, sum_put_same ok.srt hx rfl, ?_, ok_used ok hx rfl⟩
  · show (putK kP S.T { x with us := S.us + 1 }).length = _
    rw [len_put, (del_cons ok.srt hx).1]
  · show getK kP (putK kP S.T { x with us := S.us + 1 }) x.e.k = _
    rw [get_put]
    exact if_pos rfl
theorem query_twice {S : Cl} (ok : OkC S) {k : List UInt8} (h0 : k ≠ []) (h1 : k.length ≤ 250) : ∃ (S2 : Cl) (s u o : Int) (has wh : Bool) (v : List UInt8) (t : Int), queryS S k = ((queryS S k).1, ⟨⟨k, s, u, o, has, v⟩, wh, t⟩, 0) ∧ queryS (queryS S k).1 k = (S2, ⟨⟨k, s, u, o, has, v⟩, wh, t⟩, 0) ∧ S2.T.length = S.T.length ∧ sumC S2.T = sumC S.T ∧ (∀ c ∈ S2.T, c.e.k = k → c.e = ⟨k, s, u, o, has, v⟩) ∧ ((∀ c ∈ S2.T, c.e.k ≠ k) → s = 0 ∧ has = false) ∧ v.length ≤ 60000 := by
  cases hg : getK kP S.T k with
  | none =>
    have e1 : queryS S k = (S, ⟨entN k, tokK S k == 0, tokK S k⟩, 0) := by rw [query_eq h0 h1, hg]
    refine ⟨S, 0, 0, 0, false, tokK S k == 0, [], tokK S k, ?_, ?_, rfl, rfl, ?_, ?_, by simp⟩
    · rw [e1]; rfl
    · rw [e1]; exact e1
    · exact fun c hc he => absurd he (get_none.1 hg c hc)
    · exact fun _ => ⟨rfl, rfl⟩
  | some x =>
    obtain ⟨hx, hk⟩ := get_some hg
    have e1 : queryS S k = (useS S x, ⟨x.e, x.wh, tokK S k⟩, 0) := by rw [query_eq h0 h1, hg]
    obtain ⟨l1, s1, g1, ok1⟩ := use_same ok hx
    obtain ⟨y, hy⟩ : ∃ y : CP, y = { x with us := S.us + 1 } := ⟨_, rfl⟩
    rw [← hy] at g1
    have hye : y.e = x.e := by rw [hy]
    have hyw : y.wh = x.wh := by rw [hy]
    have hkk : x.e.k = k := hk
    rw [hkk] at g1
    obtain ⟨hy1, hy2⟩ := get_some g1
    obtain ⟨l2, s2, g2, ok2⟩ := use_same ok1 hy1
    have e2 : queryS (useS S x) k = (useS (useS S x) y, ⟨y.e, y.wh, tokK S k⟩, 0) := by rw [query_eq h0 h1, g1]; rfl
    obtain ⟨e, wh, cl, us⟩ := x
    obtain ⟨xk, s, u, o, has, v⟩ := e
    simp only at hkk
    subst hkk
    refine ⟨useS (useS S ⟨⟨xk, s, u, o, has, v⟩, wh, cl, us⟩) y, s, u, o, has, wh, v, tokK S xk, ?_, ?_, ?_, ?_, ?_, ?_, ?_⟩
    · rw [e1]
    · rw [e1, e2, hye, hyw]
    · rw [l2, l1]
    · rw [s2, s1]
    · intro c hc he
      have h3 := get_mem ok2.srt hc
      have h4 : kP c = y.e.k := by show c.e.k = y.e.k; rw [he, hye]
      rw [h4, g2] at h3
      rw [← Option.some.inj h3]
      exact hye
    · intro hn
      have h3 := get_some g2
      have h5 := hn _ h3.1
      exact absurd (show y.e.k = xk by rw [hye]) h5
    · exact (sizE_le (ok.ok _ hx)).2.2.1
theorem Tb1.size {w0 w : World} {F : Nat → Prop} {g b tk q : Nat} {S : Cl} (h : Tb1 w0 w F g b tk S q) (x y : Int) (hx : (S.T.length : Int) = x) (hy : (sumC S.T : Int) = y) :
    Calls Tryz.prog 10 #[.pointer (some ⟨g, 0, none⟩)] w (IsII0 x y w) := by
  rw [← hx, ← hy]
  exact sizeT_any w h.at_
theorem Tb1.queryX {w0 w : World} {F : Nat → Prop} {g b tk q : Nat} {S : Cl} (h : Tb1 w0 w F g b tk S q) {k : List UInt8} (hk : k.length ≤ maxLen) (hq : q ≤ 100000000000000) {S1 : Cl} {s u o : Int} {has wh : Bool} {v : List UInt8} {t : Int} (hR : queryS S k = (S1, ⟨⟨k, s, u, o, has, v⟩, wh, t⟩, 0)) :
    Calls Tryz.prog 23 #[.pointer (some ⟨g, 0, none⟩), .string ⟨k.toArray⟩] w (fun e w' => ∃ A c, e = .returned (.tuple #[.agg #[.string ⟨k.toArray⟩, .int .i64 s, .int .i64 u, .int .i64 o, .bool has, .slice A v.length c, .bool wh, .int .i64 t], .int .i64 0]) ∧ RowN (Own3 g b tk) w' A (v.map byteV) ∧ (v.length ≤ c ∧ c ≤ maxLen) ∧ Tb1 w0 w' F g b tk S1 (q + 1) ∧ Touch (Own3 g b tk) w w') := by
  have := h.query k hk hq
  rw [hR] at this
  exact this
end Go.Proofs.YtpebhfjcakllmaaGreat
namespace Go.Proofs.YtpebhfjcakllmaaGreat
open Go.RowKit Go.ChangeShapes Mem Be Word Rg Go.Maps
set_option maxRecDepth 10000
set_option maxHeartbeats 4000000
set_option linter.unusedVariables false
/-- The blocks of both. -/
def Both (g b tk g2 b2 tk2 : Nat) (k : Nat) : Prop := Own3 g b tk k ∨ Own3 g2 b2 tk2 k
theorem CeN.grow {F F' : Nat → Prop} {w w' : World} {A : Option Addr} {us : List CV} (h : CeN F w A us) (hf : ∀ k, F' k → F k ∨ w.heap.size ≤ k) (ht : Touch F w w') : CeN F' w' A us :=
  ⟨h.row.later11 hf ht, fun x hx => ⟨(h.val x hx).1.later11 hf ht, (h.val x hx).2⟩⟩
theorem CeN.weak {F F' : Nat → Prop} {w : World} {A : Option Addr} {us : List CV} (h : CeN F w A us) (hf : ∀ k, F' k → F k) : CeN F' w A us :=
  ⟨h.row.later11 (fun k hk => Or.inl (hf k hk)) (Touch.refl _ _), fun x hx => ⟨(h.val x hx).1.later11 (fun k hk => Or.inl (hf k hk)) (Touch.refl _ _), (h.val x hx).2⟩⟩
theorem both_grow {w : World} {g b tk g2 b2 tk2 : Nat} (hn : w.heap.size ≤ g2 ∧ w.heap.size ≤ b2 ∧ w.heap.size ≤ tk2) : ∀ k, Both g b tk g2 b2 tk2 k → Own3 g b tk k ∨ w.heap.size ≤ k := fun k hk => by
  rcases hk with hk | hk
  · exact Or.inl hk
  · exact Or.inr (by rcases hk with rfl | rfl | rfl <;> omega)
theorem sameints_true11 (B B' c c' n n' : Nat) (A A' : Option Addr) (xs : List Int) (w : World) (h : Row w B A (xs.map iV)) (h' : Row w B' A' (xs.map iV)) (hn : n = xs.length) (hn' : n' = xs.length) (hl : xs.length ≤ 1000000) :
    Calls Tryz.prog 14 #[.slice A n c, .slice A' n' c'] w (IsB true w) :=
  (sameints_true B B' c c' n n' A A' xs w h h' hn hn' hl).mono fun e w' ⟨he, q, hq⟩ => ⟨he, by rw [hq]; exact below_drew' _ _ _⟩
/-- The cells that are told of a table, apart from whatever it is told to stand apart from. -/
theorem Tb1.cellsF {w0 w : World} {F : Nat → Prop} {g b tk q : Nat} {S : Cl} (h : Tb1 w0 w F g b tk S q) :
    Calls Tryz.prog 13 #[.pointer (some ⟨g, 0, none⟩)] w (fun e w' => ∃ (us : List CV) (A : Option Addr) (c : Nat), us.map Prod.fst = S.T ∧ e = .returned (.slice A us.length c) ∧ CeN F w' A us ∧ us.length ≤ 4096 ∧ Below w.heap.size w w') := by
  refine (cells_any h.ok w h.at_).mono fun e w' hx => ?_
  obtain ⟨us, A, c, h1, h2, h3, h4, h5⟩ := hx
  have hF : ∀ k, F k → k < w.heap.size := by
    obtain ⟨V, c, ha⟩ := h.at_
    exact ha.lt
  refine ⟨us, A, c, h1, h2, ⟨rowN_own hF h3, fun x hx => ?_⟩, ?_, h5⟩
  · have ho := h4 (evC x) (List.mem_map_of_mem hx)
    have hok : x.1 ∈ S.T := by rw [← h1]; exact List.mem_map_of_mem hx
    exact ⟨rowN_own hF ho, (own_cap ho).1, (own_cap ho).2, (sizE_le (h.ok.ok _ hok)).2.2.1⟩
  · have e1 : us.length = S.T.length := by rw [← h1, List.length_map]
    have h6 := h.ok.len
    have h7 := h.ok.rc
    omega
end Go.Proofs.YtpebhfjcakllmaaGreat
namespace Go.Proofs.YtpebhfjcakllmaaGreat
open Go.RowKit Go.ChangeShapes Mem Be Word Rg Go.Maps
set_option maxRecDepth 10000
set_option maxHeartbeats 1000000
set_option linter.unusedVariables false
section
variable {w0 w : World} {F : Nat → Prop} {g b tk q : Nat} {S : Cl}
theorem Tb1.store (h : Tb1 w0 w F g b tk S q) (x : EV) (hl : x.1.v.length ≤ x.2.2 ∧ x.2.2 ≤ maxLen) (hk : x.1.k.length ≤ maxLen) (hN : RowN (Own3 g b tk) w x.2.1 (x.1.v.map byteV)) (hq : q ≤ 100000000000000) :
    Calls Tryz.prog 20 #[.pointer (some ⟨g, 0, none⟩), entV ⟨x.1.k.toArray⟩ x.1.s x.1.u x.1.o x.1.has x.2.1 x.1.v.length x.2.2] w (fun e w' => e = .returned (.int .i64 (storeS S x.1).2) ∧ Tb1 w0 w' F g b tk (storeS S x.1).1 (q + 1) ∧ Touch (Own3 g b tk) w w') := by
  have hu := h.us hq
  refine (store_any h.ok x hl hk hu.1 hu.2 w h.at_ hN).mono ?_
  rintro e w' ⟨he, ha, ht⟩
  exact ⟨he, h.to (ok_store ⟨h.ok, h.lim⟩ _) ha ht, ht⟩
theorem Tb1.clean (h : Tb1 w0 w F g b tk S q) (k : List UInt8) (hk : k.length ≤ maxLen) (s u o : Int) :
    Calls Tryz.prog 22 #[.pointer (some ⟨g, 0, none⟩), .string ⟨k.toArray⟩, .agg #[.int .i64 s, .int .i64 u, .int .i64 o]] w (fun e w' => e = .returned (.bool (cleanS S k s u o).2) ∧ Tb1 w0 w' F g b tk (cleanS S k s u o).1 q ∧ Touch (Own3 g b tk) w w') := by
  refine (clean_any h.ok k hk s u o w h.at_).mono ?_
  rintro e w' ⟨he, ha, ht⟩
  refine ⟨he, h.to ⟨(ok_clean ⟨h.ok, h.lim⟩ k s u o).1, ?_⟩ ha ht, ht⟩
  have hl := h.lim
  unfold cleanS
  cases getK kP S.T k with
  | none => exact hl
  | some x =>
    simp only
    split
    · exact hl
    · exact ⟨hl.1, hl.2⟩
theorem Tb1.evict (h : Tb1 w0 w F g b tk S q) (k : List UInt8) (hk : k.length ≤ maxLen) (hq : q ≤ 100000000000000) :
    Calls Tryz.prog 27 #[.pointer (some ⟨g, 0, none⟩), .string ⟨k.toArray⟩] w (fun e w' => e = .returned (.bool (evictS S k).2) ∧ Tb1 w0 w' F g b tk (evictS S k).1 (q + 1) ∧ Touch (Own3 g b tk) w w') := by
  have hu := h.us hq
  refine (evictC_any h.ok k hk (fun t ht => by have := hu.2 t ht; omega) w h.at_).mono ?_
  rintro e w' ⟨he, ha, ht⟩
  exact ⟨he, h.to (ok_evict ⟨h.ok, h.lim⟩ _) ha ht, ht⟩
end
theorem rowN_own3 {F : Nat → Prop} {w : World} {A : Option Addr} {xs : List Value} {G : Nat → Prop} (h : RowN F w A xs) (hG : ∀ k, G k → F k) : RowN G w A xs := by
  rcases h with h | ⟨b, o, e, hf, hb, hc⟩
  · exact Or.inl h
  · exact Or.inr ⟨b, o, e, fun x => hf (hG b x), hb, hc⟩
theorem wh_new (rc rb : Int) (nb : Nat) (k : List UInt8) : WhI (newS rc rb nb true) k (entN k) (0, 0, 0) := by
  have : newS rc rb nb true = new0 rc rb nb true := by unfold newS; rw [if_pos rfl]
  rw [this]
  exact ⟨rfl, fun x hx => (by cases hx), fun _ _ => rfl, Or.inl (geT_refl _), fun x hx => (by cases hx)⟩
theorem clean_ent {S : Cl} {k : List UInt8} {s u o : Int} {T0 : List CP} (h : ∀ x ∈ S.T, ∃ y ∈ T0, y.e = x.e) : ∀ x ∈ (cleanS S k s u o).1.T, ∃ y ∈ T0, y.e = x.e := by
  unfold cleanS
  cases hg : getK kP S.T k with
  | none => exact h
  | some x =>
    simp only
    split
    · exact h
    · intro z hz
      rcases mem_put.1 hz with rfl | ⟨hz, _⟩
      · exact h x (get_some hg).1
      · exact h z hz
/-- Three cells of a block are written. -/
theorem box3 {w : World} {p : Nat} {ty : TypeId} {a b c : Value} (h : Blk w p ty #[a, b, c]) (x y z : Value) : Blk (((w.setCell ⟨p, 0, none⟩ x).setCell ⟨p, 1, none⟩ y).setCell ⟨p, 2, none⟩ z) p ty #[x, y, z] := by
  have := ((h.set_ 0 x).set_ 1 y).set_ 2 z
  simpa using this
theorem box6 {w : World} {p : Nat} {ty : TypeId} {a b c d e f : Value} (h : Blk w p ty #[a, b, c, d, e, f]) (x y z u v t : Value) : Blk ((((((w.setCell ⟨p, 0, none⟩ x).setCell ⟨p, 1, none⟩ y).setCell ⟨p, 2, none⟩ z).setCell ⟨p, 3, none⟩ u).setCell ⟨p, 4, none⟩ v).setCell ⟨p, 5, none⟩ t) p ty #[x, y, z, u, v, t] := by
  have := (((((h.set_ 0 x).set_ 1 y).set_ 2 z).set_ 3 u).set_ 4 v).set_ 5 t
  simpa using this
theorem touch3 (w : World) (p : Nat) (x y z : Value) : Touch (fun k => k = p) w (((w.setCell ⟨p, 0, none⟩ x).setCell ⟨p, 1, none⟩ y).setCell ⟨p, 2, none⟩ z) := by
  have h0 : Touch (fun k => k = p) w w := Touch.refl _ w
  have h1 := h0.set_ (p := ⟨p, 0, none⟩) (Or.inl rfl) x
  have h2 := h1.set_ (p := ⟨p, 1, none⟩) (Or.inl rfl) y
  exact h2.set_ (p := ⟨p, 2, none⟩) (Or.inl rfl) z
theorem touch6 (w : World) (p : Nat) (x y z u v t : Value) : Touch (fun k => k = p) w ((((((w.setCell ⟨p, 0, none⟩ x).setCell ⟨p, 1, none⟩ y).setCell ⟨p, 2, none⟩ z).setCell ⟨p, 3, none⟩ u).setCell ⟨p, 4, none⟩ v).setCell ⟨p, 5, none⟩ t) := by
  have h2 := touch3 w p x y z
  have h3 := h2.set_ (p := ⟨p, 3, none⟩) (Or.inl rfl) u
  have h4 := h3.set_ (p := ⟨p, 4, none⟩) (Or.inl rfl) v
  exact h4.set_ (p := ⟨p, 5, none⟩) (Or.inl rfl) t
end Go.Proofs.YtpebhfjcakllmaaGreat
namespace Go.Proofs.YtpebhfjcakllmaaGreat
open Go.RowKit Go.ChangeShapes Go.WideShapes Mem
set_option maxRecDepth 100000
theorem open_room11 {H : Type} {enc : TypeId × Value → H} {w : World} {base : Nat} {held : Bool} {r : Reach} {b0 : Nat} {v : Value} {d : DataW H} {ps : List MemPlace} (hv : Value.okWide Tryz.prog w r b0 23 v) (h : DataW.Trod enc Tryz.prog w base (fun _ => true) held 23 v d ps) :
    ∃ (rc rb nb : Int) (fr : Bool), v = .agg #[.int .i64 rc, .int .i64 rb, .int .i64 nb, .bool fr] := by
  obtain ⟨cs, rfl, hsz⟩ := okWide_struct Tryz.underlying23 hv
  obtain ⟨l⟩ := cs
  have hC : Tryz.prog.cellsOf 23 = 4 := by kernel_rfl
  match l, hsz.trans hC with
  | [c0, c1, c2, c3], _ =>
    obtain ⟨fuel, hf⟩ := h
    obtain ⟨xs, n, _, _, _, hlen, hg⟩ := DataW.trod_struct Tryz.underlying23 (by simpa [Value.cells] using hf)
    have e1 : Tryz.prog.cellsOf 3 = 1 := by kernel_rfl
    have e2 : Tryz.prog.cellsOf 4 = 1 := by kernel_rfl
    match xs, hlen with
    | [y0, y1, y2, y3], _ =>
      have h0 := hg 0 _ rfl
      have h1 := hg 1 _ rfl
      have h2 := hg 2 _ rfl
      have h3 := hg 3 _ rfl
      obtain ⟨s, hs, _, ws⟩ := DataW.trod_int Tryz.underlying3 (x := y0) (by simpa [e1, e2] using h0)
      obtain ⟨u, hu, _, wu⟩ := DataW.trod_int Tryz.underlying3 (x := y1) (by simpa [e1, e2] using h1)
      obtain ⟨o, ho, _, wo⟩ := DataW.trod_int Tryz.underlying3 (x := y2) (by simpa [e1, e2] using h2)
      obtain ⟨b, hb, _⟩ := DataW.trod_bool Tryz.underlying4 (x := y3) (by simpa [e1, e2] using h3)
      have q0 : c0 = .int .i64 s := by simpa using hs
      have q1 : c1 = .int .i64 u := by simpa using hu
      have q2 : c2 = .int .i64 o := by simpa using ho
      have q3 : c3 = .bool b := by simpa using hb
      exact ⟨s, u, o, b, by rw [q0, q1, q2, q3]⟩
theorem open_ev11 {H : Type} {enc : TypeId × Value → H} {w : World} {base : Nat} {held : Bool} {r : Reach} {b0 : Nat} {v : Value} {d : DataW H} {ps : List MemPlace} (hv : Value.okWide Tryz.prog w r b0 43 v) (h : DataW.Trod enc Tryz.prog w base (fun _ => true) held 43 v d ps) :
    ∃ y : EV, v = evV y ∧ Row w w.heap.size y.2.1 (y.1.v.map byteV) ∧ y.1.v.length ≤ y.2.2 ∧ y.2.2 ≤ maxLen ∧ y.1.k.length ≤ maxLen := by
  obtain ⟨cs, rfl, hsz⟩ := okWide_struct Tryz.underlying43 hv
  obtain ⟨l⟩ := cs
  have hC : Tryz.prog.cellsOf 43 = 6 := by kernel_rfl
  match l, hsz.trans hC with
  | [c0, c1, c2, c3, c4, c5], _ =>
    obtain ⟨fuel, hf⟩ := h
    obtain ⟨y, hy, hr, hc, hm, hk⟩ := ent_cells11 (by simpa [Value.cells] using hf)
    refine ⟨y, ?_, hr, hc, hm, hk⟩
    rw [hy]
    rfl
end Go.Proofs.YtpebhfjcakllmaaGreat
namespace Go.Proofs.YtpebhfjcakllmaaGreat
open Go.RowKit Go.ChangeShapes Mem Be Word Rg Go.Maps
set_option maxRecDepth 100000
set_option maxHeartbeats 8000000
set_option linter.unusedVariables false
set_option linter.unusedSimpArgs false
/-- What is not clean, with where it lies. -/
def dirL (us : List CV) : List EV := (us.filter fun x => !x.1.cl).map evC
theorem dirL_cl (us : List CV) (j : Nat) (h : j < us.length) (hc : us[j].1.cl = true) : dirL (us.take (j + 1)) = dirL (us.take j) := by
  unfold dirL
  rw [List.take_succ_eq_append_getElem h, List.filter_append]
  simp [hc]
theorem dirL_no (us : List CV) (j : Nat) (h : j < us.length) (hc : us[j].1.cl = false) : dirL (us.take (j + 1)) = dirL (us.take j) ++ [evC us[j]] := by
  unfold dirL
  rw [List.take_succ_eq_append_getElem h, List.filter_append, List.map_append]
  simp [hc]
theorem dirL_len (us : List CV) : (dirL us).length ≤ us.length := by unfold dirL; rw [List.length_map]; exact List.length_filter_le _ _
theorem dirL_fst (us : List CV) : (dirL us).map Prod.fst = ((us.map Prod.fst).filter fun x => !x.cl).map (·.e) := by
  unfold dirL
  rw [List.map_map, List.filter_map, List.map_map]
  rfl
theorem dirL_mem {us : List CV} {y : EV} (h : y ∈ dirL us) : ∃ x ∈ us, y = evC x := by
  obtain ⟨x, hx, rfl⟩ := List.mem_map.1 h
  exact ⟨x, (List.mem_filter.1 hx).1, rfl⟩
/-- Entries that are handed back in a row. -/
def DirP (us : List CV) (w : World) (e : Ending) (w' : World) : Prop := ∃ (A : Option Addr) (c : Nat), e = .returned (.slice A (dirL us).length c) ∧ EnV w' A (dirL us) ∧ Below w.heap.size w w'
theorem dirP_of {us : List CV} {w w' : World} {B n c : Nat} {A A0 : Option Addr} (hv : CeV w A0 us) (ho : w'.ownsRow B 43 6 (.slice A n c) n (entsC (dirL us))) (hb : Below w.heap.size w w') : EnV w' A (dirL us) :=
  ⟨ownRow ho, fun y hy => by
    obtain ⟨x, hx, rfl⟩ := dirL_mem hy
    exact (hv.below hb).val x hx⟩
theorem lawdirty (n c : Nat) (A : Option Addr) (us : List CV) (hn : us.length = n) (hl : n ≤ 100000) (w : World) (h : CeV w A us) :
    Calls Tryz.prog 19 #[.slice A n c] w (DirP us w) := by
  obtain ⟨i0, hi0, hz0, hz1, hz2⟩ := info_parts info_ent
  have HN := Lib.hid hn
  have HV := Lib.hid h
  have hni : (n : Int) ≤ 100000 := by omega
  have hni0 : (0 : Int) ≤ (n : Int) := by omega
  clear hn h
  go_enter Tryz.func19, Tryz.ntmps19
  go_wp2
  go_loopw [3, 4] (fun v z wr => ∃ (j : Nat) (A1 : Option Addr) (c1 N1 : Nat), j ≤ n ∧ z = .int .i64 (j : Int) ∧ v = .slice A1 N1 c1 ∧ Hid (N1 = (dirL (us.take j)).length) ∧ Hid (wr.ownsRow w.heap.size 43 6 (.slice A1 N1 c1) N1 (entsC (dirL (us.take j)))) ∧ Hid (Below w.heap.size w wr)) (fun _ z _ => n - (intOf z).toNat)
  case atStart => exact ⟨0, none, 0, 0, Nat.zero_le _, rfl, rfl, Lib.hid rfl, Lib.hid (World.ownsRow_nil _ _ _ _), Lib.hid (Below.refl _ _)⟩
  case round =>
    obtain ⟨j, A1, c1, N1, hj, rfl, rfl, HN1, HO, HB⟩ := hrel
    by_cases hlt : j < n
    · have hj1 : j < us.length := by rw [HN.out]; exact hlt
      obtain ⟨b, o, hA, hbb, hc⟩ := cells_open (HV.out.below HB.out).row (by omega)
      have hcc := hc j hj1
      have hs1 := dirL_cl us j hj1
      have hs2 := dirL_no us j hj1
      obtain ⟨⟨x, xA, xc⟩, hx⟩ : ∃ p, us[j]'hj1 = p := ⟨_, rfl⟩
      rw [hx] at hcc hs1 hs2
      have hc0 := hcc 0 _ rfl
      rw [Nat.add_zero] at hc0
      have hc1 := hcc 1 _ rfl
      have hc2 := hcc 2 _ rfl
      have hc3 := hcc 3 _ rfl
      have hc4 := hcc 4 _ rfl
      have hc5 := hcc 5 _ rfl
      have hc6 := hcc 6 _ rfl
      have hc7 := hcc 7 _ rfl
      have hc8 := hcc 8 _ rfl
      have hji : (0 : Int) ≤ (j : Int) := by omega
      have hji2 : (j : Int) < (n : Int) := by omega
      have HNL : Hid (N1 ≤ 100000) := Lib.hid (by have h1 := HN1.out; have h2 := dirL_len (us.take j); rw [List.length_take] at h2; omega)
      subst hA
      cases hcl : x.cl
      · have HSN := Lib.hid (hs2 hcl)
        rw [hcl] at hc7
        clear hc hcc hbb hx hs1 hs2 hcl
        have hal := (Below.refl wr.heap.size wr).alloc (Nat.le_refl _) (.cells ⟨entC (x.e, xA, xc)⟩ 43)
        have HO4 := Lib.hid (ownLater HO.out hal)
        have HBL : Hid (Blk (wr.alloc (.cells ⟨entC (x.e, xA, xc)⟩ 43)) wr.heap.size 43 ⟨entC (x.e, xA, xc)⟩) := Lib.hid (Blk.new _ _ _)
        have HB4 := Lib.hid (HB.out.trans (hal.mono HB.out.size))
        clear hal
        go_wp2_with (at_builtin; refine wpList_appS (P := Tryz.prog) (by rfl) _ _ _ (by rfl) w.heap.size 43 i0 (evV (evN [])) 6 72 Tryz.underlying61 hi0 hz0 hz1 hz2 rfl (by decide) _ N1 (entsC (dirL (us.take j))) (by rfl) (by exact HO4.out) (wr.heap.size + 1) (some ⟨wr.heap.size, 0, none⟩) (1) (1) (entsC [(x.e, xA, xc)]) (by rfl) (by rfl) (by exact ent_lit HBL.out (by omega)) (entsC_one _) (by have := HNL.out; unfold maxLen; omega) (by have := HNL.out; omega) (by exact HB4.out.size) ?_)
        intro v' w5 hown hgr hat
        obtain ⟨A5, c5, rfl, _, _⟩ := ownShape hown
        have HO5 : Hid (w5.ownsRow w.heap.size 43 6 (.slice A5 (N1 + 1) c5) (N1 + 1) (entsC (dirL (us.take (j + 1))))) := Lib.hid (by rw [HSN.out, entsC_app]; exact hown)
        have HN5 : Hid (N1 + 1 = (dirL (us.take (j + 1))).length) := Lib.hid (by rw [HSN.out, List.length_append, ← HN1.out]; rfl)
        have HB5 : Hid (Below w.heap.size w w5) := Lib.hid (HB4.out.grown hgr HB4.out.size fun g h => (HO4.out.lt g h).1)
        clear hown hgr hat HO4 HB4
        clear hc0 hc1 hc2 hc3 hc4 hc5 hc6 hc7 hc8
        go_wp2
        go_roundw
        case rel => exact ⟨j + 1, A5, c5, N1 + 1, by omega, by go_num, rfl, HN5, HO5, HB5⟩
        case measure => simp [intOf]; omega
      · have HSN := Lib.hid (hs1 hcl)
        rw [hcl] at hc7
        clear hc hcc hbb hx hs1 hs2 hcl
        go_wp2
        go_roundw
        case rel => exact ⟨j + 1, A1, c1, N1, by omega, by go_num, rfl, Lib.hid (by rw [HSN.out]; exact HN1.out), Lib.hid (by rw [HSN.out]; exact HO.out), HB⟩
        case measure => simp [intOf]; omega
    · obtain rfl : j = n := by omega
      have HTK : Hid (us.take j = us) := Lib.hid (List.take_of_length_le (by rw [HN.out]; exact Nat.le_refl _))
      have HNE := Lib.hid HN1.out
      rw [HTK.out] at HNE HO
      go_wp2
      go_ret
      exact ⟨A1, c1, by rw [HNE.out]; rfl, dirP_of HV.out HO.out HB.out, HB.out⟩
theorem tdirty {F : Nat → Prop} {w00 : World} {g b tk q : Nat} {S : Cl} (w0 : World) (h : Tb1 w00 w0 F g b tk S q) :
    Calls Tryz.prog 18 #[.pointer (some ⟨g, 0, none⟩)] w0 (fun e w' => ∃ us : List CV, us.map Prod.fst = S.T ∧ us.length ≤ 4096 ∧ DirP us w0 e w') := by
  obtain ⟨i0, hi0, hz0, hz1, hz2⟩ := info_parts info_ent
  have HC := Lib.hid h.cellsC
  clear h
  go_enter Tryz.func18, Tryz.ntmps18
  go_wp2_with fail
  refine HC.out.mono ?_
  rintro e1 w ⟨us, A, c, hus, rfl, hcn, hl, hb0⟩
  have HUS := Lib.hid hus
  have HLU := Lib.hid hl
  have HV := Lib.hid hcn.cev
  have HB0 := Lib.hid hb0
  obtain ⟨n, hn⟩ : ∃ n, us.length = n := ⟨_, rfl⟩
  have HN := Lib.hid hn
  rw [hn]
  have hl : n ≤ 100000 := by omega
  have hni : (n : Int) ≤ 100000 := by omega
  have hni0 : (0 : Int) ≤ (n : Int) := by omega
  clear hn hus hcn hb0 HC
  go_wp2
  go_loopw [3, 9] (fun v z wr => ∃ (j : Nat) (A1 : Option Addr) (c1 N1 : Nat), j ≤ n ∧ z = .int .i64 (j : Int) ∧ v = .slice A1 N1 c1 ∧ Hid (N1 = (dirL (us.take j)).length) ∧ Hid (wr.ownsRow w.heap.size 43 6 (.slice A1 N1 c1) N1 (entsC (dirL (us.take j)))) ∧ Hid (Below w.heap.size w wr)) (fun _ z _ => n - (intOf z).toNat)
  case atStart => exact ⟨0, none, 0, 0, Nat.zero_le _, rfl, rfl, Lib.hid rfl, Lib.hid (World.ownsRow_nil _ _ _ _), Lib.hid (Below.refl _ _)⟩
  case round =>
    obtain ⟨j, A1, c1, N1, hj, rfl, rfl, HN1, HO, HB⟩ := hrel
    by_cases hlt : j < n
    · have hj1 : j < us.length := by rw [HN.out]; exact hlt
      obtain ⟨b, o, hA, hbb, hc⟩ := cells_open (HV.out.below HB.out).row (by omega)
      have hcc := hc j hj1
      have hs1 := dirL_cl us j hj1
      have hs2 := dirL_no us j hj1
      obtain ⟨⟨x, xA, xc⟩, hx⟩ : ∃ p, us[j]'hj1 = p := ⟨_, rfl⟩
      rw [hx] at hcc hs1 hs2
      have hc0 := hcc 0 _ rfl
      rw [Nat.add_zero] at hc0
      have hc1 := hcc 1 _ rfl
      have hc2 := hcc 2 _ rfl
      have hc3 := hcc 3 _ rfl
      have hc4 := hcc 4 _ rfl
      have hc5 := hcc 5 _ rfl
      have hc6 := hcc 6 _ rfl
      have hc7 := hcc 7 _ rfl
      have hc8 := hcc 8 _ rfl
      have hji : (0 : Int) ≤ (j : Int) := by omega
      have hji2 : (j : Int) < (n : Int) := by omega
      have HNL : Hid (N1 ≤ 100000) := Lib.hid (by have h1 := HN1.out; have h2 := dirL_len (us.take j); rw [List.length_take] at h2; omega)
      subst hA
      clear hc hcc hbb hx
      go_upto_region 5 with (refine wpList_boxM rfl rfl _ rfl 88 #[.string ⟨#[]⟩, .int .i64 0, .int .i64 0, .int .i64 0, .bool false, .slice none 0 0, .bool false, .bool false, .int .i64 0] (by kernel_rfl) _ _ rfl #[.string ⟨x.e.k.toArray⟩, .int .i64 x.e.s, .int .i64 x.e.u, .int .i64 x.e.o, .bool x.e.has, .slice xA x.e.v.length xc, .bool x.wh, .bool x.cl, .int .i64 x.us] rfl rfl rfl (by kernel_rfl) (by kernel_rfl) ?_)
      obtain ⟨gc, hgc⟩ : ∃ g, wr.heap.size = g := ⟨_, rfl⟩
      obtain ⟨W4, hW4⟩ : ∃ W, wr.alloc (.cells #[.string ⟨x.e.k.toArray⟩, .int .i64 x.e.s, .int .i64 x.e.u, .int .i64 x.e.o, .bool x.e.has, .slice xA x.e.v.length xc, .bool x.wh, .bool x.cl, .int .i64 x.us] 88) = W := ⟨_, rfl⟩
      have hb4 : Below wr.heap.size wr W4 := by rw [← hW4]; exact (Below.refl _ _).alloc (Nat.le_refl _) _
      have HC4 : Hid (Blk W4 gc 88 #[.string ⟨x.e.k.toArray⟩, .int .i64 x.e.s, .int .i64 x.e.u, .int .i64 x.e.o, .bool x.e.has, .slice xA x.e.v.length xc, .bool x.wh, .bool x.cl, .int .i64 x.us]) := Lib.hid (by rw [← hW4, ← hgc]; exact Blk.new _ _ _)
      replace HO := Lib.hid (ownLater HO.out hb4)
      replace HB := Lib.hid (HB.out.trans (hb4.mono HB.out.size))
      try simp only [hW4, hgc]
      clear hb4 hW4 hgc hc0 hc1 hc2 hc3 hc4 hc5 hc6 hc7 hc8
      cases hcl : x.cl
      · have HSN := Lib.hid (hs2 hcl)
        have k0 : W4.cell? ⟨gc, 0, none⟩ = some (.string ⟨x.e.k.toArray⟩) := HC4.out.cell 0
        have k1 : W4.cell? ⟨gc, 1, none⟩ = some (.int .i64 x.e.s) := HC4.out.cell 1
        have k2 : W4.cell? ⟨gc, 2, none⟩ = some (.int .i64 x.e.u) := HC4.out.cell 2
        have k3 : W4.cell? ⟨gc, 3, none⟩ = some (.int .i64 x.e.o) := HC4.out.cell 3
        have k4 : W4.cell? ⟨gc, 4, none⟩ = some (.bool x.e.has) := HC4.out.cell 4
        have k5 : W4.cell? ⟨gc, 5, none⟩ = some (.slice xA x.e.v.length xc) := HC4.out.cell 5
        have k7 : W4.cell? ⟨gc, 7, none⟩ = some (.bool x.cl) := HC4.out.cell 7
        rw [hcl] at k7
        clear hs1 hs2 hcl HC4
        have hal := (Below.refl W4.heap.size W4).alloc (Nat.le_refl _) (.cells ⟨entC (x.e, xA, xc)⟩ 43)
        have HO4 := Lib.hid (ownLater HO.out hal)
        have HBL : Hid (Blk (W4.alloc (.cells ⟨entC (x.e, xA, xc)⟩ 43)) W4.heap.size 43 ⟨entC (x.e, xA, xc)⟩) := Lib.hid (Blk.new _ _ _)
        have HB4 := Lib.hid (HB.out.trans (hal.mono HB.out.size))
        clear hal
        go_wp2_with (at_builtin; refine wpList_appS (P := Tryz.prog) (by rfl) _ _ _ (by rfl) w.heap.size 43 i0 (evV (evN [])) 6 72 Tryz.underlying61 hi0 hz0 hz1 hz2 rfl (by decide) _ N1 (entsC (dirL (us.take j))) (by rfl) (by exact HO4.out) (W4.heap.size + 1) (some ⟨W4.heap.size, 0, none⟩) (1) (1) (entsC [(x.e, xA, xc)]) (by rfl) (by rfl) (by exact ent_lit HBL.out (by omega)) (entsC_one _) (by have := HNL.out; unfold maxLen; omega) (by have := HNL.out; omega) (by exact HB4.out.size) ?_)
        intro v' w5 hown hgr hat
        obtain ⟨A5, c5, rfl, _, _⟩ := ownShape hown
        have HO5 : Hid (w5.ownsRow w.heap.size 43 6 (.slice A5 (N1 + 1) c5) (N1 + 1) (entsC (dirL (us.take (j + 1))))) := Lib.hid (by rw [HSN.out, entsC_app]; exact hown)
        have HN5 : Hid (N1 + 1 = (dirL (us.take (j + 1))).length) := Lib.hid (by rw [HSN.out, List.length_append, ← HN1.out]; rfl)
        have HB5 : Hid (Below w.heap.size w w5) := Lib.hid (HB4.out.grown hgr HB4.out.size fun g h => (HO4.out.lt g h).1)
        clear hown hgr hat HO4 HB4
        clear k0 k1 k2 k3 k4 k5 k7
        go_wp2
        go_roundw
        case rel => exact ⟨j + 1, A5, c5, N1 + 1, by omega, by go_num, rfl, HN5, HO5, HB5⟩
        case measure => simp [intOf]; omega
      · have HSN := Lib.hid (hs1 hcl)
        have k7 : W4.cell? ⟨gc, 7, none⟩ = some (.bool x.cl) := HC4.out.cell 7
        rw [hcl] at k7
        clear hs1 hs2 hcl HC4
        go_wp2
        go_roundw
        case rel => exact ⟨j + 1, A1, c1, N1, by omega, by go_num, rfl, Lib.hid (by rw [HSN.out]; exact HN1.out), Lib.hid (by rw [HSN.out]; exact HO.out), HB⟩
        case measure => simp [intOf]; omega
    · obtain rfl : j = n := by omega
      have HTK : Hid (us.take j = us) := Lib.hid (List.take_of_length_le (by rw [HN.out]; exact Nat.le_refl _))
      have HNE := Lib.hid HN1.out
      rw [HTK.out] at HNE HO
      go_wp2
      go_ret
      exact ⟨us, HUS.out, HLU.out, A1, c1, by rw [HNE.out]; rfl, dirP_of HV.out HO.out HB.out, HB0.out.trans (HB.out.mono HB0.out.size)⟩
theorem sameall_true11 (n c m c' : Nat) (A A' : Option Addr) (us vs : List EV) (hn : n = us.length) (hm : m = vs.length) (he : us.map Prod.fst = vs.map Prod.fst) (hl : n ≤ 1073741824) (w : World) (h : EnV w A us) (h' : EnV w A' vs) :
    Calls Tryz.prog 17 #[.slice A n c, .slice A' m c'] w (IsB true w) := by
  have hlen : vs.length = us.length := by have := congrArg List.length he; simpa using this.symm
  have hmn : m = n := by omega
  subst hmn
  have HN := Lib.hid hn
  have HM := Lib.hid hm
  have HE := Lib.hid he
  have HU := Lib.hid h
  have HV := Lib.hid h'
  have hni : (m : Int) ≤ 1073741824 := by omega
  have hni0 : (0 : Int) ≤ (m : Int) := by omega
  clear hn hm he h h' hl hlen
  go_enter Tryz.func17, Tryz.ntmps17
  go_wp2
  go_loopw [5] (fun i wr => ∃ k : Nat, k ≤ m ∧ i = .int .i64 k ∧ Hid (Below w.heap.size w wr)) (fun i _ => m - (intOf i).toNat)
  case atStart => exact ⟨0, by omega, rfl, Lib.hid (Below.refl _ _)⟩
  case round =>
    obtain ⟨k, hk, rfl, HB⟩ := hrel
    by_cases hlt : k < m
    · have hk1 : k < us.length := by rw [← HN.out]; exact hlt
      have hk2 : k < vs.length := by rw [← HM.out]; exact hlt
      obtain ⟨b, o, rfl, hb, hc⟩ := ents_open (HU.out.below HB.out).row (by omega)
      obtain ⟨b', o', rfl, hb', hc'⟩ := ents_open (HV.out.below HB.out).row (by omega)
      obtain ⟨a0, a1, a2, a3, a4, a5⟩ := hc k hk1
      obtain ⟨b0, b1, b2, b3, b4, b5⟩ := hc' k hk2
      have v1 := (HU.out.below HB.out).val us[k] (List.getElem_mem hk1)
      have v2 := (HV.out.below HB.out).val vs[k] (List.getElem_mem hk2)
      have hee : (us[k]).1 = (vs[k]).1 := by
        have := List.getElem_of_eq HE.out (i := k) (by simpa using hk1)
        simpa using this
      obtain ⟨⟨x, A1, c1⟩, hx⟩ : ∃ p, us[k]'hk1 = p := ⟨_, rfl⟩
      obtain ⟨⟨y, A2, c2⟩, hy⟩ : ∃ p, vs[k]'hk2 = p := ⟨_, rfl⟩
      rw [hx] at a0 a1 a2 a3 a4 a5 v1 hee
      rw [hy] at b0 b1 b2 b3 b4 b5 v2 hee
      simp only at a0 a1 a2 a3 a4 a5 b0 b1 b2 b3 b4 b5 v1 v2 hee
      subst hee
      have HC := Lib.hid (fun p : Later wr => refsame_self11 ⟨x.k.toArray⟩ x.s x.u x.o x.has A1 A2 x.v c1 c2 x.v.length x.v.length rfl rfl p.world (v1.below p.bel) (v2.below p.bel))
      have l0 := later_cell a0
      have l1 := later_cell a1
      have l2 := later_cell a2
      have l3 := later_cell a3
      have l4 := later_cell a4
      have l5 := later_cell a5
      have m0 := later_cell b0
      have m1 := later_cell b1
      have m2 := later_cell b2
      have m3 := later_cell b3
      have m4 := later_cell b4
      have m5 := later_cell b5
      have hki : (0 : Int) ≤ (k : Int) := by omega
      have hki2 : (k : Int) < (m : Int) := by omega
      clear hc hc' a0 a1 a2 a3 a4 a5 b0 b1 b2 b3 b4 b5 hx hy v1 v2
      go_wp2_with fail
      refine wp_region_later (by kernel_rfl) (by kernel_rfl) ?_
      repeat (go_big_quiet_step (first
        | (go_at_call 34; exact later_of (HC.out _))))
      refine wpQuiet_nil ?_
      intro w' hw'
      obtain ⟨p, rfl⟩ := hw'
      go_wp2
      go_roundw
      case rel => exact ⟨k + 1, by omega, by go_num, Lib.hid (HB.out.trans (p.bel.mono HB.out.size))⟩
      case measure => simp [intOf]; omega
    · obtain rfl : k = m := by omega
      go_wp2
      go_ret
      exact ⟨rfl, HB.out⟩
end Go.Proofs.YtpebhfjcakllmaaGreat
namespace Go.Proofs.YtpebhfjcakllmaaGreat
open Go.RowKit Go.ChangeShapes Mem Be Word Rg Go.Maps
set_option maxRecDepth 100000
set_option maxHeartbeats 8000000
set_option linter.unusedVariables false
set_option linter.unusedSimpArgs false
/-- A table, a reply, whether it is done, and a number: handed back. -/
def TrD (F : Nat → Prop) (R : Cl × RpP × Bool × Int) (w : World) (e : Ending) (w' : World) : Prop := ∃ (t : Tr) (A : Option Addr) (c : Nat), e = .returned (.tuple #[.agg #[.int .i64 t.rc, .int .i64 t.rb, .int .i64 (t.nb : Int), .bool t.fr, .slice t.A t.L.length t.c, .slice t.tA t.tok.length t.tc, .int .i64 t.us], repV R.2.1 A c, .bool R.2.2.1, .int .i64 R.2.2.2]) ∧ trS t = R.1 ∧ TrN F w' t ∧ VlN F w' R.2.1.e.v A c ∧ Below w.heap.size w w'
/-- What the last region's operations leave. -/
def VD (t : Tr) (rp : RpP) (A2 : Option Addr) (c2 : Nat) (n : Int) : Nat → Value → World → Prop
  | 0, v, _ => v = .agg #[.int .i64 t.rc, .int .i64 t.rb, .int .i64 (t.nb : Int), .bool t.fr, .slice t.A t.L.length t.c, .slice t.tA t.tok.length t.tc, .int .i64 t.us]
  | 1, v, _ => v = .agg #[.string ⟨rp.e.k.toArray⟩, .int .i64 rp.e.s, .int .i64 rp.e.u, .int .i64 rp.e.o, .bool rp.e.has, .slice A2 rp.e.v.length c2, .bool rp.wh, .int .i64 rp.tok]
  | 2, v, _ => v = .int .i64 n
  | 5, v, _ => v = .bool false
  | 6, v, _ => v = .int .i64 n
  | _, _, _ => True
def preD (g : Nat) (s : Nat) (w : World) : Prop := if s = 3 then Blk w (g + 2) 34 #[.int .i64 0, .int .i64 0, .int .i64 0, .bool false, .slice none 0 0, .slice none 0 0, .int .i64 0] else Blk w (g + 3) 45 #[.string ⟨#[]⟩, .int .i64 0, .int .i64 0, .int .i64 0, .bool false, .slice none 0 0, .bool false, .int .i64 0]
def postD (g : Nat) (t : Tr) (rp : RpP) (A2 : Option Addr) (c2 : Nat) (s : Nat) (w : World) : Prop := if s = 3 then Blk w (g + 2) 34 #[.int .i64 t.rc, .int .i64 t.rb, .int .i64 (t.nb : Int), .bool t.fr, .slice t.A t.L.length t.c, .slice t.tA t.tok.length t.tc, .int .i64 t.us] else Blk w (g + 3) 45 #[.string ⟨rp.e.k.toArray⟩, .int .i64 rp.e.s, .int .i64 rp.e.u, .int .i64 rp.e.o, .bool rp.e.has, .slice A2 rp.e.v.length c2, .bool rp.wh, .int .i64 rp.tok]
theorem stabD {t : Tr} {rp : RpP} {A2 : Option Addr} {c2 g : Nat} {n : Int} (Fx : Nat → Prop) : Stab Fx (VD t rp A2 c2 n) (preD g) (postD g t rp A2 c2) := by
  refine ⟨fun i u w w' h ht => ?_, fun s w w' h hb => ?_, fun s w w' h hb => ?_⟩
  · unfold VD at h ⊢
    split at h
    all_goals first
      | exact h
      | trivial
  · unfold preD at h ⊢
    by_cases e : s = 3
    · rw [if_pos e] at h ⊢; exact h.below hb h.lt
    · rw [if_neg e] at h ⊢; exact h.below hb h.lt
  · unfold postD at h ⊢
    by_cases e : s = 3
    · rw [if_pos e] at h ⊢; exact h.below hb h.lt
    · rw [if_neg e] at h ⊢; exact h.below hb h.lt
theorem rstep (hfg : ∀ (t : Tr) (F : Nat → Prop) (w : World), (∀ k, F k → k < w.heap.size) → TrN F w t → OkC (trS t) → (∀ v ∈ t.tok, v ≤ 4611686018427390000) → Calls Tryz.prog 32 #[.agg #[.int .i64 t.rc, .int .i64 t.rb, .int .i64 (t.nb : Int), .bool t.fr, .slice t.A t.L.length t.c, .slice t.tA t.tok.length t.tc, .int .i64 t.us]] w (TrP F (forgetS (trS t)) w)) (t : Tr) (F : Nat → Prop) (kd : Int) (e : EntP) (eA : Option Addr) (ec : Nat) (tn : Int) (w : World) (hF : ∀ k, F k → k < w.heap.size) (h : TrN F w t) (ok : OkC (trS t)) (hv : RowN F w eA (e.v.map byteV) ∧ e.v.length ≤ ec ∧ ec ≤ maxLen) (hk : e.k.length ≤ maxLen) (hu : t.us ≤ 4611686018427387904) (hq : ∀ v ∈ t.tok, v + ((trS t).T.length : Int) ≤ 4611686018427390000) :
    Calls Tryz.prog 9 #[.agg #[.int .i64 t.rc, .int .i64 t.rb, .int .i64 (t.nb : Int), .bool t.fr, .slice t.A t.L.length t.c, .slice t.tA t.tok.length t.tc, .int .i64 t.us], .agg #[.int .i64 kd, .string ⟨e.k.toArray⟩, .int .i64 e.s, .int .i64 e.u, .int .i64 e.o, .bool e.has, .slice eA e.v.length ec, .int .i64 tn]] w (TrD F (doS (trS t) kd e tn) w) := by
  have hb : Below w.heap.size w (((((w).alloc (.cells #[.int .i64 t.rc, .int .i64 t.rb, .int .i64 (t.nb : Int), .bool t.fr, .slice t.A t.L.length t.c, .slice t.tA t.tok.length t.tc, .int .i64 t.us] 34)).alloc (.cells #[.int .i64 kd, .string ⟨e.k.toArray⟩, .int .i64 e.s, .int .i64 e.u, .int .i64 e.o, .bool e.has, .slice eA e.v.length ec, .int .i64 tn] 49)).alloc (.cells #[.int .i64 0, .int .i64 0, .int .i64 0, .bool false, .slice none 0 0, .slice none 0 0, .int .i64 0] 34)).alloc (.cells #[.string ⟨#[]⟩, .int .i64 0, .int .i64 0, .int .i64 0, .bool false, .slice none 0 0, .bool false, .int .i64 0] 45)) := ((((Below.refl _ _).alloc (Nat.le_refl _) _).alloc (by simp) _).alloc (by simp; omega) _).alloc (by simp; omega) _
  have h_HK : Blk (((((w).alloc (.cells #[.int .i64 t.rc, .int .i64 t.rb, .int .i64 (t.nb : Int), .bool t.fr, .slice t.A t.L.length t.c, .slice t.tA t.tok.length t.tc, .int .i64 t.us] 34)).alloc (.cells #[.int .i64 kd, .string ⟨e.k.toArray⟩, .int .i64 e.s, .int .i64 e.u, .int .i64 e.o, .bool e.has, .slice eA e.v.length ec, .int .i64 tn] 49)).alloc (.cells #[.int .i64 0, .int .i64 0, .int .i64 0, .bool false, .slice none 0 0, .slice none 0 0, .int .i64 0] 34)).alloc (.cells #[.string ⟨#[]⟩, .int .i64 0, .int .i64 0, .int .i64 0, .bool false, .slice none 0 0, .bool false, .int .i64 0] 45)) (w.heap.size) 34 #[.int .i64 t.rc, .int .i64 t.rb, .int .i64 (t.nb : Int), .bool t.fr, .slice t.A t.L.length t.c, .slice t.tA t.tok.length t.tc, .int .i64 t.us] := ((((Blk.new (w) 34 #[.int .i64 t.rc, .int .i64 t.rb, .int .i64 (t.nb : Int), .bool t.fr, .slice t.A t.L.length t.c, .slice t.tA t.tok.length t.tc, .int .i64 t.us]).alloc (.cells #[.int .i64 kd, .string ⟨e.k.toArray⟩, .int .i64 e.s, .int .i64 e.u, .int .i64 e.o, .bool e.has, .slice eA e.v.length ec, .int .i64 tn] 49)).alloc (.cells #[.int .i64 0, .int .i64 0, .int .i64 0, .bool false, .slice none 0 0, .slice none 0 0, .int .i64 0] 34)).alloc (.cells #[.string ⟨#[]⟩, .int .i64 0, .int .i64 0, .int .i64 0, .bool false, .slice none 0 0, .bool false, .int .i64 0] 45))
  have h_HD : Blk (((((w).alloc (.cells #[.int .i64 t.rc, .int .i64 t.rb, .int .i64 (t.nb : Int), .bool t.fr, .slice t.A t.L.length t.c, .slice t.tA t.tok.length t.tc, .int .i64 t.us] 34)).alloc (.cells #[.int .i64 kd, .string ⟨e.k.toArray⟩, .int .i64 e.s, .int .i64 e.u, .int .i64 e.o, .bool e.has, .slice eA e.v.length ec, .int .i64 tn] 49)).alloc (.cells #[.int .i64 0, .int .i64 0, .int .i64 0, .bool false, .slice none 0 0, .slice none 0 0, .int .i64 0] 34)).alloc (.cells #[.string ⟨#[]⟩, .int .i64 0, .int .i64 0, .int .i64 0, .bool false, .slice none 0 0, .bool false, .int .i64 0] 45)) (w.heap.size + 1) 49 #[.int .i64 kd, .string ⟨e.k.toArray⟩, .int .i64 e.s, .int .i64 e.u, .int .i64 e.o, .bool e.has, .slice eA e.v.length ec, .int .i64 tn] := blk_at (by simp) (((Blk.new ((w).alloc (.cells #[.int .i64 t.rc, .int .i64 t.rb, .int .i64 (t.nb : Int), .bool t.fr, .slice t.A t.L.length t.c, .slice t.tA t.tok.length t.tc, .int .i64 t.us] 34)) 49 #[.int .i64 kd, .string ⟨e.k.toArray⟩, .int .i64 e.s, .int .i64 e.u, .int .i64 e.o, .bool e.has, .slice eA e.v.length ec, .int .i64 tn]).alloc (.cells #[.int .i64 0, .int .i64 0, .int .i64 0, .bool false, .slice none 0 0, .slice none 0 0, .int .i64 0] 34)).alloc (.cells #[.string ⟨#[]⟩, .int .i64 0, .int .i64 0, .int .i64 0, .bool false, .slice none 0 0, .bool false, .int .i64 0] 45))
  have h_HR : Blk (((((w).alloc (.cells #[.int .i64 t.rc, .int .i64 t.rb, .int .i64 (t.nb : Int), .bool t.fr, .slice t.A t.L.length t.c, .slice t.tA t.tok.length t.tc, .int .i64 t.us] 34)).alloc (.cells #[.int .i64 kd, .string ⟨e.k.toArray⟩, .int .i64 e.s, .int .i64 e.u, .int .i64 e.o, .bool e.has, .slice eA e.v.length ec, .int .i64 tn] 49)).alloc (.cells #[.int .i64 0, .int .i64 0, .int .i64 0, .bool false, .slice none 0 0, .slice none 0 0, .int .i64 0] 34)).alloc (.cells #[.string ⟨#[]⟩, .int .i64 0, .int .i64 0, .int .i64 0, .bool false, .slice none 0 0, .bool false, .int .i64 0] 45)) (w.heap.size + 2) 34 #[.int .i64 0, .int .i64 0, .int .i64 0, .bool false, .slice none 0 0, .slice none 0 0, .int .i64 0] := blk_at (by simp) ((Blk.new (((w).alloc (.cells #[.int .i64 t.rc, .int .i64 t.rb, .int .i64 (t.nb : Int), .bool t.fr, .slice t.A t.L.length t.c, .slice t.tA t.tok.length t.tc, .int .i64 t.us] 34)).alloc (.cells #[.int .i64 kd, .string ⟨e.k.toArray⟩, .int .i64 e.s, .int .i64 e.u, .int .i64 e.o, .bool e.has, .slice eA e.v.length ec, .int .i64 tn] 49)) 34 #[.int .i64 0, .int .i64 0, .int .i64 0, .bool false, .slice none 0 0, .slice none 0 0, .int .i64 0]).alloc (.cells #[.string ⟨#[]⟩, .int .i64 0, .int .i64 0, .int .i64 0, .bool false, .slice none 0 0, .bool false, .int .i64 0] 45))
  have h_HQ2 : Blk (((((w).alloc (.cells #[.int .i64 t.rc, .int .i64 t.rb, .int .i64 (t.nb : Int), .bool t.fr, .slice t.A t.L.length t.c, .slice t.tA t.tok.length t.tc, .int .i64 t.us] 34)).alloc (.cells #[.int .i64 kd, .string ⟨e.k.toArray⟩, .int .i64 e.s, .int .i64 e.u, .int .i64 e.o, .bool e.has, .slice eA e.v.length ec, .int .i64 tn] 49)).alloc (.cells #[.int .i64 0, .int .i64 0, .int .i64 0, .bool false, .slice none 0 0, .slice none 0 0, .int .i64 0] 34)).alloc (.cells #[.string ⟨#[]⟩, .int .i64 0, .int .i64 0, .int .i64 0, .bool false, .slice none 0 0, .bool false, .int .i64 0] 45)) (w.heap.size + 3) 45 #[.string ⟨#[]⟩, .int .i64 0, .int .i64 0, .int .i64 0, .bool false, .slice none 0 0, .bool false, .int .i64 0] := blk_at (by simp) (Blk.new ((((w).alloc (.cells #[.int .i64 t.rc, .int .i64 t.rb, .int .i64 (t.nb : Int), .bool t.fr, .slice t.A t.L.length t.c, .slice t.tA t.tok.length t.tc, .int .i64 t.us] 34)).alloc (.cells #[.int .i64 kd, .string ⟨e.k.toArray⟩, .int .i64 e.s, .int .i64 e.u, .int .i64 e.o, .bool e.has, .slice eA e.v.length ec, .int .i64 tn] 49)).alloc (.cells #[.int .i64 0, .int .i64 0, .int .i64 0, .bool false, .slice none 0 0, .slice none 0 0, .int .i64 0] 34)) 45 #[.string ⟨#[]⟩, .int .i64 0, .int .i64 0, .int .i64 0, .bool false, .slice none 0 0, .bool false, .int .i64 0])
  have hm1 := h.wide hb
  have hvw := hv.1.wide hb
  obtain ⟨W1, hW1⟩ : ∃ W, ((((w).alloc (.cells #[.int .i64 t.rc, .int .i64 t.rb, .int .i64 (t.nb : Int), .bool t.fr, .slice t.A t.L.length t.c, .slice t.tA t.tok.length t.tc, .int .i64 t.us] 34)).alloc (.cells #[.int .i64 kd, .string ⟨e.k.toArray⟩, .int .i64 e.s, .int .i64 e.u, .int .i64 e.o, .bool e.has, .slice eA e.v.length ec, .int .i64 tn] 49)).alloc (.cells #[.int .i64 0, .int .i64 0, .int .i64 0, .bool false, .slice none 0 0, .slice none 0 0, .int .i64 0] 34)).alloc (.cells #[.string ⟨#[]⟩, .int .i64 0, .int .i64 0, .int .i64 0, .bool false, .slice none 0 0, .bool false, .int .i64 0] 45) = W := ⟨_, rfl⟩
  have hsz : W1.heap.size = w.heap.size + 4 := by rw [← hW1]; simp
  rw [hW1] at hb hm1 hvw h_HK h_HD h_HR h_HQ2
  have HK := Lib.hid h_HK
  have HD := Lib.hid h_HD
  have HR := Lib.hid h_HR
  have HQ2 := Lib.hid h_HQ2
  have HB := Lib.hid hb
  have HM := Lib.hid hm1
  have HF := Lib.hid hF
  have HSZ := Lib.hid hsz
  have HOK := Lib.hid ok
  obtain ⟨F1, hF1⟩ : ∃ F1, More2 F w.heap.size W1.heap.size = F1 := ⟨_, rfl⟩
  have HFL : Hid (∀ k, F1 k → k < W1.heap.size) := Lib.hid (by rw [← hF1]; exact more2_lt hF hb.size)
  have HFR : Hid (F1 (w.heap.size + 3)) := Lib.hid (by rw [← hF1]; exact Or.inr ⟨by omega, by omega⟩)
  have HNR : Hid (∀ (w' : World) (t' : Tr), TrN F1 w' t' → TrN F w' t') := Lib.hid (fun w' t' h => by rw [← hF1] at h; exact h.narrow)
  have HL : Hid (W1.heap.size ≤ W1.heap.size) := Lib.hid (Nat.le_refl _)
  have HFR2 : Hid (F1 (w.heap.size + 2)) := Lib.hid (by rw [← hF1]; exact Or.inr ⟨by omega, by omega⟩)
  have HVR : Hid (RowN F1 W1 eA (e.v.map byteV) ∧ e.v.length ≤ ec ∧ ec ≤ maxLen) := Lib.hid (by rw [← hF1]; exact ⟨hvw, hv.2⟩)
  have HNV : Hid (∀ (w' : World) v A c, VlN F1 w' v A c → VlN F w' v A c) := Lib.hid (fun w' v A c h => by rw [← hF1] at h; exact h.narrow)
  rw [hF1] at HM
  clear hb h_HK h_HD h_HR h_HQ2 h hF hm1 hF1 hsz ok
  have HFG := Lib.hid hfg
  have HUU := Lib.hid hu
  have HQ := Lib.hid hq
  have HQ4 : Hid (∀ v ∈ t.tok, v ≤ 4611686018427390000) := Lib.hid fun v hv => by have := hq v hv; omega
  have HKL := Lib.hid hk
  clear hu hq hk hv hvw hfg
  have d0 : W1.cell? ⟨w.heap.size + 1, 0, none⟩ = some (.int .i64 kd) := HD.out.cell 0
  have d1 : W1.cell? ⟨w.heap.size + 1, 1, none⟩ = some (.string ⟨e.k.toArray⟩) := HD.out.cell 1
  have d2 : W1.cell? ⟨w.heap.size + 1, 2, none⟩ = some (.int .i64 e.s) := HD.out.cell 2
  have d3 : W1.cell? ⟨w.heap.size + 1, 3, none⟩ = some (.int .i64 e.u) := HD.out.cell 3
  have d4 : W1.cell? ⟨w.heap.size + 1, 4, none⟩ = some (.int .i64 e.o) := HD.out.cell 4
  have d5 : W1.cell? ⟨w.heap.size + 1, 5, none⟩ = some (.bool e.has) := HD.out.cell 5
  have d6 : W1.cell? ⟨w.heap.size + 1, 6, none⟩ = some (.slice eA e.v.length ec) := HD.out.cell 6
  have d7 : W1.cell? ⟨w.heap.size + 1, 7, none⟩ = some (.int .i64 tn) := HD.out.cell 7
  go_enter Tryz.func9, Tryz.ntmps9
  go_upto_region 1 with fail
  try simp only [hW1]
  clear hW1
  by_cases k1 : kd = 1
  · subst k1
    have HQR : Hid (doS (trS t) 1 e tn = ((queryS (trS t) e.k).1, (queryS (trS t) e.k).2.1, false, (queryS (trS t) e.k).2.2)) := Lib.hid (by unfold doS; rw [if_pos rfl])
    have HC := Lib.hid (rquery t F1 e.k W1 HFL.out HM.out HOK.out HKL.out HUU.out)
    obtain ⟨⟨SQ, rp, n⟩, hRQ⟩ : ∃ R, queryS (trS t) e.k = R := ⟨_, rfl⟩
    rw [hRQ] at HC HQR
    clear hRQ
    go_wp2_with (refine wpList_load_row rfl 34 _ rfl _ rfl _ _ _ _ (show _ = _ from HK.out) Tryz.underlying34 rfl (by kernel_rfl) ?_)
    refine HC.out.mono ?_
    rintro e2 w2 ⟨t', A2, c2, rfl, hS2, hm2, hv2, hb2⟩
    have HS2 := Lib.hid hS2
    have HM2 := Lib.hid hm2
    have HV2 := Lib.hid hv2
    replace HK := Lib.hid (HK.out.below hb2 HK.out.lt)
    replace HD := Lib.hid (HD.out.below hb2 HD.out.lt)
    replace HR := Lib.hid (HR.out.below hb2 HR.out.lt)
    replace HQ2 := Lib.hid (HQ2.out.below hb2 HQ2.out.lt)
    replace HB := Lib.hid (HB.out.trans (hb2.mono HB.out.size))
    replace HM := Lib.hid (HM.out.below hb2)
    replace HL := Lib.hid (Nat.le_trans HL.out hb2.size)
    clear hS2 hm2 hv2 hb2 HC d0 d1 d2 d3 d4 d5 d6 d7
    unfold repV
    have hb3 : Below w2.heap.size w2 ((w2.alloc (.cells #[.int .i64 0, .int .i64 0, .int .i64 0, .bool false, .slice none 0 0, .slice none 0 0, .int .i64 0] 34)).alloc (.cells #[.string ⟨#[]⟩, .int .i64 0, .int .i64 0, .int .i64 0, .bool false, .slice none 0 0, .bool false, .int .i64 0] 45)) := ((Below.refl _ _).alloc (Nat.le_refl _) _).alloc (by simp) _
    have hm2w := HM2.out
    have hv2w := HV2.out
    have HL0 := HL
    have HA1 : Hid (Blk ((w2.alloc (.cells #[.int .i64 0, .int .i64 0, .int .i64 0, .bool false, .slice none 0 0, .slice none 0 0, .int .i64 0] 34)).alloc (.cells #[.string ⟨#[]⟩, .int .i64 0, .int .i64 0, .int .i64 0, .bool false, .slice none 0 0, .bool false, .int .i64 0] 45)) w2.heap.size 34 #[.int .i64 0, .int .i64 0, .int .i64 0, .bool false, .slice none 0 0, .slice none 0 0, .int .i64 0]) := Lib.hid ((Blk.new w2 34 #[.int .i64 0, .int .i64 0, .int .i64 0, .bool false, .slice none 0 0, .slice none 0 0, .int .i64 0]).alloc _)
    have HA2 : Hid (Blk ((w2.alloc (.cells #[.int .i64 0, .int .i64 0, .int .i64 0, .bool false, .slice none 0 0, .slice none 0 0, .int .i64 0] 34)).alloc (.cells #[.string ⟨#[]⟩, .int .i64 0, .int .i64 0, .int .i64 0, .bool false, .slice none 0 0, .bool false, .int .i64 0] 45)) (w2.heap.size + 1) 45 #[.string ⟨#[]⟩, .int .i64 0, .int .i64 0, .int .i64 0, .bool false, .slice none 0 0, .bool false, .int .i64 0]) := Lib.hid (blk_at (by simp) (Blk.new _ _ _))
    replace HK := Lib.hid (HK.out.below hb3 HK.out.lt)
    replace HD := Lib.hid (HD.out.below hb3 HD.out.lt)
    replace HR := Lib.hid (HR.out.below hb3 HR.out.lt)
    replace HQ2 := Lib.hid (HQ2.out.below hb3 HQ2.out.lt)
    replace HB := Lib.hid (HB.out.trans (hb3.mono HB.out.size))
    replace HM := Lib.hid (HM.out.below hb3)
    replace HL := Lib.hid (Nat.le_trans HL.out hb3.size)
    replace HM2 := Lib.hid (HM2.out.below hb3)
    replace HV2 := Lib.hid (HV2.out.below hb3)
    have hm3 := hm2w.wide hb3
    have hv3 := hv2w.wide hb3
    have HG0 : Hid (w.heap.size + 4 ≤ w2.heap.size) := Lib.hid (by have h2 := HL0.out; have := HSZ.out; omega)
    clear hb3 hm2w hv2w
    go_wp2_with (refine store_box rfl 34 _ _ rfl (w2.heap.size) 34 #[.int .i64 0, .int .i64 0, .int .i64 0, .bool false, .slice none 0 0, .slice none 0 0, .int .i64 0] #[.int .i64 t'.rc, .int .i64 t'.rb, .int .i64 (t'.nb : Int), .bool t'.fr, .slice t'.A t'.L.length t'.c, .slice t'.tA t'.tok.length t'.tc, .int .i64 t'.us] HA1.out rfl rfl rfl (by kernel_rfl) (by kernel_rfl) ?_)
    intro wa hka hga
    obtain ⟨g1, hg1⟩ : ∃ g, w2.heap.size = g := ⟨_, rfl⟩
    obtain ⟨g2, hg2⟩ : ∃ g, g1 + 1 = g := ⟨_, rfl⟩
    have hga2 := hga
    rw [hg1] at hka hga
    have HG1 : Hid (w.heap.size + 4 ≤ g1) := Lib.hid (by have := HG0.out; omega)
    have HG2 : Hid (w.heap.size + 4 ≤ g2 ∧ g2 ≠ g1) := Lib.hid ⟨by have := HG0.out; omega, by omega⟩
    replace HA1 := Lib.hid hka
    replace HA2 : Hid (Blk wa g2 45 #[.string ⟨#[]⟩, .int .i64 0, .int .i64 0, .int .i64 0, .bool false, .slice none 0 0, .bool false, .int .i64 0]) := Lib.hid (by rw [← hg2, ← hg1]; exact blk_grownT HA2.out hga2 (by omega))
    replace HK := Lib.hid (blk_grownT HK.out hga (by have := HG1.out; omega))
    replace HR := Lib.hid (blk_grownT HR.out hga (by have := HG1.out; omega))
    replace HQ2 := Lib.hid (blk_grownT HQ2.out hga (by have := HG1.out; omega))
    replace HB : Hid (Below w.heap.size w wa) := Lib.hid (HB.out.grown hga HB.out.size fun g hg => by cases hg; have := HG1.out; omega)
    have hgx : More2 F1 w2.heap.size ((w2.alloc (.cells #[.int .i64 0, .int .i64 0, .int .i64 0, .bool false, .slice none 0 0, .slice none 0 0, .int .i64 0] 34)).alloc (.cells #[.string ⟨#[]⟩, .int .i64 0, .int .i64 0, .int .i64 0, .bool false, .slice none 0 0, .bool false, .int .i64 0] 45)).heap.size g1 := Or.inr ⟨by omega, by rw [← hg1]; simp; omega⟩
    have hgx2 : More2 F1 w2.heap.size ((w2.alloc (.cells #[.int .i64 0, .int .i64 0, .int .i64 0, .bool false, .slice none 0 0, .slice none 0 0, .int .i64 0] 34)).alloc (.cells #[.string ⟨#[]⟩, .int .i64 0, .int .i64 0, .int .i64 0, .bool false, .slice none 0 0, .bool false, .int .i64 0] 45)).heap.size g2 := Or.inr ⟨by omega, by rw [← hg2, ← hg1]; simp⟩
    replace HM2 := Lib.hid (hm3.touch (touch_box hga hgx))
    replace HV2 := Lib.hid (hv3.touch (touch_box hga hgx))
    clear hka hga hga2 HD HL hm3 hv3
    try simp only [hg1, hg2]
    go_wp2_with (refine store_box rfl 45 _ _ rfl (g2) 45 #[.string ⟨#[]⟩, .int .i64 0, .int .i64 0, .int .i64 0, .bool false, .slice none 0 0, .bool false, .int .i64 0] #[.string ⟨rp.e.k.toArray⟩, .int .i64 rp.e.s, .int .i64 rp.e.u, .int .i64 rp.e.o, .bool rp.e.has, .slice A2 rp.e.v.length c2, .bool rp.wh, .int .i64 rp.tok] HA2.out rfl rfl rfl (by kernel_rfl) (by kernel_rfl) ?_)
    intro wb hkb hgb
    replace HA1 := Lib.hid (blk_grownT HA1.out hgb (by have := HG2.out; omega))
    replace HA2 := Lib.hid hkb
    replace HR := Lib.hid (blk_grownT HR.out hgb (by have := HG2.out; omega))
    replace HQ2 := Lib.hid (blk_grownT HQ2.out hgb (by have := HG2.out; omega))
    replace HB : Hid (Below w.heap.size w wb) := Lib.hid (HB.out.grown hgb HB.out.size fun g hg => by cases hg; have := HG2.out; omega)
    replace HM2 := Lib.hid (HM2.out.touch (touch_box hgb hgx2)).narrow
    replace HV2 := Lib.hid (HV2.out.touch (touch_box hgb hgx2)).narrow
    clear hkb hgb hgx hgx2 hg1 hg2
    go_upto_region 4 with fail
    have HST : Hid (Stab (fun k => k = w.heap.size + 2 ∨ k = w.heap.size + 3) (VD t' rp A2 c2 n) (preD w.heap.size) (postD w.heap.size t' rp A2 c2)) := Lib.hid (stabD _)
    have HFX : Hid (∀ k, (k = w.heap.size + 2 ∨ k = w.heap.size + 3) → F1 k) := Lib.hid fun k hk => by
      rcases hk with rfl | rfl
      · exact HFR2.out
      · exact HFR.out
    refine RelyJ.wp_region_byJ [[],[],[],[(0,33)],[(1,34)],[],[(2,35)]] [(0,33),(1,34),(2,35),(5,6),(6,7)] (JV (fun k => k = w.heap.size + 2 ∨ k = w.heap.size + 3) wb [3, 4] (VD t' rp A2 c2 n) (preD w.heap.size) (postD w.heap.size t' rp A2 c2)) (by kernel_rfl) (by kernel_rfl) (by kernel_rfl) (by kernel_rfl) (by kernel_rfl) ?_ ?_ ?_
    · exact fun vs => JV.start (fun s hs => by
        rcases List.mem_cons.1 hs with rfl | hs
        · exact HR.out
        · rcases List.mem_cons.1 hs with rfl | hs
          · exact HQ2.out
          · cases hs) HST.out vs
    refine RelyJ.stepsZ_cons (by
        as_aux_lemma =>
        intro S vs w' hS hA hJ
        rw [if_pos (show Region.wanted _ _ = true from rfl)]
        refine RelyJ.gives_mono (R' := fun v w'' => v = .agg #[.int .i64 t'.rc, .int .i64 t'.rb, .int .i64 (t'.nb : Int), .bool t'.fr, .slice t'.A t'.L.length t'.c, .slice t'.tA t'.tok.length t'.tc, .int .i64 t'.us] ∧ w'' = w') ?_ (by rintro v w2 ⟨rfl, rfl⟩; exact hJ.step HST.out (Below.refl _ _) 0 (by simp) _ rfl)
        have hk : Blk w' (g1) 34 #[.int .i64 t'.rc, .int .i64 t'.rb, .int .i64 (t'.nb : Int), .bool t'.fr, .slice t'.A t'.L.length t'.c, .slice t'.tA t'.tok.length t'.tc, .int .i64 t'.us] := (hJ.tou.block (g1) HA1.out.lt (by have := HG1.out; have := HG2.out; omega)).trans HA1.out
        refine gives_loadrow 34 (.tmp 8) rfl (g1) rfl hk Tryz.underlying34 rfl (by kernel_rfl) ?_
        exact ⟨rfl, rfl⟩) ?_
    refine RelyJ.stepsZ_cons (by
        as_aux_lemma =>
        intro S vs w' hS hA hJ
        rw [if_pos (show Region.wanted _ _ = true from rfl)]
        refine RelyJ.gives_mono (R' := fun v w'' => v = .agg #[.string ⟨rp.e.k.toArray⟩, .int .i64 rp.e.s, .int .i64 rp.e.u, .int .i64 rp.e.o, .bool rp.e.has, .slice A2 rp.e.v.length c2, .bool rp.wh, .int .i64 rp.tok] ∧ w'' = w') ?_ (by rintro v w2 ⟨rfl, rfl⟩; exact hJ.step HST.out (Below.refl _ _) 1 (by simp) _ rfl)
        have hk : Blk w' (g2) 45 #[.string ⟨rp.e.k.toArray⟩, .int .i64 rp.e.s, .int .i64 rp.e.u, .int .i64 rp.e.o, .bool rp.e.has, .slice A2 rp.e.v.length c2, .bool rp.wh, .int .i64 rp.tok] := (hJ.tou.block (g2) HA2.out.lt (by have := HG1.out; have := HG2.out; omega)).trans HA2.out
        refine gives_loadrow 45 (.tmp 9) rfl (g2) rfl hk Tryz.underlying45 rfl (by kernel_rfl) ?_
        exact ⟨rfl, rfl⟩) ?_
    refine RelyJ.stepsZ_cons (by
        as_aux_lemma =>
        intro S vs w' hS hA hJ
        rw [if_pos (show Region.wanted _ _ = true from rfl)]
        refine RelyJ.gives_mono (R' := fun v w'' => v = .int .i64 n ∧ w'' = w') ?_ (by rintro v w2 ⟨rfl, rfl⟩; exact hJ.step HST.out (Below.refl _ _) 2 (by simp) _ rfl)
        clear hJ hA hS
        unfold Rely.gives
        simp only [Rely.sel, List.foldl_cons, List.foldl_nil]
        go_simp
        simp [Rely.GivesR]) ?_
    refine RelyJ.stepsZ_cons (by
        as_aux_lemma =>
        intro S vs w' hS hA hJ
        rw [if_pos (show Region.wanted _ _ = true from rfl)]
        have hx0 := hJ.vals 0 (hA ⟨0, Ground.data⟩ (by simp) rfl)
        simp only [VD] at hx0
        have hz := (hJ.st 3 (by simp)).1 hS
        unfold preD at hz
        rw [if_pos rfl] at hz
        refine gives_storerow 34 (.tmp 4) (.tmp 33) rfl (w.heap.size + 2) rfl (cs := #[.int .i64 t'.rc, .int .i64 t'.rb, .int .i64 (t'.nb : Int), .bool t'.fr, .slice t'.A t'.L.length t'.c, .slice t'.tA t'.tok.length t'.tc, .int .i64 t'.us]) (by simp only [Rely.sel, List.foldl_cons, List.foldl_nil, hx0]; rfl) hz rfl (by kernel_rfl) (by kernel_rfl) ?_
        intro w2 hk2 hg2
        refine hJ.put HST.out (touch_box hg2 (Or.inl rfl)) 3 (by unfold postD; rw [if_pos rfl]; exact hk2) trivial (fun s' hs' hne => ?_)
        have : s' = 4 := by simpa [hne] using hs'
        subst this
        refine ⟨fun q => ?_, fun q => ?_⟩
        · unfold preD at q ⊢; rw [if_neg (by decide)] at q ⊢; exact blk_grownT q hg2 (by omega)
        · unfold postD at q ⊢; rw [if_neg (by decide)] at q ⊢; exact blk_grownT q hg2 (by omega)) ?_
    refine RelyJ.stepsZ_cons (by
        as_aux_lemma =>
        intro S vs w' hS hA hJ
        rw [if_pos (show Region.wanted _ _ = true from rfl)]
        have hx1 := hJ.vals 1 (hA ⟨1, Ground.data⟩ (by simp) rfl)
        simp only [VD] at hx1
        have hz := (hJ.st 4 (by simp)).1 hS
        unfold preD at hz
        rw [if_neg (by decide)] at hz
        refine gives_storerow 45 (.tmp 5) (.tmp 34) rfl (w.heap.size + 3) rfl (cs := #[.string ⟨rp.e.k.toArray⟩, .int .i64 rp.e.s, .int .i64 rp.e.u, .int .i64 rp.e.o, .bool rp.e.has, .slice A2 rp.e.v.length c2, .bool rp.wh, .int .i64 rp.tok]) (by simp only [Rely.sel, List.foldl_cons, List.foldl_nil, hx1]; rfl) hz rfl (by kernel_rfl) (by kernel_rfl) ?_
        intro w2 hk2 hg2
        refine hJ.put HST.out (touch_box hg2 (Or.inr rfl)) 4 (by unfold postD; rw [if_neg (by decide)]; exact hk2) trivial (fun s' hs' hne => ?_)
        have : s' = 3 := by simpa [hne] using hs'
        subst this
        refine ⟨fun q => ?_, fun q => ?_⟩
        · unfold preD at q ⊢; rw [if_pos rfl] at q ⊢; exact blk_grownT q hg2 (by omega)
        · unfold postD at q ⊢; rw [if_pos rfl] at q ⊢; exact blk_grownT q hg2 (by omega)) ?_
    refine RelyJ.stepsZ_cons (by
        as_aux_lemma =>
        intro S vs w' hS hA hJ
        rw [if_pos (show Region.wanted _ _ = true from rfl)]
        refine RelyJ.gives_mono (R' := fun v w'' => v = .bool false ∧ w'' = w') ?_ (by rintro v w2 ⟨rfl, rfl⟩; exact hJ.step HST.out (Below.refl _ _) 5 (by simp) _ rfl)
        clear hJ hA hS
        unfold Rely.gives
        simp only [Rely.sel, List.foldl_cons, List.foldl_nil]
        go_simp
        simp [Rely.GivesR]) ?_
    refine RelyJ.stepsZ_cons (by
        as_aux_lemma =>
        intro S vs w' hS hA hJ
        rw [if_pos (show Region.wanted _ _ = true from rfl)]
        refine RelyJ.gives_mono (R' := fun v w'' => v = .int .i64 n ∧ w'' = w') ?_ (by rintro v w2 ⟨rfl, rfl⟩; exact hJ.step HST.out (Below.refl _ _) 6 (by simp) _ rfl)
        have hx2 := hJ.vals 2 (hA ⟨2, Ground.data⟩ (by simp) rfl)
        simp only [VD] at hx2
        clear hJ hA hS
        unfold Rely.gives
        simp only [Rely.sel, List.foldl_cons, List.foldl_nil, hx2]
        go_simp
        simp [Rely.GivesR]) ?_
    exact RelyJ.stepsZ_nil
    intro S vs w' hS hJ
    have h3 := (hJ.st 3 (by simp)).2 (hS 3 (by decide))
    have h4 := (hJ.st 4 (by simp)).2 (hS 4 (by decide))
    unfold postD at h3 h4
    rw [if_pos rfl] at h3
    rw [if_neg (by decide)] at h4
    have hv5 := hJ.vals 5 (hS 5 (by decide))
    have hv6 := hJ.vals 6 (hS 6 (by decide))
    simp only [VD] at hv5 hv6
    have HKz := Lib.hid h3
    have HQz := Lib.hid h4
    have HTX : Hid (Touch F1 wb w') := Lib.hid ⟨hJ.tou.os, hJ.tou.tape, hJ.tou.output, hJ.tou.size, fun k hk hn => hJ.tou.block k hk fun q => hn (HFX.out k q)⟩
    have HBz : Hid (Below w.heap.size w w') := Lib.hid (HB.out.trans (hJ.tou.below (B := w.heap.size) HB.out.size fun k hk => by rcases hk with rfl | rfl <;> omega))
    simp only [Rely.sel, List.foldl_cons, List.foldl_nil, hv5, hv6]
    simp only [Act.put, List.setIfInBounds_toArray, List.set_cons_succ, List.set_cons_zero]
    clear hS hJ h3 h4 hv5 hv6 HST
    go_wp2
    exact bodyPost_ret (v := .tuple #[.agg #[.int .i64 t'.rc, .int .i64 t'.rb, .int .i64 (t'.nb : Int), .bool t'.fr, .slice t'.A t'.L.length t'.c, .slice t'.tA t'.tok.length t'.tc, .int .i64 t'.us], repV rp A2 c2, .bool false, .int .i64 n]) (res_cctt (p := 4) (q := 5) (r := 6) (s := 7) (ty := 34) (ty2 := 45) Tryz.results9 _ _ (w.heap.size + 2) 34 #[.int .i64 t'.rc, .int .i64 t'.rb, .int .i64 (t'.nb : Int), .bool t'.fr, .slice t'.A t'.L.length t'.c, .slice t'.tA t'.tok.length t'.tc, .int .i64 t'.us] (0, 0) _ rfl HKz.out Tryz.underlying34 rfl (by kernel_rfl) (w.heap.size + 3) 45 #[.string ⟨rp.e.k.toArray⟩, .int .i64 rp.e.s, .int .i64 rp.e.u, .int .i64 rp.e.o, .bool rp.e.has, .slice A2 rp.e.v.length c2, .bool rp.wh, .int .i64 rp.tok] (0, 0) _ rfl HQz.out Tryz.underlying45 rfl (by kernel_rfl)) rfl ⟨t', A2, c2, by rw [HQR.out], by rw [HQR.out]; exact HS2.out, HNR.out _ _ (HM2.out.touch HTX.out), by rw [HQR.out]; exact HNV.out _ _ _ _ (HV2.out.touch HTX.out), HBz.out⟩
  have b1 : (kd == 1) = false := by simpa using k1
  by_cases k2 : kd = 2
  · subst k2
    have HQR : Hid (doS (trS t) 2 e tn = ((storeS (trS t) e).1, rp0, false, (storeS (trS t) e).2)) := Lib.hid (by unfold doS; rw [if_neg (by decide), if_pos rfl])
    have HC := Lib.hid (rstore t F1 e eA ec W1 HFL.out HM.out HOK.out HVR.out HKL.out HUU.out HQ.out)
    obtain ⟨⟨SQ, n⟩, hRQ⟩ : ∃ R, storeS (trS t) e = R := ⟨_, rfl⟩
    rw [hRQ] at HC HQR
    clear hRQ
    go_wp2_with (refine wpList_load_row rfl 34 _ rfl _ rfl _ _ _ _ (show _ = _ from HK.out) Tryz.underlying34 rfl (by kernel_rfl) ?_)
    refine HC.out.mono ?_
    rintro e2 w2 ⟨t', rfl, hS2, hm2, hb2⟩
    have HS2 := Lib.hid hS2
    have HM2 := Lib.hid hm2
    replace HK := Lib.hid (HK.out.below hb2 HK.out.lt)
    replace HD := Lib.hid (HD.out.below hb2 HD.out.lt)
    replace HR := Lib.hid (HR.out.below hb2 HR.out.lt)
    replace HQ2 := Lib.hid (HQ2.out.below hb2 HQ2.out.lt)
    replace HB := Lib.hid (HB.out.trans (hb2.mono HB.out.size))
    replace HM := Lib.hid (HM.out.below hb2)
    replace HL := Lib.hid (Nat.le_trans HL.out hb2.size)
    clear hS2 hm2 hb2 HC
    clear d0 d1 d2 d3 d4 d5 d6 d7
    go_upto_region 7 with (refine wpList_boxM rfl rfl _ rfl 34 #[.int .i64 0, .int .i64 0, .int .i64 0, .bool false, .slice none 0 0, .slice none 0 0, .int .i64 0] (by kernel_rfl) _ _ rfl #[.int .i64 t'.rc, .int .i64 t'.rb, .int .i64 (t'.nb : Int), .bool t'.fr, .slice t'.A t'.L.length t'.c, .slice t'.tA t'.tok.length t'.tc, .int .i64 t'.us] rfl rfl rfl (by kernel_rfl) (by kernel_rfl) ?_)
    obtain ⟨gu, hgu⟩ : ∃ g, w2.heap.size = g := ⟨_, rfl⟩
    obtain ⟨W3, hW3⟩ : ∃ W, w2.alloc (.cells #[.int .i64 t'.rc, .int .i64 t'.rb, .int .i64 (t'.nb : Int), .bool t'.fr, .slice t'.A t'.L.length t'.c, .slice t'.tA t'.tok.length t'.tc, .int .i64 t'.us] 34) = W := ⟨_, rfl⟩
    have hb3 : Below w2.heap.size w2 W3 := by rw [← hW3]; exact (Below.refl _ _).alloc (Nat.le_refl _) _
    have HU : Hid (Blk W3 gu 34 #[.int .i64 t'.rc, .int .i64 t'.rb, .int .i64 (t'.nb : Int), .bool t'.fr, .slice t'.A t'.L.length t'.c, .slice t'.tA t'.tok.length t'.tc, .int .i64 t'.us]) := Lib.hid (by rw [← hW3, ← hgu]; exact Blk.new _ _ _)
    replace HK := Lib.hid (HK.out.below hb3 HK.out.lt)
    replace HD := Lib.hid (HD.out.below hb3 HD.out.lt)
    replace HR := Lib.hid (HR.out.below hb3 HR.out.lt)
    replace HQ2 := Lib.hid (HQ2.out.below hb3 HQ2.out.lt)
    replace HB := Lib.hid (HB.out.trans (hb3.mono HB.out.size))
    replace HM := Lib.hid (HM.out.below hb3)
    replace HL := Lib.hid (Nat.le_trans HL.out hb3.size)
    replace HM2 := Lib.hid (HM2.out.below hb3)
    try simp only [hW3, hgu]
    clear hb3 hW3 hgu
    go_wp2_with (first | (refine wpList_load_row rfl 34 _ rfl _ rfl _ _ _ _ (show _ = _ from HU.out) Tryz.underlying34 rfl (by kernel_rfl) ?_) | (refine store_box rfl 34 _ _ rfl (w.heap.size + 2) 34 #[.int .i64 0, .int .i64 0, .int .i64 0, .bool false, .slice none 0 0, .slice none 0 0, .int .i64 0] #[.int .i64 t'.rc, .int .i64 t'.rb, .int .i64 (t'.nb : Int), .bool t'.fr, .slice t'.A t'.L.length t'.c, .slice t'.tA t'.tok.length t'.tc, .int .i64 t'.us] HR.out rfl rfl rfl (by kernel_rfl) (by kernel_rfl) ?_))
    intro wa hka hga
    have HKa := Lib.hid hka
    have HQa := Lib.hid (blk_grownT HQ2.out hga (by omega))
    have HBa : Hid (Below w.heap.size w wa) := Lib.hid (HB.out.grown hga HB.out.size fun g hg => by cases hg; omega)
    have HGa := Lib.hid hga
    clear hka hga
    go_wp2_with (refine store_box rfl 45 _ _ rfl (w.heap.size + 3) 45 #[.string ⟨#[]⟩, .int .i64 0, .int .i64 0, .int .i64 0, .bool false, .slice none 0 0, .bool false, .int .i64 0] #[.string ⟨#[]⟩, .int .i64 0, .int .i64 0, .int .i64 0, .bool false, .slice none 0 0, .bool false, .int .i64 0] HQa.out rfl rfl rfl (by kernel_rfl) (by kernel_rfl) ?_)
    intro wz hkz hgz
    have HQz := Lib.hid hkz
    have HKz := Lib.hid (blk_grownT HKa.out hgz (by omega))
    have HBz : Hid (Below w.heap.size w wz) := Lib.hid (HBa.out.grown hgz HBa.out.size fun g hg => by cases hg; omega)
    have HGz := Lib.hid hgz
    clear hkz hgz
    go_wp2
    exact bodyPost_ret (v := .tuple #[.agg #[.int .i64 t'.rc, .int .i64 t'.rb, .int .i64 (t'.nb : Int), .bool t'.fr, .slice t'.A t'.L.length t'.c, .slice t'.tA t'.tok.length t'.tc, .int .i64 t'.us], repV rp0 none 0, .bool false, .int .i64 n]) (res_cctt (p := 4) (q := 5) (r := 6) (s := 7) (ty := 34) (ty2 := 45) Tryz.results9 _ _ (w.heap.size + 2) 34 #[.int .i64 t'.rc, .int .i64 t'.rb, .int .i64 (t'.nb : Int), .bool t'.fr, .slice t'.A t'.L.length t'.c, .slice t'.tA t'.tok.length t'.tc, .int .i64 t'.us] (0, 0) _ rfl HKz.out Tryz.underlying34 rfl (by kernel_rfl) (w.heap.size + 3) 45 #[.string ⟨rp0.e.k.toArray⟩, .int .i64 rp0.e.s, .int .i64 rp0.e.u, .int .i64 rp0.e.o, .bool rp0.e.has, .slice none rp0.e.v.length 0, .bool rp0.wh, .int .i64 rp0.tok] (0, 0) _ rfl HQz.out Tryz.underlying45 rfl (by kernel_rfl)) rfl ⟨t', none, 0, by rw [HQR.out], by rw [HQR.out]; exact HS2.out, HNR.out _ _ ((HM2.out.touch (touch_box HGa.out HFR2.out)).touch (touch_box HGz.out HFR.out)), by rw [HQR.out]; exact vlN_nil _ _, HBz.out⟩
  have b2 : (kd == 2) = false := by simpa using k2
  by_cases k3 : kd = 3
  · subst k3
    have HQR : Hid (doS (trS t) 3 e tn = ((fillS (trS t) e tn).1, rp0, (fillS (trS t) e tn).2.1, (fillS (trS t) e tn).2.2)) := Lib.hid (by unfold doS; rw [if_neg (by decide), if_neg (by decide), if_pos rfl])
    have HC := Lib.hid (rfill t F1 e eA ec tn W1 HFL.out HM.out HOK.out HVR.out HKL.out HUU.out HQ.out)
    obtain ⟨⟨SQ, b, n⟩, hRQ⟩ : ∃ R, fillS (trS t) e tn = R := ⟨_, rfl⟩
    rw [hRQ] at HC HQR
    clear hRQ
    go_wp2_with (refine wpList_load_row rfl 34 _ rfl _ rfl _ _ _ _ (show _ = _ from HK.out) Tryz.underlying34 rfl (by kernel_rfl) ?_)
    refine HC.out.mono ?_
    rintro e2 w2 ⟨t', rfl, hS2, hm2, hb2⟩
    have HS2 := Lib.hid hS2
    have HM2 := Lib.hid hm2
    replace HK := Lib.hid (HK.out.below hb2 HK.out.lt)
    replace HD := Lib.hid (HD.out.below hb2 HD.out.lt)
    replace HR := Lib.hid (HR.out.below hb2 HR.out.lt)
    replace HQ2 := Lib.hid (HQ2.out.below hb2 HQ2.out.lt)
    replace HB := Lib.hid (HB.out.trans (hb2.mono HB.out.size))
    replace HM := Lib.hid (HM.out.below hb2)
    replace HL := Lib.hid (Nat.le_trans HL.out hb2.size)
    clear hS2 hm2 hb2 HC
    clear d0 d1 d2 d3 d4 d5 d6 d7
    go_upto_region 10 with (refine wpList_boxM rfl rfl _ rfl 34 #[.int .i64 0, .int .i64 0, .int .i64 0, .bool false, .slice none 0 0, .slice none 0 0, .int .i64 0] (by kernel_rfl) _ _ rfl #[.int .i64 t'.rc, .int .i64 t'.rb, .int .i64 (t'.nb : Int), .bool t'.fr, .slice t'.A t'.L.length t'.c, .slice t'.tA t'.tok.length t'.tc, .int .i64 t'.us] rfl rfl rfl (by kernel_rfl) (by kernel_rfl) ?_)
    obtain ⟨gu, hgu⟩ : ∃ g, w2.heap.size = g := ⟨_, rfl⟩
    obtain ⟨W3, hW3⟩ : ∃ W, w2.alloc (.cells #[.int .i64 t'.rc, .int .i64 t'.rb, .int .i64 (t'.nb : Int), .bool t'.fr, .slice t'.A t'.L.length t'.c, .slice t'.tA t'.tok.length t'.tc, .int .i64 t'.us] 34) = W := ⟨_, rfl⟩
    have hb3 : Below w2.heap.size w2 W3 := by rw [← hW3]; exact (Below.refl _ _).alloc (Nat.le_refl _) _
    have HU : Hid (Blk W3 gu 34 #[.int .i64 t'.rc, .int .i64 t'.rb, .int .i64 (t'.nb : Int), .bool t'.fr, .slice t'.A t'.L.length t'.c, .slice t'.tA t'.tok.length t'.tc, .int .i64 t'.us]) := Lib.hid (by rw [← hW3, ← hgu]; exact Blk.new _ _ _)
    replace HK := Lib.hid (HK.out.below hb3 HK.out.lt)
    replace HD := Lib.hid (HD.out.below hb3 HD.out.lt)
    replace HR := Lib.hid (HR.out.below hb3 HR.out.lt)
    replace HQ2 := Lib.hid (HQ2.out.below hb3 HQ2.out.lt)
    replace HB := Lib.hid (HB.out.trans (hb3.mono HB.out.size))
    replace HM := Lib.hid (HM.out.below hb3)
    replace HL := Lib.hid (Nat.le_trans HL.out hb3.size)
    replace HM2 := Lib.hid (HM2.out.below hb3)
    try simp only [hW3, hgu]
    clear hb3 hW3 hgu
    go_wp2_with (first | (refine wpList_load_row rfl 34 _ rfl _ rfl _ _ _ _ (show _ = _ from HU.out) Tryz.underlying34 rfl (by kernel_rfl) ?_) | (refine store_box rfl 34 _ _ rfl (w.heap.size + 2) 34 #[.int .i64 0, .int .i64 0, .int .i64 0, .bool false, .slice none 0 0, .slice none 0 0, .int .i64 0] #[.int .i64 t'.rc, .int .i64 t'.rb, .int .i64 (t'.nb : Int), .bool t'.fr, .slice t'.A t'.L.length t'.c, .slice t'.tA t'.tok.length t'.tc, .int .i64 t'.us] HR.out rfl rfl rfl (by kernel_rfl) (by kernel_rfl) ?_))
    intro wa hka hga
    have HKa := Lib.hid hka
    have HQa := Lib.hid (blk_grownT HQ2.out hga (by omega))
    have HBa : Hid (Below w.heap.size w wa) := Lib.hid (HB.out.grown hga HB.out.size fun g hg => by cases hg; omega)
    have HGa := Lib.hid hga
    clear hka hga
    go_wp2_with (refine store_box rfl 45 _ _ rfl (w.heap.size + 3) 45 #[.string ⟨#[]⟩, .int .i64 0, .int .i64 0, .int .i64 0, .bool false, .slice none 0 0, .bool false, .int .i64 0] #[.string ⟨#[]⟩, .int .i64 0, .int .i64 0, .int .i64 0, .bool false, .slice none 0 0, .bool false, .int .i64 0] HQa.out rfl rfl rfl (by kernel_rfl) (by kernel_rfl) ?_)
    intro wz hkz hgz
    have HQz := Lib.hid hkz
    have HKz := Lib.hid (blk_grownT HKa.out hgz (by omega))
    have HBz : Hid (Below w.heap.size w wz) := Lib.hid (HBa.out.grown hgz HBa.out.size fun g hg => by cases hg; omega)
    have HGz := Lib.hid hgz
    clear hkz hgz
    go_wp2
    exact bodyPost_ret (v := .tuple #[.agg #[.int .i64 t'.rc, .int .i64 t'.rb, .int .i64 (t'.nb : Int), .bool t'.fr, .slice t'.A t'.L.length t'.c, .slice t'.tA t'.tok.length t'.tc, .int .i64 t'.us], repV rp0 none 0, .bool b, .int .i64 n]) (res_cctt (p := 4) (q := 5) (r := 6) (s := 7) (ty := 34) (ty2 := 45) Tryz.results9 _ _ (w.heap.size + 2) 34 #[.int .i64 t'.rc, .int .i64 t'.rb, .int .i64 (t'.nb : Int), .bool t'.fr, .slice t'.A t'.L.length t'.c, .slice t'.tA t'.tok.length t'.tc, .int .i64 t'.us] (0, 0) _ rfl HKz.out Tryz.underlying34 rfl (by kernel_rfl) (w.heap.size + 3) 45 #[.string ⟨rp0.e.k.toArray⟩, .int .i64 rp0.e.s, .int .i64 rp0.e.u, .int .i64 rp0.e.o, .bool rp0.e.has, .slice none rp0.e.v.length 0, .bool rp0.wh, .int .i64 rp0.tok] (0, 0) _ rfl HQz.out Tryz.underlying45 rfl (by kernel_rfl)) rfl ⟨t', none, 0, by rw [HQR.out], by rw [HQR.out]; exact HS2.out, HNR.out _ _ ((HM2.out.touch (touch_box HGa.out HFR2.out)).touch (touch_box HGz.out HFR.out)), by rw [HQR.out]; exact vlN_nil _ _, HBz.out⟩
  have b3 : (kd == 3) = false := by simpa using k3
  by_cases k4 : kd = 4
  · subst k4
    have HQR : Hid (doS (trS t) 4 e tn = ((cleanS (trS t) e.k e.s e.u e.o).1, rp0, (cleanS (trS t) e.k e.s e.u e.o).2, 0)) := Lib.hid (by unfold doS; rw [if_neg (by decide), if_neg (by decide), if_neg (by decide), if_pos rfl])
    have HC := Lib.hid (rclean t F1 e.k e.s e.u e.o W1 HFL.out HM.out HOK.out)
    obtain ⟨⟨SQ, b⟩, hRQ⟩ : ∃ R, cleanS (trS t) e.k e.s e.u e.o = R := ⟨_, rfl⟩
    rw [hRQ] at HC HQR
    clear hRQ
    go_wp2_with (refine wpList_load_row rfl 34 _ rfl _ rfl _ _ _ _ (show _ = _ from HK.out) Tryz.underlying34 rfl (by kernel_rfl) ?_)
    refine HC.out.mono ?_
    rintro e2 w2 ⟨t', rfl, hS2, hm2, hb2⟩
    have HS2 := Lib.hid hS2
    have HM2 := Lib.hid hm2
    replace HK := Lib.hid (HK.out.below hb2 HK.out.lt)
    replace HD := Lib.hid (HD.out.below hb2 HD.out.lt)
    replace HR := Lib.hid (HR.out.below hb2 HR.out.lt)
    replace HQ2 := Lib.hid (HQ2.out.below hb2 HQ2.out.lt)
    replace HB := Lib.hid (HB.out.trans (hb2.mono HB.out.size))
    replace HM := Lib.hid (HM.out.below hb2)
    replace HL := Lib.hid (Nat.le_trans HL.out hb2.size)
    clear hS2 hm2 hb2 HC
    clear d0 d1 d2 d3 d4 d5 d6 d7
    go_upto_region 13 with (refine wpList_boxM rfl rfl _ rfl 34 #[.int .i64 0, .int .i64 0, .int .i64 0, .bool false, .slice none 0 0, .slice none 0 0, .int .i64 0] (by kernel_rfl) _ _ rfl #[.int .i64 t'.rc, .int .i64 t'.rb, .int .i64 (t'.nb : Int), .bool t'.fr, .slice t'.A t'.L.length t'.c, .slice t'.tA t'.tok.length t'.tc, .int .i64 t'.us] rfl rfl rfl (by kernel_rfl) (by kernel_rfl) ?_)
    obtain ⟨gu, hgu⟩ : ∃ g, w2.heap.size = g := ⟨_, rfl⟩
    obtain ⟨W3, hW3⟩ : ∃ W, w2.alloc (.cells #[.int .i64 t'.rc, .int .i64 t'.rb, .int .i64 (t'.nb : Int), .bool t'.fr, .slice t'.A t'.L.length t'.c, .slice t'.tA t'.tok.length t'.tc, .int .i64 t'.us] 34) = W := ⟨_, rfl⟩
    have hb3 : Below w2.heap.size w2 W3 := by rw [← hW3]; exact (Below.refl _ _).alloc (Nat.le_refl _) _
    have HU : Hid (Blk W3 gu 34 #[.int .i64 t'.rc, .int .i64 t'.rb, .int .i64 (t'.nb : Int), .bool t'.fr, .slice t'.A t'.L.length t'.c, .slice t'.tA t'.tok.length t'.tc, .int .i64 t'.us]) := Lib.hid (by rw [← hW3, ← hgu]; exact Blk.new _ _ _)
    replace HK := Lib.hid (HK.out.below hb3 HK.out.lt)
    replace HD := Lib.hid (HD.out.below hb3 HD.out.lt)
    replace HR := Lib.hid (HR.out.below hb3 HR.out.lt)
    replace HQ2 := Lib.hid (HQ2.out.below hb3 HQ2.out.lt)
    replace HB := Lib.hid (HB.out.trans (hb3.mono HB.out.size))
    replace HM := Lib.hid (HM.out.below hb3)
    replace HL := Lib.hid (Nat.le_trans HL.out hb3.size)
    replace HM2 := Lib.hid (HM2.out.below hb3)
    try simp only [hW3, hgu]
    clear hb3 hW3 hgu
    go_wp2_with (first | (refine wpList_load_row rfl 34 _ rfl _ rfl _ _ _ _ (show _ = _ from HU.out) Tryz.underlying34 rfl (by kernel_rfl) ?_) | (refine store_box rfl 34 _ _ rfl (w.heap.size + 2) 34 #[.int .i64 0, .int .i64 0, .int .i64 0, .bool false, .slice none 0 0, .slice none 0 0, .int .i64 0] #[.int .i64 t'.rc, .int .i64 t'.rb, .int .i64 (t'.nb : Int), .bool t'.fr, .slice t'.A t'.L.length t'.c, .slice t'.tA t'.tok.length t'.tc, .int .i64 t'.us] HR.out rfl rfl rfl (by kernel_rfl) (by kernel_rfl) ?_))
    intro wa hka hga
    have HKa := Lib.hid hka
    have HQa := Lib.hid (blk_grownT HQ2.out hga (by omega))
    have HBa : Hid (Below w.heap.size w wa) := Lib.hid (HB.out.grown hga HB.out.size fun g hg => by cases hg; omega)
    have HGa := Lib.hid hga
    clear hka hga
    go_wp2_with (refine store_box rfl 45 _ _ rfl (w.heap.size + 3) 45 #[.string ⟨#[]⟩, .int .i64 0, .int .i64 0, .int .i64 0, .bool false, .slice none 0 0, .bool false, .int .i64 0] #[.string ⟨#[]⟩, .int .i64 0, .int .i64 0, .int .i64 0, .bool false, .slice none 0 0, .bool false, .int .i64 0] HQa.out rfl rfl rfl (by kernel_rfl) (by kernel_rfl) ?_)
    intro wz hkz hgz
    have HQz := Lib.hid hkz
    have HKz := Lib.hid (blk_grownT HKa.out hgz (by omega))
    have HBz : Hid (Below w.heap.size w wz) := Lib.hid (HBa.out.grown hgz HBa.out.size fun g hg => by cases hg; omega)
    have HGz := Lib.hid hgz
    clear hkz hgz
    go_wp2
    exact bodyPost_ret (v := .tuple #[.agg #[.int .i64 t'.rc, .int .i64 t'.rb, .int .i64 (t'.nb : Int), .bool t'.fr, .slice t'.A t'.L.length t'.c, .slice t'.tA t'.tok.length t'.tc, .int .i64 t'.us], repV rp0 none 0, .bool b, .int .i64 0]) (res_cctt (p := 4) (q := 5) (r := 6) (s := 7) (ty := 34) (ty2 := 45) Tryz.results9 _ _ (w.heap.size + 2) 34 #[.int .i64 t'.rc, .int .i64 t'.rb, .int .i64 (t'.nb : Int), .bool t'.fr, .slice t'.A t'.L.length t'.c, .slice t'.tA t'.tok.length t'.tc, .int .i64 t'.us] (0, 0) _ rfl HKz.out Tryz.underlying34 rfl (by kernel_rfl) (w.heap.size + 3) 45 #[.string ⟨rp0.e.k.toArray⟩, .int .i64 rp0.e.s, .int .i64 rp0.e.u, .int .i64 rp0.e.o, .bool rp0.e.has, .slice none rp0.e.v.length 0, .bool rp0.wh, .int .i64 rp0.tok] (0, 0) _ rfl HQz.out Tryz.underlying45 rfl (by kernel_rfl)) rfl ⟨t', none, 0, by rw [HQR.out], by rw [HQR.out]; exact HS2.out, HNR.out _ _ ((HM2.out.touch (touch_box HGa.out HFR2.out)).touch (touch_box HGz.out HFR.out)), by rw [HQR.out]; exact vlN_nil _ _, HBz.out⟩
  have b4 : (kd == 4) = false := by simpa using k4
  by_cases k6 : kd = 6
  · subst k6
    have HQR : Hid (doS (trS t) 6 e tn = (forgetS (trS t), rp0, false, 0)) := Lib.hid (by unfold doS; rw [if_neg (by decide), if_neg (by decide), if_neg (by decide), if_neg (by decide), if_pos rfl])
    have HC := Lib.hid (HFG.out t F1 W1 HFL.out HM.out HOK.out HQ4.out)
    obtain ⟨SQ, hRQ⟩ : ∃ R, forgetS (trS t) = R := ⟨_, rfl⟩
    rw [hRQ] at HC HQR
    clear hRQ
    go_wp2_with (refine wpList_load_row rfl 34 _ rfl _ rfl _ _ _ _ (show _ = _ from HK.out) Tryz.underlying34 rfl (by kernel_rfl) ?_)
    refine HC.out.mono ?_
    rintro e2 w2 ⟨t', rfl, hS2, hm2, hb2⟩
    have HS2 := Lib.hid hS2
    have HM2 := Lib.hid hm2
    replace HK := Lib.hid (HK.out.below hb2 HK.out.lt)
    replace HD := Lib.hid (HD.out.below hb2 HD.out.lt)
    replace HR := Lib.hid (HR.out.below hb2 HR.out.lt)
    replace HQ2 := Lib.hid (HQ2.out.below hb2 HQ2.out.lt)
    replace HB := Lib.hid (HB.out.trans (hb2.mono HB.out.size))
    replace HM := Lib.hid (HM.out.below hb2)
    replace HL := Lib.hid (Nat.le_trans HL.out hb2.size)
    clear hS2 hm2 hb2 HC
    clear d0 d1 d2 d3 d4 d5 d6 d7
    go_wp2_with (first | fail | (refine store_box rfl 34 _ _ rfl (w.heap.size + 2) 34 #[.int .i64 0, .int .i64 0, .int .i64 0, .bool false, .slice none 0 0, .slice none 0 0, .int .i64 0] #[.int .i64 t'.rc, .int .i64 t'.rb, .int .i64 (t'.nb : Int), .bool t'.fr, .slice t'.A t'.L.length t'.c, .slice t'.tA t'.tok.length t'.tc, .int .i64 t'.us] HR.out rfl rfl rfl (by kernel_rfl) (by kernel_rfl) ?_))
    intro wa hka hga
    have HKa := Lib.hid hka
    have HQa := Lib.hid (blk_grownT HQ2.out hga (by omega))
    have HBa : Hid (Below w.heap.size w wa) := Lib.hid (HB.out.grown hga HB.out.size fun g hg => by cases hg; omega)
    have HGa := Lib.hid hga
    clear hka hga
    go_wp2_with (refine store_box rfl 45 _ _ rfl (w.heap.size + 3) 45 #[.string ⟨#[]⟩, .int .i64 0, .int .i64 0, .int .i64 0, .bool false, .slice none 0 0, .bool false, .int .i64 0] #[.string ⟨#[]⟩, .int .i64 0, .int .i64 0, .int .i64 0, .bool false, .slice none 0 0, .bool false, .int .i64 0] HQa.out rfl rfl rfl (by kernel_rfl) (by kernel_rfl) ?_)
    intro wz hkz hgz
    have HQz := Lib.hid hkz
    have HKz := Lib.hid (blk_grownT HKa.out hgz (by omega))
    have HBz : Hid (Below w.heap.size w wz) := Lib.hid (HBa.out.grown hgz HBa.out.size fun g hg => by cases hg; omega)
    have HGz := Lib.hid hgz
    clear hkz hgz
    go_wp2
    exact bodyPost_ret (v := .tuple #[.agg #[.int .i64 t'.rc, .int .i64 t'.rb, .int .i64 (t'.nb : Int), .bool t'.fr, .slice t'.A t'.L.length t'.c, .slice t'.tA t'.tok.length t'.tc, .int .i64 t'.us], repV rp0 none 0, .bool false, .int .i64 0]) (res_cctt (p := 4) (q := 5) (r := 6) (s := 7) (ty := 34) (ty2 := 45) Tryz.results9 _ _ (w.heap.size + 2) 34 #[.int .i64 t'.rc, .int .i64 t'.rb, .int .i64 (t'.nb : Int), .bool t'.fr, .slice t'.A t'.L.length t'.c, .slice t'.tA t'.tok.length t'.tc, .int .i64 t'.us] (0, 0) _ rfl HKz.out Tryz.underlying34 rfl (by kernel_rfl) (w.heap.size + 3) 45 #[.string ⟨rp0.e.k.toArray⟩, .int .i64 rp0.e.s, .int .i64 rp0.e.u, .int .i64 rp0.e.o, .bool rp0.e.has, .slice none rp0.e.v.length 0, .bool rp0.wh, .int .i64 rp0.tok] (0, 0) _ rfl HQz.out Tryz.underlying45 rfl (by kernel_rfl)) rfl ⟨t', none, 0, by rw [HQR.out], by rw [HQR.out]; exact HS2.out, HNR.out _ _ ((HM2.out.touch (touch_box HGa.out HFR2.out)).touch (touch_box HGz.out HFR.out)), by rw [HQR.out]; exact vlN_nil _ _, HBz.out⟩
  have b6 : (kd == 6) = false := by simpa using k6
  have HQR : Hid (doS (trS t) kd e tn = ((evictS (trS t) e.k).1, rp0, (evictS (trS t) e.k).2, 0)) := Lib.hid (by unfold doS; rw [if_neg k1, if_neg k2, if_neg k3, if_neg k4, if_neg k6])
  have HC := Lib.hid (revict t F1 e.k W1 HFL.out HM.out HOK.out HQ4.out)
  obtain ⟨⟨SQ, b⟩, hRQ⟩ : ∃ R, evictS (trS t) e.k = R := ⟨_, rfl⟩
  rw [hRQ] at HC HQR
  clear hRQ k1 k2 k3 k4 k6
  go_wp2_with (refine wpList_load_row rfl 34 _ rfl _ rfl _ _ _ _ (show _ = _ from HK.out) Tryz.underlying34 rfl (by kernel_rfl) ?_)
  refine HC.out.mono ?_
  rintro e2 w2 ⟨t', rfl, hS2, hm2, hb2⟩
  have HS2 := Lib.hid hS2
  have HM2 := Lib.hid hm2
  replace HK := Lib.hid (HK.out.below hb2 HK.out.lt)
  replace HD := Lib.hid (HD.out.below hb2 HD.out.lt)
  replace HR := Lib.hid (HR.out.below hb2 HR.out.lt)
  replace HQ2 := Lib.hid (HQ2.out.below hb2 HQ2.out.lt)
  replace HB := Lib.hid (HB.out.trans (hb2.mono HB.out.size))
  replace HM := Lib.hid (HM.out.below hb2)
  replace HL := Lib.hid (Nat.le_trans HL.out hb2.size)
  clear hS2 hm2 hb2 HC
  clear d0 d1 d2 d3 d4 d5 d6 d7
  go_upto_region 17 with (refine wpList_boxM rfl rfl _ rfl 34 #[.int .i64 0, .int .i64 0, .int .i64 0, .bool false, .slice none 0 0, .slice none 0 0, .int .i64 0] (by kernel_rfl) _ _ rfl #[.int .i64 t'.rc, .int .i64 t'.rb, .int .i64 (t'.nb : Int), .bool t'.fr, .slice t'.A t'.L.length t'.c, .slice t'.tA t'.tok.length t'.tc, .int .i64 t'.us] rfl rfl rfl (by kernel_rfl) (by kernel_rfl) ?_)
  obtain ⟨gu, hgu⟩ : ∃ g, w2.heap.size = g := ⟨_, rfl⟩
  obtain ⟨W3, hW3⟩ : ∃ W, w2.alloc (.cells #[.int .i64 t'.rc, .int .i64 t'.rb, .int .i64 (t'.nb : Int), .bool t'.fr, .slice t'.A t'.L.length t'.c, .slice t'.tA t'.tok.length t'.tc, .int .i64 t'.us] 34) = W := ⟨_, rfl⟩
  have hb3 : Below w2.heap.size w2 W3 := by rw [← hW3]; exact (Below.refl _ _).alloc (Nat.le_refl _) _
  have HU : Hid (Blk W3 gu 34 #[.int .i64 t'.rc, .int .i64 t'.rb, .int .i64 (t'.nb : Int), .bool t'.fr, .slice t'.A t'.L.length t'.c, .slice t'.tA t'.tok.length t'.tc, .int .i64 t'.us]) := Lib.hid (by rw [← hW3, ← hgu]; exact Blk.new _ _ _)
  replace HK := Lib.hid (HK.out.below hb3 HK.out.lt)
  replace HD := Lib.hid (HD.out.below hb3 HD.out.lt)
  replace HR := Lib.hid (HR.out.below hb3 HR.out.lt)
  replace HQ2 := Lib.hid (HQ2.out.below hb3 HQ2.out.lt)
  replace HB := Lib.hid (HB.out.trans (hb3.mono HB.out.size))
  replace HM := Lib.hid (HM.out.below hb3)
  replace HL := Lib.hid (Nat.le_trans HL.out hb3.size)
  replace HM2 := Lib.hid (HM2.out.below hb3)
  try simp only [hW3, hgu]
  clear hb3 hW3 hgu
  go_wp2_with (first | (refine wpList_load_row rfl 34 _ rfl _ rfl _ _ _ _ (show _ = _ from HU.out) Tryz.underlying34 rfl (by kernel_rfl) ?_) | (refine store_box rfl 34 _ _ rfl (w.heap.size + 2) 34 #[.int .i64 0, .int .i64 0, .int .i64 0, .bool false, .slice none 0 0, .slice none 0 0, .int .i64 0] #[.int .i64 t'.rc, .int .i64 t'.rb, .int .i64 (t'.nb : Int), .bool t'.fr, .slice t'.A t'.L.length t'.c, .slice t'.tA t'.tok.length t'.tc, .int .i64 t'.us] HR.out rfl rfl rfl (by kernel_rfl) (by kernel_rfl) ?_))
  intro wa hka hga
  have HKa := Lib.hid hka
  have HQa := Lib.hid (blk_grownT HQ2.out hga (by omega))
  have HBa : Hid (Below w.heap.size w wa) := Lib.hid (HB.out.grown hga HB.out.size fun g hg => by cases hg; omega)
  have HGa := Lib.hid hga
  clear hka hga
  go_wp2_with (refine store_box rfl 45 _ _ rfl (w.heap.size + 3) 45 #[.string ⟨#[]⟩, .int .i64 0, .int .i64 0, .int .i64 0, .bool false, .slice none 0 0, .bool false, .int .i64 0] #[.string ⟨#[]⟩, .int .i64 0, .int .i64 0, .int .i64 0, .bool false, .slice none 0 0, .bool false, .int .i64 0] HQa.out rfl rfl rfl (by kernel_rfl) (by kernel_rfl) ?_)
  intro wz hkz hgz
  have HQz := Lib.hid hkz
  have HKz := Lib.hid (blk_grownT HKa.out hgz (by omega))
  have HBz : Hid (Below w.heap.size w wz) := Lib.hid (HBa.out.grown hgz HBa.out.size fun g hg => by cases hg; omega)
  have HGz := Lib.hid hgz
  clear hkz hgz
  go_wp2
  exact bodyPost_ret (v := .tuple #[.agg #[.int .i64 t'.rc, .int .i64 t'.rb, .int .i64 (t'.nb : Int), .bool t'.fr, .slice t'.A t'.L.length t'.c, .slice t'.tA t'.tok.length t'.tc, .int .i64 t'.us], repV rp0 none 0, .bool b, .int .i64 0]) (res_cctt (p := 4) (q := 5) (r := 6) (s := 7) (ty := 34) (ty2 := 45) Tryz.results9 _ _ (w.heap.size + 2) 34 #[.int .i64 t'.rc, .int .i64 t'.rb, .int .i64 (t'.nb : Int), .bool t'.fr, .slice t'.A t'.L.length t'.c, .slice t'.tA t'.tok.length t'.tc, .int .i64 t'.us] (0, 0) _ rfl HKz.out Tryz.underlying34 rfl (by kernel_rfl) (w.heap.size + 3) 45 #[.string ⟨rp0.e.k.toArray⟩, .int .i64 rp0.e.s, .int .i64 rp0.e.u, .int .i64 rp0.e.o, .bool rp0.e.has, .slice none rp0.e.v.length 0, .bool rp0.wh, .int .i64 rp0.tok] (0, 0) _ rfl HQz.out Tryz.underlying45 rfl (by kernel_rfl)) rfl ⟨t', none, 0, by rw [HQR.out], by rw [HQR.out]; exact HS2.out, HNR.out _ _ ((HM2.out.touch (touch_box HGa.out HFR2.out)).touch (touch_box HGz.out HFR.out)), by rw [HQR.out]; exact vlN_nil _ _, HBz.out⟩
end Go.Proofs.YtpebhfjcakllmaaGreat
namespace Go.Proofs.YtpebhfjcakllmaaGreat
open Go.RowKit Go.ChangeShapes Mem Be Word Rg Go.Maps
set_option maxRecDepth 100000
set_option maxHeartbeats 8000000
set_option linter.unusedVariables false
set_option linter.unusedSimpArgs false
theorem rowN_turn {F G : Nat → Prop} {w w' : World} {A : Option Addr} {xs : List Value} (h : RowN F w A xs) (hb : Below w.heap.size w w') (hG : ∀ k, G k → F k ∨ w.heap.size ≤ k) : RowN G w' A xs := by
  rcases h with h | ⟨b, o, e, hf, hl, hc⟩
  · exact Or.inl h
  · exact Or.inr ⟨b, o, e, fun q => (hG b q).elim hf fun h9 => by omega, Nat.lt_of_lt_of_le hl hb.size, fun j hj => (World.cell?_of_block (hb.block b hl)).trans (hc j hj)⟩
theorem vlN_turn {F G : Nat → Prop} {w w' : World} {v : List UInt8} {A : Option Addr} {c : Nat} (h : VlN F w v A c) (hb : Below w.heap.size w w') (hG : ∀ k, G k → F k ∨ w.heap.size ≤ k) : VlN G w' v A c := ⟨rowN_turn h.1 hb hG, h.2⟩
theorem trN_turn {F G : Nat → Prop} {w w' : World} {t : Tr} (h : TrN F w t) (hb : Below w.heap.size w w') (hG : ∀ k, G k → F k ∨ w.heap.size ≤ k) : TrN G w' t :=
  ⟨⟨rowN_turn h.cen.row hb hG, fun x hx => (show VlN _ _ _ _ _ from vlN_turn (h.cen.val x hx) hb hG)⟩, h.cap, rowN_turn h.tok hb hG, h.ln, h.tl⟩
/-- The blocks of the boxes. -/
def FBx (F : Nat → Prop) (S : Nat → Bool) (vs : Nat → Value) (k : Nat) : Prop := F k ∨ (S 11 = true ∧ vs 11 = .pointer (some ⟨k, 0, none⟩)) ∨ (S 12 = true ∧ vs 12 = .pointer (some ⟨k, 0, none⟩))
def depJ : Nat → List Nat
  | 3 => [1, 2] | 4 => [3] | 5 => [0, 4] | 6 => [5] | 7 => [6] | 8 => [6] | 9 => [6] | 10 => [6] | 13 => [11, 7] | 14 => [12, 8, 13] | 15 => [9] | 16 => [10] | _ => []
def VJ (t : Tr) (lA : Option Addr) (ln lc : Nat) (ix : Nat) (bb oj : Nat) (d : D11) (b : Bool) (n : Int) : Nat → Value → Prop
  | 0, v => v = .agg #[.int .i64 t.rc, .int .i64 t.rb, .int .i64 (t.nb : Int), .bool t.fr, .slice t.A t.L.length t.c, .slice t.tA t.tok.length t.tc, .int .i64 t.us]
  | 1, v => v = .slice lA ln lc
  | 2, v => v = .int .i64 (ix : Int)
  | 3, v => v = .pointer (some ⟨bb, oj, none⟩)
  | 4, v => v = .agg #[.int .i64 d.kind, .string ⟨d.e.1.k.toArray⟩, .int .i64 d.e.1.s, .int .i64 d.e.1.u, .int .i64 d.e.1.o, .bool d.e.1.has, .slice d.e.2.1 d.e.1.v.length d.e.2.2, .int .i64 d.tok]
  | 9, v => v = .bool b
  | 10, v => v = .int .i64 n
  | 15, v => v = .bool b
  | 16, v => v = .int .i64 n
  | _, _ => True
structure JL (F : Nat → Prop) (W0 : World) (V : Nat → Value → Prop) (SS : Cl) (rp : RpP) (b : Bool) (n : Int) (S : Nat → Bool) (vs : Nat → Value) (w : World) : Prop where
  bel : Below W0.heap.size W0 w
  clo : ∀ k, S k = true → ∀ m ∈ depJ k, S m = true
  vals : ∀ i, S i = true → V i (vs i)
  a11 : S 11 = true → ∃ g, vs 11 = .pointer (some ⟨g, 0, none⟩) ∧ W0.heap.size ≤ g ∧ g < w.heap.size ∧ (S 13 = false → Blk w g 34 #[.int .i64 0, .int .i64 0, .int .i64 0, .bool false, .slice none 0 0, .slice none 0 0, .int .i64 0])
  a12 : S 12 = true → ∃ g, vs 12 = .pointer (some ⟨g, 0, none⟩) ∧ W0.heap.size ≤ g ∧ g < w.heap.size ∧ (S 14 = false → Blk w g 45 #[.string ⟨#[]⟩, .int .i64 0, .int .i64 0, .int .i64 0, .bool false, .slice none 0 0, .bool false, .int .i64 0])
  ne : S 11 = true → S 12 = true → vs 11 ≠ vs 12
  c : S 5 = true → ∃ (t : Tr) (A : Option Addr) (c : Nat), vs 5 = .tuple #[.agg #[.int .i64 t.rc, .int .i64 t.rb, .int .i64 (t.nb : Int), .bool t.fr, .slice t.A t.L.length t.c, .slice t.tA t.tok.length t.tc, .int .i64 t.us], repV rp A c, .bool b, .int .i64 n] ∧ trS t = SS ∧ TrN (FBx F S vs) w t ∧ VlN (FBx F S vs) w rp.e.v A c ∧ (S 6 = true → vs 6 = .tuple #[.agg #[.int .i64 t.rc, .int .i64 t.rb, .int .i64 (t.nb : Int), .bool t.fr, .slice t.A t.L.length t.c, .slice t.tA t.tok.length t.tc, .int .i64 t.us], repV rp A c, .bool b, .int .i64 n]) ∧ (S 7 = true → vs 7 = .agg #[.int .i64 t.rc, .int .i64 t.rb, .int .i64 (t.nb : Int), .bool t.fr, .slice t.A t.L.length t.c, .slice t.tA t.tok.length t.tc, .int .i64 t.us]) ∧ (S 8 = true → vs 8 = .agg #[.string ⟨rp.e.k.toArray⟩, .int .i64 rp.e.s, .int .i64 rp.e.u, .int .i64 rp.e.o, .bool rp.e.has, .slice A rp.e.v.length c, .bool rp.wh, .int .i64 rp.tok]) ∧ (S 13 = true → ∃ g, vs 11 = .pointer (some ⟨g, 0, none⟩) ∧ Blk w g 34 #[.int .i64 t.rc, .int .i64 t.rb, .int .i64 (t.nb : Int), .bool t.fr, .slice t.A t.L.length t.c, .slice t.tA t.tok.length t.tc, .int .i64 t.us]) ∧ (S 14 = true → ∃ g, vs 12 = .pointer (some ⟨g, 0, none⟩) ∧ Blk w g 45 #[.string ⟨rp.e.k.toArray⟩, .int .i64 rp.e.s, .int .i64 rp.e.u, .int .i64 rp.e.o, .bool rp.e.has, .slice A rp.e.v.length c, .bool rp.wh, .int .i64 rp.tok])
section
variable {F : Nat → Prop} {W0 w w' : World} {V : Nat → Value → Prop} {SS : Cl} {rp : RpP} {b : Bool} {n : Int} {S : Nat → Bool} {vs : Nat → Value}
theorem cloJ_up (h : ∀ k, S k = true → ∀ m ∈ depJ k, S m = true) (i : Nat) (hd : ∀ m ∈ depJ i, S m = true) : ∀ k, RelyJ.up S i true k = true → ∀ m ∈ depJ k, RelyJ.up S i true m = true := fun k hk m hm => by
  by_cases e : m = i
  · subst e; exact RelyJ.up_same _ _ _
  · rw [RelyJ.up_ne _ _ e]
    by_cases e2 : k = i
    · subst e2; exact hd m hm
    · rw [RelyJ.up_ne _ _ e2] at hk; exact h k hk m hm
theorem valsJ_up {V : Nat → Value → Prop} (h : ∀ i, S i = true → V i (vs i)) (i : Nat) (u : Value) (hv : V i u) : ∀ k, RelyJ.up S i true k = true → V k (RelyJ.up vs i u k) := fun k hk => by
  by_cases e : k = i
  · subst e; rw [RelyJ.up_same]; exact hv
  · rw [RelyJ.up_ne _ _ e] at hk ⊢; exact h k hk
theorem JL.box_ge (h : JL F W0 V SS rp b n S vs w) : ∀ k, FBx F S vs k → F k ∨ W0.heap.size ≤ k := fun k hk => by
  rcases hk with hk | ⟨h1, h2⟩ | ⟨h1, h2⟩
  · exact Or.inl hk
  · obtain ⟨g, hg, hl, _⟩ := h.a11 h1
    rw [hg] at h2; injection h2 with h2; injection h2 with h2; injection h2 with h2; subst h2; exact Or.inr hl
  · obtain ⟨g, hg, hl, _⟩ := h.a12 h1
    rw [hg] at h2; injection h2 with h2; injection h2 with h2; injection h2 with h2; subst h2; exact Or.inr hl
theorem JL.box_lt (h : JL F W0 V SS rp b n S vs w) (hF : ∀ k, F k → k < W0.heap.size) : ∀ k, FBx F S vs k → k < w.heap.size := fun k hk => by
  rcases hk with hk | ⟨h1, h2⟩ | ⟨h1, h2⟩
  · exact Nat.lt_of_lt_of_le (hF k hk) h.bel.size
  · obtain ⟨g, hg, _, hl, _⟩ := h.a11 h1
    rw [hg] at h2; injection h2 with h2; injection h2 with h2; injection h2 with h2; subst h2; exact hl
  · obtain ⟨g, hg, _, hl, _⟩ := h.a12 h1
    rw [hg] at h2; injection h2 with h2; injection h2 with h2; injection h2 with h2; subst h2; exact hl
/-- An operation that only reads: its value is known. -/
theorem JL.quiet (h : JL F W0 V SS rp b n S vs w) (i : Nat) (hi : i ∈ [0, 1, 2, 3, 4, 9, 10, 15, 16]) (hd : ∀ m ∈ depJ i, S m = true) (u : Value) (hv : V i u) : JL F W0 V SS rp b n (RelyJ.up S i true) (RelyJ.up vs i u) w := by
  have hu : ∀ k, k ∈ [5, 6, 7, 8, 11, 12, 13, 14] → RelyJ.up S i true k = S k ∧ RelyJ.up vs i u k = vs k := fun k hk => by
    have : k ≠ i := fun e => by subst e; revert hi hk; simp; omega
    exact ⟨RelyJ.up_ne _ _ this, RelyJ.up_ne _ _ this⟩
  have u5 := hu 5 (by simp); have u6 := hu 6 (by simp); have u7 := hu 7 (by simp); have u8 := hu 8 (by simp)
  have u11 := hu 11 (by simp); have u12 := hu 12 (by simp); have u13 := hu 13 (by simp); have u14 := hu 14 (by simp)
  refine ⟨h.bel, cloJ_up h.clo i hd, valsJ_up h.vals i u hv, ?_, ?_, ?_, ?_⟩
  · rw [u11.1, u11.2, u13.1]; exact h.a11
  · rw [u12.1, u12.2, u14.1]; exact h.a12
  · rw [u11.1, u12.1, u11.2, u12.2]; exact h.ne
  · unfold FBx
    rw [u5.1, u5.2, u6.1, u6.2, u7.1, u7.2, u8.1, u8.2, u11.1, u11.2, u12.1, u12.2, u13.1, u14.1]
    exact h.c
theorem JL.s6 (h : JL F W0 V SS rp b n S vs w) (hd : ∀ m ∈ depJ 6, S m = true) (u : Value) (hv : V 6 u) (hu : u = vs 5) : JL F W0 V SS rp b n (RelyJ.up S 6 true) (RelyJ.up vs 6 u) w := by
  have u5 : RelyJ.up S 6 true 5 = S 5 := RelyJ.up_ne _ _ (by decide)
  have v5 : RelyJ.up vs 6 u 5 = vs 5 := RelyJ.up_ne _ _ (by decide)
  have u7 : RelyJ.up S 6 true 7 = S 7 := RelyJ.up_ne _ _ (by decide)
  have v7 : RelyJ.up vs 6 u 7 = vs 7 := RelyJ.up_ne _ _ (by decide)
  have u8 : RelyJ.up S 6 true 8 = S 8 := RelyJ.up_ne _ _ (by decide)
  have v8 : RelyJ.up vs 6 u 8 = vs 8 := RelyJ.up_ne _ _ (by decide)
  have u11 : RelyJ.up S 6 true 11 = S 11 := RelyJ.up_ne _ _ (by decide)
  have v11 : RelyJ.up vs 6 u 11 = vs 11 := RelyJ.up_ne _ _ (by decide)
  have u12 : RelyJ.up S 6 true 12 = S 12 := RelyJ.up_ne _ _ (by decide)
  have v12 : RelyJ.up vs 6 u 12 = vs 12 := RelyJ.up_ne _ _ (by decide)
  have u13 : RelyJ.up S 6 true 13 = S 13 := RelyJ.up_ne _ _ (by decide)
  have v13 : RelyJ.up vs 6 u 13 = vs 13 := RelyJ.up_ne _ _ (by decide)
  have u14 : RelyJ.up S 6 true 14 = S 14 := RelyJ.up_ne _ _ (by decide)
  have v14 : RelyJ.up vs 6 u 14 = vs 14 := RelyJ.up_ne _ _ (by decide)
  have hF : FBx F (RelyJ.up S 6 true) (RelyJ.up vs 6 u) = FBx F S vs := by unfold FBx; rw [u11, u12, v11, v12]
  refine ⟨h.bel, cloJ_up h.clo 6 hd, valsJ_up h.vals 6 u hv, by rw [u11, v11, u13]; exact h.a11, by rw [u12, v12, u14]; exact h.a12, by rw [u11, u12, v11, v12]; exact h.ne, fun q => ?_⟩
  rw [u5] at q
  obtain ⟨t1, A1, c1, e5, hs, hm, hvl, e6, e7, e8, e13, e14⟩ := h.c q
  exact ⟨t1, A1, c1, by rw [v5]; exact e5, hs, by rw [hF]; exact hm, by rw [hF]; exact hvl, fun _ => by rw [RelyJ.up_same, hu]; exact e5, fun q => by rw [v7]; rw [u7] at q; exact e7 q, fun q => by rw [v8]; rw [u8] at q; exact e8 q, fun q => by rw [u13] at q; rw [v11]; exact e13 q, fun q => by rw [u14] at q; rw [v12]; exact e14 q⟩
theorem JL.s7 (h : JL F W0 V SS rp b n S vs w) (hd : ∀ m ∈ depJ 7, S m = true) (u : Value) (hv : V 7 u) (t : Tr) (A : Option Addr) (c : Nat) (hx : vs 6 = .tuple #[.agg #[.int .i64 t.rc, .int .i64 t.rb, .int .i64 (t.nb : Int), .bool t.fr, .slice t.A t.L.length t.c, .slice t.tA t.tok.length t.tc, .int .i64 t.us], repV rp A c, .bool b, .int .i64 n]) (hu : u = .agg #[.int .i64 t.rc, .int .i64 t.rb, .int .i64 (t.nb : Int), .bool t.fr, .slice t.A t.L.length t.c, .slice t.tA t.tok.length t.tc, .int .i64 t.us]) : JL F W0 V SS rp b n (RelyJ.up S 7 true) (RelyJ.up vs 7 u) w := by
  have u5 : RelyJ.up S 7 true 5 = S 5 := RelyJ.up_ne _ _ (by decide)
  have v5 : RelyJ.up vs 7 u 5 = vs 5 := RelyJ.up_ne _ _ (by decide)
  have u6 : RelyJ.up S 7 true 6 = S 6 := RelyJ.up_ne _ _ (by decide)
  have v6 : RelyJ.up vs 7 u 6 = vs 6 := RelyJ.up_ne _ _ (by decide)
  have u8 : RelyJ.up S 7 true 8 = S 8 := RelyJ.up_ne _ _ (by decide)
  have v8 : RelyJ.up vs 7 u 8 = vs 8 := RelyJ.up_ne _ _ (by decide)
  have u11 : RelyJ.up S 7 true 11 = S 11 := RelyJ.up_ne _ _ (by decide)
  have v11 : RelyJ.up vs 7 u 11 = vs 11 := RelyJ.up_ne _ _ (by decide)
  have u12 : RelyJ.up S 7 true 12 = S 12 := RelyJ.up_ne _ _ (by decide)
  have v12 : RelyJ.up vs 7 u 12 = vs 12 := RelyJ.up_ne _ _ (by decide)
  have u13 : RelyJ.up S 7 true 13 = S 13 := RelyJ.up_ne _ _ (by decide)
  have v13 : RelyJ.up vs 7 u 13 = vs 13 := RelyJ.up_ne _ _ (by decide)
  have u14 : RelyJ.up S 7 true 14 = S 14 := RelyJ.up_ne _ _ (by decide)
  have v14 : RelyJ.up vs 7 u 14 = vs 14 := RelyJ.up_ne _ _ (by decide)
  have hF : FBx F (RelyJ.up S 7 true) (RelyJ.up vs 7 u) = FBx F S vs := by unfold FBx; rw [u11, u12, v11, v12]
  refine ⟨h.bel, cloJ_up h.clo 7 hd, valsJ_up h.vals 7 u hv, by rw [u11, v11, u13]; exact h.a11, by rw [u12, v12, u14]; exact h.a12, by rw [u11, u12, v11, v12]; exact h.ne, fun q => ?_⟩
  rw [u5] at q
  obtain ⟨t1, A1, c1, e5, hs, hm, hvl, e6, e7, e8, e13, e14⟩ := h.c q
  exact ⟨t1, A1, c1, by rw [v5]; exact e5, hs, by rw [hF]; exact hm, by rw [hF]; exact hvl, fun q => by rw [v6]; rw [u6] at q; exact e6 q, fun _ => by
    rw [RelyJ.up_same, hu]
    have h6 := e6 (hd 6 (by simp [depJ]))
    rw [hx] at h6
    injection h6 with h6
    simp only [Array.mk.injEq, List.cons.injEq] at h6
    exact h6.1, fun q => by rw [v8]; rw [u8] at q; exact e8 q, fun q => by rw [u13] at q; rw [v11]; exact e13 q, fun q => by rw [u14] at q; rw [v12]; exact e14 q⟩
theorem JL.s8 (h : JL F W0 V SS rp b n S vs w) (hd : ∀ m ∈ depJ 8, S m = true) (u : Value) (hv : V 8 u) (t : Tr) (A : Option Addr) (c : Nat) (hx : vs 6 = .tuple #[.agg #[.int .i64 t.rc, .int .i64 t.rb, .int .i64 (t.nb : Int), .bool t.fr, .slice t.A t.L.length t.c, .slice t.tA t.tok.length t.tc, .int .i64 t.us], repV rp A c, .bool b, .int .i64 n]) (hu : u = .agg #[.string ⟨rp.e.k.toArray⟩, .int .i64 rp.e.s, .int .i64 rp.e.u, .int .i64 rp.e.o, .bool rp.e.has, .slice A rp.e.v.length c, .bool rp.wh, .int .i64 rp.tok]) : JL F W0 V SS rp b n (RelyJ.up S 8 true) (RelyJ.up vs 8 u) w := by
  have u5 : RelyJ.up S 8 true 5 = S 5 := RelyJ.up_ne _ _ (by decide)
  have v5 : RelyJ.up vs 8 u 5 = vs 5 := RelyJ.up_ne _ _ (by decide)
  have u6 : RelyJ.up S 8 true 6 = S 6 := RelyJ.up_ne _ _ (by decide)
  have v6 : RelyJ.up vs 8 u 6 = vs 6 := RelyJ.up_ne _ _ (by decide)
  have u7 : RelyJ.up S 8 true 7 = S 7 := RelyJ.up_ne _ _ (by decide)
  have v7 : RelyJ.up vs 8 u 7 = vs 7 := RelyJ.up_ne _ _ (by decide)
  have u11 : RelyJ.up S 8 true 11 = S 11 := RelyJ.up_ne _ _ (by decide)
  have v11 : RelyJ.up vs 8 u 11 = vs 11 := RelyJ.up_ne _ _ (by decide)
  have u12 : RelyJ.up S 8 true 12 = S 12 := RelyJ.up_ne _ _ (by decide)
  have v12 : RelyJ.up vs 8 u 12 = vs 12 := RelyJ.up_ne _ _ (by decide)
  have u13 : RelyJ.up S 8 true 13 = S 13 := RelyJ.up_ne _ _ (by decide)
  have v13 : RelyJ.up vs 8 u 13 = vs 13 := RelyJ.up_ne _ _ (by decide)
  have u14 : RelyJ.up S 8 true 14 = S 14 := RelyJ.up_ne _ _ (by decide)
  have v14 : RelyJ.up vs 8 u 14 = vs 14 := RelyJ.up_ne _ _ (by decide)
  have hF : FBx F (RelyJ.up S 8 true) (RelyJ.up vs 8 u) = FBx F S vs := by unfold FBx; rw [u11, u12, v11, v12]
  refine ⟨h.bel, cloJ_up h.clo 8 hd, valsJ_up h.vals 8 u hv, by rw [u11, v11, u13]; exact h.a11, by rw [u12, v12, u14]; exact h.a12, by rw [u11, u12, v11, v12]; exact h.ne, fun q => ?_⟩
  rw [u5] at q
  obtain ⟨t1, A1, c1, e5, hs, hm, hvl, e6, e7, e8, e13, e14⟩ := h.c q
  exact ⟨t1, A1, c1, by rw [v5]; exact e5, hs, by rw [hF]; exact hm, by rw [hF]; exact hvl, fun q => by rw [v6]; rw [u6] at q; exact e6 q, fun q => by rw [v7]; rw [u7] at q; exact e7 q, fun _ => by
    rw [RelyJ.up_same, hu]
    have h6 := e6 (hd 6 (by simp [depJ]))
    rw [hx] at h6
    injection h6 with h6
    simp only [Array.mk.injEq, List.cons.injEq] at h6
    exact h6.2.1, fun q => by rw [u13] at q; rw [v11]; exact e13 q, fun q => by rw [u14] at q; rw [v12]; exact e14 q⟩
theorem JL.s5 (h : JL F W0 V SS rp b n S vs w) (hd : ∀ m ∈ depJ 5, S m = true) (u : Value) (hv : V 5 u) (hS : S 5 = false) (t : Tr) (A : Option Addr) (c : Nat) (hu : u = .tuple #[.agg #[.int .i64 t.rc, .int .i64 t.rb, .int .i64 (t.nb : Int), .bool t.fr, .slice t.A t.L.length t.c, .slice t.tA t.tok.length t.tc, .int .i64 t.us], repV rp A c, .bool b, .int .i64 n]) (hs : trS t = SS) (hm : TrN (FBx F S vs) w' t) (hvl : VlN (FBx F S vs) w' rp.e.v A c) (hb : Below w.heap.size w w') : JL F W0 V SS rp b n (RelyJ.up S 5 true) (RelyJ.up vs 5 u) w' := by
  have u6 : RelyJ.up S 5 true 6 = S 6 := RelyJ.up_ne _ _ (by decide)
  have v6 : RelyJ.up vs 5 u 6 = vs 6 := RelyJ.up_ne _ _ (by decide)
  have u7 : RelyJ.up S 5 true 7 = S 7 := RelyJ.up_ne _ _ (by decide)
  have v7 : RelyJ.up vs 5 u 7 = vs 7 := RelyJ.up_ne _ _ (by decide)
  have u8 : RelyJ.up S 5 true 8 = S 8 := RelyJ.up_ne _ _ (by decide)
  have v8 : RelyJ.up vs 5 u 8 = vs 8 := RelyJ.up_ne _ _ (by decide)
  have u11 : RelyJ.up S 5 true 11 = S 11 := RelyJ.up_ne _ _ (by decide)
  have v11 : RelyJ.up vs 5 u 11 = vs 11 := RelyJ.up_ne _ _ (by decide)
  have u12 : RelyJ.up S 5 true 12 = S 12 := RelyJ.up_ne _ _ (by decide)
  have v12 : RelyJ.up vs 5 u 12 = vs 12 := RelyJ.up_ne _ _ (by decide)
  have u13 : RelyJ.up S 5 true 13 = S 13 := RelyJ.up_ne _ _ (by decide)
  have v13 : RelyJ.up vs 5 u 13 = vs 13 := RelyJ.up_ne _ _ (by decide)
  have u14 : RelyJ.up S 5 true 14 = S 14 := RelyJ.up_ne _ _ (by decide)
  have v14 : RelyJ.up vs 5 u 14 = vs 14 := RelyJ.up_ne _ _ (by decide)
  have hF : FBx F (RelyJ.up S 5 true) (RelyJ.up vs 5 u) = FBx F S vs := by unfold FBx; rw [u11, u12, v11, v12]
  have f6 : S 5 = false → S 6 = false := fun q => by
    cases e : S 6
    · rfl
    · have := h.clo 6 e 5 (by simp [depJ]); rw [q] at this; cases this
  have f7 : S 6 = false → S 7 = false := fun q => by
    cases e : S 7
    · rfl
    · have := h.clo 7 e 6 (by simp [depJ]); rw [q] at this; cases this
  have f8 : S 6 = false → S 8 = false := fun q => by
    cases e : S 8
    · rfl
    · have := h.clo 8 e 6 (by simp [depJ]); rw [q] at this; cases this
  have f13 : S 7 = false → S 13 = false := fun q => by
    cases e : S 13
    · rfl
    · have := h.clo 13 e 7 (by simp [depJ]); rw [q] at this; cases this
  have f13' : S 11 = false → S 13 = false := fun q => by
    cases e : S 13
    · rfl
    · have := h.clo 13 e 11 (by simp [depJ]); rw [q] at this; cases this
  have f14 : S 13 = false → S 14 = false := fun q => by
    cases e : S 14
    · rfl
    · have := h.clo 14 e 13 (by simp [depJ]); rw [q] at this; cases this
  have f14' : S 12 = false → S 14 = false := fun q => by
    cases e : S 14
    · rfl
    · have := h.clo 14 e 12 (by simp [depJ]); rw [q] at this; cases this
  refine ⟨h.bel.trans (hb.mono h.bel.size), cloJ_up h.clo 5 hd, valsJ_up h.vals 5 u hv, fun q => ?_, fun q => ?_, by rw [u11, u12, v11, v12]; exact h.ne, fun _ => ?_⟩
  · rw [u11] at q; rw [v11, u13]
    obtain ⟨g, a1, a2, a3, a4⟩ := h.a11 q
    exact ⟨g, a1, a2, Nat.lt_of_lt_of_le a3 hb.size, fun q => (a4 q).below hb a3⟩
  · rw [u12] at q; rw [v12, u14]
    obtain ⟨g, a1, a2, a3, a4⟩ := h.a12 q
    exact ⟨g, a1, a2, Nat.lt_of_lt_of_le a3 hb.size, fun q => (a4 q).below hb a3⟩
  · refine ⟨t, A, c, by rw [RelyJ.up_same]; exact hu, hs, by rw [hF]; exact hm, by rw [hF]; exact hvl, fun q => ?_, fun q => ?_, fun q => ?_, fun q => ?_, fun q => ?_⟩
    · rw [u6, f6 hS] at q; cases q
    · rw [u7, f7 (f6 hS)] at q; cases q
    · rw [u8, f8 (f6 hS)] at q; cases q
    · rw [u13, f13 (f7 (f6 hS))] at q; cases q
    · rw [u14, f14 (f13 (f7 (f6 hS)))] at q; cases q
theorem JL.s11 (h : JL F W0 V SS rp b n S vs w) (hd : ∀ m ∈ depJ 11, S m = true) (u : Value) (hv : V 11 u) (hS : S 11 = false) (hu : u = .pointer (some ⟨w.heap.size, 0, none⟩)) : JL F W0 V SS rp b n (RelyJ.up S 11 true) (RelyJ.up vs 11 u) (w.alloc (.cells #[.int .i64 0, .int .i64 0, .int .i64 0, .bool false, .slice none 0 0, .slice none 0 0, .int .i64 0] 34)) := by
  have u5 : RelyJ.up S 11 true 5 = S 5 := RelyJ.up_ne _ _ (by decide)
  have v5 : RelyJ.up vs 11 u 5 = vs 5 := RelyJ.up_ne _ _ (by decide)
  have u6 : RelyJ.up S 11 true 6 = S 6 := RelyJ.up_ne _ _ (by decide)
  have v6 : RelyJ.up vs 11 u 6 = vs 6 := RelyJ.up_ne _ _ (by decide)
  have u7 : RelyJ.up S 11 true 7 = S 7 := RelyJ.up_ne _ _ (by decide)
  have v7 : RelyJ.up vs 11 u 7 = vs 7 := RelyJ.up_ne _ _ (by decide)
  have u8 : RelyJ.up S 11 true 8 = S 8 := RelyJ.up_ne _ _ (by decide)
  have v8 : RelyJ.up vs 11 u 8 = vs 8 := RelyJ.up_ne _ _ (by decide)
  have u12 : RelyJ.up S 11 true 12 = S 12 := RelyJ.up_ne _ _ (by decide)
  have v12 : RelyJ.up vs 11 u 12 = vs 12 := RelyJ.up_ne _ _ (by decide)
  have u13 : RelyJ.up S 11 true 13 = S 13 := RelyJ.up_ne _ _ (by decide)
  have v13 : RelyJ.up vs 11 u 13 = vs 13 := RelyJ.up_ne _ _ (by decide)
  have u14 : RelyJ.up S 11 true 14 = S 14 := RelyJ.up_ne _ _ (by decide)
  have v14 : RelyJ.up vs 11 u 14 = vs 14 := RelyJ.up_ne _ _ (by decide)
  have f6 : S 5 = false → S 6 = false := fun q => by
    cases e : S 6
    · rfl
    · have := h.clo 6 e 5 (by simp [depJ]); rw [q] at this; cases this
  have f7 : S 6 = false → S 7 = false := fun q => by
    cases e : S 7
    · rfl
    · have := h.clo 7 e 6 (by simp [depJ]); rw [q] at this; cases this
  have f8 : S 6 = false → S 8 = false := fun q => by
    cases e : S 8
    · rfl
    · have := h.clo 8 e 6 (by simp [depJ]); rw [q] at this; cases this
  have f13 : S 7 = false → S 13 = false := fun q => by
    cases e : S 13
    · rfl
    · have := h.clo 13 e 7 (by simp [depJ]); rw [q] at this; cases this
  have f13' : S 11 = false → S 13 = false := fun q => by
    cases e : S 13
    · rfl
    · have := h.clo 13 e 11 (by simp [depJ]); rw [q] at this; cases this
  have f14 : S 13 = false → S 14 = false := fun q => by
    cases e : S 14
    · rfl
    · have := h.clo 14 e 13 (by simp [depJ]); rw [q] at this; cases this
  have f14' : S 12 = false → S 14 = false := fun q => by
    cases e : S 14
    · rfl
    · have := h.clo 14 e 12 (by simp [depJ]); rw [q] at this; cases this
  have hb : Below w.heap.size w (w.alloc (.cells #[.int .i64 0, .int .i64 0, .int .i64 0, .bool false, .slice none 0 0, .slice none 0 0, .int .i64 0] 34)) := (Below.refl _ _).alloc (Nat.le_refl _) _
  have hnew : Blk (w.alloc (.cells #[.int .i64 0, .int .i64 0, .int .i64 0, .bool false, .slice none 0 0, .slice none 0 0, .int .i64 0] 34)) w.heap.size 34 #[.int .i64 0, .int .i64 0, .int .i64 0, .bool false, .slice none 0 0, .slice none 0 0, .int .i64 0] := Blk.new _ _ _
  have hG : ∀ k, FBx F (RelyJ.up S 11 true) (RelyJ.up vs 11 u) k → FBx F S vs k ∨ w.heap.size ≤ k := fun k hk => by
    unfold FBx at hk ⊢
    rw [u12, v12, RelyJ.up_same, RelyJ.up_same, hu] at hk
    rcases hk with hk | ⟨_, h2⟩ | hk
    · exact Or.inl (Or.inl hk)
    · injection h2 with h2; injection h2 with h2; injection h2 with h2; exact Or.inr (by omega)
    · exact Or.inl (Or.inr (Or.inr hk))
  have hown : RelyJ.up S 11 true 11 = true → ∃ g, RelyJ.up vs 11 u 11 = .pointer (some ⟨g, 0, none⟩) ∧ W0.heap.size ≤ g ∧ g < (w.alloc (.cells #[.int .i64 0, .int .i64 0, .int .i64 0, .bool false, .slice none 0 0, .slice none 0 0, .int .i64 0] 34)).heap.size ∧ (RelyJ.up S 11 true 13 = false → Blk (w.alloc (.cells #[.int .i64 0, .int .i64 0, .int .i64 0, .bool false, .slice none 0 0, .slice none 0 0, .int .i64 0] 34)) g 34 #[.int .i64 0, .int .i64 0, .int .i64 0, .bool false, .slice none 0 0, .slice none 0 0, .int .i64 0]) := fun _ => ⟨w.heap.size, by rw [RelyJ.up_same]; exact hu, h.bel.size, hnew.lt, fun _ => hnew⟩
  have hoth : RelyJ.up S 11 true 12 = true → ∃ g, RelyJ.up vs 11 u 12 = .pointer (some ⟨g, 0, none⟩) ∧ W0.heap.size ≤ g ∧ g < (w.alloc (.cells #[.int .i64 0, .int .i64 0, .int .i64 0, .bool false, .slice none 0 0, .slice none 0 0, .int .i64 0] 34)).heap.size ∧ (RelyJ.up S 11 true 14 = false → Blk (w.alloc (.cells #[.int .i64 0, .int .i64 0, .int .i64 0, .bool false, .slice none 0 0, .slice none 0 0, .int .i64 0] 34)) g 45 #[.string ⟨#[]⟩, .int .i64 0, .int .i64 0, .int .i64 0, .bool false, .slice none 0 0, .bool false, .int .i64 0]) := fun q => by
    rw [u12] at q; rw [v12, u14]
    obtain ⟨g, a1, a2, a3, a4⟩ := h.a12 q
    exact ⟨g, a1, a2, Nat.lt_of_lt_of_le a3 hb.size, fun q => (a4 q).below hb a3⟩
  refine ⟨h.bel.trans (hb.mono h.bel.size), cloJ_up h.clo 11 hd, valsJ_up h.vals 11 u hv, hown, hoth, fun q1 q2 => ?_, fun q => ?_⟩
  · rw [u12] at q2
    obtain ⟨g, a1, a2, a3, a4⟩ := h.a12 q2
    rw [RelyJ.up_same, v12, hu, a1]
    intro e
    injection e with e; injection e with e; injection e with e
    omega
  · rw [u5] at q
    obtain ⟨t1, A1, c1, e5, hs, hm, hvl, e6, e7, e8, e13, e14⟩ := h.c q
    exact ⟨t1, A1, c1, by rw [v5]; exact e5, hs, trN_turn hm hb hG, vlN_turn hvl hb hG, fun q => by rw [v6]; rw [u6] at q; exact e6 q, fun q => by rw [v7]; rw [u7] at q; exact e7 q, fun q => by rw [v8]; rw [u8] at q; exact e8 q, fun q => (by rw [u13, f13' hS] at q; cases q), fun q => (by rw [u14, f14 (f13' hS)] at q; cases q)⟩
theorem JL.s12 (h : JL F W0 V SS rp b n S vs w) (hd : ∀ m ∈ depJ 12, S m = true) (u : Value) (hv : V 12 u) (hS : S 12 = false) (hu : u = .pointer (some ⟨w.heap.size, 0, none⟩)) : JL F W0 V SS rp b n (RelyJ.up S 12 true) (RelyJ.up vs 12 u) (w.alloc (.cells #[.string ⟨#[]⟩, .int .i64 0, .int .i64 0, .int .i64 0, .bool false, .slice none 0 0, .bool false, .int .i64 0] 45)) := by
  have u5 : RelyJ.up S 12 true 5 = S 5 := RelyJ.up_ne _ _ (by decide)
  have v5 : RelyJ.up vs 12 u 5 = vs 5 := RelyJ.up_ne _ _ (by decide)
  have u6 : RelyJ.up S 12 true 6 = S 6 := RelyJ.up_ne _ _ (by decide)
  have v6 : RelyJ.up vs 12 u 6 = vs 6 := RelyJ.up_ne _ _ (by decide)
  have u7 : RelyJ.up S 12 true 7 = S 7 := RelyJ.up_ne _ _ (by decide)
  have v7 : RelyJ.up vs 12 u 7 = vs 7 := RelyJ.up_ne _ _ (by decide)
  have u8 : RelyJ.up S 12 true 8 = S 8 := RelyJ.up_ne _ _ (by decide)
  have v8 : RelyJ.up vs 12 u 8 = vs 8 := RelyJ.up_ne _ _ (by decide)
  have u11 : RelyJ.up S 12 true 11 = S 11 := RelyJ.up_ne _ _ (by decide)
  have v11 : RelyJ.up vs 12 u 11 = vs 11 := RelyJ.up_ne _ _ (by decide)
  have u13 : RelyJ.up S 12 true 13 = S 13 := RelyJ.up_ne _ _ (by decide)
  have v13 : RelyJ.up vs 12 u 13 = vs 13 := RelyJ.up_ne _ _ (by decide)
  have u14 : RelyJ.up S 12 true 14 = S 14 := RelyJ.up_ne _ _ (by decide)
  have v14 : RelyJ.up vs 12 u 14 = vs 14 := RelyJ.up_ne _ _ (by decide)
  have f6 : S 5 = false → S 6 = false := fun q => by
    cases e : S 6
    · rfl
    · have := h.clo 6 e 5 (by simp [depJ]); rw [q] at this; cases this
  have f7 : S 6 = false → S 7 = false := fun q => by
    cases e : S 7
    · rfl
    · have := h.clo 7 e 6 (by simp [depJ]); rw [q] at this; cases this
  have f8 : S 6 = false → S 8 = false := fun q => by
    cases e : S 8
    · rfl
    · have := h.clo 8 e 6 (by simp [depJ]); rw [q] at this; cases this
  have f13 : S 7 = false → S 13 = false := fun q => by
    cases e : S 13
    · rfl
    · have := h.clo 13 e 7 (by simp [depJ]); rw [q] at this; cases this
  have f13' : S 11 = false → S 13 = false := fun q => by
    cases e : S 13
    · rfl
    · have := h.clo 13 e 11 (by simp [depJ]); rw [q] at this; cases this
  have f14 : S 13 = false → S 14 = false := fun q => by
    cases e : S 14
    · rfl
    · have := h.clo 14 e 13 (by simp [depJ]); rw [q] at this; cases this
  have f14' : S 12 = false → S 14 = false := fun q => by
    cases e : S 14
    · rfl
    · have := h.clo 14 e 12 (by simp [depJ]); rw [q] at this; cases this
  have hb : Below w.heap.size w (w.alloc (.cells #[.string ⟨#[]⟩, .int .i64 0, .int .i64 0, .int .i64 0, .bool false, .slice none 0 0, .bool false, .int .i64 0] 45)) := (Below.refl _ _).alloc (Nat.le_refl _) _
  have hnew : Blk (w.alloc (.cells #[.string ⟨#[]⟩, .int .i64 0, .int .i64 0, .int .i64 0, .bool false, .slice none 0 0, .bool false, .int .i64 0] 45)) w.heap.size 45 #[.string ⟨#[]⟩, .int .i64 0, .int .i64 0, .int .i64 0, .bool false, .slice none 0 0, .bool false, .int .i64 0] := Blk.new _ _ _
  have hG : ∀ k, FBx F (RelyJ.up S 12 true) (RelyJ.up vs 12 u) k → FBx F S vs k ∨ w.heap.size ≤ k := fun k hk => by
    unfold FBx at hk ⊢
    rw [u11, v11, RelyJ.up_same, RelyJ.up_same, hu] at hk
    rcases hk with hk | hk | ⟨_, h2⟩
    · exact Or.inl (Or.inl hk)
    · exact Or.inl (Or.inr (Or.inl hk))
    · injection h2 with h2; injection h2 with h2; injection h2 with h2; exact Or.inr (by omega)
  have hown : RelyJ.up S 12 true 12 = true → ∃ g, RelyJ.up vs 12 u 12 = .pointer (some ⟨g, 0, none⟩) ∧ W0.heap.size ≤ g ∧ g < (w.alloc (.cells #[.string ⟨#[]⟩, .int .i64 0, .int .i64 0, .int .i64 0, .bool false, .slice none 0 0, .bool false, .int .i64 0] 45)).heap.size ∧ (RelyJ.up S 12 true 14 = false → Blk (w.alloc (.cells #[.string ⟨#[]⟩, .int .i64 0, .int .i64 0, .int .i64 0, .bool false, .slice none 0 0, .bool false, .int .i64 0] 45)) g 45 #[.string ⟨#[]⟩, .int .i64 0, .int .i64 0, .int .i64 0, .bool false, .slice none 0 0, .bool false, .int .i64 0]) := fun _ => ⟨w.heap.size, by rw [RelyJ.up_same]; exact hu, h.bel.size, hnew.lt, fun _ => hnew⟩
  have hoth : RelyJ.up S 12 true 11 = true → ∃ g, RelyJ.up vs 12 u 11 = .pointer (some ⟨g, 0, none⟩) ∧ W0.heap.size ≤ g ∧ g < (w.alloc (.cells #[.string ⟨#[]⟩, .int .i64 0, .int .i64 0, .int .i64 0, .bool false, .slice none 0 0, .bool false, .int .i64 0] 45)).heap.size ∧ (RelyJ.up S 12 true 13 = false → Blk (w.alloc (.cells #[.string ⟨#[]⟩, .int .i64 0, .int .i64 0, .int .i64 0, .bool false, .slice none 0 0, .bool false, .int .i64 0] 45)) g 34 #[.int .i64 0, .int .i64 0, .int .i64 0, .bool false, .slice none 0 0, .slice none 0 0, .int .i64 0]) := fun q => by
    rw [u11] at q; rw [v11, u13]
    obtain ⟨g, a1, a2, a3, a4⟩ := h.a11 q
    exact ⟨g, a1, a2, Nat.lt_of_lt_of_le a3 hb.size, fun q => (a4 q).below hb a3⟩
  refine ⟨h.bel.trans (hb.mono h.bel.size), cloJ_up h.clo 12 hd, valsJ_up h.vals 12 u hv, hoth, hown, fun q1 q2 => ?_, fun q => ?_⟩
  · rw [u11] at q1
    obtain ⟨g, a1, a2, a3, a4⟩ := h.a11 q1
    rw [RelyJ.up_same, v11, hu, a1]
    intro e
    injection e with e; injection e with e; injection e with e
    omega
  · rw [u5] at q
    obtain ⟨t1, A1, c1, e5, hs, hm, hvl, e6, e7, e8, e13, e14⟩ := h.c q
    exact ⟨t1, A1, c1, by rw [v5]; exact e5, hs, trN_turn hm hb hG, vlN_turn hvl hb hG, fun q => by rw [v6]; rw [u6] at q; exact e6 q, fun q => by rw [v7]; rw [u7] at q; exact e7 q, fun q => by rw [v8]; rw [u8] at q; exact e8 q, fun q => by rw [u13] at q; rw [v11]; obtain ⟨g, a1, a2⟩ := e13 q; exact ⟨g, a1, a2.below hb a2.lt⟩, fun q => (by rw [u14, f14' hS] at q; cases q)⟩
theorem JL.s13 (h : JL F W0 V SS rp b n S vs w) (hd : ∀ m ∈ depJ 13, S m = true) (u : Value) (hv : V 13 u) (hS : S 13 = false) (g : Nat) (hg : vs 11 = .pointer (some ⟨g, 0, none⟩)) (t : Tr) (A : Option Addr) (c : Nat) (hx : vs 7 = .agg #[.int .i64 t.rc, .int .i64 t.rb, .int .i64 (t.nb : Int), .bool t.fr, .slice t.A t.L.length t.c, .slice t.tA t.tok.length t.tc, .int .i64 t.us]) (hk : Blk w' g 34 #[.int .i64 t.rc, .int .i64 t.rb, .int .i64 (t.nb : Int), .bool t.fr, .slice t.A t.L.length t.c, .slice t.tA t.tok.length t.tc, .int .i64 t.us]) (hgr : w.grownBy w' (some g)) : JL F W0 V SS rp b n (RelyJ.up S 13 true) (RelyJ.up vs 13 u) w' := by
  have u5 : RelyJ.up S 13 true 5 = S 5 := RelyJ.up_ne _ _ (by decide)
  have v5 : RelyJ.up vs 13 u 5 = vs 5 := RelyJ.up_ne _ _ (by decide)
  have u6 : RelyJ.up S 13 true 6 = S 6 := RelyJ.up_ne _ _ (by decide)
  have v6 : RelyJ.up vs 13 u 6 = vs 6 := RelyJ.up_ne _ _ (by decide)
  have u7 : RelyJ.up S 13 true 7 = S 7 := RelyJ.up_ne _ _ (by decide)
  have v7 : RelyJ.up vs 13 u 7 = vs 7 := RelyJ.up_ne _ _ (by decide)
  have u8 : RelyJ.up S 13 true 8 = S 8 := RelyJ.up_ne _ _ (by decide)
  have v8 : RelyJ.up vs 13 u 8 = vs 8 := RelyJ.up_ne _ _ (by decide)
  have u11 : RelyJ.up S 13 true 11 = S 11 := RelyJ.up_ne _ _ (by decide)
  have v11 : RelyJ.up vs 13 u 11 = vs 11 := RelyJ.up_ne _ _ (by decide)
  have u12 : RelyJ.up S 13 true 12 = S 12 := RelyJ.up_ne _ _ (by decide)
  have v12 : RelyJ.up vs 13 u 12 = vs 12 := RelyJ.up_ne _ _ (by decide)
  have u14 : RelyJ.up S 13 true 14 = S 14 := RelyJ.up_ne _ _ (by decide)
  have v14 : RelyJ.up vs 13 u 14 = vs 14 := RelyJ.up_ne _ _ (by decide)
  have hF : FBx F (RelyJ.up S 13 true) (RelyJ.up vs 13 u) = FBx F S vs := by unfold FBx; rw [u11, u12, v11, v12]
  have f6 : S 5 = false → S 6 = false := fun q => by
    cases e : S 6
    · rfl
    · have := h.clo 6 e 5 (by simp [depJ]); rw [q] at this; cases this
  have f7 : S 6 = false → S 7 = false := fun q => by
    cases e : S 7
    · rfl
    · have := h.clo 7 e 6 (by simp [depJ]); rw [q] at this; cases this
  have f8 : S 6 = false → S 8 = false := fun q => by
    cases e : S 8
    · rfl
    · have := h.clo 8 e 6 (by simp [depJ]); rw [q] at this; cases this
  have f13 : S 7 = false → S 13 = false := fun q => by
    cases e : S 13
    · rfl
    · have := h.clo 13 e 7 (by simp [depJ]); rw [q] at this; cases this
  have f13' : S 11 = false → S 13 = false := fun q => by
    cases e : S 13
    · rfl
    · have := h.clo 13 e 11 (by simp [depJ]); rw [q] at this; cases this
  have f14 : S 13 = false → S 14 = false := fun q => by
    cases e : S 14
    · rfl
    · have := h.clo 14 e 13 (by simp [depJ]); rw [q] at this; cases this
  have f14' : S 12 = false → S 14 = false := fun q => by
    cases e : S 14
    · rfl
    · have := h.clo 14 e 12 (by simp [depJ]); rw [q] at this; cases this
  have ho : S 11 = true := hd 11 (by simp [depJ])
  obtain ⟨g', b1, b2, b3, b4⟩ := h.a11 ho
  have hgg : g' = g := by rw [hg] at b1; injection b1 with b1; injection b1 with b1; injection b1 with b1; omega
  subst hgg
  have hFg : FBx F S vs g' := Or.inr (Or.inl ⟨ho, hg⟩)
  have hown : RelyJ.up S 13 true 11 = true → ∃ g, RelyJ.up vs 13 u 11 = .pointer (some ⟨g, 0, none⟩) ∧ W0.heap.size ≤ g ∧ g < w'.heap.size ∧ (RelyJ.up S 13 true 13 = false → Blk w' g 34 #[.int .i64 0, .int .i64 0, .int .i64 0, .bool false, .slice none 0 0, .slice none 0 0, .int .i64 0]) := fun _ => ⟨g', by rw [v11]; exact hg, b2, hk.lt, fun q => (by rw [RelyJ.up_same] at q; cases q)⟩
  have hoth : RelyJ.up S 13 true 12 = true → ∃ g, RelyJ.up vs 13 u 12 = .pointer (some ⟨g, 0, none⟩) ∧ W0.heap.size ≤ g ∧ g < w'.heap.size ∧ (RelyJ.up S 13 true 14 = false → Blk w' g 45 #[.string ⟨#[]⟩, .int .i64 0, .int .i64 0, .int .i64 0, .bool false, .slice none 0 0, .bool false, .int .i64 0]) := fun q => by
    rw [u12] at q; rw [v12, u14]
    obtain ⟨g, a1, a2, a3, a4⟩ := h.a12 q
    refine ⟨g, a1, a2, Nat.lt_of_lt_of_le a3 hgr.size, fun q2 => blk_grownT (a4 q2) hgr fun e => ?_⟩
    subst e
    exact h.ne ho q (hg.trans a1.symm)
  refine ⟨h.bel.grown hgr h.bel.size fun k hk => by cases hk; exact b2, cloJ_up h.clo 13 hd, valsJ_up h.vals 13 u hv, hown, hoth, by rw [u11, u12, v11, v12]; exact h.ne, fun q => ?_⟩
  rw [u5] at q
  obtain ⟨t1, A1, c1, e5, hs, hm, hvl, e6, e7, e8, e13, e14⟩ := h.c q
  have ht := touch_box hgr hFg
  exact ⟨t1, A1, c1, by rw [v5]; exact e5, hs, by rw [hF]; exact hm.touch ht, by rw [hF]; exact hvl.touch ht, fun q => by rw [v6]; rw [u6] at q; exact e6 q, fun q => by rw [v7]; rw [u7] at q; exact e7 q, fun q => by rw [v8]; rw [u8] at q; exact e8 q,
    fun _ => by have h7 := e7 (hd 7 (by simp [depJ])); rw [hx] at h7; injection h7 with h7; rw [v11, ← h7]; exact ⟨_, hg, hk⟩,
    fun q => (by rw [u14, f14 hS] at q; cases q)⟩
theorem JL.s14 (h : JL F W0 V SS rp b n S vs w) (hd : ∀ m ∈ depJ 14, S m = true) (u : Value) (hv : V 14 u) (hS : S 14 = false) (g : Nat) (hg : vs 12 = .pointer (some ⟨g, 0, none⟩)) (t : Tr) (A : Option Addr) (c : Nat) (hx : vs 8 = .agg #[.string ⟨rp.e.k.toArray⟩, .int .i64 rp.e.s, .int .i64 rp.e.u, .int .i64 rp.e.o, .bool rp.e.has, .slice A rp.e.v.length c, .bool rp.wh, .int .i64 rp.tok]) (hk : Blk w' g 45 #[.string ⟨rp.e.k.toArray⟩, .int .i64 rp.e.s, .int .i64 rp.e.u, .int .i64 rp.e.o, .bool rp.e.has, .slice A rp.e.v.length c, .bool rp.wh, .int .i64 rp.tok]) (hgr : w.grownBy w' (some g)) : JL F W0 V SS rp b n (RelyJ.up S 14 true) (RelyJ.up vs 14 u) w' := by
  have u5 : RelyJ.up S 14 true 5 = S 5 := RelyJ.up_ne _ _ (by decide)
  have v5 : RelyJ.up vs 14 u 5 = vs 5 := RelyJ.up_ne _ _ (by decide)
  have u6 : RelyJ.up S 14 true 6 = S 6 := RelyJ.up_ne _ _ (by decide)
  have v6 : RelyJ.up vs 14 u 6 = vs 6 := RelyJ.up_ne _ _ (by decide)
  have u7 : RelyJ.up S 14 true 7 = S 7 := RelyJ.up_ne _ _ (by decide)
  have v7 : RelyJ.up vs 14 u 7 = vs 7 := RelyJ.up_ne _ _ (by decide)
  have u8 : RelyJ.up S 14 true 8 = S 8 := RelyJ.up_ne _ _ (by decide)
  have v8 : RelyJ.up vs 14 u 8 = vs 8 := RelyJ.up_ne _ _ (by decide)
  have u11 : RelyJ.up S 14 true 11 = S 11 := RelyJ.up_ne _ _ (by decide)
  have v11 : RelyJ.up vs 14 u 11 = vs 11 := RelyJ.up_ne _ _ (by decide)
  have u12 : RelyJ.up S 14 true 12 = S 12 := RelyJ.up_ne _ _ (by decide)
  have v12 : RelyJ.up vs 14 u 12 = vs 12 := RelyJ.up_ne _ _ (by decide)
  have u13 : RelyJ.up S 14 true 13 = S 13 := RelyJ.up_ne _ _ (by decide)
  have v13 : RelyJ.up vs 14 u 13 = vs 13 := RelyJ.up_ne _ _ (by decide)
  have hF : FBx F (RelyJ.up S 14 true) (RelyJ.up vs 14 u) = FBx F S vs := by unfold FBx; rw [u11, u12, v11, v12]
  have f6 : S 5 = false → S 6 = false := fun q => by
    cases e : S 6
    · rfl
    · have := h.clo 6 e 5 (by simp [depJ]); rw [q] at this; cases this
  have f7 : S 6 = false → S 7 = false := fun q => by
    cases e : S 7
    · rfl
    · have := h.clo 7 e 6 (by simp [depJ]); rw [q] at this; cases this
  have f8 : S 6 = false → S 8 = false := fun q => by
    cases e : S 8
    · rfl
    · have := h.clo 8 e 6 (by simp [depJ]); rw [q] at this; cases this
  have f13 : S 7 = false → S 13 = false := fun q => by
    cases e : S 13
    · rfl
    · have := h.clo 13 e 7 (by simp [depJ]); rw [q] at this; cases this
  have f13' : S 11 = false → S 13 = false := fun q => by
    cases e : S 13
    · rfl
    · have := h.clo 13 e 11 (by simp [depJ]); rw [q] at this; cases this
  have f14 : S 13 = false → S 14 = false := fun q => by
    cases e : S 14
    · rfl
    · have := h.clo 14 e 13 (by simp [depJ]); rw [q] at this; cases this
  have f14' : S 12 = false → S 14 = false := fun q => by
    cases e : S 14
    · rfl
    · have := h.clo 14 e 12 (by simp [depJ]); rw [q] at this; cases this
  have ho : S 12 = true := hd 12 (by simp [depJ])
  obtain ⟨g', b1, b2, b3, b4⟩ := h.a12 ho
  have hgg : g' = g := by rw [hg] at b1; injection b1 with b1; injection b1 with b1; injection b1 with b1; omega
  subst hgg
  have hd13 : S 13 = true → S 11 = true := fun q => h.clo 13 q 11 (by simp [depJ])
  have hFg : FBx F S vs g' := Or.inr (Or.inr ⟨ho, hg⟩)
  have hown : RelyJ.up S 14 true 12 = true → ∃ g, RelyJ.up vs 14 u 12 = .pointer (some ⟨g, 0, none⟩) ∧ W0.heap.size ≤ g ∧ g < w'.heap.size ∧ (RelyJ.up S 14 true 14 = false → Blk w' g 45 #[.string ⟨#[]⟩, .int .i64 0, .int .i64 0, .int .i64 0, .bool false, .slice none 0 0, .bool false, .int .i64 0]) := fun _ => ⟨g', by rw [v12]; exact hg, b2, hk.lt, fun q => (by rw [RelyJ.up_same] at q; cases q)⟩
  have hoth : RelyJ.up S 14 true 11 = true → ∃ g, RelyJ.up vs 14 u 11 = .pointer (some ⟨g, 0, none⟩) ∧ W0.heap.size ≤ g ∧ g < w'.heap.size ∧ (RelyJ.up S 14 true 13 = false → Blk w' g 34 #[.int .i64 0, .int .i64 0, .int .i64 0, .bool false, .slice none 0 0, .slice none 0 0, .int .i64 0]) := fun q => by
    rw [u11] at q; rw [v11, u13]
    obtain ⟨g, a1, a2, a3, a4⟩ := h.a11 q
    refine ⟨g, a1, a2, Nat.lt_of_lt_of_le a3 hgr.size, fun q2 => blk_grownT (a4 q2) hgr fun e => ?_⟩
    subst e
    exact h.ne q ho (a1.trans hg.symm)
  refine ⟨h.bel.grown hgr h.bel.size fun k hk => by cases hk; exact b2, cloJ_up h.clo 14 hd, valsJ_up h.vals 14 u hv, hoth, hown, by rw [u11, u12, v11, v12]; exact h.ne, fun q => ?_⟩
  rw [u5] at q
  obtain ⟨t1, A1, c1, e5, hs, hm, hvl, e6, e7, e8, e13, e14⟩ := h.c q
  have ht := touch_box hgr hFg
  exact ⟨t1, A1, c1, by rw [v5]; exact e5, hs, by rw [hF]; exact hm.touch ht, by rw [hF]; exact hvl.touch ht, fun q => by rw [v6]; rw [u6] at q; exact e6 q, fun q => by rw [v7]; rw [u7] at q; exact e7 q, fun q => by rw [v8]; rw [u8] at q; exact e8 q,
    fun q => by rw [u13] at q; rw [v11]; obtain ⟨g2, a1, a2⟩ := e13 q; exact ⟨g2, a1, blk_grownT a2 hgr fun e => h.ne (hd13 q) ho (by rw [a1, hg, e])⟩,
    fun _ => by have h8 := e8 (hd 8 (by simp [depJ])); rw [hx] at h8; injection h8 with h8; rw [v12, ← h8]; exact ⟨_, hg, hk⟩⟩
theorem JL.done (h : JL F W0 V SS rp b n S vs w) (hS : ∀ k, k < 17 → S k = true) : ∃ (t : Tr) (A : Option Addr) (c g1 g2 : Nat), vs 11 = .pointer (some ⟨g1, 0, none⟩) ∧ vs 12 = .pointer (some ⟨g2, 0, none⟩) ∧ trS t = SS ∧ TrN F w t ∧ VlN F w rp.e.v A c ∧ Blk w g1 34 #[.int .i64 t.rc, .int .i64 t.rb, .int .i64 (t.nb : Int), .bool t.fr, .slice t.A t.L.length t.c, .slice t.tA t.tok.length t.tc, .int .i64 t.us] ∧ Blk w g2 45 #[.string ⟨rp.e.k.toArray⟩, .int .i64 rp.e.s, .int .i64 rp.e.u, .int .i64 rp.e.o, .bool rp.e.has, .slice A rp.e.v.length c, .bool rp.wh, .int .i64 rp.tok] ∧ W0.heap.size ≤ g1 ∧ W0.heap.size ≤ g2 ∧ g1 ≠ g2 ∧ TrN (FBx F S vs) w t ∧ VlN (FBx F S vs) w rp.e.v A c := by
  obtain ⟨t, A, c, _, hs, hm, hvl, _, _, _, e13, e14⟩ := h.c (hS 5 (by omega))
  obtain ⟨g1, a1, k1⟩ := e13 (hS 13 (by omega))
  obtain ⟨g2, a2, k2⟩ := e14 (hS 14 (by omega))
  have hn := h.ne (hS 11 (by omega)) (hS 12 (by omega))
  obtain ⟨x1, b1, b2, _⟩ := h.a11 (hS 11 (by omega))
  obtain ⟨x2, d1, d2, _⟩ := h.a12 (hS 12 (by omega))
  have hx1 : x1 = g1 := by rw [a1] at b1; injection b1 with b1; injection b1 with b1; injection b1 with b1; omega
  have hx2 : x2 = g2 := by rw [a2] at d1; injection d1 with d1; injection d1 with d1; injection d1 with d1; omega
  subst hx1; subst hx2
  exact ⟨t, A, c, x1, x2, a1, a2, hs, trN_turn hm (Below.refl _ _) fun k hk => Or.inl (Or.inl hk), vlN_turn hvl (Below.refl _ _) fun k hk => Or.inl (Or.inl hk), k1, k2, b2, d2, fun e => hn (by rw [a1, a2, e]), hm, hvl⟩
end
end Go.Proofs.YtpebhfjcakllmaaGreat
namespace Go.Proofs.YtpebhfjcakllmaaGreat
open Go.RowKit Go.ChangeShapes Mem Be Word Rg Go.Maps
set_option maxRecDepth 100000
set_option maxHeartbeats 8000000
set_option linter.unusedVariables false
set_option linter.unusedSimpArgs false
def V14 (rp : RpP) (Aa : Option Addr) (ca : Nat) (A1 : Option Addr) (c1 : Nat) (bo : Bool) (nn : Int) (g gu : Nat) (SS : Cl) (t1 : Tr) (sm : Int) : Nat → Value → World → Prop
  | 0, v, w => v = .agg #[.string ⟨rp.e.k.toArray⟩, .int .i64 rp.e.s, .int .i64 rp.e.u, .int .i64 rp.e.o, .bool rp.e.has, .slice Aa rp.e.v.length ca, .bool rp.wh, .int .i64 rp.tok]
  | 1, v, w => v = .agg #[.string ⟨rp.e.k.toArray⟩, .int .i64 rp.e.s, .int .i64 rp.e.u, .int .i64 rp.e.o, .bool rp.e.has, .slice A1 rp.e.v.length c1, .bool rp.wh, .int .i64 rp.tok]
  | 2, v, w => v = .bool true
  | 3, v, w => v = .bool false
  | 4, v, w => v = .bool false
  | 5, v, w => v = .bool bo
  | 6, v, w => v = .bool bo
  | 7, v, w => v = .bool false
  | 8, v, w => v = .bool false
  | 9, v, w => v = .bool false
  | 10, v, w => v = .int .i64 nn
  | 11, v, w => v = .int .i64 nn
  | 12, v, w => v = .bool false
  | 13, v, w => v = .bool false
  | 14, v, w => v = .bool false
  | 15, v, w => v = .pointer (some ⟨g, 0, none⟩)
  | 16, v, w => ∃ (us : List CV) (A : Option Addr) (c : Nat), v = .slice A us.length c ∧ us.map Prod.fst = SS.T ∧ us.length ≤ 4096 ∧ CeV w A us
  | 17, v, w => v = .pointer (some ⟨gu, 4, none⟩)
  | 18, v, w => v = .slice t1.A t1.L.length t1.c
  | 19, v, w => v = .bool true
  | 20, v, w => v = .bool false
  | 21, v, w => v = .bool false
  | 22, v, w => v = .bool false
  | 23, v, w => v = .pointer (some ⟨g, 0, none⟩)
  | 24, v, w => ∃ (A : Option Addr) (c : Nat), v = .slice A SS.nb c ∧ Row w w.heap.size A (SS.tok.map iV)
  | 25, v, w => v = .pointer (some ⟨gu, 5, none⟩)
  | 26, v, w => v = .slice t1.tA t1.tok.length t1.tc
  | 27, v, w => v = .bool true
  | 28, v, w => v = .bool false
  | 29, v, w => v = .bool false
  | _, _, _ => True
theorem stab14 {rp : RpP} {Aa A1 : Option Addr} {ca c1 : Nat} {bo : Bool} {nn : Int} {g gu : Nat} {SS : Cl} {t1 : Tr} {sm : Int} : Stab (fun _ => False) (V14 rp Aa ca A1 c1 bo nn g gu SS t1 sm) (fun _ _ => True) (fun _ _ => True) := by
  refine ⟨fun i u w w' h ht => ?_, fun _ _ _ h _ => h, fun _ _ _ h _ => h⟩
  have hb : Below w.heap.size w w' := ht.below (Nat.le_refl _) fun k hk => hk.elim
  unfold V14 at h ⊢
  split at h
  all_goals first
    | exact h
    | (obtain ⟨us, A, c, h1, h2, h3, h4⟩ := h; exact ⟨us, A, c, h1, h2, h3, h4.below hb⟩)
    | (obtain ⟨A, c, h1, h2⟩ := h; first | exact ⟨A, c, h1, h2.below hb⟩ | exact ⟨A, c, h1, (h2.below hb).more hb.size⟩)
    | trivial
def V16 (rp : RpP) (Aa : Option Addr) (ca : Nat) (A1 : Option Addr) (c1 : Nat) (bo : Bool) (nn : Int) (g gu : Nat) (SS : Cl) (t1 : Tr) (sm : Int) : Nat → Value → World → Prop
  | 0, v, w => v = .int .i64 (t1.L.length : Int)
  | 1, v, w => v = .pointer (some ⟨gu, 4, none⟩)
  | 2, v, w => v = .slice t1.A t1.L.length t1.c
  | 3, v, w => v = .int .i64 (t1.L.length : Int)
  | 4, v, w => v = .bool false
  | 5, v, w => v = .bool false
  | 6, v, w => v = .int .i64 sm
  | 7, v, w => v = .agg #[.int .i64 t1.rc, .int .i64 t1.rb, .int .i64 (t1.nb : Int), .bool t1.fr, .slice t1.A t1.L.length t1.c, .slice t1.tA t1.tok.length t1.tc, .int .i64 t1.us]
  | 8, v, w => v = .int .i64 sm
  | 9, v, w => v = .bool false
  | 10, v, w => v = .bool false
  | 11, v, w => v = .bool false
  | 12, v, w => v = .pointer (some ⟨g, 0, none⟩)
  | 13, v, w => ∃ (us : List CV) (A : Option Addr) (c : Nat), v = .slice A (dirL us).length c ∧ us.map Prod.fst = SS.T ∧ us.length ≤ 4096 ∧ EnV w A (dirL us)
  | 14, v, w => v = .pointer (some ⟨gu, 4, none⟩)
  | 15, v, w => v = .slice t1.A t1.L.length t1.c
  | 16, v, w => ∃ (A : Option Addr) (c : Nat), v = .slice A (dirL t1.L).length c ∧ EnV w A (dirL t1.L)
  | 17, v, w => v = .bool true
  | 18, v, w => v = .bool false
  | 19, v, w => v = .bool false
  | _, _, _ => True
theorem stab16 {rp : RpP} {Aa A1 : Option Addr} {ca c1 : Nat} {bo : Bool} {nn : Int} {g gu : Nat} {SS : Cl} {t1 : Tr} {sm : Int} : Stab (fun _ => False) (V16 rp Aa ca A1 c1 bo nn g gu SS t1 sm) (fun _ _ => True) (fun _ _ => True) := by
  refine ⟨fun i u w w' h ht => ?_, fun _ _ _ h _ => h, fun _ _ _ h _ => h⟩
  have hb : Below w.heap.size w w' := ht.below (Nat.le_refl _) fun k hk => hk.elim
  unfold V16 at h ⊢
  split at h
  all_goals first
    | exact h
    | (obtain ⟨us, A, c, h1, h2, h3, h4⟩ := h; exact ⟨us, A, c, h1, h2, h3, h4.below hb⟩)
    | (obtain ⟨A, c, h1, h2⟩ := h; first | exact ⟨A, c, h1, h2.below hb⟩ | exact ⟨A, c, h1, (h2.below hb).more hb.size⟩)
    | trivial
theorem rep_len {S : Cl} (ok : OkC S) (kd : Int) (e : EntP) (t : Int) : (doS S kd e t).2.1.e.v.length ≤ 60000 := by
  unfold doS
  split
  · unfold queryS
    split
    · exact Nat.zero_le _
    · cases hg : getK kP S.T e.k with
      | none => exact Nat.zero_le _
      | some x => exact (sizE_le (ok.ok x (get_some hg).1)).2.2.1
  all_goals
    repeat' split
    all_goals exact Nat.zero_le _
theorem steps_walk (rc rb nb : Int) (fr : Bool) (A : Option Addr) (n c : Nat) (rs : List D11) (hn : n = rs.length) (hl : n ≤ 1700000000000) (w : World) (h : InD11 w A rs) :
    Calls Tryz.prog 3 #[.agg #[.int .i64 rc, .int .i64 rb, .int .i64 nb, .bool fr], .slice A n c] w (IsB true w) := by
  have HR := Lib.hid h
  have HN := Lib.hid hn
  have HL : Hid (n ≤ 1700000000000) := Lib.hid hl
  have hni : (n : Int) ≤ 1700000000000 := by omega
  have hni0 : (0 : Int) ≤ (n : Int) := by omega
  have HLG := Lib.hid fun W (hb : Below w.heap.size w W) => long11_any n c A rs hn (by unfold maxLen; omega) W (h.at_ hb)
  have HBR := Lib.hid (Blk.new w 23 #[.int .i64 rc, .int .i64 rb, .int .i64 nb, .bool fr])
  have HBX : Hid (Below w.heap.size w (w.alloc (.cells #[.int .i64 rc, .int .i64 rb, .int .i64 nb, .bool fr] 23))) := Lib.hid ((Below.refl _ _).alloc (Nat.le_refl _) _)
  clear h hn hl
  go_enter Tryz.func3, Tryz.ntmps3
  go_wp2_with fail
  refine (HLG.out _ HBX.out).mono ?_
  rintro e2 w2 ⟨⟨z2, rfl⟩, hb2⟩
  have HB2 : Hid (Below w.heap.size w w2) := Lib.hid (HBX.out.trans (hb2.mono HBX.out.size))
  replace HBR := Lib.hid (HBR.out.below hb2 HBR.out.lt)
  clear hb2
  by_cases b1 : 1500 < z2
  · go_wp2_with (go_at_call 5; refine (known11_any _).mono ?_; rintro e9 w9 ⟨rfl, hb9⟩)
    go_ret
    exact ⟨rfl, HB2.out.trans (hb9.mono HB2.out.size)⟩
  by_cases hok : RoomOk rc rb nb
  rotate_left
  · have HNW := Lib.hid (new_bad11 rc rb nb fr hok w2)
    have HRB := Lib.hid (fun W => rnew_bad rc rb nb fr hok W)
    clear hok
    go_wp2_with (refine wpList_load_row rfl 23 _ rfl _ rfl _ _ _ _ (show _ = _ from HBR.out) Tryz.underlying23 rfl (by kernel_rfl) ?_)
    refine HNW.out.mono ?_
    rintro e3 w3 ⟨rfl, hb3⟩
    have HB3 : Hid (Below w.heap.size w w3) := Lib.hid (HB2.out.trans (hb3.mono HB2.out.size))
    replace HBR := Lib.hid (HBR.out.below hb3 HBR.out.lt)
    clear hb3 HNW
    go_wp2_with (refine wpList_load_row rfl 23 _ rfl _ rfl _ _ _ _ (show _ = _ from HBR.out) Tryz.underlying23 rfl (by kernel_rfl) ?_)
    refine (HRB.out w3).mono ?_
    rintro e4 w4 ⟨rfl, hb4⟩
    have HB4 : Hid (Below w.heap.size w w4) := Lib.hid (HB3.out.trans (hb4.mono HB3.out.size))
    clear hb4 HRB
    go_upto_region 5 with (refine wpList_boxM rfl rfl _ rfl 34 #[.int .i64 0, .int .i64 0, .int .i64 0, .bool false, .slice none 0 0, .slice none 0 0, .int .i64 0] (by kernel_rfl) _ _ rfl #[.int .i64 0, .int .i64 0, .int .i64 0, .bool false, .slice none 0 0, .slice none 0 0, .int .i64 0] rfl rfl rfl (by kernel_rfl) (by kernel_rfl) ?_)
    obtain ⟨w5, hw5⟩ : ∃ W, w4.alloc (.cells #[.int .i64 0, .int .i64 0, .int .i64 0, .bool false, .slice none 0 0, .slice none 0 0, .int .i64 0] 34) = W := ⟨_, rfl⟩
    have HB5 : Hid (Below w.heap.size w w5) := Lib.hid (by rw [← hw5]; exact HB4.out.alloc HB4.out.size _)
    try simp only [hw5]
    clear hw5
    go_upto_region 7 with fail
    go_wp2
    go_loopw [9] (fun z wr => z = .int .i64 0 ∧ Hid (Below w.heap.size w wr)) (fun _ _ => 0)
    case atStart => exact ⟨rfl, HB5⟩
    case round =>
      obtain ⟨rfl, HB⟩ := hrel
      by_cases hz : (0 : Int) < (n : Int)
      · go_wp2_with (go_at_call 5; refine (known11_any _).mono ?_; rintro e9 w9 ⟨rfl, hb9⟩)
        go_ret
        exact ⟨rfl, HB.out.trans (hb9.mono HB.out.size)⟩
      · go_wp2_with (go_at_call 5; refine (known11_any _).mono ?_; rintro e9 w9 ⟨rfl, hb9⟩)
        go_ret
        exact ⟨rfl, HB.out.trans (hb9.mono HB.out.size)⟩
  obtain ⟨nb, rfl⟩ : ∃ k : Nat, nb = (k : Int) := ⟨nb.toNat, by have := hok.2.2.1; omega⟩
  have HNW := Lib.hid (new_ok11 rc rb nb fr hok w2)
  have HOK := Lib.hid (ok_newS (fr := fr) hok)
  have HRN : Hid (∀ (F : Nat → Prop) (W : World), (∀ k, F k → k < W.heap.size) → Calls Tryz.prog 7 #[.agg #[.int .i64 rc, .int .i64 rb, .int .i64 (nb : Int), .bool fr]] W (TrI F (newS rc rb nb fr, 0) W)) := Lib.hid fun F W hF => by
    cases fr
    · exact rnew_false rc rb nb hok F W hF
    · exact rnew_true rc rb nb hok F W hF
  obtain ⟨S0, hS0⟩ : ∃ S0, newS rc rb nb fr = S0 := ⟨_, rfl⟩
  rw [hS0] at HNW HOK HRN
  clear hok hS0
  go_wp2_with (refine wpList_load_row rfl 23 _ rfl _ rfl _ _ _ _ (show _ = _ from HBR.out) Tryz.underlying23 rfl (by kernel_rfl) ?_)
  refine HNW.out.mono ?_
  intro e3 w3 hx
  obtain ⟨g, b, tk, rfl, ht, hnr, hb3⟩ := tb1_new2 HB2.out hx HOK.out
  have HT := Lib.hid ht
  have HB3 : Hid (Below w.heap.size w w3) := Lib.hid ht.bel
  replace HBR := Lib.hid (HBR.out.below hb3 HBR.out.lt)
  clear hx ht hnr hb3 HNW
  have HRN3 := Lib.hid (HRN.out (Own3 g b tk) w3 fun k hk => (HT.out.own k hk).2)
  clear HRN
  go_wp2_with (refine wpList_load_row rfl 23 _ rfl _ rfl _ _ _ _ (show _ = _ from HBR.out) Tryz.underlying23 rfl (by kernel_rfl) ?_)
  refine HRN3.out.mono ?_
  rintro e4 w4 ⟨t0, rfl, hs0, hm0, hb4⟩
  have HS0 := Lib.hid hs0
  have HM0 := Lib.hid hm0
  have HB4 : Hid (Below w.heap.size w w4) := Lib.hid (HB3.out.trans (hb4.mono HB3.out.size))
  replace HT := Lib.hid (HT.out.below hb4)
  clear hs0 hm0 hb4 HRN3 HBR
  go_upto_region 5 with (refine wpList_boxM rfl rfl _ rfl 34 #[.int .i64 0, .int .i64 0, .int .i64 0, .bool false, .slice none 0 0, .slice none 0 0, .int .i64 0] (by kernel_rfl) _ _ rfl #[.int .i64 t0.rc, .int .i64 t0.rb, .int .i64 (t0.nb : Int), .bool t0.fr, .slice t0.A t0.L.length t0.c, .slice t0.tA t0.tok.length t0.tc, .int .i64 t0.us] rfl rfl rfl (by kernel_rfl) (by kernel_rfl) ?_)
  obtain ⟨gu, hgu⟩ : ∃ g, w4.heap.size = g := ⟨_, rfl⟩
  obtain ⟨w5, hw5⟩ : ∃ W, w4.alloc (.cells #[.int .i64 t0.rc, .int .i64 t0.rb, .int .i64 (t0.nb : Int), .bool t0.fr, .slice t0.A t0.L.length t0.c, .slice t0.tA t0.tok.length t0.tc, .int .i64 t0.us] 34) = W := ⟨_, rfl⟩
  have hb5 : Below w4.heap.size w4 w5 := by rw [← hw5]; exact (Below.refl _ _).alloc (Nat.le_refl _) _
  have HU : Hid (Blk w5 gu 34 #[.int .i64 t0.rc, .int .i64 t0.rb, .int .i64 (t0.nb : Int), .bool t0.fr, .slice t0.A t0.L.length t0.c, .slice t0.tA t0.tok.length t0.tc, .int .i64 t0.us]) := Lib.hid (by rw [← hw5, ← hgu]; exact Blk.new _ _ _)
  obtain ⟨F0, hF0⟩ : ∃ F0, More2 (Own3 g b tk) w4.heap.size w5.heap.size = F0 := ⟨_, rfl⟩
  have HOG : Hid (¬ Own3 g b tk gu) := Lib.hid fun hk => by have := (HT.out.own gu hk).2; omega
  have HFL : Hid (∀ k, F0 k → k < w5.heap.size) := Lib.hid (by rw [← hF0]; exact more2_lt (fun k hk => (HT.out.own k hk).2) hb5.size)
  have HFU : Hid (F0 gu) := Lib.hid (by rw [← hF0]; exact Or.inr ⟨by omega, HU.out.lt⟩)
  have HFO : Hid (∀ k, Own3 g b tk k → F0 k) := Lib.hid fun k hk => by rw [← hF0]; exact Or.inl hk
  have HFW : Hid (∀ k, F0 k → w.heap.size ≤ k) := Lib.hid fun k hk => by
    rw [← hF0] at hk
    rcases hk with hk | hk
    · exact (HT.out.own k hk).1
    · have := HB4.out.size; omega
  have HTL0 := Lib.hid (HT.out.wide hb5)
  have HM5 := Lib.hid (HM0.out.wide hb5)
  rw [hF0] at HTL0 HM5
  have HB5 : Hid (Below w.heap.size w w5) := Lib.hid (HB4.out.trans (hb5.mono HB4.out.size))
  try simp only [hw5, hgu]
  clear hb5 hw5 hgu hF0 HT HM0
  go_upto_region 7 with fail
  go_wp2
  go_loopw [9] (fun z wr => ∃ (ix : Nat) (S : Cl) (t : Tr), ix ≤ n ∧ z = .int .i64 (ix : Int) ∧ Hid (Tb1 w wr F0 g b tk S (1 + ix)) ∧ Hid (trS t = S) ∧ Hid (TrN F0 wr t) ∧ Hid (Blk wr gu 34 #[.int .i64 t.rc, .int .i64 t.rb, .int .i64 (t.nb : Int), .bool t.fr, .slice t.A t.L.length t.c, .slice t.tA t.tok.length t.tc, .int .i64 t.us]) ∧ Hid (Below w.heap.size w wr) ∧ Hid (w5.heap.size ≤ wr.heap.size)) (fun z _ => n - (intOf z).toNat)
  case atStart => exact ⟨0, S0, t0, Nat.zero_le _, rfl, HTL0, HS0, HM5, HU, HB5, Lib.hid (Nat.le_refl _)⟩
  case round =>
    obtain ⟨ix, S, t, hk, rfl, HT, HTS, HM, HU, HB, HZ⟩ := hrel
    by_cases hlt : ix < n
    rotate_left
    · have hd0 : decide ((ix : Int) < (n : Int)) = false := decide_eq_false (by omega)
      go_wp2_with (go_at_call 5; refine (known11_any _).mono ?_; rintro e9 w9 ⟨rfl, hb9⟩)
      go_ret
      exact ⟨rfl, HB.out.trans (hb9.mono HB.out.size)⟩
    have hk1 : ix < rs.length := by rw [← HN.out]; exact hlt
    obtain ⟨bb, oo, hA, hbl, hc⟩ := d11s_open (HR.out wr HB.out).1 (by omega)
    subst hA
    have hc := hc ix hk1
    have hdok := (HR.out wr HB.out).2 rs[ix] (List.getElem_mem hk1)
    have HD := Lib.hid (done11_round HR.out HT.out hk1 (by have h1 := HL.out; omega))
    obtain ⟨d, hd⟩ : ∃ d, rs[ix] = d := ⟨_, rfl⟩
    rw [hd] at hc HD hdok
    have HDX : Hid (rs[ix]'hk1 = d) := Lib.hid hd
    have f0 := hc 0 _ rfl
    rw [Nat.add_zero] at f0
    have f1 := hc 1 _ rfl
    have f2 := hc 2 _ rfl
    have f3 := hc 3 _ rfl
    have f4 := hc 4 _ rfl
    have f5 := hc 5 _ rfl
    have f6 := hc 6 _ rfl
    have f7 := hc 7 _ rfl
    have hki : (0 : Int) ≤ (ix : Int) := by omega
    have hki2 : (ix : Int) < (n : Int) := by omega
    have hd0 : decide ((ix : Int) < (n : Int)) = true := decide_eq_true hki2
    have HVL := Lib.hid (rep_len HT.out.ok d.kind d.e.1 d.tok)
    obtain ⟨⟨SS, rp, bo, nn⟩, hR⟩ : ∃ R, d11S S d = R := ⟨_, rfl⟩
    have HDS : Hid (doS S d.kind d.e.1 d.tok = (SS, rp, bo, nn)) := Lib.hid hR
    rw [HDS.out] at HVL
    rw [hR] at HD
    clear hc hd hR hdok
    unfold dV11 at HD
    have HT0 := HT
    go_wp2_with fail
    refine HD.out.mono ?_
    rintro e21 w21 ⟨Aa, ca, rfl, ho21, ht21, tu21⟩
    have HVA : Hid (VlN F0 w21 rp.e.v Aa ca) := Lib.hid ⟨rowN_own (w := wr) (fun k hk => Nat.lt_of_lt_of_le (HFL.out k hk) HZ.out) ho21, (own_cap ho21).1, (own_cap ho21).2, HVL.out⟩
    have HU2 : Hid (Blk w21 gu 34 #[.int .i64 t.rc, .int .i64 t.rb, .int .i64 (t.nb : Int), .bool t.fr, .slice t.A t.L.length t.c, .slice t.tA t.tok.length t.tc, .int .i64 t.us]) := Lib.hid ((tu21.block gu HU.out.lt HOG.out).trans HU.out)
    have HM2 : Hid (TrN F0 w21 t) := Lib.hid (HM.out.touch ⟨tu21.os, tu21.tape, tu21.output, tu21.size, fun k hk hn => tu21.block k hk fun q => hn (HFO.out k q)⟩)
    have HT2 := Lib.hid ht21
    have HB2 : Hid (Below w.heap.size w w21) := Lib.hid ht21.bel
    have HZ2 : Hid (w5.heap.size ≤ w21.heap.size) := Lib.hid (Nat.le_trans HZ.out tu21.size)
    have HOKS : Hid (OkC S) := Lib.hid HT.out.ok
    have HLIM := Lib.hid HT.out.lim
    clear ho21 ht21 tu21 HD HT HM HU HB HZ f0 f1 f2 f3 f4 f5 f6 f7 HT0
    unfold repV
    obtain ⟨ga, hga⟩ : ∃ g, w21.heap.size = g := ⟨_, rfl⟩
    obtain ⟨w24, hw24⟩ : ∃ W, w21.alloc (.cells #[.string ⟨rp.e.k.toArray⟩, .int .i64 rp.e.s, .int .i64 rp.e.u, .int .i64 rp.e.o, .bool rp.e.has, .slice Aa rp.e.v.length ca, .bool rp.wh, .int .i64 rp.tok] 45) = W := ⟨_, rfl⟩
    have hb24 : Below w21.heap.size w21 w24 := by rw [← hw24]; exact (Below.refl _ _).alloc (Nat.le_refl _) _
    have HBA : Hid (Blk w24 ga 45 #[.string ⟨rp.e.k.toArray⟩, .int .i64 rp.e.s, .int .i64 rp.e.u, .int .i64 rp.e.o, .bool rp.e.has, .slice Aa rp.e.v.length ca, .bool rp.wh, .int .i64 rp.tok]) := Lib.hid (by rw [← hw24, ← hga]; exact Blk.new _ _ _)
    go_upto_region 11 with (refine wpList_boxM rfl rfl _ rfl 45 #[.string ⟨#[]⟩, .int .i64 0, .int .i64 0, .int .i64 0, .bool false, .slice none 0 0, .bool false, .int .i64 0] (by kernel_rfl) _ _ rfl #[.string ⟨rp.e.k.toArray⟩, .int .i64 rp.e.s, .int .i64 rp.e.u, .int .i64 rp.e.o, .bool rp.e.has, .slice Aa rp.e.v.length ca, .bool rp.wh, .int .i64 rp.tok] rfl rfl rfl (by kernel_rfl) (by kernel_rfl) ?_)
    try simp only [hw24, hga]
    have HAU : Hid (ga ≠ gu ∧ w5.heap.size ≤ ga) := Lib.hid (by have h2 := HFL.out gu HFU.out; have := HZ2.out; omega)
    replace HT2 := Lib.hid (HT2.out.below hb24)
    replace HU2 := Lib.hid (HU2.out.below hb24 HU2.out.lt)
    replace HM2 := Lib.hid (HM2.out.below hb24)
    replace HVA := Lib.hid (HVA.out.below hb24)
    replace HB2 := Lib.hid (HB2.out.trans (hb24.mono HB2.out.size))
    replace HZ2 := Lib.hid (Nat.le_trans HZ2.out hb24.size)
    clear hb24 hw24 hga
    have HF24 : Hid (∀ W, Below w24.heap.size w24 W → ∀ j v, (d11C d)[j]? = some v → W.cell? ⟨bb, oo + ix * 8 + j, none⟩ = some v) := Lib.hid fun W hb j v hv => by
      have hbw : Below w.heap.size w W := HB2.out.trans (hb.mono HB2.out.size)
      obtain ⟨b', o', hA', _, hc'⟩ := d11s_open (HR.out W hbw).1 (by rw [← HN.out]; omega)
      injection hA' with hA'
      injection hA' with e1 e2
      subst e1; subst e2
      have := hc' ix (by rw [← HN.out]; exact hlt) j v (by rw [HDX.out]; exact hv)
      exact this
    have HST : Hid (∀ (G : Nat → Prop) (W : World), Below w24.heap.size w24 W → (∀ k, G k → k < W.heap.size) → (∀ k, G k → F0 k ∨ w24.heap.size ≤ k) → Calls Tryz.prog 9 #[.agg #[.int .i64 t.rc, .int .i64 t.rb, .int .i64 (t.nb : Int), .bool t.fr, .slice t.A t.L.length t.c, .slice t.tA t.tok.length t.tc, .int .i64 t.us], .agg #[.int .i64 d.kind, .string ⟨d.e.1.k.toArray⟩, .int .i64 d.e.1.s, .int .i64 d.e.1.u, .int .i64 d.e.1.o, .bool d.e.1.has, .slice d.e.2.1 d.e.1.v.length d.e.2.2, .int .i64 d.tok]] W (fun e w' => ∃ (t1 : Tr) (A1 : Option Addr) (c1 : Nat), e = .returned (.tuple #[.agg #[.int .i64 t1.rc, .int .i64 t1.rb, .int .i64 (t1.nb : Int), .bool t1.fr, .slice t1.A t1.L.length t1.c, .slice t1.tA t1.tok.length t1.tc, .int .i64 t1.us], repV rp A1 c1, .bool bo, .int .i64 nn]) ∧ trS t1 = SS ∧ TrN G w' t1 ∧ VlN G w' rp.e.v A1 c1 ∧ Below W.heap.size W w')) := Lib.hid fun G W hb hG1 hG2 => by
      have hbw : Below w.heap.size w W := HB2.out.trans (hb.mono HB2.out.size)
      have hdo := (HR.out W hbw).2 d (by rw [← HDX.out]; exact List.getElem_mem _)
      have hrow : RowN G W d.e.2.1 (d.e.1.v.map byteV) := RowN.of_low hdo.row hbw.size fun k hk => (hG2 k hk).elim (HFW.out k) fun h9 => Nat.le_trans HB2.out.size h9
      have hst := rstep rforget t G d.kind d.e.1 d.e.2.1 d.e.2.2 d.tok W hG1 (trN_turn HM2.out hb hG2) (by rw [HTS.out]; exact HOKS.out) ⟨hrow, hdo.cap, hdo.capm⟩ hdo.key (by
        have h1 := HLIM.out.1
        have h2 : t.us = S.us := congrArg Cl.us HTS.out
        have := HL.out; omega) (by
        intro v hv
        have h1 := HLIM.out.2 v (by rw [← HTS.out]; exact hv)
        have h2 := HOKS.out.len
        have h3 := HOKS.out.rc
        rw [HTS.out]
        have := HL.out; omega)
      rw [HTS.out, HDS.out] at hst
      refine hst.mono ?_
      rintro e9 w9 ⟨t1, A1, c1, he, h1, h2, h3, h4⟩
      exact ⟨t1, A1, c1, he, h1, h2, h3, h4⟩
    refine RelyJ.wp_region_byJ [[], [], [], [(1, 65), (2, 66)], [(3, 67)], [(0, 64), (4, 68)], [(5, 69)], [(6, 63)], [(6, 63)], [(6, 63)], [(6, 63)], [], [], [(7, 70), (11, 13)], [(8, 71), (12, 14)], [(9, 72)], [(10, 73)]] [(0, 64), (1, 65), (2, 66), (3, 67), (4, 68), (5, 69), (6, 63), (7, 70), (8, 71), (9, 72), (10, 73), (11, 13), (12, 14), (15, 15), (16, 16)] (JL F0 w24 (VJ t (some ⟨bb, oo, none⟩) n c ix bb (oo + ix * 8) d bo nn) SS rp bo nn) (by kernel_rfl) (by kernel_rfl) (by kernel_rfl) (by kernel_rfl) (by kernel_rfl) ?_ ?_ ?_
    · exact fun vs => ⟨(Below.refl _ _).drew, fun k hk => (by cases hk), fun k hk => (by cases hk), fun hk => (by cases hk), fun hk => (by cases hk), fun hk => (by cases hk), fun hk => (by cases hk)⟩
    refine RelyJ.stepsZ_cons (by
        as_aux_lemma =>
        intro S' vs w' hS hA hJ
        rw [if_pos (show Region.wanted _ _ = true from rfl)]
        refine RelyJ.gives_mono (R' := fun u w'' => u = .agg #[.int .i64 t.rc, .int .i64 t.rb, .int .i64 (t.nb : Int), .bool t.fr, .slice t.A t.L.length t.c, .slice t.tA t.tok.length t.tc, .int .i64 t.us] ∧ w'' = w') ?_ (by rintro u w2 ⟨rfl, rfl⟩; exact hJ.quiet 0 (by simp) (fun m hm => by simp [depJ] at hm) _ rfl)
        have hk : Blk w' gu 34 #[.int .i64 t.rc, .int .i64 t.rb, .int .i64 (t.nb : Int), .bool t.fr, .slice t.A t.L.length t.c, .slice t.tA t.tok.length t.tc, .int .i64 t.us] := HU2.out.below hJ.bel HU2.out.lt
        refine gives_loadrow 34 (.tmp 7) rfl gu rfl hk Tryz.underlying34 rfl (by kernel_rfl) ?_
        exact ⟨rfl, rfl⟩) ?_
    refine RelyJ.stepsZ_cons (by
        as_aux_lemma =>
        intro S' vs w' hS hA hJ
        rw [if_pos (show Region.wanted _ _ = true from rfl)]
        refine RelyJ.gives_mono (R' := fun u w'' => u = .slice (some ⟨bb, oo, none⟩) n c ∧ w'' = w') ?_ (by rintro u w2 ⟨rfl, rfl⟩; exact hJ.quiet 1 (by simp) (fun m hm => by simp [depJ] at hm) _ rfl)
        clear hJ hA hS
        unfold Rely.gives
        simp only [Rely.sel, List.foldl_cons, List.foldl_nil]
        go_simp
        simp [Rely.GivesR]) ?_
    refine RelyJ.stepsZ_cons (by
        as_aux_lemma =>
        intro S' vs w' hS hA hJ
        rw [if_pos (show Region.wanted _ _ = true from rfl)]
        refine RelyJ.gives_mono (R' := fun u w'' => u = .int .i64 (ix : Int) ∧ w'' = w') ?_ (by rintro u w2 ⟨rfl, rfl⟩; exact hJ.quiet 2 (by simp) (fun m hm => by simp [depJ] at hm) _ rfl)
        clear hJ hA hS
        unfold Rely.gives
        simp only [Rely.sel, List.foldl_cons, List.foldl_nil]
        go_simp
        simp [Rely.GivesR]) ?_
    refine RelyJ.stepsZ_cons (by
        as_aux_lemma =>
        intro S' vs w' hS hA hJ
        rw [if_pos (show Region.wanted _ _ = true from rfl)]
        refine RelyJ.gives_mono (R' := fun u w'' => u = .pointer (some ⟨bb, oo + ix * 8, none⟩) ∧ w'' = w') ?_ (by rintro u w2 ⟨rfl, rfl⟩; exact hJ.quiet 3 (by simp) (fun m hm => by simp [depJ] at hm; rcases hm with rfl | rfl; exact hA ⟨1, Ground.data⟩ (by simp) rfl; exact hA ⟨2, Ground.data⟩ (by simp) rfl) _ rfl)
        have hx1 := hJ.vals 1 (hA ⟨1, Ground.data⟩ (by simp) rfl)
        simp only [VJ] at hx1
        have hx2 := hJ.vals 2 (hA ⟨2, Ground.data⟩ (by simp) rfl)
        simp only [VJ] at hx2
        clear hJ hA hS
        unfold Rely.gives
        simp only [Rely.sel, List.foldl_cons, List.foldl_nil, hx1, hx2]
        go_simp
        simp [Rely.GivesR]) ?_
    refine RelyJ.stepsZ_cons (by
        as_aux_lemma =>
        intro S' vs w' hS hA hJ
        rw [if_pos (show Region.wanted _ _ = true from rfl)]
        refine RelyJ.gives_mono (R' := fun u w'' => u = .agg #[.int .i64 d.kind, .string ⟨d.e.1.k.toArray⟩, .int .i64 d.e.1.s, .int .i64 d.e.1.u, .int .i64 d.e.1.o, .bool d.e.1.has, .slice d.e.2.1 d.e.1.v.length d.e.2.2, .int .i64 d.tok] ∧ w'' = w') ?_ (by rintro u w2 ⟨rfl, rfl⟩; exact hJ.quiet 4 (by simp) (fun m hm => by simp [depJ] at hm; subst hm; exact hA ⟨3, Ground.data⟩ (by simp) rfl) _ rfl)
        have hx3 := hJ.vals 3 (hA ⟨3, Ground.data⟩ (by simp) rfl)
        simp only [VJ] at hx3
        have hbw : Below w24.heap.size w24 w' := hJ.bel
        have hq := HF24.out w' hbw
        clear hbw
        have f0 : w'.cell? ⟨bb, oo + ix * 8 + 0, none⟩ = some (.int .i64 d.kind) := hq 0 _ rfl
        have f1 : w'.cell? ⟨bb, oo + ix * 8 + 1, none⟩ = some (.string ⟨d.e.1.k.toArray⟩) := hq 1 _ rfl
        have f2 : w'.cell? ⟨bb, oo + ix * 8 + 2, none⟩ = some (.int .i64 d.e.1.s) := hq 2 _ rfl
        have f3 : w'.cell? ⟨bb, oo + ix * 8 + 3, none⟩ = some (.int .i64 d.e.1.u) := hq 3 _ rfl
        have f4 : w'.cell? ⟨bb, oo + ix * 8 + 4, none⟩ = some (.int .i64 d.e.1.o) := hq 4 _ rfl
        have f5 : w'.cell? ⟨bb, oo + ix * 8 + 5, none⟩ = some (.bool d.e.1.has) := hq 5 _ rfl
        have f6 : w'.cell? ⟨bb, oo + ix * 8 + 6, none⟩ = some (.slice d.e.2.1 d.e.1.v.length d.e.2.2) := hq 6 _ rfl
        have f7 : w'.cell? ⟨bb, oo + ix * 8 + 7, none⟩ = some (.int .i64 d.tok) := hq 7 _ rfl
        rw [Nat.add_zero] at f0
        clear hq
        clear hJ hA hS
        unfold Rely.gives
        simp only [Rely.sel, List.foldl_cons, List.foldl_nil, hx3]
        go_simp
        simp [Rely.GivesR]) ?_
    refine RelyJ.stepsZ_cons (by
        as_aux_lemma =>
        intro S' vs w' hS hA hJ
        rw [if_pos (show Region.wanted _ _ = true from rfl)]
        have hx0 := hJ.vals 0 (hA ⟨0, Ground.data⟩ (by simp) rfl)
        simp only [VJ] at hx0
        have hx4 := hJ.vals 4 (hA ⟨4, Ground.data⟩ (by simp) rfl)
        simp only [VJ] at hx4
        refine RelyJ.gives_mono (R' := fun u w'' => ∃ (t1 : Tr) (A1 : Option Addr) (c1 : Nat), u = .tuple #[.agg #[.int .i64 t1.rc, .int .i64 t1.rb, .int .i64 (t1.nb : Int), .bool t1.fr, .slice t1.A t1.L.length t1.c, .slice t1.tA t1.tok.length t1.tc, .int .i64 t1.us], repV rp A1 c1, .bool bo, .int .i64 nn] ∧ trS t1 = SS ∧ TrN (FBx F0 S' vs) w'' t1 ∧ VlN (FBx F0 S' vs) w'' rp.e.v A1 c1 ∧ Below w'.heap.size w' w'') ?_ (by rintro u w2 ⟨t1, A1, c1, hu, h1, h2, h3, h4⟩; exact hJ.s5 (fun m hm => by simp [depJ] at hm; rcases hm with rfl | rfl; exact hA ⟨0, Ground.data⟩ (by simp) rfl; exact hA ⟨4, Ground.data⟩ (by simp) rfl) _ trivial hS t1 A1 c1 hu h1 h2 h3 h4)
        have hcall := HST.out (FBx F0 S' vs) w' hJ.bel (hJ.box_lt (fun k hk => Nat.lt_of_lt_of_le (HFL.out k hk) HZ2.out)) hJ.box_ge
        clear hJ hA hS
        unfold Rely.gives
        simp only [Rely.sel, List.foldl_cons, List.foldl_nil, hx0, hx4]
        go_simp
        simp only [Rely.GivesR]
        refine hcall.mono ?_
        rintro e9 w9 ⟨t1, A1, c1, rfl, h1, h2, h3, h4⟩
        exact ⟨_, rfl, t1, A1, c1, rfl, h1, h2, h3, h4⟩) ?_
    refine RelyJ.stepsZ_cons (by
        as_aux_lemma =>
        intro S' vs w' hS hA hJ
        rw [if_pos (show Region.wanted _ _ = true from rfl)]
        obtain ⟨t1, A1, c1, e5, _⟩ := hJ.c (hA ⟨5, Ground.data⟩ (by simp) rfl)
        refine RelyJ.gives_mono (R' := fun u w'' => u = .tuple #[.agg #[.int .i64 t1.rc, .int .i64 t1.rb, .int .i64 (t1.nb : Int), .bool t1.fr, .slice t1.A t1.L.length t1.c, .slice t1.tA t1.tok.length t1.tc, .int .i64 t1.us], repV rp A1 c1, .bool bo, .int .i64 nn] ∧ w'' = w') ?_ (by rintro u w2 ⟨hu, rfl⟩; exact hJ.s6 (fun m hm => by simp [depJ] at hm; subst hm; exact hA ⟨5, Ground.data⟩ (by simp) rfl) _ trivial (hu.trans e5.symm))
        clear hJ hA hS
        unfold Rely.gives
        simp only [Rely.sel, List.foldl_cons, List.foldl_nil, e5]
        go_simp
        simp [Rely.GivesR]) ?_
    refine RelyJ.stepsZ_cons (by
        as_aux_lemma =>
        intro S' vs w' hS hA hJ
        rw [if_pos (show Region.wanted _ _ = true from rfl)]
        obtain ⟨t1, A1, c1, e5, hs1, hm1, hv1, e6, e7, e8, _, _⟩ := hJ.c (hJ.clo 6 (hA ⟨6, Ground.data⟩ (by simp) rfl) 5 (by simp [depJ]))
        have hx6 := e6 (hA ⟨6, Ground.data⟩ (by simp) rfl)
        refine RelyJ.gives_mono (R' := fun u w'' => u = .agg #[.int .i64 t1.rc, .int .i64 t1.rb, .int .i64 (t1.nb : Int), .bool t1.fr, .slice t1.A t1.L.length t1.c, .slice t1.tA t1.tok.length t1.tc, .int .i64 t1.us] ∧ w'' = w') ?_ (by rintro u w2 ⟨hu, rfl⟩; exact hJ.s7 (fun m hm => by simp [depJ] at hm; subst hm; exact hA ⟨6, Ground.data⟩ (by simp) rfl) _ trivial t1 A1 c1 hx6 hu)
        clear hJ hA hS e5 hs1 hm1 hv1 e6 e7 e8
        unfold Rely.gives
        simp only [Rely.sel, List.foldl_cons, List.foldl_nil, hx6]
        go_simp
        simp [Rely.GivesR]) ?_
    refine RelyJ.stepsZ_cons (by
        as_aux_lemma =>
        intro S' vs w' hS hA hJ
        rw [if_pos (show Region.wanted _ _ = true from rfl)]
        obtain ⟨t1, A1, c1, e5, hs1, hm1, hv1, e6, e7, e8, _, _⟩ := hJ.c (hJ.clo 6 (hA ⟨6, Ground.data⟩ (by simp) rfl) 5 (by simp [depJ]))
        have hx6 := e6 (hA ⟨6, Ground.data⟩ (by simp) rfl)
        refine RelyJ.gives_mono (R' := fun u w'' => u = .agg #[.string ⟨rp.e.k.toArray⟩, .int .i64 rp.e.s, .int .i64 rp.e.u, .int .i64 rp.e.o, .bool rp.e.has, .slice A1 rp.e.v.length c1, .bool rp.wh, .int .i64 rp.tok] ∧ w'' = w') ?_ (by rintro u w2 ⟨hu, rfl⟩; exact hJ.s8 (fun m hm => by simp [depJ] at hm; subst hm; exact hA ⟨6, Ground.data⟩ (by simp) rfl) _ trivial t1 A1 c1 hx6 hu)
        clear hJ hA hS e5 hs1 hm1 hv1 e6 e7 e8
        unfold repV at hx6
        unfold Rely.gives
        simp only [Rely.sel, List.foldl_cons, List.foldl_nil, hx6]
        go_simp
        simp [Rely.GivesR]) ?_
    refine RelyJ.stepsZ_cons (by
        as_aux_lemma =>
        intro S' vs w' hS hA hJ
        rw [if_pos (show Region.wanted _ _ = true from rfl)]
        obtain ⟨t1, A1, c1, e5, hs1, hm1, hv1, e6, e7, e8, _, _⟩ := hJ.c (hJ.clo 6 (hA ⟨6, Ground.data⟩ (by simp) rfl) 5 (by simp [depJ]))
        have hx6 := e6 (hA ⟨6, Ground.data⟩ (by simp) rfl)
        refine RelyJ.gives_mono (R' := fun u w'' => u = .bool bo ∧ w'' = w') ?_ (by rintro u w2 ⟨rfl, rfl⟩; exact hJ.quiet 9 (by simp) (fun m hm => by simp [depJ] at hm; subst hm; exact hA ⟨6, Ground.data⟩ (by simp) rfl) _ rfl)
        clear hJ hA hS e5 hs1 hm1 hv1 e6 e7 e8
        unfold Rely.gives
        simp only [Rely.sel, List.foldl_cons, List.foldl_nil, hx6]
        go_simp
        simp [Rely.GivesR]) ?_
    refine RelyJ.stepsZ_cons (by
        as_aux_lemma =>
        intro S' vs w' hS hA hJ
        rw [if_pos (show Region.wanted _ _ = true from rfl)]
        obtain ⟨t1, A1, c1, e5, hs1, hm1, hv1, e6, e7, e8, _, _⟩ := hJ.c (hJ.clo 6 (hA ⟨6, Ground.data⟩ (by simp) rfl) 5 (by simp [depJ]))
        have hx6 := e6 (hA ⟨6, Ground.data⟩ (by simp) rfl)
        refine RelyJ.gives_mono (R' := fun u w'' => u = .int .i64 nn ∧ w'' = w') ?_ (by rintro u w2 ⟨rfl, rfl⟩; exact hJ.quiet 10 (by simp) (fun m hm => by simp [depJ] at hm; subst hm; exact hA ⟨6, Ground.data⟩ (by simp) rfl) _ rfl)
        clear hJ hA hS e5 hs1 hm1 hv1 e6 e7 e8
        unfold Rely.gives
        simp only [Rely.sel, List.foldl_cons, List.foldl_nil, hx6]
        go_simp
        simp [Rely.GivesR]) ?_
    refine RelyJ.stepsZ_cons (by
        as_aux_lemma =>
        intro S' vs w' hS hA hJ
        rw [if_pos (show Region.wanted _ _ = true from rfl)]
        refine RelyJ.gives_mono (R' := fun u w'' => u = .pointer (some ⟨w'.heap.size, 0, none⟩) ∧ w'' = w'.alloc (.cells #[.int .i64 0, .int .i64 0, .int .i64 0, .bool false, .slice none 0 0, .slice none 0 0, .int .i64 0] 34)) ?_ (by rintro u w2 ⟨rfl, rfl⟩; exact hJ.s11 (fun m hm => by simp [depJ] at hm) _ trivial hS rfl)
        clear hJ hA hS
        unfold Rely.gives
        simp only [Rely.sel, List.foldl_cons, List.foldl_nil]
        go_simp
        simp [Rely.GivesR]) ?_
    refine RelyJ.stepsZ_cons (by
        as_aux_lemma =>
        intro S' vs w' hS hA hJ
        rw [if_pos (show Region.wanted _ _ = true from rfl)]
        refine RelyJ.gives_mono (R' := fun u w'' => u = .pointer (some ⟨w'.heap.size, 0, none⟩) ∧ w'' = w'.alloc (.cells #[.string ⟨#[]⟩, .int .i64 0, .int .i64 0, .int .i64 0, .bool false, .slice none 0 0, .bool false, .int .i64 0] 45)) ?_ (by rintro u w2 ⟨rfl, rfl⟩; exact hJ.s12 (fun m hm => by simp [depJ] at hm) _ trivial hS rfl)
        clear hJ hA hS
        unfold Rely.gives
        simp only [Rely.sel, List.foldl_cons, List.foldl_nil]
        go_simp
        simp [Rely.GivesR]) ?_
    refine RelyJ.stepsZ_cons (by
        as_aux_lemma =>
        intro S' vs w' hS hA hJ
        rw [if_pos (show Region.wanted _ _ = true from rfl)]
        obtain ⟨g1, b1, b2, b3, b4⟩ := hJ.a11 (hA ⟨11, Ground.data⟩ (by simp) rfl)
        have h7 : S' 7 = true := hA ⟨7, Ground.data⟩ (by simp) rfl
        obtain ⟨t1, A1, c1, e5, hs1, hm1, hv1, e6, e7, e8, _, _⟩ := hJ.c (hJ.clo 6 (hJ.clo 7 h7 6 (by simp [depJ])) 5 (by simp [depJ]))
        have hx7 := e7 h7
        refine gives_storerow 34 (.tmp 13) (.tmp 70) rfl g1 (by simp only [Rely.sel, List.foldl_cons, List.foldl_nil, b1]; rfl) (cs := #[.int .i64 t1.rc, .int .i64 t1.rb, .int .i64 (t1.nb : Int), .bool t1.fr, .slice t1.A t1.L.length t1.c, .slice t1.tA t1.tok.length t1.tc, .int .i64 t1.us]) (by simp only [Rely.sel, List.foldl_cons, List.foldl_nil, hx7]; rfl) (b4 hS) rfl (by kernel_rfl) (by kernel_rfl) ?_
        intro w2 hk2 hg2
        exact hJ.s13 (fun m hm => by simp [depJ] at hm; rcases hm with rfl | rfl; exact hA ⟨11, Ground.data⟩ (by simp) rfl; exact hA ⟨7, Ground.data⟩ (by simp) rfl) _ trivial hS g1 b1 t1 A1 c1 hx7 hk2 hg2) ?_
    refine RelyJ.stepsZ_cons (by
        as_aux_lemma =>
        intro S' vs w' hS hA hJ
        rw [if_pos (show Region.wanted _ _ = true from rfl)]
        obtain ⟨g1, b1, b2, b3, b4⟩ := hJ.a12 (hA ⟨12, Ground.data⟩ (by simp) rfl)
        have h8 : S' 8 = true := hA ⟨8, Ground.data⟩ (by simp) rfl
        obtain ⟨t1, A1, c1, e5, hs1, hm1, hv1, e6, e7, e8, _, _⟩ := hJ.c (hJ.clo 6 (hJ.clo 8 h8 6 (by simp [depJ])) 5 (by simp [depJ]))
        have hx8 := e8 h8
        refine gives_storerow 45 (.tmp 14) (.tmp 71) rfl g1 (by simp only [Rely.sel, List.foldl_cons, List.foldl_nil, b1]; rfl) (cs := #[.string ⟨rp.e.k.toArray⟩, .int .i64 rp.e.s, .int .i64 rp.e.u, .int .i64 rp.e.o, .bool rp.e.has, .slice A1 rp.e.v.length c1, .bool rp.wh, .int .i64 rp.tok]) (by simp only [Rely.sel, List.foldl_cons, List.foldl_nil, hx8]; rfl) (b4 hS) rfl (by kernel_rfl) (by kernel_rfl) ?_
        intro w2 hk2 hg2
        exact hJ.s14 (fun m hm => by simp [depJ] at hm; rcases hm with rfl | rfl | rfl; exact hA ⟨12, Ground.data⟩ (by simp) rfl; exact hA ⟨8, Ground.data⟩ (by simp) rfl; exact hA ⟨13, Ground.chain⟩ (by simp) rfl) _ trivial hS g1 b1 t1 A1 c1 hx8 hk2 hg2) ?_
    refine RelyJ.stepsZ_cons (by
        as_aux_lemma =>
        intro S' vs w' hS hA hJ
        rw [if_pos (show Region.wanted _ _ = true from rfl)]
        refine RelyJ.gives_mono (R' := fun u w'' => u = .bool bo ∧ w'' = w') ?_ (by rintro u w2 ⟨rfl, rfl⟩; exact hJ.quiet 15 (by simp) (fun m hm => by simp [depJ] at hm; subst hm; exact hA ⟨9, Ground.data⟩ (by simp) rfl) _ rfl)
        have hx9 := hJ.vals 9 (hA ⟨9, Ground.data⟩ (by simp) rfl)
        simp only [VJ] at hx9
        clear hJ hA hS
        unfold Rely.gives
        simp only [Rely.sel, List.foldl_cons, List.foldl_nil, hx9]
        go_simp
        simp [Rely.GivesR]) ?_
    refine RelyJ.stepsZ_cons (by
        as_aux_lemma =>
        intro S' vs w' hS hA hJ
        rw [if_pos (show Region.wanted _ _ = true from rfl)]
        refine RelyJ.gives_mono (R' := fun u w'' => u = .int .i64 nn ∧ w'' = w') ?_ (by rintro u w2 ⟨rfl, rfl⟩; exact hJ.quiet 16 (by simp) (fun m hm => by simp [depJ] at hm; subst hm; exact hA ⟨10, Ground.data⟩ (by simp) rfl) _ rfl)
        have hx10 := hJ.vals 10 (hA ⟨10, Ground.data⟩ (by simp) rfl)
        simp only [VJ] at hx10
        clear hJ hA hS
        unfold Rely.gives
        simp only [Rely.sel, List.foldl_cons, List.foldl_nil, hx10]
        go_simp
        simp [Rely.GivesR]) ?_
    exact RelyJ.stepsZ_nil
    intro S' vs w6 hS hJ
    obtain ⟨t1, A1, c1, g1, g2, hv11, hv12, hs1, hm1, hvl1, hk1, hk2, hg1, hg2, hne, hmx, hvx⟩ := hJ.done hS
    have hv15 := hJ.vals 15 (hS 15 (by decide))
    have hv16 := hJ.vals 16 (hS 16 (by decide))
    simp only [VJ] at hv15 hv16
    simp only [Rely.sel, List.foldl_cons, List.foldl_nil, hv11, hv12, hv15, hv16]
    simp only [Act.put, List.setIfInBounds_toArray, List.set_cons_succ, List.set_cons_zero]
    have hb6 := hJ.bel
    have HT6 := Lib.hid (HT2.out.below hb6)
    have HU6 := Lib.hid (HU2.out.below hb6 HU2.out.lt)
    have HA6 := Lib.hid (HBA.out.below hb6 HBA.out.lt)
    have HG6 := Lib.hid hk2
    have HK6 := Lib.hid hk1
    have HVA6 := Lib.hid (HVA.out.below hb6)
    have HVX6 := Lib.hid hvl1
    have HM6 := Lib.hid hm1
    have HB6 : Hid (Below w.heap.size w w6) := Lib.hid (HB2.out.trans (hb6.mono HB2.out.size))
    have HZ6 : Hid (w5.heap.size ≤ w6.heap.size) := Lib.hid (Nat.le_trans HZ2.out hb6.size)
    have HS1 := Lib.hid hs1
    have HGG : Hid (g2 ≠ gu) := Lib.hid fun e => by have := HU2.out.lt; omega
    clear hS hJ hv11 hv12 hv15 hv16 hk1 hk2 hvl1 hm1 hs1 hmx hvx hb6 HT2 HU2 HBA HVA HM2 HB2 HZ2 HST HF24 hg1 hg2 hne
    go_wp2_with (first | (refine wpList_load_row rfl 34 _ rfl _ rfl _ _ _ _ (show _ = _ from HK6.out) Tryz.underlying34 rfl (by kernel_rfl) ?_) | (refine store_box rfl 34 _ _ rfl (gu) 34 #[.int .i64 t.rc, .int .i64 t.rb, .int .i64 (t.nb : Int), .bool t.fr, .slice t.A t.L.length t.c, .slice t.tA t.tok.length t.tc, .int .i64 t.us] #[.int .i64 t1.rc, .int .i64 t1.rb, .int .i64 (t1.nb : Int), .bool t1.fr, .slice t1.A t1.L.length t1.c, .slice t1.tA t1.tok.length t1.tc, .int .i64 t1.us] HU6.out rfl rfl rfl (by kernel_rfl) (by kernel_rfl) ?_))
    intro w7 hk7 hg7
    have ht7 := touch_box (F := fun k => k = gu) hg7 rfl
    have HT8 := Lib.hid (HT6.out.touch ht7 (fun k hk e => HOG.out (e ▸ hk)) (fun k hk => by rw [hk]; exact HFU.out))
    have HU8 := Lib.hid hk7
    have HA8 := Lib.hid (blk_grownT HA6.out hg7 HAU.out.1)
    have HG8 := Lib.hid (blk_grownT HG6.out hg7 HGG.out)
    have HM8 := Lib.hid (HM6.out.touch (touch_box hg7 HFU.out))
    have HVA8 := Lib.hid (HVA6.out.touch (touch_box hg7 HFU.out))
    have HVX8 := Lib.hid (HVX6.out.touch (touch_box hg7 HFU.out))
    have HB8 : Hid (Below w.heap.size w w7) := Lib.hid (HB6.out.grown hg7 HB6.out.size fun k hk => by cases hk; exact HFW.out gu HFU.out)
    have HZ8 : Hid (w5.heap.size ≤ w7.heap.size) := Lib.hid (Nat.le_trans HZ6.out hg7.size)
    clear hk7 hg7 ht7 HT6 HU6 HA6 HG6 HM6 HVA6 HVX6 HB6 HZ6 HK6
    have HTT : Hid (t1.L.map Prod.fst = SS.T) := Lib.hid (congrArg Cl.T HS1.out)
    have HTK : Hid (t1.tok = SS.tok) := Lib.hid (congrArg Cl.tok HS1.out)
    have HNB : Hid (SS.nb = SS.tok.length ∧ SS.tok.length ≤ 1000000) := Lib.hid ⟨HT8.out.ok.tl.symm, by have h1 := HT8.out.ok.tl; have h2 := HT8.out.ok.nb; omega⟩
    have hln : (SS.T.length : Int) = (t1.L.length : Int) := by rw [← HTT.out, List.length_map]
    obtain ⟨sm, hsm⟩ : ∃ sm : Int, (sumC SS.T : Int) = sm := ⟨_, rfl⟩
    have HSM := Lib.hid hsm
    have HBY : Hid (∀ W, Below w7.heap.size w7 W → Calls Tryz.prog 16 #[.agg #[.int .i64 t1.rc, .int .i64 t1.rb, .int .i64 (t1.nb : Int), .bool t1.fr, .slice t1.A t1.L.length t1.c, .slice t1.tA t1.tok.length t1.tc, .int .i64 t1.us]] W (fun e w' => e = .returned (.int .i64 sm) ∧ Below W.heap.size W w')) := Lib.hid fun W hb => by
      have h1 := HT8.out.ok.sum
      have h2 := HT8.out.ok.rb
      have h9 : (trS t1).T = SS.T := congrArg Cl.T HS1.out
      have := rbytes t1 W (HM8.out.below hb).m (by rw [h9]; omega)
      rw [h9, HSM.out] at this
      exact this
    have HSZ := Lib.hid (HT8.out.size (t1.L.length : Int) sm hln hsm)
    clear hln hsm
    go_upto_region 13 with fail
    go_wp2_with fail
    refine HSZ.out.mono ?_
    rintro e8 w8 ⟨rfl, hb8⟩
    replace HBY : Hid (∀ W, Below w8.heap.size w8 W → Calls Tryz.prog 16 #[.agg #[.int .i64 t1.rc, .int .i64 t1.rb, .int .i64 (t1.nb : Int), .bool t1.fr, .slice t1.A t1.L.length t1.c, .slice t1.tA t1.tok.length t1.tc, .int .i64 t1.us]] W (fun e w' => e = .returned (.int .i64 sm) ∧ Below W.heap.size W w')) := Lib.hid fun W hb => HBY.out W (hb8.trans (hb.mono hb8.size))
    replace HT8 := Lib.hid (HT8.out.below hb8)
    replace HU8 := Lib.hid (HU8.out.below hb8 HU8.out.lt)
    replace HA8 := Lib.hid (HA8.out.below hb8 HA8.out.lt)
    replace HG8 := Lib.hid (HG8.out.below hb8 HG8.out.lt)
    replace HM8 := Lib.hid (HM8.out.below hb8)
    replace HVA8 := Lib.hid (HVA8.out.below hb8)
    replace HVX8 := Lib.hid (HVX8.out.below hb8)
    replace HB8 := Lib.hid (HB8.out.trans (hb8.mono HB8.out.size))
    replace HZ8 := Lib.hid (Nat.le_trans HZ8.out hb8.size)
    clear hb8 HSZ
    go_upto_region 14 with fail
    have HSR : Hid (∀ W, Below w8.heap.size w8 W → Calls Tryz.prog 11 #[.agg #[.string ⟨rp.e.k.toArray⟩, .int .i64 rp.e.s, .int .i64 rp.e.u, .int .i64 rp.e.o, .bool rp.e.has, .slice Aa rp.e.v.length ca, .bool rp.wh, .int .i64 rp.tok], .agg #[.string ⟨rp.e.k.toArray⟩, .int .i64 rp.e.s, .int .i64 rp.e.u, .int .i64 rp.e.o, .bool rp.e.has, .slice A1 rp.e.v.length c1, .bool rp.wh, .int .i64 rp.tok]] W (IsB true W)) := Lib.hid fun W hb => samereply_true rp.e rp.wh rp.tok Aa A1 ca c1 W (HVA8.out.below hb).ok (HVX8.out.below hb).ok
    have eb : (bo != bo) = false := by simp
    have en : (nn != nn) = false := by simp
    have el : ((t1.L.length : Int) != (t1.L.length : Int)) = false := by simp
    have es : (sm != sm) = false := by simp
    have hl0 : (0 : Int) ≤ (t1.L.length : Int) := by omega
    have hl1 : (t1.L.length : Int) ≤ 100000 := by have := HM8.out.ln; omega
    have HST : Hid (Stab (fun _ => False) (V14 rp Aa ca A1 c1 bo nn g gu SS t1 sm) (fun _ _ => True) (fun _ _ => True)) := Lib.hid stab14
    have HBT : Hid (∀ {w' : World}, Touch (fun _ => False) w8 w' → Below w8.heap.size w8 w') := Lib.hid fun ht => ht.below (Nat.le_refl _) fun k hk => hk.elim
    refine RelyJ.wp_region_byJ [[], [], [(0, 80), (1, 81)], [(2, 82)], [(3, 83)], [(4, 84)], [(4, 84)], [(4, 84), (5, 85), (6, 86)], [(4, 84), (7, 87)], [(8, 88)], [(9, 89)], [(9, 89)], [(9, 89), (10, 90), (11, 91)], [(9, 89), (12, 92)], [(13, 93)], [(14, 94)], [(14, 94), (15, 95)], [(14, 94)], [(14, 94), (17, 97)], [(14, 94), (16, 96), (18, 98)], [(14, 94), (19, 99)], [(14, 94), (20, 100)], [(21, 101)], [(22, 102)], [(22, 102), (23, 103)], [(22, 102)], [(22, 102), (25, 105)], [(22, 102), (24, 104), (26, 106)], [(22, 102), (27, 107)], [(22, 102), (28, 108)]] [(0, 80), (1, 81), (2, 82), (3, 83), (4, 84), (5, 85), (6, 86), (7, 87), (8, 88), (9, 89), (10, 90), (11, 91), (12, 92), (13, 93), (14, 94), (15, 95), (16, 96), (17, 97), (18, 98), (19, 99), (20, 100), (21, 101), (22, 102), (23, 103), (24, 104), (25, 105), (26, 106), (27, 107), (28, 108), (29, 109)] (JV (fun _ => False) w8 [] (V14 rp Aa ca A1 c1 bo nn g gu SS t1 sm) (fun _ _ => True) (fun _ _ => True)) (by kernel_rfl) (by kernel_rfl) (by kernel_rfl) (by kernel_rfl) (by kernel_rfl) ?_ ?_ ?_
    · exact fun vs => JV.start (fun s hs => trivial) HST.out vs
    refine RelyJ.stepsZ_cons (by
        as_aux_lemma =>
        intro S' vs w' hS hA hJ
        rw [if_pos (show Region.wanted _ _ = true from rfl)]
        refine RelyJ.gives_mono (R' := fun u w'' => u = .agg #[.string ⟨rp.e.k.toArray⟩, .int .i64 rp.e.s, .int .i64 rp.e.u, .int .i64 rp.e.o, .bool rp.e.has, .slice Aa rp.e.v.length ca, .bool rp.wh, .int .i64 rp.tok] ∧ w'' = w') ?_ (by rintro u w2 ⟨rfl, rfl⟩; exact hJ.step HST.out (Below.refl _ _) 0 (by simp) _ rfl)
        have hk : Blk w' (ga) 45 #[.string ⟨rp.e.k.toArray⟩, .int .i64 rp.e.s, .int .i64 rp.e.u, .int .i64 rp.e.o, .bool rp.e.has, .slice Aa rp.e.v.length ca, .bool rp.wh, .int .i64 rp.tok] := HA8.out.below (HBT.out hJ.tou) HA8.out.lt
        refine gives_loadrow 45 (.tmp 10) rfl (ga) rfl hk Tryz.underlying45 rfl (by kernel_rfl) ?_
        exact ⟨rfl, rfl⟩) ?_
    refine RelyJ.stepsZ_cons (by
        as_aux_lemma =>
        intro S' vs w' hS hA hJ
        rw [if_pos (show Region.wanted _ _ = true from rfl)]
        refine RelyJ.gives_mono (R' := fun u w'' => u = .agg #[.string ⟨rp.e.k.toArray⟩, .int .i64 rp.e.s, .int .i64 rp.e.u, .int .i64 rp.e.o, .bool rp.e.has, .slice A1 rp.e.v.length c1, .bool rp.wh, .int .i64 rp.tok] ∧ w'' = w') ?_ (by rintro u w2 ⟨rfl, rfl⟩; exact hJ.step HST.out (Below.refl _ _) 1 (by simp) _ rfl)
        have hk : Blk w' (g2) 45 #[.string ⟨rp.e.k.toArray⟩, .int .i64 rp.e.s, .int .i64 rp.e.u, .int .i64 rp.e.o, .bool rp.e.has, .slice A1 rp.e.v.length c1, .bool rp.wh, .int .i64 rp.tok] := HG8.out.below (HBT.out hJ.tou) HG8.out.lt
        refine gives_loadrow 45 (.tmp 14) rfl (g2) rfl hk Tryz.underlying45 rfl (by kernel_rfl) ?_
        exact ⟨rfl, rfl⟩) ?_
    refine RelyJ.stepsZ_cons (by
        as_aux_lemma =>
        intro S' vs w' hS hA hJ
        have hx0 := hJ.vals 0 (hA ⟨0, Ground.data⟩ (by simp) rfl)
        simp only [V14] at hx0
        have hx1 := hJ.vals 1 (hA ⟨1, Ground.data⟩ (by simp) rfl)
        simp only [V14] at hx1
        rw [if_pos (show Region.wanted _ _ = true from rfl)]
        refine RelyJ.gives_mono (R' := fun u w'' => (u = .bool true) ∧ Below w'.heap.size w' w'') ?_ (by rintro u w2 ⟨h1, h2⟩; exact hJ.step HST.out h2 2 (by simp) _ h1)
        have hcall := HSR.out w' (HBT.out hJ.tou)
        clear hJ hA hS
        generalize hRR : (fun (u : Value) (w'' : World) => (u = .bool true) ∧ Below w'.heap.size w' w'') = RR
        unfold Rely.gives
        simp only [Rely.sel, List.foldl_cons, List.foldl_nil, hx0, hx1]
        go_simp
        simp only [Rely.GivesR]
        refine hcall.mono ?_
        rintro e9 w9 ⟨rfl, hb9⟩
        refine ⟨_, rfl, ?_⟩
        rw [← hRR]
        exact ⟨rfl, hb9⟩) ?_
    refine RelyJ.stepsZ_cons (by
        as_aux_lemma =>
        intro S' vs w' hS hA hJ
        have hx2 := hJ.vals 2 (hA ⟨2, Ground.data⟩ (by simp) rfl)
        simp only [V14] at hx2
        rw [if_pos (show Region.wanted _ _ = true from rfl)]
        refine RelyJ.gives_mono (R' := fun u w'' => u = .bool false ∧ w'' = w') ?_ (by rintro u w2 ⟨rfl, rfl⟩; exact hJ.step HST.out (Below.refl _ _) 3 (by simp) _ rfl)
        clear hJ hA hS
        unfold Rely.gives
        simp only [Rely.sel, List.foldl_cons, List.foldl_nil, hx2]
        go_simp
        simp [Rely.GivesR]) ?_
    refine RelyJ.stepsZ_cons (by
        as_aux_lemma =>
        intro S' vs w' hS hA hJ
        have hx3 := hJ.vals 3 (hA ⟨3, Ground.data⟩ (by simp) rfl)
        simp only [V14] at hx3
        rw [if_pos (show Region.wanted _ _ = true from rfl)]
        refine RelyJ.gives_mono (R' := fun u w'' => u = .bool false ∧ w'' = w') ?_ (by rintro u w2 ⟨rfl, rfl⟩; exact hJ.step HST.out (Below.refl _ _) 4 (by simp) _ rfl)
        clear hJ hA hS
        unfold Rely.gives
        simp only [Rely.sel, List.foldl_cons, List.foldl_nil, hx3]
        go_simp
        simp [Rely.GivesR]) ?_
    refine RelyJ.stepsZ_cons (by
        as_aux_lemma =>
        intro S' vs w' hS hA hJ
        have hx4 := hJ.vals 4 (hA ⟨4, Ground.guard⟩ (by simp) rfl)
        simp only [V14] at hx4
        rw [if_pos (show Region.wanted _ _ = true by simp only [Rely.sel, List.foldl_cons, List.foldl_nil, hx4]; rfl)]
        refine RelyJ.gives_mono (R' := fun u w'' => u = .bool bo ∧ w'' = w') ?_ (by rintro u w2 ⟨rfl, rfl⟩; exact hJ.step HST.out (Below.refl _ _) 5 (by simp) _ rfl)
        clear hJ hA hS
        unfold Rely.gives
        simp only [Rely.sel, List.foldl_cons, List.foldl_nil, hx4]
        go_simp
        simp [Rely.GivesR]) ?_
    refine RelyJ.stepsZ_cons (by
        as_aux_lemma =>
        intro S' vs w' hS hA hJ
        have hx4 := hJ.vals 4 (hA ⟨4, Ground.guard⟩ (by simp) rfl)
        simp only [V14] at hx4
        rw [if_pos (show Region.wanted _ _ = true by simp only [Rely.sel, List.foldl_cons, List.foldl_nil, hx4]; rfl)]
        refine RelyJ.gives_mono (R' := fun u w'' => u = .bool bo ∧ w'' = w') ?_ (by rintro u w2 ⟨rfl, rfl⟩; exact hJ.step HST.out (Below.refl _ _) 6 (by simp) _ rfl)
        clear hJ hA hS
        unfold Rely.gives
        simp only [Rely.sel, List.foldl_cons, List.foldl_nil, hx4]
        go_simp
        simp [Rely.GivesR]) ?_
    refine RelyJ.stepsZ_cons (by
        as_aux_lemma =>
        intro S' vs w' hS hA hJ
        have hx5 := hJ.vals 5 (hA ⟨5, Ground.data⟩ (by simp) rfl)
        simp only [V14] at hx5
        have hx6 := hJ.vals 6 (hA ⟨6, Ground.data⟩ (by simp) rfl)
        simp only [V14] at hx6
        have hx4 := hJ.vals 4 (hA ⟨4, Ground.guard⟩ (by simp) rfl)
        simp only [V14] at hx4
        rw [if_pos (show Region.wanted _ _ = true by simp only [Rely.sel, List.foldl_cons, List.foldl_nil, hx4]; rfl)]
        refine RelyJ.gives_mono (R' := fun u w'' => u = .bool false ∧ w'' = w') ?_ (by rintro u w2 ⟨rfl, rfl⟩; exact hJ.step HST.out (Below.refl _ _) 7 (by simp) _ rfl)
        clear hJ hA hS
        unfold Rely.gives
        simp only [Rely.sel, List.foldl_cons, List.foldl_nil, hx5, hx6, hx4]
        go_simp
        simp [Rely.GivesR]) ?_
    refine RelyJ.stepsZ_cons (by
        as_aux_lemma =>
        intro S' vs w' hS hA hJ
        have hx4 := hJ.vals 4 (hA ⟨4, Ground.data⟩ (by simp) rfl)
        simp only [V14] at hx4
        have hx7 := hJ.vals 7 (hA ⟨7, Ground.data⟩ (by simp) rfl)
        simp only [V14] at hx7
        rw [if_pos (show Region.wanted _ _ = true from rfl)]
        refine RelyJ.gives_mono (R' := fun u w'' => u = .bool false ∧ w'' = w') ?_ (by rintro u w2 ⟨rfl, rfl⟩; exact hJ.step HST.out (Below.refl _ _) 8 (by simp) _ rfl)
        clear hJ hA hS
        unfold Rely.gives
        simp only [Rely.sel, List.foldl_cons, List.foldl_nil, hx4, hx7]
        go_simp
        simp [Rely.GivesR]) ?_
    refine RelyJ.stepsZ_cons (by
        as_aux_lemma =>
        intro S' vs w' hS hA hJ
        have hx8 := hJ.vals 8 (hA ⟨8, Ground.data⟩ (by simp) rfl)
        simp only [V14] at hx8
        rw [if_pos (show Region.wanted _ _ = true from rfl)]
        refine RelyJ.gives_mono (R' := fun u w'' => u = .bool false ∧ w'' = w') ?_ (by rintro u w2 ⟨rfl, rfl⟩; exact hJ.step HST.out (Below.refl _ _) 9 (by simp) _ rfl)
        clear hJ hA hS
        unfold Rely.gives
        simp only [Rely.sel, List.foldl_cons, List.foldl_nil, hx8]
        go_simp
        simp [Rely.GivesR]) ?_
    refine RelyJ.stepsZ_cons (by
        as_aux_lemma =>
        intro S' vs w' hS hA hJ
        have hx9 := hJ.vals 9 (hA ⟨9, Ground.guard⟩ (by simp) rfl)
        simp only [V14] at hx9
        rw [if_pos (show Region.wanted _ _ = true by simp only [Rely.sel, List.foldl_cons, List.foldl_nil, hx9]; rfl)]
        refine RelyJ.gives_mono (R' := fun u w'' => u = .int .i64 nn ∧ w'' = w') ?_ (by rintro u w2 ⟨rfl, rfl⟩; exact hJ.step HST.out (Below.refl _ _) 10 (by simp) _ rfl)
        clear hJ hA hS
        unfold Rely.gives
        simp only [Rely.sel, List.foldl_cons, List.foldl_nil, hx9]
        go_simp
        simp [Rely.GivesR]) ?_
    refine RelyJ.stepsZ_cons (by
        as_aux_lemma =>
        intro S' vs w' hS hA hJ
        have hx9 := hJ.vals 9 (hA ⟨9, Ground.guard⟩ (by simp) rfl)
        simp only [V14] at hx9
        rw [if_pos (show Region.wanted _ _ = true by simp only [Rely.sel, List.foldl_cons, List.foldl_nil, hx9]; rfl)]
        refine RelyJ.gives_mono (R' := fun u w'' => u = .int .i64 nn ∧ w'' = w') ?_ (by rintro u w2 ⟨rfl, rfl⟩; exact hJ.step HST.out (Below.refl _ _) 11 (by simp) _ rfl)
        clear hJ hA hS
        unfold Rely.gives
        simp only [Rely.sel, List.foldl_cons, List.foldl_nil, hx9]
        go_simp
        simp [Rely.GivesR]) ?_
    refine RelyJ.stepsZ_cons (by
        as_aux_lemma =>
        intro S' vs w' hS hA hJ
        have hx10 := hJ.vals 10 (hA ⟨10, Ground.data⟩ (by simp) rfl)
        simp only [V14] at hx10
        have hx11 := hJ.vals 11 (hA ⟨11, Ground.data⟩ (by simp) rfl)
        simp only [V14] at hx11
        have hx9 := hJ.vals 9 (hA ⟨9, Ground.guard⟩ (by simp) rfl)
        simp only [V14] at hx9
        rw [if_pos (show Region.wanted _ _ = true by simp only [Rely.sel, List.foldl_cons, List.foldl_nil, hx9]; rfl)]
        refine RelyJ.gives_mono (R' := fun u w'' => u = .bool false ∧ w'' = w') ?_ (by rintro u w2 ⟨rfl, rfl⟩; exact hJ.step HST.out (Below.refl _ _) 12 (by simp) _ rfl)
        clear hJ hA hS
        unfold Rely.gives
        simp only [Rely.sel, List.foldl_cons, List.foldl_nil, hx10, hx11, hx9]
        go_simp
        simp [Rely.GivesR]) ?_
    refine RelyJ.stepsZ_cons (by
        as_aux_lemma =>
        intro S' vs w' hS hA hJ
        have hx9 := hJ.vals 9 (hA ⟨9, Ground.data⟩ (by simp) rfl)
        simp only [V14] at hx9
        have hx12 := hJ.vals 12 (hA ⟨12, Ground.data⟩ (by simp) rfl)
        simp only [V14] at hx12
        rw [if_pos (show Region.wanted _ _ = true from rfl)]
        refine RelyJ.gives_mono (R' := fun u w'' => u = .bool false ∧ w'' = w') ?_ (by rintro u w2 ⟨rfl, rfl⟩; exact hJ.step HST.out (Below.refl _ _) 13 (by simp) _ rfl)
        clear hJ hA hS
        unfold Rely.gives
        simp only [Rely.sel, List.foldl_cons, List.foldl_nil, hx9, hx12]
        go_simp
        simp [Rely.GivesR]) ?_
    refine RelyJ.stepsZ_cons (by
        as_aux_lemma =>
        intro S' vs w' hS hA hJ
        have hx13 := hJ.vals 13 (hA ⟨13, Ground.data⟩ (by simp) rfl)
        simp only [V14] at hx13
        rw [if_pos (show Region.wanted _ _ = true from rfl)]
        refine RelyJ.gives_mono (R' := fun u w'' => u = .bool false ∧ w'' = w') ?_ (by rintro u w2 ⟨rfl, rfl⟩; exact hJ.step HST.out (Below.refl _ _) 14 (by simp) _ rfl)
        clear hJ hA hS
        unfold Rely.gives
        simp only [Rely.sel, List.foldl_cons, List.foldl_nil, hx13]
        go_simp
        simp [Rely.GivesR]) ?_
    refine RelyJ.stepsZ_cons (by
        as_aux_lemma =>
        intro S' vs w' hS hA hJ
        have hx14 := hJ.vals 14 (hA ⟨14, Ground.guard⟩ (by simp) rfl)
        simp only [V14] at hx14
        rw [if_pos (show Region.wanted _ _ = true by simp only [Rely.sel, List.foldl_cons, List.foldl_nil, hx14]; rfl)]
        refine RelyJ.gives_mono (R' := fun u w'' => u = .pointer (some ⟨g, 0, none⟩) ∧ w'' = w') ?_ (by rintro u w2 ⟨rfl, rfl⟩; exact hJ.step HST.out (Below.refl _ _) 15 (by simp) _ rfl)
        clear hJ hA hS
        unfold Rely.gives
        simp only [Rely.sel, List.foldl_cons, List.foldl_nil, hx14]
        go_simp
        simp [Rely.GivesR]) ?_
    refine RelyJ.stepsZ_cons (by
        as_aux_lemma =>
        intro S' vs w' hS hA hJ
        have hx15 := hJ.vals 15 (hA ⟨15, Ground.data⟩ (by simp) rfl)
        simp only [V14] at hx15
        have hx14 := hJ.vals 14 (hA ⟨14, Ground.guard⟩ (by simp) rfl)
        simp only [V14] at hx14
        rw [if_pos (show Region.wanted _ _ = true by simp only [Rely.sel, List.foldl_cons, List.foldl_nil, hx14]; rfl)]
        refine RelyJ.gives_mono (R' := fun u w'' => (∃ (us : List CV) (A : Option Addr) (c : Nat), u = .slice A us.length c ∧ us.map Prod.fst = SS.T ∧ us.length ≤ 4096 ∧ CeV w'' A us) ∧ Below w'.heap.size w' w'') ?_ (by rintro u w2 ⟨h1, h2⟩; exact hJ.step HST.out h2 16 (by simp) _ h1)
        have hcall := (HT8.out.below (HBT.out hJ.tou)).cellsC
        clear hJ hA hS
        generalize hRR : (fun (u : Value) (w'' : World) => (∃ (us : List CV) (A : Option Addr) (c : Nat), u = .slice A us.length c ∧ us.map Prod.fst = SS.T ∧ us.length ≤ 4096 ∧ CeV w'' A us) ∧ Below w'.heap.size w' w'') = RR
        unfold Rely.gives
        simp only [Rely.sel, List.foldl_cons, List.foldl_nil, hx15, hx14]
        go_simp
        simp only [Rely.GivesR]
        refine hcall.mono ?_
        rintro e9 w9 ⟨us, A, c, h1, rfl, h2, h3, hb9⟩
        refine ⟨_, rfl, ?_⟩
        rw [← hRR]
        exact ⟨⟨us, A, c, rfl, h1, h3, h2.cev⟩, hb9⟩) ?_
    refine RelyJ.stepsZ_cons (by
        as_aux_lemma =>
        intro S' vs w' hS hA hJ
        have hx14 := hJ.vals 14 (hA ⟨14, Ground.guard⟩ (by simp) rfl)
        simp only [V14] at hx14
        rw [if_pos (show Region.wanted _ _ = true by simp only [Rely.sel, List.foldl_cons, List.foldl_nil, hx14]; rfl)]
        refine RelyJ.gives_mono (R' := fun u w'' => u = .pointer (some ⟨gu, 4, none⟩) ∧ w'' = w') ?_ (by rintro u w2 ⟨rfl, rfl⟩; exact hJ.step HST.out (Below.refl _ _) 17 (by simp) _ rfl)
        clear hJ hA hS
        unfold Rely.gives
        simp only [Rely.sel, List.foldl_cons, List.foldl_nil, hx14]
        go_simp
        simp [Rely.GivesR]) ?_
    refine RelyJ.stepsZ_cons (by
        as_aux_lemma =>
        intro S' vs w' hS hA hJ
        have hx17 := hJ.vals 17 (hA ⟨17, Ground.data⟩ (by simp) rfl)
        simp only [V14] at hx17
        have hx14 := hJ.vals 14 (hA ⟨14, Ground.guard⟩ (by simp) rfl)
        simp only [V14] at hx14
        rw [if_pos (show Region.wanted _ _ = true by simp only [Rely.sel, List.foldl_cons, List.foldl_nil, hx14]; rfl)]
        refine RelyJ.gives_mono (R' := fun u w'' => u = .slice t1.A t1.L.length t1.c ∧ w'' = w') ?_ (by rintro u w2 ⟨rfl, rfl⟩; exact hJ.step HST.out (Below.refl _ _) 18 (by simp) _ rfl)
        have u4 : w'.cell? ⟨gu, 4, none⟩ = some (.slice t1.A t1.L.length t1.c) := (HU8.out.below (HBT.out hJ.tou) HU8.out.lt).cell 4
        clear hJ hA hS
        unfold Rely.gives
        simp only [Rely.sel, List.foldl_cons, List.foldl_nil, hx17, hx14]
        go_simp
        simp [Rely.GivesR]) ?_
    refine RelyJ.stepsZ_cons (by
        as_aux_lemma =>
        intro S' vs w' hS hA hJ
        have hx16 := hJ.vals 16 (hA ⟨16, Ground.data⟩ (by simp) rfl)
        simp only [V14] at hx16
        have hx18 := hJ.vals 18 (hA ⟨18, Ground.data⟩ (by simp) rfl)
        simp only [V14] at hx18
        have hx14 := hJ.vals 14 (hA ⟨14, Ground.guard⟩ (by simp) rfl)
        simp only [V14] at hx14
        rw [if_pos (show Region.wanted _ _ = true by simp only [Rely.sel, List.foldl_cons, List.foldl_nil, hx14]; rfl)]
        obtain ⟨us, A, c, hx16, h1, h2, h3⟩ := hx16
        refine RelyJ.gives_mono (R' := fun u w'' => (u = .bool true) ∧ Below w'.heap.size w' w'') ?_ (by rintro u w2 ⟨h1, h2⟩; exact hJ.step HST.out h2 19 (by simp) _ h1)
        have hcall := samecells_true us.length c t1.L.length t1.c A t1.A us t1.L rfl rfl (h1.trans HTT.out.symm) (by omega) w' h3 (HM8.out.below (HBT.out hJ.tou)).m.cev
        clear hJ hA hS
        generalize hRR : (fun (u : Value) (w'' : World) => (u = .bool true) ∧ Below w'.heap.size w' w'') = RR
        unfold Rely.gives
        simp only [Rely.sel, List.foldl_cons, List.foldl_nil, hx16, hx18, hx14]
        go_simp
        simp only [Rely.GivesR]
        refine hcall.mono ?_
        rintro e9 w9 ⟨rfl, hb9⟩
        refine ⟨_, rfl, ?_⟩
        rw [← hRR]
        exact ⟨rfl, hb9⟩) ?_
    refine RelyJ.stepsZ_cons (by
        as_aux_lemma =>
        intro S' vs w' hS hA hJ
        have hx19 := hJ.vals 19 (hA ⟨19, Ground.data⟩ (by simp) rfl)
        simp only [V14] at hx19
        have hx14 := hJ.vals 14 (hA ⟨14, Ground.guard⟩ (by simp) rfl)
        simp only [V14] at hx14
        rw [if_pos (show Region.wanted _ _ = true by simp only [Rely.sel, List.foldl_cons, List.foldl_nil, hx14]; rfl)]
        refine RelyJ.gives_mono (R' := fun u w'' => u = .bool false ∧ w'' = w') ?_ (by rintro u w2 ⟨rfl, rfl⟩; exact hJ.step HST.out (Below.refl _ _) 20 (by simp) _ rfl)
        clear hJ hA hS
        unfold Rely.gives
        simp only [Rely.sel, List.foldl_cons, List.foldl_nil, hx19, hx14]
        go_simp
        simp [Rely.GivesR]) ?_
    refine RelyJ.stepsZ_cons (by
        as_aux_lemma =>
        intro S' vs w' hS hA hJ
        have hx14 := hJ.vals 14 (hA ⟨14, Ground.data⟩ (by simp) rfl)
        simp only [V14] at hx14
        have hx20 := hJ.vals 20 (hA ⟨20, Ground.data⟩ (by simp) rfl)
        simp only [V14] at hx20
        rw [if_pos (show Region.wanted _ _ = true from rfl)]
        refine RelyJ.gives_mono (R' := fun u w'' => u = .bool false ∧ w'' = w') ?_ (by rintro u w2 ⟨rfl, rfl⟩; exact hJ.step HST.out (Below.refl _ _) 21 (by simp) _ rfl)
        clear hJ hA hS
        unfold Rely.gives
        simp only [Rely.sel, List.foldl_cons, List.foldl_nil, hx14, hx20]
        go_simp
        simp [Rely.GivesR]) ?_
    refine RelyJ.stepsZ_cons (by
        as_aux_lemma =>
        intro S' vs w' hS hA hJ
        have hx21 := hJ.vals 21 (hA ⟨21, Ground.data⟩ (by simp) rfl)
        simp only [V14] at hx21
        rw [if_pos (show Region.wanted _ _ = true from rfl)]
        refine RelyJ.gives_mono (R' := fun u w'' => u = .bool false ∧ w'' = w') ?_ (by rintro u w2 ⟨rfl, rfl⟩; exact hJ.step HST.out (Below.refl _ _) 22 (by simp) _ rfl)
        clear hJ hA hS
        unfold Rely.gives
        simp only [Rely.sel, List.foldl_cons, List.foldl_nil, hx21]
        go_simp
        simp [Rely.GivesR]) ?_
    refine RelyJ.stepsZ_cons (by
        as_aux_lemma =>
        intro S' vs w' hS hA hJ
        have hx22 := hJ.vals 22 (hA ⟨22, Ground.guard⟩ (by simp) rfl)
        simp only [V14] at hx22
        rw [if_pos (show Region.wanted _ _ = true by simp only [Rely.sel, List.foldl_cons, List.foldl_nil, hx22]; rfl)]
        refine RelyJ.gives_mono (R' := fun u w'' => u = .pointer (some ⟨g, 0, none⟩) ∧ w'' = w') ?_ (by rintro u w2 ⟨rfl, rfl⟩; exact hJ.step HST.out (Below.refl _ _) 23 (by simp) _ rfl)
        clear hJ hA hS
        unfold Rely.gives
        simp only [Rely.sel, List.foldl_cons, List.foldl_nil, hx22]
        go_simp
        simp [Rely.GivesR]) ?_
    refine RelyJ.stepsZ_cons (by
        as_aux_lemma =>
        intro S' vs w' hS hA hJ
        have hx23 := hJ.vals 23 (hA ⟨23, Ground.data⟩ (by simp) rfl)
        simp only [V14] at hx23
        have hx22 := hJ.vals 22 (hA ⟨22, Ground.guard⟩ (by simp) rfl)
        simp only [V14] at hx22
        rw [if_pos (show Region.wanted _ _ = true by simp only [Rely.sel, List.foldl_cons, List.foldl_nil, hx22]; rfl)]
        refine RelyJ.gives_mono (R' := fun u w'' => (∃ (A : Option Addr) (c : Nat), u = .slice A SS.nb c ∧ Row w'' w''.heap.size A (SS.tok.map iV)) ∧ Below w'.heap.size w' w'') ?_ (by rintro u w2 ⟨h1, h2⟩; exact hJ.step HST.out h2 24 (by simp) _ h1)
        have hcall := (HT8.out.below (HBT.out hJ.tou)).tokens
        clear hJ hA hS
        generalize hRR : (fun (u : Value) (w'' : World) => (∃ (A : Option Addr) (c : Nat), u = .slice A SS.nb c ∧ Row w'' w''.heap.size A (SS.tok.map iV)) ∧ Below w'.heap.size w' w'') = RR
        unfold Rely.gives
        simp only [Rely.sel, List.foldl_cons, List.foldl_nil, hx23, hx22]
        go_simp
        simp only [Rely.GivesR]
        refine hcall.mono ?_
        rintro e9 w9 ⟨A, c, rfl, h2, hb9⟩
        refine ⟨_, rfl, ?_⟩
        rw [← hRR]
        exact ⟨⟨A, c, rfl, h2.row⟩, hb9⟩) ?_
    refine RelyJ.stepsZ_cons (by
        as_aux_lemma =>
        intro S' vs w' hS hA hJ
        have hx22 := hJ.vals 22 (hA ⟨22, Ground.guard⟩ (by simp) rfl)
        simp only [V14] at hx22
        rw [if_pos (show Region.wanted _ _ = true by simp only [Rely.sel, List.foldl_cons, List.foldl_nil, hx22]; rfl)]
        refine RelyJ.gives_mono (R' := fun u w'' => u = .pointer (some ⟨gu, 5, none⟩) ∧ w'' = w') ?_ (by rintro u w2 ⟨rfl, rfl⟩; exact hJ.step HST.out (Below.refl _ _) 25 (by simp) _ rfl)
        clear hJ hA hS
        unfold Rely.gives
        simp only [Rely.sel, List.foldl_cons, List.foldl_nil, hx22]
        go_simp
        simp [Rely.GivesR]) ?_
    refine RelyJ.stepsZ_cons (by
        as_aux_lemma =>
        intro S' vs w' hS hA hJ
        have hx25 := hJ.vals 25 (hA ⟨25, Ground.data⟩ (by simp) rfl)
        simp only [V14] at hx25
        have hx22 := hJ.vals 22 (hA ⟨22, Ground.guard⟩ (by simp) rfl)
        simp only [V14] at hx22
        rw [if_pos (show Region.wanted _ _ = true by simp only [Rely.sel, List.foldl_cons, List.foldl_nil, hx22]; rfl)]
        refine RelyJ.gives_mono (R' := fun u w'' => u = .slice t1.tA t1.tok.length t1.tc ∧ w'' = w') ?_ (by rintro u w2 ⟨rfl, rfl⟩; exact hJ.step HST.out (Below.refl _ _) 26 (by simp) _ rfl)
        have u5 : w'.cell? ⟨gu, 5, none⟩ = some (.slice t1.tA t1.tok.length t1.tc) := (HU8.out.below (HBT.out hJ.tou) HU8.out.lt).cell 5
        clear hJ hA hS
        unfold Rely.gives
        simp only [Rely.sel, List.foldl_cons, List.foldl_nil, hx25, hx22]
        go_simp
        simp [Rely.GivesR]) ?_
    refine RelyJ.stepsZ_cons (by
        as_aux_lemma =>
        intro S' vs w' hS hA hJ
        have hx24 := hJ.vals 24 (hA ⟨24, Ground.data⟩ (by simp) rfl)
        simp only [V14] at hx24
        have hx26 := hJ.vals 26 (hA ⟨26, Ground.data⟩ (by simp) rfl)
        simp only [V14] at hx26
        have hx22 := hJ.vals 22 (hA ⟨22, Ground.guard⟩ (by simp) rfl)
        simp only [V14] at hx22
        rw [if_pos (show Region.wanted _ _ = true by simp only [Rely.sel, List.foldl_cons, List.foldl_nil, hx22]; rfl)]
        obtain ⟨A, c, hx24, h2⟩ := hx24
        refine RelyJ.gives_mono (R' := fun u w'' => (u = .bool true) ∧ Below w'.heap.size w' w'') ?_ (by rintro u w2 ⟨h1, h2⟩; exact hJ.step HST.out h2 27 (by simp) _ h1)
        have hcall := sameints_true11 w'.heap.size w'.heap.size c t1.tc SS.nb t1.tok.length A t1.tA SS.tok w' h2 (by have := (HM8.out.below (HBT.out hJ.tou)).m.tok; rwa [HTK.out] at this) HNB.out.1 (by rw [HTK.out]) HNB.out.2
        clear hJ hA hS
        generalize hRR : (fun (u : Value) (w'' : World) => (u = .bool true) ∧ Below w'.heap.size w' w'') = RR
        unfold Rely.gives
        simp only [Rely.sel, List.foldl_cons, List.foldl_nil, hx24, hx26, hx22]
        go_simp
        simp only [Rely.GivesR]
        refine hcall.mono ?_
        rintro e9 w9 ⟨rfl, hb9⟩
        refine ⟨_, rfl, ?_⟩
        rw [← hRR]
        exact ⟨rfl, hb9⟩) ?_
    refine RelyJ.stepsZ_cons (by
        as_aux_lemma =>
        intro S' vs w' hS hA hJ
        have hx27 := hJ.vals 27 (hA ⟨27, Ground.data⟩ (by simp) rfl)
        simp only [V14] at hx27
        have hx22 := hJ.vals 22 (hA ⟨22, Ground.guard⟩ (by simp) rfl)
        simp only [V14] at hx22
        rw [if_pos (show Region.wanted _ _ = true by simp only [Rely.sel, List.foldl_cons, List.foldl_nil, hx22]; rfl)]
        refine RelyJ.gives_mono (R' := fun u w'' => u = .bool false ∧ w'' = w') ?_ (by rintro u w2 ⟨rfl, rfl⟩; exact hJ.step HST.out (Below.refl _ _) 28 (by simp) _ rfl)
        clear hJ hA hS
        unfold Rely.gives
        simp only [Rely.sel, List.foldl_cons, List.foldl_nil, hx27, hx22]
        go_simp
        simp [Rely.GivesR]) ?_
    refine RelyJ.stepsZ_cons (by
        as_aux_lemma =>
        intro S' vs w' hS hA hJ
        have hx22 := hJ.vals 22 (hA ⟨22, Ground.data⟩ (by simp) rfl)
        simp only [V14] at hx22
        have hx28 := hJ.vals 28 (hA ⟨28, Ground.data⟩ (by simp) rfl)
        simp only [V14] at hx28
        rw [if_pos (show Region.wanted _ _ = true from rfl)]
        refine RelyJ.gives_mono (R' := fun u w'' => u = .bool false ∧ w'' = w') ?_ (by rintro u w2 ⟨rfl, rfl⟩; exact hJ.step HST.out (Below.refl _ _) 29 (by simp) _ rfl)
        clear hJ hA hS
        unfold Rely.gives
        simp only [Rely.sel, List.foldl_cons, List.foldl_nil, hx22, hx28]
        go_simp
        simp [Rely.GivesR]) ?_
    exact RelyJ.stepsZ_nil
    intro S2 vs2 w10 hS2 hJ2
    have hb10 := HBT.out hJ2.tou
    have hv29 := hJ2.vals 29 (hS2 29 (by decide))
    simp only [V14] at hv29
    replace HBY : Hid (∀ W, Below w10.heap.size w10 W → Calls Tryz.prog 16 #[.agg #[.int .i64 t1.rc, .int .i64 t1.rb, .int .i64 (t1.nb : Int), .bool t1.fr, .slice t1.A t1.L.length t1.c, .slice t1.tA t1.tok.length t1.tc, .int .i64 t1.us]] W (fun e w' => e = .returned (.int .i64 sm) ∧ Below W.heap.size W w')) := Lib.hid fun W hb => HBY.out W (hb10.trans (hb.mono hb10.size))
    replace HT8 := Lib.hid (HT8.out.below hb10)
    replace HU8 := Lib.hid (HU8.out.below hb10 HU8.out.lt)
    replace HA8 := Lib.hid (HA8.out.below hb10 HA8.out.lt)
    replace HG8 := Lib.hid (HG8.out.below hb10 HG8.out.lt)
    replace HM8 := Lib.hid (HM8.out.below hb10)
    replace HVA8 := Lib.hid (HVA8.out.below hb10)
    replace HVX8 := Lib.hid (HVX8.out.below hb10)
    replace HB8 := Lib.hid (HB8.out.trans (hb10.mono HB8.out.size))
    replace HZ8 := Lib.hid (Nat.le_trans HZ8.out hb10.size)
    clear hb10 hS2 hJ2 HST HBT HSR
    simp only [Rely.sel, List.foldl_cons, List.foldl_nil, hv29]
    simp only [Act.put, List.setIfInBounds_toArray, List.set_cons_succ, List.set_cons_zero]
    go_upto_region 16 with fail
    clear hv29
    have HST : Hid (Stab (fun _ => False) (V16 rp Aa ca A1 c1 bo nn g gu SS t1 sm) (fun _ _ => True) (fun _ _ => True)) := Lib.hid stab16
    have HBT : Hid (∀ {w' : World}, Touch (fun _ => False) w10 w' → Below w10.heap.size w10 w') := Lib.hid fun ht => ht.below (Nat.le_refl _) fun k hk => hk.elim
    refine RelyJ.wp_region_byJ [[], [], [(1, 111)], [(2, 112)], [(0, 110), (3, 113)], [(4, 114)], [(5, 115)], [(5, 115)], [(5, 115), (7, 117)], [(5, 115), (6, 116), (8, 118)], [(5, 115), (9, 119)], [(10, 120)], [(11, 121)], [(11, 121), (12, 122)], [(11, 121)], [(11, 121), (14, 124)], [(11, 121), (15, 125)], [(11, 121), (13, 123), (16, 126)], [(11, 121), (17, 127)], [(11, 121), (18, 128)]] [(0, 110), (1, 111), (2, 112), (3, 113), (4, 114), (5, 115), (6, 116), (7, 117), (8, 118), (9, 119), (10, 120), (11, 121), (12, 122), (13, 123), (14, 124), (15, 125), (16, 126), (17, 127), (18, 128), (19, 129)] (JV (fun _ => False) w10 [] (V16 rp Aa ca A1 c1 bo nn g gu SS t1 sm) (fun _ _ => True) (fun _ _ => True)) (by kernel_rfl) (by kernel_rfl) (by kernel_rfl) (by kernel_rfl) (by kernel_rfl) ?_ ?_ ?_
    · exact fun vs => JV.start (fun s hs => trivial) HST.out vs
    refine RelyJ.stepsZ_cons (by
        as_aux_lemma =>
        intro S' vs w' hS hA hJ
        rw [if_pos (show Region.wanted _ _ = true from rfl)]
        refine RelyJ.gives_mono (R' := fun u w'' => u = .int .i64 (t1.L.length : Int) ∧ w'' = w') ?_ (by rintro u w2 ⟨rfl, rfl⟩; exact hJ.step HST.out (Below.refl _ _) 0 (by simp) _ rfl)
        clear hJ hA hS
        unfold Rely.gives
        simp only [Rely.sel, List.foldl_cons, List.foldl_nil]
        go_simp
        simp [Rely.GivesR]) ?_
    refine RelyJ.stepsZ_cons (by
        as_aux_lemma =>
        intro S' vs w' hS hA hJ
        rw [if_pos (show Region.wanted _ _ = true from rfl)]
        refine RelyJ.gives_mono (R' := fun u w'' => u = .pointer (some ⟨gu, 4, none⟩) ∧ w'' = w') ?_ (by rintro u w2 ⟨rfl, rfl⟩; exact hJ.step HST.out (Below.refl _ _) 1 (by simp) _ rfl)
        clear hJ hA hS
        unfold Rely.gives
        simp only [Rely.sel, List.foldl_cons, List.foldl_nil]
        go_simp
        simp [Rely.GivesR]) ?_
    refine RelyJ.stepsZ_cons (by
        as_aux_lemma =>
        intro S' vs w' hS hA hJ
        have hx1 := hJ.vals 1 (hA ⟨1, Ground.data⟩ (by simp) rfl)
        simp only [V16] at hx1
        rw [if_pos (show Region.wanted _ _ = true from rfl)]
        refine RelyJ.gives_mono (R' := fun u w'' => u = .slice t1.A t1.L.length t1.c ∧ w'' = w') ?_ (by rintro u w2 ⟨rfl, rfl⟩; exact hJ.step HST.out (Below.refl _ _) 2 (by simp) _ rfl)
        have u4 : w'.cell? ⟨gu, 4, none⟩ = some (.slice t1.A t1.L.length t1.c) := (HU8.out.below (HBT.out hJ.tou) HU8.out.lt).cell 4
        clear hJ hA hS
        unfold Rely.gives
        simp only [Rely.sel, List.foldl_cons, List.foldl_nil, hx1]
        go_simp
        simp [Rely.GivesR]) ?_
    refine RelyJ.stepsZ_cons (by
        as_aux_lemma =>
        intro S' vs w' hS hA hJ
        have hx2 := hJ.vals 2 (hA ⟨2, Ground.data⟩ (by simp) rfl)
        simp only [V16] at hx2
        rw [if_pos (show Region.wanted _ _ = true from rfl)]
        refine RelyJ.gives_mono (R' := fun u w'' => u = .int .i64 (t1.L.length : Int) ∧ w'' = w') ?_ (by rintro u w2 ⟨rfl, rfl⟩; exact hJ.step HST.out (Below.refl _ _) 3 (by simp) _ rfl)
        clear hJ hA hS
        unfold Rely.gives
        simp only [Rely.sel, List.foldl_cons, List.foldl_nil, hx2]
        go_simp
        simp [Rely.GivesR]) ?_
    refine RelyJ.stepsZ_cons (by
        as_aux_lemma =>
        intro S' vs w' hS hA hJ
        have hx0 := hJ.vals 0 (hA ⟨0, Ground.data⟩ (by simp) rfl)
        simp only [V16] at hx0
        have hx3 := hJ.vals 3 (hA ⟨3, Ground.data⟩ (by simp) rfl)
        simp only [V16] at hx3
        rw [if_pos (show Region.wanted _ _ = true from rfl)]
        refine RelyJ.gives_mono (R' := fun u w'' => u = .bool false ∧ w'' = w') ?_ (by rintro u w2 ⟨rfl, rfl⟩; exact hJ.step HST.out (Below.refl _ _) 4 (by simp) _ rfl)
        clear hJ hA hS
        unfold Rely.gives
        simp only [Rely.sel, List.foldl_cons, List.foldl_nil, hx0, hx3]
        go_simp
        simp [Rely.GivesR]) ?_
    refine RelyJ.stepsZ_cons (by
        as_aux_lemma =>
        intro S' vs w' hS hA hJ
        have hx4 := hJ.vals 4 (hA ⟨4, Ground.data⟩ (by simp) rfl)
        simp only [V16] at hx4
        rw [if_pos (show Region.wanted _ _ = true from rfl)]
        refine RelyJ.gives_mono (R' := fun u w'' => u = .bool false ∧ w'' = w') ?_ (by rintro u w2 ⟨rfl, rfl⟩; exact hJ.step HST.out (Below.refl _ _) 5 (by simp) _ rfl)
        clear hJ hA hS
        unfold Rely.gives
        simp only [Rely.sel, List.foldl_cons, List.foldl_nil, hx4]
        go_simp
        simp [Rely.GivesR]) ?_
    refine RelyJ.stepsZ_cons (by
        as_aux_lemma =>
        intro S' vs w' hS hA hJ
        have hx5 := hJ.vals 5 (hA ⟨5, Ground.guard⟩ (by simp) rfl)
        simp only [V16] at hx5
        rw [if_pos (show Region.wanted _ _ = true by simp only [Rely.sel, List.foldl_cons, List.foldl_nil, hx5]; rfl)]
        refine RelyJ.gives_mono (R' := fun u w'' => u = .int .i64 sm ∧ w'' = w') ?_ (by rintro u w2 ⟨rfl, rfl⟩; exact hJ.step HST.out (Below.refl _ _) 6 (by simp) _ rfl)
        clear hJ hA hS
        unfold Rely.gives
        simp only [Rely.sel, List.foldl_cons, List.foldl_nil, hx5]
        go_simp
        simp [Rely.GivesR]) ?_
    refine RelyJ.stepsZ_cons (by
        as_aux_lemma =>
        intro S' vs w' hS hA hJ
        have hx5 := hJ.vals 5 (hA ⟨5, Ground.guard⟩ (by simp) rfl)
        simp only [V16] at hx5
        rw [if_pos (show Region.wanted _ _ = true by simp only [Rely.sel, List.foldl_cons, List.foldl_nil, hx5]; rfl)]
        refine RelyJ.gives_mono (R' := fun u w'' => u = .agg #[.int .i64 t1.rc, .int .i64 t1.rb, .int .i64 (t1.nb : Int), .bool t1.fr, .slice t1.A t1.L.length t1.c, .slice t1.tA t1.tok.length t1.tc, .int .i64 t1.us] ∧ w'' = w') ?_ (by rintro u w2 ⟨rfl, rfl⟩; exact hJ.step HST.out (Below.refl _ _) 7 (by simp) _ rfl)
        have hk : Blk w' (gu) 34 #[.int .i64 t1.rc, .int .i64 t1.rb, .int .i64 (t1.nb : Int), .bool t1.fr, .slice t1.A t1.L.length t1.c, .slice t1.tA t1.tok.length t1.tc, .int .i64 t1.us] := HU8.out.below (HBT.out hJ.tou) HU8.out.lt
        refine gives_loadrow 34 (.tmp 7) rfl (gu) (by simp only [Rely.sel, List.foldl_cons, List.foldl_nil, hx5]; rfl) hk Tryz.underlying34 rfl (by kernel_rfl) ?_
        exact ⟨rfl, rfl⟩) ?_
    refine RelyJ.stepsZ_cons (by
        as_aux_lemma =>
        intro S' vs w' hS hA hJ
        have hx7 := hJ.vals 7 (hA ⟨7, Ground.data⟩ (by simp) rfl)
        simp only [V16] at hx7
        have hx5 := hJ.vals 5 (hA ⟨5, Ground.guard⟩ (by simp) rfl)
        simp only [V16] at hx5
        rw [if_pos (show Region.wanted _ _ = true by simp only [Rely.sel, List.foldl_cons, List.foldl_nil, hx5]; rfl)]
        refine RelyJ.gives_mono (R' := fun u w'' => (u = .int .i64 sm) ∧ Below w'.heap.size w' w'') ?_ (by rintro u w2 ⟨h1, h2⟩; exact hJ.step HST.out h2 8 (by simp) _ h1)
        have hcall := HBY.out w' (HBT.out hJ.tou)
        clear hJ hA hS
        generalize hRR : (fun (u : Value) (w'' : World) => (u = .int .i64 sm) ∧ Below w'.heap.size w' w'') = RR
        unfold Rely.gives
        simp only [Rely.sel, List.foldl_cons, List.foldl_nil, hx7, hx5]
        go_simp
        simp only [Rely.GivesR]
        refine hcall.mono ?_
        rintro e9 w9 ⟨rfl, hb9⟩
        refine ⟨_, rfl, ?_⟩
        rw [← hRR]
        exact ⟨rfl, hb9⟩) ?_
    refine RelyJ.stepsZ_cons (by
        as_aux_lemma =>
        intro S' vs w' hS hA hJ
        have hx6 := hJ.vals 6 (hA ⟨6, Ground.data⟩ (by simp) rfl)
        simp only [V16] at hx6
        have hx8 := hJ.vals 8 (hA ⟨8, Ground.data⟩ (by simp) rfl)
        simp only [V16] at hx8
        have hx5 := hJ.vals 5 (hA ⟨5, Ground.guard⟩ (by simp) rfl)
        simp only [V16] at hx5
        rw [if_pos (show Region.wanted _ _ = true by simp only [Rely.sel, List.foldl_cons, List.foldl_nil, hx5]; rfl)]
        refine RelyJ.gives_mono (R' := fun u w'' => u = .bool false ∧ w'' = w') ?_ (by rintro u w2 ⟨rfl, rfl⟩; exact hJ.step HST.out (Below.refl _ _) 9 (by simp) _ rfl)
        clear hJ hA hS
        unfold Rely.gives
        simp only [Rely.sel, List.foldl_cons, List.foldl_nil, hx6, hx8, hx5]
        go_simp
        simp [Rely.GivesR]) ?_
    refine RelyJ.stepsZ_cons (by
        as_aux_lemma =>
        intro S' vs w' hS hA hJ
        have hx5 := hJ.vals 5 (hA ⟨5, Ground.data⟩ (by simp) rfl)
        simp only [V16] at hx5
        have hx9 := hJ.vals 9 (hA ⟨9, Ground.data⟩ (by simp) rfl)
        simp only [V16] at hx9
        rw [if_pos (show Region.wanted _ _ = true from rfl)]
        refine RelyJ.gives_mono (R' := fun u w'' => u = .bool false ∧ w'' = w') ?_ (by rintro u w2 ⟨rfl, rfl⟩; exact hJ.step HST.out (Below.refl _ _) 10 (by simp) _ rfl)
        clear hJ hA hS
        unfold Rely.gives
        simp only [Rely.sel, List.foldl_cons, List.foldl_nil, hx5, hx9]
        go_simp
        simp [Rely.GivesR]) ?_
    refine RelyJ.stepsZ_cons (by
        as_aux_lemma =>
        intro S' vs w' hS hA hJ
        have hx10 := hJ.vals 10 (hA ⟨10, Ground.data⟩ (by simp) rfl)
        simp only [V16] at hx10
        rw [if_pos (show Region.wanted _ _ = true from rfl)]
        refine RelyJ.gives_mono (R' := fun u w'' => u = .bool false ∧ w'' = w') ?_ (by rintro u w2 ⟨rfl, rfl⟩; exact hJ.step HST.out (Below.refl _ _) 11 (by simp) _ rfl)
        clear hJ hA hS
        unfold Rely.gives
        simp only [Rely.sel, List.foldl_cons, List.foldl_nil, hx10]
        go_simp
        simp [Rely.GivesR]) ?_
    refine RelyJ.stepsZ_cons (by
        as_aux_lemma =>
        intro S' vs w' hS hA hJ
        have hx11 := hJ.vals 11 (hA ⟨11, Ground.guard⟩ (by simp) rfl)
        simp only [V16] at hx11
        rw [if_pos (show Region.wanted _ _ = true by simp only [Rely.sel, List.foldl_cons, List.foldl_nil, hx11]; rfl)]
        refine RelyJ.gives_mono (R' := fun u w'' => u = .pointer (some ⟨g, 0, none⟩) ∧ w'' = w') ?_ (by rintro u w2 ⟨rfl, rfl⟩; exact hJ.step HST.out (Below.refl _ _) 12 (by simp) _ rfl)
        clear hJ hA hS
        unfold Rely.gives
        simp only [Rely.sel, List.foldl_cons, List.foldl_nil, hx11]
        go_simp
        simp [Rely.GivesR]) ?_
    refine RelyJ.stepsZ_cons (by
        as_aux_lemma =>
        intro S' vs w' hS hA hJ
        have hx12 := hJ.vals 12 (hA ⟨12, Ground.data⟩ (by simp) rfl)
        simp only [V16] at hx12
        have hx11 := hJ.vals 11 (hA ⟨11, Ground.guard⟩ (by simp) rfl)
        simp only [V16] at hx11
        rw [if_pos (show Region.wanted _ _ = true by simp only [Rely.sel, List.foldl_cons, List.foldl_nil, hx11]; rfl)]
        refine RelyJ.gives_mono (R' := fun u w'' => (∃ (us : List CV) (A : Option Addr) (c : Nat), u = .slice A (dirL us).length c ∧ us.map Prod.fst = SS.T ∧ us.length ≤ 4096 ∧ EnV w'' A (dirL us)) ∧ Below w'.heap.size w' w'') ?_ (by rintro u w2 ⟨h1, h2⟩; exact hJ.step HST.out h2 13 (by simp) _ h1)
        have hcall := tdirty w' (HT8.out.below (HBT.out hJ.tou))
        clear hJ hA hS
        generalize hRR : (fun (u : Value) (w'' : World) => (∃ (us : List CV) (A : Option Addr) (c : Nat), u = .slice A (dirL us).length c ∧ us.map Prod.fst = SS.T ∧ us.length ≤ 4096 ∧ EnV w'' A (dirL us)) ∧ Below w'.heap.size w' w'') = RR
        unfold Rely.gives
        simp only [Rely.sel, List.foldl_cons, List.foldl_nil, hx12, hx11]
        go_simp
        simp only [Rely.GivesR]
        refine hcall.mono ?_
        rintro e9 w9 ⟨us, h1, h2, A, c, rfl, h3, hb9⟩
        refine ⟨_, rfl, ?_⟩
        rw [← hRR]
        exact ⟨⟨us, A, c, rfl, h1, h2, h3⟩, hb9⟩) ?_
    refine RelyJ.stepsZ_cons (by
        as_aux_lemma =>
        intro S' vs w' hS hA hJ
        have hx11 := hJ.vals 11 (hA ⟨11, Ground.guard⟩ (by simp) rfl)
        simp only [V16] at hx11
        rw [if_pos (show Region.wanted _ _ = true by simp only [Rely.sel, List.foldl_cons, List.foldl_nil, hx11]; rfl)]
        refine RelyJ.gives_mono (R' := fun u w'' => u = .pointer (some ⟨gu, 4, none⟩) ∧ w'' = w') ?_ (by rintro u w2 ⟨rfl, rfl⟩; exact hJ.step HST.out (Below.refl _ _) 14 (by simp) _ rfl)
        clear hJ hA hS
        unfold Rely.gives
        simp only [Rely.sel, List.foldl_cons, List.foldl_nil, hx11]
        go_simp
        simp [Rely.GivesR]) ?_
    refine RelyJ.stepsZ_cons (by
        as_aux_lemma =>
        intro S' vs w' hS hA hJ
        have hx14 := hJ.vals 14 (hA ⟨14, Ground.data⟩ (by simp) rfl)
        simp only [V16] at hx14
        have hx11 := hJ.vals 11 (hA ⟨11, Ground.guard⟩ (by simp) rfl)
        simp only [V16] at hx11
        rw [if_pos (show Region.wanted _ _ = true by simp only [Rely.sel, List.foldl_cons, List.foldl_nil, hx11]; rfl)]
        refine RelyJ.gives_mono (R' := fun u w'' => u = .slice t1.A t1.L.length t1.c ∧ w'' = w') ?_ (by rintro u w2 ⟨rfl, rfl⟩; exact hJ.step HST.out (Below.refl _ _) 15 (by simp) _ rfl)
        have u4 : w'.cell? ⟨gu, 4, none⟩ = some (.slice t1.A t1.L.length t1.c) := (HU8.out.below (HBT.out hJ.tou) HU8.out.lt).cell 4
        clear hJ hA hS
        unfold Rely.gives
        simp only [Rely.sel, List.foldl_cons, List.foldl_nil, hx14, hx11]
        go_simp
        simp [Rely.GivesR]) ?_
    refine RelyJ.stepsZ_cons (by
        as_aux_lemma =>
        intro S' vs w' hS hA hJ
        have hx15 := hJ.vals 15 (hA ⟨15, Ground.data⟩ (by simp) rfl)
        simp only [V16] at hx15
        have hx11 := hJ.vals 11 (hA ⟨11, Ground.guard⟩ (by simp) rfl)
        simp only [V16] at hx11
        rw [if_pos (show Region.wanted _ _ = true by simp only [Rely.sel, List.foldl_cons, List.foldl_nil, hx11]; rfl)]
        refine RelyJ.gives_mono (R' := fun u w'' => (∃ (A : Option Addr) (c : Nat), u = .slice A (dirL t1.L).length c ∧ EnV w'' A (dirL t1.L)) ∧ Below w'.heap.size w' w'') ?_ (by rintro u w2 ⟨h1, h2⟩; exact hJ.step HST.out h2 16 (by simp) _ h1)
        have hcall := lawdirty t1.L.length t1.c t1.A t1.L rfl HM8.out.ln w' (HM8.out.below (HBT.out hJ.tou)).m.cev
        clear hJ hA hS
        generalize hRR : (fun (u : Value) (w'' : World) => (∃ (A : Option Addr) (c : Nat), u = .slice A (dirL t1.L).length c ∧ EnV w'' A (dirL t1.L)) ∧ Below w'.heap.size w' w'') = RR
        unfold Rely.gives
        simp only [Rely.sel, List.foldl_cons, List.foldl_nil, hx15, hx11]
        go_simp
        simp only [Rely.GivesR]
        refine hcall.mono ?_
        rintro e9 w9 ⟨A, c, rfl, h3, hb9⟩
        refine ⟨_, rfl, ?_⟩
        rw [← hRR]
        exact ⟨⟨A, c, rfl, h3⟩, hb9⟩) ?_
    refine RelyJ.stepsZ_cons (by
        as_aux_lemma =>
        intro S' vs w' hS hA hJ
        have hx13 := hJ.vals 13 (hA ⟨13, Ground.data⟩ (by simp) rfl)
        simp only [V16] at hx13
        have hx16 := hJ.vals 16 (hA ⟨16, Ground.data⟩ (by simp) rfl)
        simp only [V16] at hx16
        have hx11 := hJ.vals 11 (hA ⟨11, Ground.guard⟩ (by simp) rfl)
        simp only [V16] at hx11
        rw [if_pos (show Region.wanted _ _ = true by simp only [Rely.sel, List.foldl_cons, List.foldl_nil, hx11]; rfl)]
        obtain ⟨us, A, c, hx13, h1, h2, h3⟩ := hx13
        obtain ⟨A3, c3, hx16, h4⟩ := hx16
        refine RelyJ.gives_mono (R' := fun u w'' => (u = .bool true) ∧ Below w'.heap.size w' w'') ?_ (by rintro u w2 ⟨h1, h2⟩; exact hJ.step HST.out h2 17 (by simp) _ h1)
        have hcall := sameall_true11 (dirL us).length c (dirL t1.L).length c3 A A3 (dirL us) (dirL t1.L) rfl rfl (by rw [dirL_fst, dirL_fst, h1, HTT.out]) (by have := dirL_len us; omega) w' h3 h4
        clear hJ hA hS
        generalize hRR : (fun (u : Value) (w'' : World) => (u = .bool true) ∧ Below w'.heap.size w' w'') = RR
        unfold Rely.gives
        simp only [Rely.sel, List.foldl_cons, List.foldl_nil, hx13, hx16, hx11]
        go_simp
        simp only [Rely.GivesR]
        refine hcall.mono ?_
        rintro e9 w9 ⟨rfl, hb9⟩
        refine ⟨_, rfl, ?_⟩
        rw [← hRR]
        exact ⟨rfl, hb9⟩) ?_
    refine RelyJ.stepsZ_cons (by
        as_aux_lemma =>
        intro S' vs w' hS hA hJ
        have hx17 := hJ.vals 17 (hA ⟨17, Ground.data⟩ (by simp) rfl)
        simp only [V16] at hx17
        have hx11 := hJ.vals 11 (hA ⟨11, Ground.guard⟩ (by simp) rfl)
        simp only [V16] at hx11
        rw [if_pos (show Region.wanted _ _ = true by simp only [Rely.sel, List.foldl_cons, List.foldl_nil, hx11]; rfl)]
        refine RelyJ.gives_mono (R' := fun u w'' => u = .bool false ∧ w'' = w') ?_ (by rintro u w2 ⟨rfl, rfl⟩; exact hJ.step HST.out (Below.refl _ _) 18 (by simp) _ rfl)
        clear hJ hA hS
        unfold Rely.gives
        simp only [Rely.sel, List.foldl_cons, List.foldl_nil, hx17, hx11]
        go_simp
        simp [Rely.GivesR]) ?_
    refine RelyJ.stepsZ_cons (by
        as_aux_lemma =>
        intro S' vs w' hS hA hJ
        have hx11 := hJ.vals 11 (hA ⟨11, Ground.data⟩ (by simp) rfl)
        simp only [V16] at hx11
        have hx18 := hJ.vals 18 (hA ⟨18, Ground.data⟩ (by simp) rfl)
        simp only [V16] at hx18
        rw [if_pos (show Region.wanted _ _ = true from rfl)]
        refine RelyJ.gives_mono (R' := fun u w'' => u = .bool false ∧ w'' = w') ?_ (by rintro u w2 ⟨rfl, rfl⟩; exact hJ.step HST.out (Below.refl _ _) 19 (by simp) _ rfl)
        clear hJ hA hS
        unfold Rely.gives
        simp only [Rely.sel, List.foldl_cons, List.foldl_nil, hx11, hx18]
        go_simp
        simp [Rely.GivesR]) ?_
    exact RelyJ.stepsZ_nil
    intro S3 vs3 w11 hS3 hJ3
    have hb11 := HBT.out hJ3.tou
    have hv19 := hJ3.vals 19 (hS3 19 (by decide))
    simp only [V16] at hv19
    replace HT8 := Lib.hid (HT8.out.below hb11)
    replace HU8 := Lib.hid (HU8.out.below hb11 HU8.out.lt)
    replace HA8 := Lib.hid (HA8.out.below hb11 HA8.out.lt)
    replace HG8 := Lib.hid (HG8.out.below hb11 HG8.out.lt)
    replace HM8 := Lib.hid (HM8.out.below hb11)
    replace HVA8 := Lib.hid (HVA8.out.below hb11)
    replace HVX8 := Lib.hid (HVX8.out.below hb11)
    replace HB8 := Lib.hid (HB8.out.trans (hb11.mono HB8.out.size))
    replace HZ8 := Lib.hid (Nat.le_trans HZ8.out hb11.size)
    clear hb11 hS3 hJ3 HST HBT
    simp only [Rely.sel, List.foldl_cons, List.foldl_nil, hv19]
    simp only [Act.put, List.setIfInBounds_toArray, List.set_cons_succ, List.set_cons_zero]
    clear hv19
    go_wp2
    go_roundw
    case rel => exact ⟨ix + 1, SS, t1, by omega, by go_num, Lib.hid (by have := HT8.out; rwa [Nat.add_assoc] at this), HS1, HM8, HU8, HB8, HZ8⟩
    case measure => simp [intOf]; omega
end Go.Proofs.YtpebhfjcakllmaaGreat
