/- Cl1: A table of a statement's own: one thing that is done; what a table tells once it forgot; what a query tells. -/
import Derived.Test.YtkljcoecgmpgpaaClK
namespace Go.Proofs.Ytkljcoecgmpgpaa
open Go.RowKit Go.ChangeShapes Mem Be Word Rg Go.Maps
set_option maxRecDepth 10000
set_option maxHeartbeats 4000000
set_option linter.unusedVariables false
theorem InD11.at_ {w0 w : World} {A : Option Addr} {rs : List D11} (h : InD11 w0 A rs) (hb : Below w0.heap.size w0 w) : InD11 w A rs := fun W hb2 => by
  have hb3 := hb.trans (hb2.mono hb.size)
  obtain ⟨h1, h2⟩ := h W hb3
  exact ⟨h1.more hb.size, fun r hr => by have := h2 r hr; exact ⟨this.row.more hb.size, this.cap, this.capm, this.key, this.k0, this.k1, this.p0, this.p1⟩⟩
/-- One thing is done. -/
def DoneT (w0 : World) (F : Nat → Prop) (g b tk q : Nat) (R : Cl × RpP × Bool × Int) (w : World) (e : Ending) (w' : World) : Prop :=
  ∃ A c, e = .returned (.tuple #[repV R.2.1 A c, .bool R.2.2.1, .int .i64 R.2.2.2]) ∧ OwnE w' w.heap.size (R.2.1.e, A, c) ∧ Tb1 w0 w' F g b tk R.1 (q + 1) ∧ Touch (Own3 g b tk) w w'
theorem done11_round {w0 w : World} {A : Option Addr} {rs : List D11} (hin : InD11 w0 A rs) {F : Nat → Prop} {g b tk q k : Nat} {S : Cl} (h : Tb1 w0 w F g b tk S q) (hk : k < rs.length) (hq : q ≤ 100000000000000) :
    Calls Try.prog 14 #[.pointer (some ⟨g, 0, none⟩), dV11 rs[k]] w (DoneT w0 F g b tk q (d11S S rs[k]) w) := by
  have hok := (hin w h.bel).2 rs[k] (List.getElem_mem hk)
  have hu := h.us hq
  refine (done11_any h.ok rs[k] ⟨hok.cap, hok.capm⟩ hok.key hu.1 hu.2 w h.at_ (RowN.of_low hok.row h.bel.size fun k hk => (h.own k hk).1)).mono ?_
  rintro e w' ⟨A2, c2, he, ho, ha, ht⟩
  exact ⟨A2, c2, he, ho, h.to (ok_do ⟨h.ok, h.lim⟩ _ _ _) ha ht, ht⟩
theorem tb1_new2 {w0 w : World} {v : Value → Value} {e : Ending} {w' : World} {S : Cl} {q : Nat} (hb : Below w0.heap.size w0 w) (h : NewT v S w e w') (ho : OkC S ∧ LimC S q) : ∃ g b tk, e = .returned (v (.pointer (some ⟨g, 0, none⟩))) ∧ Tb1 w0 w' (Own3 g b tk) g b tk S q ∧ (∀ k, k < w.heap.size → ¬ Own3 g b tk k) ∧ Below w.heap.size w w' := by
  obtain ⟨g, b, tk, h1, h2, h3, h4⟩ := h
  exact ⟨g, b, tk, h1, ⟨fun k hk => by have := hb.size; rcases hk with rfl | rfl | rfl <;> omega, ho.1, ho.2, h3, hb.trans (h4.mono hb.size)⟩, fun k hk ho => by rcases ho with rfl | rfl | rfl <;> omega, h4⟩
/-- What a query of a table tells, and leaves. -/
def QueryT (w0 : World) (F : Nat → Prop) (g b tk q : Nat) (R : Cl × RpP × Int) (w : World) (e : Ending) (w' : World) : Prop :=
  ∃ A c, e = .returned (.tuple #[repV R.2.1 A c, .int .i64 R.2.2]) ∧ RowN (Own3 g b tk) w' A (R.2.1.e.v.map byteV) ∧ (R.2.1.e.v.length ≤ c ∧ c ≤ maxLen) ∧ Tb1 w0 w' F g b tk R.1 (q + 1) ∧ Touch (Own3 g b tk) w w'
theorem Tb1.query {w0 w : World} {F : Nat → Prop} {g b tk q : Nat} {S : Cl} (h : Tb1 w0 w F g b tk S q) (k : List UInt8) (hk : k.length ≤ maxLen) (hq : q ≤ 100000000000000) :
    Calls Try.prog 25 #[.pointer (some ⟨g, 0, none⟩), .string ⟨k.toArray⟩] w (QueryT w0 F g b tk q (queryS S k) w) := by
  refine (query_any h.ok k hk (h.us hq).1 w h.at_).mono ?_
  rintro e w' ⟨A2, c2, he, ho, ha, ht⟩
  exact ⟨A2, c2, he, rowN_own (fun k hk => (h.own k hk).2) ho, ⟨(own_cap ho).1, (own_cap ho).2⟩, h.to (ok_query ⟨h.ok, h.lim⟩ k) ha ht, ht⟩
theorem Tb1.fill {w0 w : World} {F : Nat → Prop} {g b tk q : Nat} {S : Cl} (h : Tb1 w0 w F g b tk S q) (x : EV) (t : Int) (hl : x.1.v.length ≤ x.2.2 ∧ x.2.2 ≤ maxLen) (hk : x.1.k.length ≤ maxLen) (hN : RowN (Own3 g b tk) w x.2.1 (x.1.v.map byteV)) (hq : q ≤ 100000000000000) :
    Calls Try.prog 20 #[.pointer (some ⟨g, 0, none⟩), entV ⟨x.1.k.toArray⟩ x.1.s x.1.u x.1.o x.1.has x.2.1 x.1.v.length x.2.2, .int .i64 t] w (fun e w' => e = .returned (.tuple #[.bool (fillS S x.1 t).2.1, .int .i64 (fillS S x.1 t).2.2]) ∧ Tb1 w0 w' F g b tk (fillS S x.1 t).1 (q + 1) ∧ Touch (Own3 g b tk) w w') := by
  have hu := h.us hq
  refine (fill_any h.ok x t hl hk hu.1 hu.2 w h.at_ hN).mono ?_
  rintro e w' ⟨he, ha, ht⟩
  exact ⟨he, h.to (ok_fill ⟨h.ok, h.lim⟩ _ _) ha ht, ht⟩
theorem Tb1.forget {w0 w : World} {F : Nat → Prop} {g b tk q : Nat} {S : Cl} (h : Tb1 w0 w F g b tk S q) (hq : q ≤ 100000000000000) :
    Calls Try.prog 23 #[.pointer (some ⟨g, 0, none⟩)] w (fun e w' => e = .returned (.tuple #[]) ∧ Tb1 w0 w' F g b tk (forgetS S) (q + 1) ∧ Touch (Own3 g b tk) w w') := by
  have hu := h.us hq
  refine (forget_any h.ok (fun t ht => by have := hu.2 t ht; omega) w h.at_).mono ?_
  rintro e w' ⟨he, ha, ht⟩
  exact ⟨he, h.to (ok_forget ⟨h.ok, h.lim⟩) ha ht, ht⟩
/-- The tokens that are told. -/
theorem Tb1.tokens {w0 w : World} {F : Nat → Prop} {g b tk q : Nat} {S : Cl} (h : Tb1 w0 w F g b tk S q) :
    Calls Try.prog 13 #[.pointer (some ⟨g, 0, none⟩)] w (fun e w' => ∃ A c, e = .returned (.slice A S.nb c) ∧ RowN (Own3 g b tk) w' A (S.tok.map iV) ∧ Below w.heap.size w w') := by
  refine (tokens_any h.ok w h.at_).mono ?_
  rintro e w' ⟨A2, c2, he, ho, hb⟩
  rw [h.ok.tl] at he
  exact ⟨A2, c2, he, rowN_own (fun k hk => (h.own k hk).2) ho, hb⟩
theorem Tb1.cellsC {w0 w : World} {F : Nat → Prop} {g b tk q : Nat} {S : Cl} (h : Tb1 w0 w F g b tk S q) :
    Calls Try.prog 12 #[.pointer (some ⟨g, 0, none⟩)] w (fun e w' => ∃ (us : List CV) (A : Option Addr) (c : Nat), us.map Prod.fst = S.T ∧ e = .returned (.slice A us.length c) ∧ CeN (Own3 g b tk) w' A us ∧ us.length ≤ 4096 ∧ Below w.heap.size w w') :=
  (cells_any h.ok w h.at_).mono fun e w' hx => h.cells hx
theorem query_ok {S : Cl} {k : List UInt8} (h0 : k ≠ []) (h1 : k.length ≤ 250) : (queryS S k).2.2 = 0 ∧ (queryS S k).2.1.tok = tokK S k ∧ (queryS S k).1.tok = S.tok ∧ (queryS S k).1.nb = S.nb ∧ (queryS S k).2.1.e.k = k := by
  unfold queryS
  rw [if_neg (by intro h; rcases h with h | h; exact h0 h; omega)]
  cases hg : getK kP S.T k with
  | none => exact ⟨rfl, rfl, rfl, rfl, rfl⟩
  | some x => exact ⟨rfl, rfl, rfl, rfl, (get_some hg).2⟩
theorem forget_query {S : Cl} (ok : OkC S) (k : List UInt8) : (queryS (forgetS S) k).2.1.wh = false := by
  unfold queryS
  split
  · rfl
  · cases hg : getK kP (forgetS S).T k with
    | none =>
      have ok2 : OkC (forgetS S) := (ok_forget (q := S.us.toNat + 1 + (S.tok.map Int.toNat).sum) ⟨ok, ⟨by have := ok.u0; omega, fun t ht => by
        have h1 : t.toNat ≤ (S.tok.map Int.toNat).sum := by
          have h2 : t.toNat ∈ S.tok.map Int.toNat := List.mem_map_of_mem ht
          generalize S.tok.map Int.toNat = l at h2 ⊢
          induction l with
          | nil => cases h2
          | cons a r ih =>
            rw [List.sum_cons]
            rcases List.mem_cons.1 h2 with rfl | h2
            · omega
            · have := ih h2; omega
        have := ok.t0 t ht; omega⟩⟩).1
      have hm := tokK_mem ok2 k
      obtain ⟨t, ht, he⟩ := List.mem_map.1 (show tokK (forgetS S) k ∈ S.tok.map (· + 1) from hm)
      have := ok.t0 t ht
      show (tokK (forgetS S) k == 0) = false
      simp
      omega
    | some x =>
      obtain ⟨y, hy, rfl⟩ := List.mem_map.1 (show x ∈ S.T.map unW from (get_some hg).1)
      rfl
end Go.Proofs.Ytkljcoecgmpgpaa
namespace Go.Proofs.Ytkljcoecgmpgpaa
open Go.RowKit Go.ChangeShapes Mem Be Word Rg Go.Maps
set_option maxRecDepth 10000
set_option maxHeartbeats 4000000
set_option linter.unusedVariables false
theorem fill_wrong {S : Cl} {e : EntP} {t : Int} (h : t ≠ tokK S e.k) : (fillS S e t).2.1 = false ∧ (fillS S e t).1 = S := by
  unfold fillS
  split
  · exact ⟨rfl, rfl⟩
  · first | exact ⟨rfl, rfl⟩ | (rw [if_pos h]; exact ⟨rfl, rfl⟩)
/-- The room of a table stays. -/
def SameR (S S' : Cl) : Prop := S'.rc = S.rc ∧ S'.rb = S.rb ∧ S'.nb = S.nb
theorem sameR_lay {S : Cl} {e : EntP} {wh cl : Bool} (hs : SortT kP S.T) : SameR S (layS S e wh cl).1 := by
  rcases lay_cases S e wh cl hs with ⟨h, _⟩ | ⟨_, h⟩
  · rw [h]; exact ⟨rfl, rfl, rfl⟩
  · rw [h]
    have := evs_keep (room_evs (S.T.length + 1) S e) hs
    exact ⟨this.rc, this.rb, this.nb⟩
theorem sameR_do {S : Cl} (hs : SortT kP S.T) (kd : Int) (e : EntP) (t : Int) : SameR S (doS S kd e t).1 := by
  have hr : SameR S S := ⟨rfl, rfl, rfl⟩
  unfold doS
  split
  · unfold queryS
    split
    · exact hr
    · cases getK kP S.T e.k <;> exact hr
  split
  · unfold storeS
    split
    · exact hr
    · cases hg : getK kP S.T e.k with
      | none => exact sameR_lay hs
      | some x =>
        simp only
        split
        · exact hr
        · exact sameR_lay hs
  split
  · unfold fillS
    split
    · exact hr
    split
    · exact hr
    · cases hg : getK kP S.T e.k with
      | none => exact sameR_lay hs
      | some x =>
        simp only
        split
        · exact hr
        · exact sameR_lay hs
  split
  · unfold cleanS
    cases hg : getK kP S.T e.k with
    | none => exact hr
    | some x =>
      simp only
      split <;> exact hr
  split
  · exact hr
  · unfold evictS
    cases hg : getK kP S.T e.k with
    | none => exact hr
    | some x =>
      simp only
      split <;> exact hr
theorem fold_room {q : Nat} : ∀ (rs : List D11) (S : Cl), OkC S ∧ LimC S q → SameR S (rs.foldl (fun S d => (d11S S d).1) S)
  | [], S, _ => ⟨rfl, rfl, rfl⟩
  | d :: rs, S, h => by
    have h1 := ok_do h d.kind d.e.1 d.tok
    have h2 := sameR_do h.1.srt d.kind d.e.1 d.tok
    have h3 := fold_room (q := q + 1) rs (d11S S d).1 h1
    rw [List.foldl_cons]
    exact ⟨h3.1.trans h2.1, h3.2.1.trans h2.2.1, h3.2.2.trans h2.2.2⟩
theorem newS_room (rc rb : Int) (nb : Nat) (fr : Bool) : (newS rc rb nb fr).rc = rc ∧ (newS rc rb nb fr).rb = rb ∧ (newS rc rb nb fr).nb = nb := by
  unfold newS
  split <;> exact ⟨rfl, rfl, rfl⟩
theorem map_inc_ne {l : List Int} (i : Nat) (h1 : i < (l.map (· + 1)).length) (h2 : i < l.length) : (l.map (· + 1))[i] ≠ l[i] := by
  rw [List.getElem_map]
  omega
/-- What one loads of a cell that lies in a row. -/
theorem CeV.at_ {w : World} {A : Option Addr} {us : List CV} (h : CeV w A us) (hn : 0 < us.length) : ∃ b o, A = some ⟨b, o, none⟩ ∧ ∀ i (hi : i < us.length), (w.cell? ⟨b, o + i * 9, none⟩ = some (.string ⟨us[i].1.e.k.toArray⟩) ∧ ∀ j v, (cellC us[i])[j]? = some v → w.cell? ⟨b, o + i * 9 + j, none⟩ = some v) := by
  obtain ⟨b, o, hA, _, hc⟩ := cells_open h.row hn
  refine ⟨b, o, hA, fun i hi => ⟨?_, hc i hi⟩⟩
  have := hc i hi 0 _ rfl
  rwa [Nat.add_zero] at this
end Go.Proofs.Ytkljcoecgmpgpaa
