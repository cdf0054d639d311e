/- ClK: A table of a statement's own; cells that are told, apart from it; what the chapter's example fixes. -/
import Derived.Test.YtpebhfjcakllmaaGreatClT
namespace Go.Proofs.YtpebhfjcakllmaaGreat
open Go.RowKit Go.ChangeShapes Mem Be Word Rg Go.Maps
set_option maxRecDepth 10000
set_option maxHeartbeats 4000000
set_option linter.unusedVariables false
theorem rowN_own {F : Nat → Prop} {w w1 : World} {A : Option Addr} {e : TypeId} {s n c : Nat} {xs : List Value} (hF : ∀ k, F k → k < w.heap.size) (ho : w1.ownsRow w.heap.size e s (.slice A n c) n xs) : RowN F w1 A xs := by
  rcases ownRow ho with h | ⟨b, o, rfl, hb, hc⟩
  · exact Or.inl h
  · exact Or.inr ⟨b, o, rfl, fun hf => by have := hF b hf; have h2 := (ownIn ho rfl).1; simp only at h2; omega, hb, hc⟩
/-- Cells that lie in a row, apart from the blocks of F, each with its value. -/
structure CeN (F : Nat → Prop) (w : World) (A : Option Addr) (us : List CV) : Prop where
  row : RowN F w A (cellsC us)
  val : ∀ x ∈ us, RowN F w x.2.1 (x.1.e.v.map byteV) ∧ x.1.e.v.length ≤ x.2.2 ∧ x.2.2 ≤ maxLen ∧ x.1.e.v.length ≤ 60000
theorem CeN.touch {F : Nat → Prop} {w w' : World} {A : Option Addr} {us : List CV} (h : CeN F w A us) (ht : Touch F w w') : CeN F w' A us := ⟨h.row.touch ht, fun x hx => ⟨(h.val x hx).1.touch ht, (h.val x hx).2⟩⟩
theorem CeN.below {F : Nat → Prop} {w w' : World} {A : Option Addr} {us : List CV} (h : CeN F w A us) (hb : Below w.heap.size w w') : CeN F w' A us := h.touch (Touch.ofBelow hb)
theorem CeN.cev {F : Nat → Prop} {w : World} {A : Option Addr} {us : List CV} (h : CeN F w A us) : CeV w A us := ⟨h.row.row, fun x hx => ⟨(h.val x hx).1.row, by have := (h.val x hx).2.2.2; omega, (h.val x hx).2.1⟩⟩
theorem RowN.belowC {F : Nat → Prop} {w w' : World} {A : Option Addr} {xs : List Value} (h : RowN F w A xs) (hb : Below w.heap.size w w') : RowN F w' A xs := h.touch (Touch.ofBelow hb)
/-- A table of a statement's own, in blocks that are new since w0; what was done to it is no more than q. -/
structure Tb1 (w0 w : World) (F : Nat → Prop) (g b tk : Nat) (S : Cl) (q : Nat) : Prop where
  new : ∀ k, F k → w0.heap.size ≤ k
  ok : OkC S
  lim : LimC S q
  at_ : ClAt w F g b tk S
  bel : Below w0.heap.size w0 w
section
variable {w0 w w1 : World} {F : Nat → Prop} {g b tk q : Nat} {S S' : Cl}
theorem Tb1.below (h : Tb1 w0 w F g b tk S q) (hb : Below w.heap.size w w1) : Tb1 w0 w1 F g b tk S q :=
  ⟨h.new, h.ok, h.lim, by obtain ⟨V, c, ha⟩ := h.at_; exact ⟨V, c, ha.below hb⟩, h.bel.trans (hb.mono h.bel.size)⟩
theorem Tb1.wide (h : Tb1 w0 w F g b tk S q) (hb : Below w.heap.size w w1) : Tb1 w0 w1 (More2 F w.heap.size w1.heap.size) g b tk S q :=
  ⟨fun k hk => by rcases hk with hk | hk; exact h.new k hk; exact Nat.le_trans h.bel.size hk.1, h.ok, h.lim, by obtain ⟨V, c, ha⟩ := h.at_; exact ⟨V, c, ha.wide hb⟩, h.bel.trans (hb.mono h.bel.size)⟩
theorem Tb1.own (h : Tb1 w0 w F g b tk S q) : ∀ k, Own3 g b tk k → w0.heap.size ≤ k ∧ k < w.heap.size := fun k hk => by
  obtain ⟨V, c, ha⟩ := h.at_
  exact ⟨h.new k (ha.own k hk), ha.lt k (ha.own k hk)⟩
theorem Tb1.to {q' : Nat} (h : Tb1 w0 w F g b tk S q) (ho : OkC S' ∧ LimC S' q') (ha : ClAt w1 F g b tk S') (ht : Touch (Own3 g b tk) w w1) : Tb1 w0 w1 F g b tk S' q' :=
  ⟨h.new, ho.1, ho.2, ha, h.bel.trans (ht.below h.bel.size fun k hk => (h.own k hk).1)⟩
theorem Tb1.touch {G : Nat → Prop} (h : Tb1 w0 w F g b tk S q) (ht : Touch G w w1) (hd : ∀ k, Own3 g b tk k → ¬ G k) (hG : ∀ k, G k → F k) : Tb1 w0 w1 F g b tk S q :=
  ⟨h.new, h.ok, h.lim, by
    obtain ⟨V, c, ha⟩ := h.at_
    exact ⟨V, c, ha.touch ht (hd g (Or.inl rfl)) (hd b (Or.inr (Or.inl rfl))) (hd tk (Or.inr (Or.inr rfl))) hG⟩, h.bel.trans (ht.below h.bel.size fun k hk => h.new k (hG k hk))⟩
theorem Tb1.more (h : Tb1 w0 w F g b tk S q) : Tb1 w0 w F g b tk S (q + 1) := ⟨h.new, h.ok, lim_q h.lim, h.at_, h.bel⟩
theorem Tb1.us (h : Tb1 w0 w F g b tk S q) (hq : q ≤ 100000000000000) : S.us ≤ 4611686018427387904 ∧ (∀ t ∈ S.tok, t ≤ 4611686018427300000) := by
  obtain ⟨h1, h2⟩ := h.lim
  exact ⟨by omega, fun t ht => by have := h2 t ht; omega⟩
theorem tb1_new {v : Value → Value} {e : Ending} {w' : World} (hb : Below w0.heap.size w0 w) (h : NewT v S w e w') (ho : OkC S ∧ LimC S q) : ∃ g b tk, e = .returned (v (.pointer (some ⟨g, 0, none⟩))) ∧ Tb1 w0 w' (Own3 g b tk) g b tk S q ∧ Below w.heap.size w w' := by
  obtain ⟨g, b, tk, h1, h2, h3, h4⟩ := h
  exact ⟨g, b, tk, h1, ⟨fun k hk => by have := hb.size; rcases hk with rfl | rfl | rfl <;> omega, ho.1, ho.2, h3, hb.trans (h4.mono hb.size)⟩, h4⟩
/-- The cells that are told of it. -/
theorem Tb1.cells (h : Tb1 w0 w F g b tk S q) {e : Ending} (hc : CellsP S.T w e w1) : ∃ (us : List CV) (A : Option Addr) (c : Nat), us.map Prod.fst = S.T ∧ e = .returned (.slice A us.length c) ∧ CeN (Own3 g b tk) w1 A us ∧ us.length ≤ 4096 ∧ Below w.heap.size w w1 := by
  obtain ⟨us, A, c, h1, h2, h3, h4, h5⟩ := hc
  have hF : ∀ k, Own3 g b tk k → k < w.heap.size := fun k hk => (h.own k hk).2
  refine ⟨us, A, c, h1, h2, ⟨rowN_own hF h3, fun x hx => ?_⟩, ?_, h5⟩
  · have ho := h4 (evC x) (List.mem_map_of_mem hx)
    have hok : x.1 ∈ S.T := by rw [← h1]; exact List.mem_map_of_mem hx
    exact ⟨rowN_own hF ho, (own_cap ho).1, (own_cap ho).2, (sizE_le (h.ok.ok _ hok)).2.2.1⟩
  · have e1 : us.length = S.T.length := by rw [← h1, List.length_map]
    have h6 := h.ok.len
    have h7 := h.ok.rc
    omega
end
/- What the chapter's example fixes. -/
theorem ent_any (k : UInt8) (w : World) : Calls Tryz.prog 21 #[.string ⟨#[k]⟩, .int .i64 1] w fun e w' => e = .returned (.agg #[.string ⟨#[k]⟩, .int .i64 1, .int .i64 0, .int .i64 0, .bool false, .slice none 0 0]) ∧ Below w.heap.size w w' := by
  go_enter Tryz.func21, Tryz.ntmps21
  go_wp2_with fail
  exact bodyPost_ret (v := .agg #[.string ⟨#[k]⟩, .int .i64 1, .int .i64 0, .int .i64 0, .bool false, .slice none 0 0]) (by simp [results, Tryz.results21, go_sem]) rfl ⟨rfl, (Below.refl _ _).alloc (Nat.le_refl _) _⟩
def eK (k : UInt8) : EntP := ⟨[k], 1, 0, 0, false, []⟩
theorem okK (k : UInt8) : okE (eK k) := by unfold okE eK rightE checkT; simp; decide
def kS0 : Cl := ⟨1, 99, 1, true, [], [0], 0⟩
def kS1 : Cl := ⟨1, 99, 1, true, [⟨eK 107, true, false, 1⟩], [0], 1⟩
def kS2 : Cl := ⟨1, 99, 1, true, [⟨eK 107, true, true, 1⟩], [0], 1⟩
def kS3 : Cl := ⟨1, 99, 1, true, [⟨eK 106, true, false, 2⟩], [1], 2⟩
theorem bk1 (k : List UInt8) : bk 1 k = 0 := Nat.mod_one _
theorem kroom : RoomOk 1 99 ((1 : Nat) : Int) := ⟨by omega, by omega, by omega⟩
theorem kS0_is : newS 1 99 1 true = kS0 := rfl
theorem kok0 : OkC kS0 ∧ LimC kS0 1 := by rw [← kS0_is]; exact ok_newS kroom
theorem kst1 : storeS kS0 (eK 107) = (kS1, 0) := by
  unfold storeS
  rw [if_neg (by intro h; rcases h with h | h; exact h (okK 107); cases h)]
  show layS kS0 (eK 107) (tokK kS0 [107] == 0) false = _
  have ht : tokK kS0 [107] = 0 := by unfold tokK; show ([0] : List Int).getD (bk 1 [107]) 0 = 0; rw [bk1]; rfl
  have hr : roomS kS0 (eK 107) = (kS0, 0) := by unfold roomS roomF; rw [if_pos (by unfold fitsS; decide)]
  rw [ht, lay_eq kok0.1, hr, if_pos rfl]
  rfl
theorem kok1 : OkC kS1 ∧ LimC kS1 2 := by
  have := ok_store kok0 (eK 107)
  rw [kst1] at this; exact this
theorem kst2 : storeS kS1 (eK 106) = (kS1, 30) := by
  unfold storeS
  rw [if_neg (by intro h; rcases h with h | h; exact h (okK 106); cases h)]
  show layS kS1 (eK 106) (tokK kS1 [106] == 0) false = _
  have hr : roomS kS1 (eK 106) = (kS1, 30) := by unfold roomS roomF; rw [if_neg (by unfold fitsS; decide), if_neg (by unfold fitsS; decide)]
  rw [lay_eq kok1.1, hr, if_neg (by decide)]
theorem kcl : cleanS kS1 [107] 1 0 0 = (kS2, true) := by
  unfold cleanS
  show (match some (⟨eK 107, true, false, 1⟩ : CP) with | none => (kS1, false) | some x => if 0 < cmpT x.e.s x.e.u x.e.o 1 0 0 then (kS1, false) else ({ kS1 with T := putK kP kS1.T { x with cl := true } }, true)) = _
  simp only
  rw [if_neg (by decide)]
  rfl
theorem kok2 : OkC kS2 ∧ LimC kS2 3 := by
  have := ok_clean kok1 [107] 1 0 0
  rw [kcl] at this; exact this
theorem kst3 : storeS kS2 (eK 106) = (kS3, 0) := by
  unfold storeS
  rw [if_neg (by intro h; rcases h with h | h; exact h (okK 106); cases h)]
  show layS kS2 (eK 106) (tokK kS2 [106] == 0) false = _
  have ht : tokK kS2 [106] = 0 := by unfold tokK; show ([0] : List Int).getD (bk 1 [106]) 0 = 0; rw [bk1]; rfl
  have hg : goneS kS2 [107] = ⟨1, 99, 1, true, [], [1], 1⟩ := by
    unfold goneS
    show (⟨1, 99, 1, true, delK kP [107] [⟨eK 107, true, true, 1⟩], incT [0] (bk 1 [107]), 1⟩ : Cl) = _
    rw [bk1]; rfl
  have hr : roomS kS2 (eK 106) = (⟨1, 99, 1, true, [], [1], 1⟩, 0) := by
    unfold roomS
    show roomF 2 kS2 (eK 106) = _
    unfold roomF
    rw [if_neg (by unfold fitsS; decide), if_pos (by unfold fitsS; decide)]
    show roomF 1 (goneS kS2 [107]) (eK 106) = _
    rw [hg]
    unfold roomF
    rw [if_pos (by unfold fitsS; decide)]
  rw [ht, lay_eq kok2.1, hr, if_pos rfl]
  rfl
theorem kok3 : OkC kS3 ∧ LimC kS3 4 := by
  have := ok_store kok2 (eK 106)
  rw [kst3] at this; exact this
theorem kqu : queryS kS3 [107] = (kS3, ⟨entN [107], false, 1⟩, 0) := by
  unfold queryS
  rw [if_neg (by decide)]
  show (kS3, (⟨entN [107], tokK kS3 [107] == 0, tokK kS3 [107]⟩ : RpP), (0 : Int)) = _
  have ht : tokK kS3 [107] = 1 := by unfold tokK; show ([1] : List Int).getD (bk 1 [107]) 0 = 1; rw [bk1]; rfl
  rw [ht]; rfl
theorem known_store {S S' : Cl} {r : Int} {k : UInt8} {w0 w : World} {F : Nat → Prop} {g b tk q : Nat} (h : Tb1 w0 w F g b tk S q) (hq : q ≤ 100) (hs : storeS S (eK k) = (S', r)) :
    Calls Tryz.prog 20 #[.pointer (some ⟨g, 0, none⟩), .agg #[.string ⟨#[k]⟩, .int .i64 1, .int .i64 0, .int .i64 0, .bool false, .slice none 0 0]] w (fun e w' => e = .returned (.int .i64 r) ∧ Tb1 w0 w' F g b tk S' (q + 1) ∧ Below w0.heap.size w0 w') := by
  have hu := h.us (by omega)
  have := store_any h.ok (eK k, none, 0) (by simp [eK]) (by simp [eK, maxLen]) hu.1 hu.2 w h.at_ (Or.inl rfl)
  rw [hs] at this
  refine this.mono ?_
  rintro e w' ⟨rfl, ha, ht⟩
  have ho := ok_store ⟨h.ok, h.lim⟩ (eK k)
  rw [hs] at ho
  have h2 := h.to ho ha ht
  exact ⟨rfl, h2, h2.bel⟩
theorem known11_any (w : World) : Calls Tryz.prog 5 #[] w (IsB true w) := by
  go_enter Tryz.func5, Tryz.ntmps5
  go_wp2_with fail
  refine (new_ok11 1 99 1 true kroom w).mono ?_
  intro e w1 hx
  obtain ⟨g, b, tk, rfl, ht, _⟩ := tb1_new (Below.refl _ _) hx (by rw [kS0_is]; exact kok0)
  rw [kS0_is] at ht
  have HT1 := Lib.hid ht
  clear hx ht
  go_wp2_with fail
  refine (ent_any 107 w1).mono ?_
  rintro e w2 ⟨rfl, hb⟩
  have HT2 := Lib.hid (HT1.out.below hb)
  clear hb HT1
  go_wp2_with fail
  refine (known_store HT2.out (by omega) kst1).mono ?_
  rintro e w3 ⟨rfl, ht, _⟩
  have HT3 := Lib.hid ht
  clear ht HT2
  go_wp2_with fail
  refine (ent_any 106 w3).mono ?_
  rintro e w4 ⟨rfl, hb⟩
  have HT4 := Lib.hid (HT3.out.below hb)
  clear hb HT3
  go_wp2_with fail
  refine (known_store HT4.out (by omega) kst2).mono ?_
  rintro e w5 ⟨rfl, ht, _⟩
  have HT5 := Lib.hid ht
  clear ht HT4
  have HCL := Lib.hid (clean_any HT5.out.ok [107] (by simp [maxLen]) 1 0 0 w5 HT5.out.at_)
  rw [kcl] at HCL
  go_wp2_with fail
  refine HCL.out.mono ?_
  rintro e w6 ⟨rfl, ha, ht⟩
  have HT6 := Lib.hid (HT5.out.to kok2 ha ht)
  clear ha ht HCL HT5
  go_wp2_with fail
  refine (ent_any 106 w6).mono ?_
  rintro e w7 ⟨rfl, hb⟩
  have HT7 := Lib.hid (HT6.out.below hb)
  clear hb HT6
  go_wp2_with fail
  refine (known_store HT7.out (by omega) kst3).mono ?_
  rintro e w8 ⟨rfl, ht, _⟩
  have HT8 := Lib.hid ht
  clear ht HT7
  have HQ := Lib.hid (query_any HT8.out.ok [107] (by simp [maxLen]) (HT8.out.us (by omega)).1 w8 HT8.out.at_)
  rw [kqu] at HQ
  go_wp2_with fail
  refine HQ.out.mono ?_
  rintro e w9 ⟨A, c, rfl, _, ha, ht⟩
  have HB9 := Lib.hid (HT8.out.to kok3 ha ht).bel
  clear ha ht HQ HT8
  unfold repV entN
  go_wp2_with fail
  refine (store_nil _).mono ?_
  rintro e w10 ⟨rfl, hb⟩
  have HB10 := Lib.hid ((HB9.out.alloc HB9.out.size _).trans (hb.mono (HB9.out.alloc HB9.out.size _).size))
  clear hb
  go_wp2_with fail
  go_ret
  exact ⟨rfl, HB10.out⟩
end Go.Proofs.YtpebhfjcakllmaaGreat
