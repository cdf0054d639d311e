/- ClS: Package cells: Store, Fill. -/
import Derived.Test.YtpebhfjcakllmaaGreatClE
import Derived.Test.YtpebhfjcakllmaaGreatClW
import Derived.Test.YtpebhfjcakllmaaGreatRgt8
import Derived.Deep.RegionHeld3
import Derived.Deep.RegionWith
namespace Go.Proofs.YtpebhfjcakllmaaGreat
open Go.RowKit Mem Be Word Rg Go.Maps
set_option maxRecDepth 10000
set_option maxHeartbeats 4000000
set_option linter.unusedVariables false
set_option linter.unusedSimpArgs false
theorem rowN_madeC {F : Nat → Prop} {w w1 : World} {A : Option Addr} {n c : Nat} {xs : List Value} (hF : ∀ k, F k → k < w.heap.size) (ho : w1.ownsRow w.heap.size 5 1 (.slice A n c) n xs) : RowN F w1 A xs := by
  rcases Row.of_own ho with h | ⟨b, o, rfl, hb, hc⟩
  · exact Or.inl h
  · exact Or.inr ⟨b, o, rfl, fun hf => by have := hF b hf; have h2 := (ownIn ho rfl).1; simp only at h2; omega, hb, hc⟩
theorem right_valC {x : EV} {r : Int} (h : rightE x.1.k.length x.1.v.length x.1.s x.1.u x.1.o x.1.has = r) (hl : (x.1.v.length : Int) ≤ 9223372036854775807) (hk : (x.1.k.length : Int) ≤ 9223372036854775807) (W : World) : Calls Tryz.prog 40 #[entV ⟨x.1.k.toArray⟩ x.1.s x.1.u x.1.o x.1.has x.2.1 x.1.v.length x.2.2] W (IsI r W) := by
  have hs : (⟨x.1.k.toArray⟩ : ByteArray).size = x.1.k.length := by show x.1.k.toArray.size = _; simp
  have := right_big ⟨x.1.k.toArray⟩ x.1.s x.1.u x.1.o x.1.has x.2.1 x.1.v.length x.2.2 hl (by rw [hs]; exact hk) W
  rw [hs, h] at this
  exact this
def FillC (F : Nat → Prop) (g b tk : Nat) (R : Cl × Bool × Int) (w : World) (e : Ending) (w' : World) : Prop := e = .returned (.tuple #[.bool R.2.1, .int .i64 R.2.2]) ∧ ClAt w' F g b tk R.1 ∧ Touch (Own3 g b tk) w w'
theorem room_us {S : Cl} (ok : OkC S) (e : EntP) : OkC (roomS S e).1 ∧ (roomS S e).1.us = S.us := ⟨ok_evs (room_evs _ _ _) ok, (evs_keep (room_evs (S.T.length + 1) S e) ok.srt).us⟩
theorem not_own3 {w : World} {F : Nat → Prop} {g b tk c : Nat} {S : Cl} {V : List CV} (h : ClB w F g b tk S V c) {r : Nat} (hr : w.heap.size ≤ r) : ¬ Own3 g b tk r := h.not3 hr
theorem valF_new {w w0 w1 : World} {F : Nat → Prop} {g b tk c : Nat} {S : Cl} {V : List CV} (h : ClB w F g b tk S V c) (hs : w.heap.size ≤ w0.heap.size) {e : EntP} {wh cl : Bool} {us : Int} {A : Option Addr} {d : Nat} (ho : w1.ownsRow w0.heap.size 5 1 (.slice A e.v.length d) e.v.length (e.v.map byteV)) : ValF F w1 (⟨e, wh, cl, us⟩, A, d) :=
  ⟨rowN_madeC (w := w0) (fun k hk => Nat.lt_of_lt_of_le (h.lt k hk) hs) ho, (own_cap ho).1, (own_cap ho).2⟩
theorem _root_.Go.Proofs.YtpebhfjcakllmaaGreat.Mem.Blk.touchT {F : Nat → Prop} {w w' : World} {g : Nat} {t : TypeId} {cs : Array Value} (h : Blk w g t cs) (ht : Touch F w w') (hn : ¬ F g) : Blk w' g t cs := (ht.block g h.lt hn).trans h
theorem store_bad {F : Nat → Prop} {g b tk : Nat} {S : Cl} (x : EV) (hl : (x.1.v.length : Int) ≤ 9223372036854775807) (hk : (x.1.k.length : Int) ≤ 9223372036854775807) (hb : ¬ okE x.1 ∨ x.1.s = 0) (w : World) (h : ClAt w F g b tk S) :
    Calls Tryz.prog 20 #[.pointer (some ⟨g, 0, none⟩), entV ⟨x.1.k.toArray⟩ x.1.s x.1.u x.1.o x.1.has x.2.1 x.1.v.length x.2.2] w (RoomC F g b tk (S, 2) w) := by
  have HAL : Hid (Below w.heap.size w (w.alloc (.cells #[.string ⟨x.1.k.toArray⟩, .int .i64 x.1.s, .int .i64 x.1.u, .int .i64 x.1.o, .bool x.1.has, .slice x.2.1 x.1.v.length x.2.2] 43))) := Lib.hid ((Below.refl _ _).alloc (Nat.le_refl _) _)
  have HBL := Lib.hid (Blk.new w 43 #[.string ⟨x.1.k.toArray⟩, .int .i64 x.1.s, .int .i64 x.1.u, .int .i64 x.1.o, .bool x.1.has, .slice x.2.1 x.1.v.length x.2.2])
  have H := Lib.hid h
  clear h
  rcases rightE_02 x.1.k.length x.1.v.length x.1.s x.1.u x.1.o x.1.has with hr | hr
  · have HNN : Hid ((x.1.s == 0) = true) := Lib.hid (by
      rcases hb with hb | hb
      · exact absurd hr hb
      · simpa using hb)
    have HR := Lib.hid (right_valC (x := x) hr hl hk)
    clear hb hr hl hk
    go_enter Tryz.func20, Tryz.ntmps20
    go_wp2_with fail
    refine (HR.out _).mono ?_
    rintro e w1 ⟨rfl, hb⟩
    have HB1 := Lib.hid (HAL.out.trans (hb.mono HAL.out.size))
    have HE1 := Lib.hid (HBL.out.below hb HBL.out.lt)
    have t1 := HE1.out.is 1 _ rfl
    have t2 := HE1.out.is 2 _ rfl
    have t3 := HE1.out.is 3 _ rfl
    clear hb
    go_wp2_with fail
    refine (none_val _ _ _ _ HNN _).mono ?_
    rintro e w2 ⟨rfl, hb⟩
    have HB2 := Lib.hid (HB1.out.trans (hb.mono HB1.out.size))
    clear hb t1 t2 t3
    go_wp2_with fail
    go_ret
    obtain ⟨V, c, h⟩ := H.out
    exact ⟨rfl, ⟨V, c, h.below HB2.out⟩, Touch.ofBelow HB2.out⟩
  · have HR := Lib.hid (right_valC (x := x) hr hl hk)
    clear hb hr hl hk
    go_enter Tryz.func20, Tryz.ntmps20
    go_wp2_with fail
    refine (HR.out _).mono ?_
    rintro e w1 ⟨rfl, hb⟩
    have HB1 := Lib.hid (HAL.out.trans (hb.mono HAL.out.size))
    clear hb
    go_wp2_with fail
    go_ret
    obtain ⟨V, c, h⟩ := H.out
    exact ⟨rfl, ⟨V, c, h.below HB1.out⟩, Touch.ofBelow HB1.out⟩
theorem fill_bad {F : Nat → Prop} {g b tk : Nat} {S : Cl} (x : EV) (t : Int) (hl : (x.1.v.length : Int) ≤ 9223372036854775807) (hk : (x.1.k.length : Int) ≤ 9223372036854775807) (hb : ¬ okE x.1) (w : World) (h : ClAt w F g b tk S) :
    Calls Tryz.prog 26 #[.pointer (some ⟨g, 0, none⟩), entV ⟨x.1.k.toArray⟩ x.1.s x.1.u x.1.o x.1.has x.2.1 x.1.v.length x.2.2, .int .i64 t] w (FillC F g b tk (S, false, 2) w) := by
  have HAL : Hid (Below w.heap.size w (w.alloc (.cells #[.string ⟨x.1.k.toArray⟩, .int .i64 x.1.s, .int .i64 x.1.u, .int .i64 x.1.o, .bool x.1.has, .slice x.2.1 x.1.v.length x.2.2] 43))) := Lib.hid ((Below.refl _ _).alloc (Nat.le_refl _) _)
  have HBL := Lib.hid (Blk.new w 43 #[.string ⟨x.1.k.toArray⟩, .int .i64 x.1.s, .int .i64 x.1.u, .int .i64 x.1.o, .bool x.1.has, .slice x.2.1 x.1.v.length x.2.2])
  have H := Lib.hid h
  clear h
  rcases rightE_02 x.1.k.length x.1.v.length x.1.s x.1.u x.1.o x.1.has with hr | hr
  · exact absurd hr hb
  · have HR := Lib.hid (right_valC (x := x) hr hl hk)
    clear hb hr hl hk
    go_enter Tryz.func26, Tryz.ntmps26
    go_wp2_with fail
    refine (HR.out _).mono ?_
    rintro e w1 ⟨rfl, hb⟩
    have HB1 := Lib.hid (HAL.out.trans (hb.mono HAL.out.size))
    clear hb
    go_wp2_with fail
    go_ret2
    obtain ⟨V, c, h⟩ := H.out
    exact ⟨rfl, ⟨V, c, h.below HB1.out⟩, Touch.ofBelow HB1.out⟩
theorem fill_other {F : Nat → Prop} {g b tk c : Nat} {S : Cl} {V : List CV} (ok : OkC S) (x : EV) (t : Int) (hx : okE x.1) (ht : t ≠ tokK S x.1.k) (hu : S.us ≤ 4611686018427387904) (hM : ∀ t ∈ S.tok, t ≤ 4611686018427300000) (w : World) (h : ClB w F g b tk S V c) (hN : RowN (Own3 g b tk) w x.2.1 (x.1.v.map byteV)) (hc : x.1.v.length ≤ x.2.2) :
    Calls Tryz.prog 26 #[.pointer (some ⟨g, 0, none⟩), entV ⟨x.1.k.toArray⟩ x.1.s x.1.u x.1.o x.1.has x.2.1 x.1.v.length x.2.2, .int .i64 t] w (FillC F g b tk (S, false, 0) w) := by
  obtain ⟨hs1, hs2, hs3, hs4⟩ := sizE_le hx
  have H := Lib.hid h
  have HOK := Lib.hid ok
  have HX := Lib.hid hx
  have HRW := Lib.hid hN
  have HCAP : Hid (x.1.v.length ≤ x.2.2 ∧ x.1.v.length ≤ 60000) := Lib.hid ⟨hc, hs3⟩
  have HM := Lib.hid hM
  have HU : Hid (S.us ≤ 4611686018427387904) := Lib.hid hu
  have HR := Lib.hid (right_valC (x := x) hx (by omega) (by omega))
  have HAL : Hid (Below w.heap.size w (w.alloc (.cells #[.string ⟨x.1.k.toArray⟩, .int .i64 x.1.s, .int .i64 x.1.u, .int .i64 x.1.o, .bool x.1.has, .slice x.2.1 x.1.v.length x.2.2] 43))) := Lib.hid ((Below.refl _ _).alloc (Nat.le_refl _) _)
  have HBL := Lib.hid (Blk.new w 43 #[.string ⟨x.1.k.toArray⟩, .int .i64 x.1.s, .int .i64 x.1.u, .int .i64 x.1.o, .bool x.1.has, .slice x.2.1 x.1.v.length x.2.2])
  have hgl := h.lt g h.fg
  obtain ⟨t0, ht0⟩ : ∃ t0, tokK S x.1.k = t0 := ⟨_, rfl⟩
  rw [ht0] at ht
  have hne : (t != t0) = true := by simpa using ht
  have HTK : Hid (∀ W, Below w.heap.size w W → Calls Tryz.prog 42 #[.pointer (some ⟨g, 0, none⟩), .string ⟨x.1.k.toArray⟩] W (IsII0 t0 0 W)) := Lib.hid fun W hb => by rw [← ht0]; exact token_any ok x.1.k (by omega) W (h.below hb)
  clear h ok hx hN hc hM hs1 hs2 hs3 hs4 ht0 ht
  go_enter Tryz.func26, Tryz.ntmps26
  go_wp2_with fail
  refine (HR.out _).mono ?_
  rintro e w1 ⟨rfl, hb⟩
  have HB1 := Lib.hid (HAL.out.trans (hb.mono HAL.out.size))
  have HE1 := Lib.hid (HBL.out.below hb HBL.out.lt)
  have HB2 := HB1
  have HE2 := HE1
  clear hb
  have k0 := HE2.out.is 0 _ rfl
  go_wp2_with fail
  refine (HTK.out _ HB2.out).mono ?_
  rintro e w3 ⟨rfl, hb⟩
  have HB3 := Lib.hid (HB2.out.trans (hb.mono HB2.out.size))
  have HE3 := Lib.hid (HE2.out.below hb HE2.out.lt)
  clear hb k0
  go_wp2_with fail
  go_ret2
  exact ⟨rfl, ⟨V, c, H.out.below HB3.out⟩, Touch.ofBelow HB3.out⟩
theorem store_none_lay {F : Nat → Prop} {g b tk c : Nat} {S : Cl} {V : List CV} (ok : OkC S) (x : EV) (hx : okE x.1) (hs : x.1.s ≠ 0) (hu : S.us ≤ 4611686018427387904) (hM : ∀ t ∈ S.tok, t ≤ 4611686018427300000) (w : World) (h : ClB w F g b tk S V c) (hN : RowN (Own3 g b tk) w x.2.1 (x.1.v.map byteV)) (hc : x.1.v.length ≤ x.2.2) (hg : getK kC V x.1.k = none) (hq : (roomS S x.1).2 = 0) :
    Calls Tryz.prog 20 #[.pointer (some ⟨g, 0, none⟩), entV ⟨x.1.k.toArray⟩ x.1.s x.1.u x.1.o x.1.has x.2.1 x.1.v.length x.2.2] w (RoomC F g b tk (useS (roomS S x.1).1 ⟨x.1, (tokK S x.1.k == 0), false, 0⟩, 0) w) := by
  obtain ⟨hs1, hs2, hs3, hs4⟩ := sizE_le hx
  have H := Lib.hid h
  have HOK := Lib.hid ok
  have HX := Lib.hid hx
  have HRW := Lib.hid hN
  have HCAP : Hid (x.1.v.length ≤ x.2.2 ∧ x.1.v.length ≤ 60000) := Lib.hid ⟨hc, hs3⟩
  have HM := Lib.hid hM
  have HU : Hid (S.us ≤ 4611686018427387904) := Lib.hid hu
  have HR := Lib.hid (right_valC (x := x) hx (by omega) (by omega))
  have HAL : Hid (Below w.heap.size w (w.alloc (.cells #[.string ⟨x.1.k.toArray⟩, .int .i64 x.1.s, .int .i64 x.1.u, .int .i64 x.1.o, .bool x.1.has, .slice x.2.1 x.1.v.length x.2.2] 43))) := Lib.hid ((Below.refl _ _).alloc (Nat.le_refl _) _)
  have HBL := Lib.hid (Blk.new w 43 #[.string ⟨x.1.k.toArray⟩, .int .i64 x.1.s, .int .i64 x.1.u, .int .i64 x.1.o, .bool x.1.has, .slice x.2.1 x.1.v.length x.2.2])
  have hgl := h.lt g h.fg
  have HNN : Hid ((x.1.s == 0) = false) := Lib.hid (by simpa using hs)
  obtain ⟨t0, ht0⟩ : ∃ t0, tokK S x.1.k = t0 := ⟨_, rfl⟩
  rw [ht0]
  have HTK : Hid (∀ W, Below w.heap.size w W → Calls Tryz.prog 42 #[.pointer (some ⟨g, 0, none⟩), .string ⟨x.1.k.toArray⟩] W (IsII0 t0 0 W)) := Lib.hid fun W hb => by rw [← ht0]; exact token_any ok x.1.k (by omega) W (h.below hb)
  have HLK : Hid (∀ W, Below w.heap.size w W → (Instr.lookup 71 (.map (some b)) (.string ⟨x.1.k.toArray⟩) true).run Tryz.prog W = .ok (.tuple #[.agg #[.string ⟨#[]⟩, .int .i64 0, .int .i64 0, .int .i64 0, .bool false, .slice none 0 0, .bool false, .bool false, .int .i64 0], .bool false]) W) := Lib.hid fun W hb => by
    have := look_okL h (k := x.1.k) (by unfold maxLen; omega) true W hb
    rw [show oldC V x.1.k = cvN [] by unfold oldC; rw [hg]; rfl, hg] at this
    exact this
  have HQ : Hid ((roomS S x.1).2 = 0) := Lib.hid hq
  clear h ok hx hN hc hM hs1 hs2 hs3 hs4 ht0 hs hg hq
  go_enter Tryz.func20, Tryz.ntmps20
  go_wp2_with fail
  refine (HR.out _).mono ?_
  rintro e w1 ⟨rfl, hb⟩
  have HB1 := Lib.hid (HAL.out.trans (hb.mono HAL.out.size))
  have HE1 := Lib.hid (HBL.out.below hb HBL.out.lt)
  have t1 := HE1.out.is 1 _ rfl
  have t2 := HE1.out.is 2 _ rfl
  have t3 := HE1.out.is 3 _ rfl
  clear hb
  go_wp2_with fail
  refine (none_val _ _ _ _ HNN _).mono ?_
  rintro e w2 ⟨rfl, hb⟩
  have HB2 := Lib.hid (HB1.out.trans (hb.mono HB1.out.size))
  have HE2 := Lib.hid (HE1.out.below hb HE1.out.lt)
  clear hb t1 t2 t3
  have k0 := HE2.out.is 0 _ rfl
  go_wp2_with fail
  refine (HTK.out _ HB2.out).mono ?_
  rintro e w3 ⟨rfl, hb⟩
  have HB3 := Lib.hid (HB2.out.trans (hb.mono HB2.out.size))
  have HE3 := Lib.hid (HE2.out.below hb HE2.out.lt)
  clear hb k0
  have c4 := (H.out.below HB3.out).c4
  have e0 := HE3.out.is 0 _ rfl
  have hg3 : g < w3.heap.size := Nat.lt_of_lt_of_le hgl HB3.out.size
  have he3 : w.heap.size < w3.heap.size := HE3.out.lt
  have HBA : Hid (∀ ob, Below w3.heap.size w3 (w3.alloc ob).drew) := Lib.hid fun ob => ((Below.refl _ _).alloc (Nat.le_refl _) ob).drew
  have hlkA := HLK.out w3.drew (HB3.out.trans ((Below.refl _ _).drew.mono HB3.out.size))
  have hlkB := fun ob => HLK.out (w3.alloc ob).drew (HB3.out.trans ((HBA.out ob).mono HB3.out.size))
  go_wp2_with fail
  go_region
  have HB5 := Lib.hid (HB3.out.trans ((HBA.out (.cells #[.string ⟨#[]⟩, .int .i64 0, .int .i64 0, .int .i64 0, .bool false, .slice none 0 0, .bool false, .bool false, .int .i64 0] 88)).mono HB3.out.size))
  have HE5 := Lib.hid (HE3.out.below (HBA.out (.cells #[.string ⟨#[]⟩, .int .i64 0, .int .i64 0, .int .i64 0, .bool false, .slice none 0 0, .bool false, .bool false, .int .i64 0] 88)) HE3.out.lt)
  have hX5 := Blk.new w3 88 #[.string ⟨#[]⟩, .int .i64 0, .int .i64 0, .int .i64 0, .bool false, .slice none 0 0, .bool false, .bool false, .int .i64 0]
  have HX5 := Lib.hid (hX5.below (Below.refl _ _).drew hX5.lt)
  have HG4 : Hid (w.heap.size ≤ w3.heap.size ∧ w.heap.size < w3.heap.size) := Lib.hid ⟨HB3.out.size, he3⟩
  obtain ⟨w5, hw5⟩ : ∃ w5, (w3.alloc (.cells #[.string ⟨#[]⟩, .int .i64 0, .int .i64 0, .int .i64 0, .bool false, .slice none 0 0, .bool false, .bool false, .int .i64 0] 88)).drew = w5 := ⟨_, rfl⟩
  rw [hw5] at HB5 HE5 HX5 ⊢
  clear hX5 c4 e0 hg3 he3 hlkA hlkB hw5
  have q0 := HE5.out.is 0 _ rfl
  have q1 := HE5.out.is 1 _ rfl
  have q2 := HE5.out.is 2 _ rfl
  have q3 := HE5.out.is 3 _ rfl
  have q4 := HE5.out.is 4 _ rfl
  have q5 := HE5.out.is 5 _ rfl
  have HMK := Lib.hid fun W (hb : Below w.heap.size w W) => makeRoom_any HOK.out x.1 x.2.1 x.2.2 HX.out HM.out W ⟨V, c, H.out.below hb⟩

  go_wp2_with fail
  refine (HMK.out _ HB5.out).mono ?_
  rintro e w7 ⟨rfl, ⟨V7, c7, hcb⟩, htu⟩
  have HCB := Lib.hid hcb
  have HTU : Hid (Touch (Own3 g b tk) w w7) := Lib.hid ((Touch.ofBelow HB5.out).trans htu fun k hk => Or.inl hk)
  have HE7 := Lib.hid ((HE5.out.touchT htu (H.out.not3 (Nat.le_refl _))))
  have HX7 := Lib.hid ((HX5.out.touchT htu (H.out.not3 HG4.out.1)))
  clear hcb htu q0 q1 q2 q3 q4 q5
  rw [HQ.out]
  have HDR : Hid (Below w7.heap.size w7 w7.drew) := Lib.hid (Below.refl _ _).drew
  have HVO : Hid (ValOk w7 x.1.has x.2.1 x.1.v x.2.2) := Lib.hid ⟨(HRW.out.touch HTU.out).row, by have := HCAP.out.2; omega, HCAP.out.1⟩
  have HCPY : Hid (∀ W, Below w7.heap.size w7 W → Calls Tryz.prog 37 #[entV ⟨x.1.k.toArray⟩ x.1.s x.1.u x.1.o x.1.has x.2.1 x.1.v.length x.2.2] W (MadeE W.heap.size ⟨x.1.k.toArray⟩ x.1.s x.1.u x.1.o x.1.has x.1.v W)) := Lib.hid fun W hb => copyE_any ⟨x.1.k.toArray⟩ x.1.s x.1.u x.1.o x.1.has x.2.1 x.1.v x.1.v.length x.2.2 rfl W (HVO.out.below hb)
  have s0 := HE7.out.is 0 _ rfl
  have s1 := HE7.out.is 1 _ rfl
  have s2 := HE7.out.is 2 _ rfl
  have s3 := HE7.out.is 3 _ rfl
  have s4 := HE7.out.is 4 _ rfl
  have s5 := HE7.out.is 5 _ rfl
  have s6 := HX7.out.is 6 _ rfl
  have HK0 : Hid (w7.drew.cell? ⟨w.heap.size, 0, none⟩ = some (.string ⟨x.1.k.toArray⟩) ∧ w7.drew.cell? ⟨w.heap.size, 1, none⟩ = some (.int .i64 x.1.s) ∧ w7.drew.cell? ⟨w.heap.size, 2, none⟩ = some (.int .i64 x.1.u) ∧ w7.drew.cell? ⟨w.heap.size, 3, none⟩ = some (.int .i64 x.1.o) ∧ w7.drew.cell? ⟨w.heap.size, 4, none⟩ = some (.bool x.1.has) ∧ w7.drew.cell? ⟨w.heap.size, 5, none⟩ = some (.slice x.2.1 x.1.v.length x.2.2) ∧ w7.drew.cell? ⟨w3.heap.size, 6, none⟩ = some (.bool false)) := Lib.hid ⟨s0, s1, s2, s3, s4, s5, s6⟩
  go_wp2_with fail
  first
    | (go_region_held3 (fun W => W.cell? ⟨w.heap.size, 0, none⟩ = some (.string ⟨x.1.k.toArray⟩) ∧ W.cell? ⟨w.heap.size, 1, none⟩ = some (.int .i64 x.1.s) ∧ W.cell? ⟨w.heap.size, 2, none⟩ = some (.int .i64 x.1.u) ∧ W.cell? ⟨w.heap.size, 3, none⟩ = some (.int .i64 x.1.o) ∧ W.cell? ⟨w.heap.size, 4, none⟩ = some (.bool x.1.has) ∧ W.cell? ⟨w.heap.size, 5, none⟩ = some (.slice x.2.1 x.1.v.length x.2.2) ∧ W.cell? ⟨w3.heap.size, 6, none⟩ = some (.bool false))
        (first | with_reducible exact HK0.out | with_reducible exact HK8.out | with_reducible exact HK9.out | go_keep)
        (first
          | (go_at_call 37; refine (HCPY.out _ HDR.out).mono ?_; rintro e w8 ⟨A8, c8, rfl, ho, hb⟩; (have HB8 := Lib.hid (HDR.out.trans (hb.mono HDR.out.size))); (have HE8 := Lib.hid (HE7.out.below HB8.out HE7.out.lt)); (have HX8 := Lib.hid (HX7.out.below HB8.out HX7.out.lt)); (have HK8 : Hid (w8.cell? ⟨w.heap.size, 0, none⟩ = some (.string ⟨x.1.k.toArray⟩) ∧ w8.cell? ⟨w.heap.size, 1, none⟩ = some (.int .i64 x.1.s) ∧ w8.cell? ⟨w.heap.size, 2, none⟩ = some (.int .i64 x.1.u) ∧ w8.cell? ⟨w.heap.size, 3, none⟩ = some (.int .i64 x.1.o) ∧ w8.cell? ⟨w.heap.size, 4, none⟩ = some (.bool x.1.has) ∧ w8.cell? ⟨w.heap.size, 5, none⟩ = some (.slice x.2.1 x.1.v.length x.2.2) ∧ w8.cell? ⟨w3.heap.size, 6, none⟩ = some (.bool false)) := Lib.hid ⟨HE8.out.is 0 _ rfl, HE8.out.is 1 _ rfl, HE8.out.is 2 _ rfl, HE8.out.is 3 _ rfl, HE8.out.is 4 _ rfl, HE8.out.is 5 _ rfl, HX8.out.is 6 _ rfl⟩); (have HUSE := Lib.hid (use_any (room_us HOK.out x.1).1 (⟨x.1, (t0 == 0), false, 0⟩, A8, c8) HX.out (by rw [(room_us HOK.out x.1).2]; exact HU.out) w8 (HCB.out.below HB8.out) (valF_new HCB.out HDR.out.size ho))); clear ho hb; unfold cV at HUSE)
          | (go_at_call 44; refine HUSE.out.mono ?_; rintro e w9 ⟨rfl, hat, htu⟩; (have HE9 := HE8.out.touchT htu (H.out.not3 (Nat.le_refl _))); (have HX9 := HX8.out.touchT htu (H.out.not3 HG4.out.1)); (have HK9 : Hid (w9.cell? ⟨w.heap.size, 0, none⟩ = some (.string ⟨x.1.k.toArray⟩) ∧ w9.cell? ⟨w.heap.size, 1, none⟩ = some (.int .i64 x.1.s) ∧ w9.cell? ⟨w.heap.size, 2, none⟩ = some (.int .i64 x.1.u) ∧ w9.cell? ⟨w.heap.size, 3, none⟩ = some (.int .i64 x.1.o) ∧ w9.cell? ⟨w.heap.size, 4, none⟩ = some (.bool x.1.has) ∧ w9.cell? ⟨w.heap.size, 5, none⟩ = some (.slice x.2.1 x.1.v.length x.2.2) ∧ w9.cell? ⟨w3.heap.size, 6, none⟩ = some (.bool false)) := Lib.hid ⟨HE9.is 0 _ rfl, HE9.is 1 _ rfl, HE9.is 2 _ rfl, HE9.is 3 _ rfl, HE9.is 4 _ rfl, HE9.is 5 _ rfl, HX9.is 6 _ rfl⟩); (have HFIN := Lib.hid (And.intro hat ((HTU.out.thenBelow HB8.out).trans htu fun k hk => Or.inl hk))); clear hat htu HE9 HX9)))
    | fail "held3"
  clear HK0 HK8 HK9 HUSE HE8 HX8
  go_wp2_with fail
  go_ret
  exact ⟨rfl, HFIN.out.1, HFIN.out.2⟩
theorem store_none_busy {F : Nat → Prop} {g b tk c : Nat} {S : Cl} {V : List CV} (ok : OkC S) (x : EV) (hx : okE x.1) (hs : x.1.s ≠ 0) (hu : S.us ≤ 4611686018427387904) (hM : ∀ t ∈ S.tok, t ≤ 4611686018427300000) (w : World) (h : ClB w F g b tk S V c) (hN : RowN (Own3 g b tk) w x.2.1 (x.1.v.map byteV)) (hc : x.1.v.length ≤ x.2.2) (hg : getK kC V x.1.k = none) (hq : (roomS S x.1).2 ≠ 0) :
    Calls Tryz.prog 20 #[.pointer (some ⟨g, 0, none⟩), entV ⟨x.1.k.toArray⟩ x.1.s x.1.u x.1.o x.1.has x.2.1 x.1.v.length x.2.2] w (RoomC F g b tk (S, 30) w) := by
  obtain ⟨hs1, hs2, hs3, hs4⟩ := sizE_le hx
  have H := Lib.hid h
  have HOK := Lib.hid ok
  have HX := Lib.hid hx
  have HRW := Lib.hid hN
  have HCAP : Hid (x.1.v.length ≤ x.2.2 ∧ x.1.v.length ≤ 60000) := Lib.hid ⟨hc, hs3⟩
  have HM := Lib.hid hM
  have HU : Hid (S.us ≤ 4611686018427387904) := Lib.hid hu
  have HR := Lib.hid (right_valC (x := x) hx (by omega) (by omega))
  have HAL : Hid (Below w.heap.size w (w.alloc (.cells #[.string ⟨x.1.k.toArray⟩, .int .i64 x.1.s, .int .i64 x.1.u, .int .i64 x.1.o, .bool x.1.has, .slice x.2.1 x.1.v.length x.2.2] 43))) := Lib.hid ((Below.refl _ _).alloc (Nat.le_refl _) _)
  have HBL := Lib.hid (Blk.new w 43 #[.string ⟨x.1.k.toArray⟩, .int .i64 x.1.s, .int .i64 x.1.u, .int .i64 x.1.o, .bool x.1.has, .slice x.2.1 x.1.v.length x.2.2])
  have hgl := h.lt g h.fg
  have HNN : Hid ((x.1.s == 0) = false) := Lib.hid (by simpa using hs)
  obtain ⟨t0, ht0⟩ : ∃ t0, tokK S x.1.k = t0 := ⟨_, rfl⟩
  have HTK : Hid (∀ W, Below w.heap.size w W → Calls Tryz.prog 42 #[.pointer (some ⟨g, 0, none⟩), .string ⟨x.1.k.toArray⟩] W (IsII0 t0 0 W)) := Lib.hid fun W hb => by rw [← ht0]; exact token_any ok x.1.k (by omega) W (h.below hb)
  have HLK : Hid (∀ W, Below w.heap.size w W → (Instr.lookup 71 (.map (some b)) (.string ⟨x.1.k.toArray⟩) true).run Tryz.prog W = .ok (.tuple #[.agg #[.string ⟨#[]⟩, .int .i64 0, .int .i64 0, .int .i64 0, .bool false, .slice none 0 0, .bool false, .bool false, .int .i64 0], .bool false]) W) := Lib.hid fun W hb => by
    have := look_okL h (k := x.1.k) (by unfold maxLen; omega) true W hb
    rw [show oldC V x.1.k = cvN [] by unfold oldC; rw [hg]; rfl, hg] at this
    exact this
  have HQ : Hid (roomS S x.1 = (S, 30)) := Lib.hid (room_busy ok.srt hq)
  clear h ok hx hN hc hM hs1 hs2 hs3 hs4 ht0 hs hg hq
  go_enter Tryz.func20, Tryz.ntmps20
  go_wp2_with fail
  refine (HR.out _).mono ?_
  rintro e w1 ⟨rfl, hb⟩
  have HB1 := Lib.hid (HAL.out.trans (hb.mono HAL.out.size))
  have HE1 := Lib.hid (HBL.out.below hb HBL.out.lt)
  have t1 := HE1.out.is 1 _ rfl
  have t2 := HE1.out.is 2 _ rfl
  have t3 := HE1.out.is 3 _ rfl
  clear hb
  go_wp2_with fail
  refine (none_val _ _ _ _ HNN _).mono ?_
  rintro e w2 ⟨rfl, hb⟩
  have HB2 := Lib.hid (HB1.out.trans (hb.mono HB1.out.size))
  have HE2 := Lib.hid (HE1.out.below hb HE1.out.lt)
  clear hb t1 t2 t3
  have k0 := HE2.out.is 0 _ rfl
  go_wp2_with fail
  refine (HTK.out _ HB2.out).mono ?_
  rintro e w3 ⟨rfl, hb⟩
  have HB3 := Lib.hid (HB2.out.trans (hb.mono HB2.out.size))
  have HE3 := Lib.hid (HE2.out.below hb HE2.out.lt)
  clear hb k0
  have c4 := (H.out.below HB3.out).c4
  have e0 := HE3.out.is 0 _ rfl
  have hg3 : g < w3.heap.size := Nat.lt_of_lt_of_le hgl HB3.out.size
  have he3 : w.heap.size < w3.heap.size := HE3.out.lt
  have HBA : Hid (∀ ob, Below w3.heap.size w3 (w3.alloc ob).drew) := Lib.hid fun ob => ((Below.refl _ _).alloc (Nat.le_refl _) ob).drew
  have hlkA := HLK.out w3.drew (HB3.out.trans ((Below.refl _ _).drew.mono HB3.out.size))
  have hlkB := fun ob => HLK.out (w3.alloc ob).drew (HB3.out.trans ((HBA.out ob).mono HB3.out.size))
  go_wp2_with fail
  go_region
  have HB5 := Lib.hid (HB3.out.trans ((HBA.out (.cells #[.string ⟨#[]⟩, .int .i64 0, .int .i64 0, .int .i64 0, .bool false, .slice none 0 0, .bool false, .bool false, .int .i64 0] 88)).mono HB3.out.size))
  have HE5 := Lib.hid (HE3.out.below (HBA.out (.cells #[.string ⟨#[]⟩, .int .i64 0, .int .i64 0, .int .i64 0, .bool false, .slice none 0 0, .bool false, .bool false, .int .i64 0] 88)) HE3.out.lt)
  have hX5 := Blk.new w3 88 #[.string ⟨#[]⟩, .int .i64 0, .int .i64 0, .int .i64 0, .bool false, .slice none 0 0, .bool false, .bool false, .int .i64 0]
  have HX5 := Lib.hid (hX5.below (Below.refl _ _).drew hX5.lt)
  have HG4 : Hid (w.heap.size ≤ w3.heap.size ∧ w.heap.size < w3.heap.size) := Lib.hid ⟨HB3.out.size, he3⟩
  obtain ⟨w5, hw5⟩ : ∃ w5, (w3.alloc (.cells #[.string ⟨#[]⟩, .int .i64 0, .int .i64 0, .int .i64 0, .bool false, .slice none 0 0, .bool false, .bool false, .int .i64 0] 88)).drew = w5 := ⟨_, rfl⟩
  rw [hw5] at HB5 HE5 HX5 ⊢
  clear hX5 c4 e0 hg3 he3 hlkA hlkB hw5
  have q0 := HE5.out.is 0 _ rfl
  have q1 := HE5.out.is 1 _ rfl
  have q2 := HE5.out.is 2 _ rfl
  have q3 := HE5.out.is 3 _ rfl
  have q4 := HE5.out.is 4 _ rfl
  have q5 := HE5.out.is 5 _ rfl
  have HMK := Lib.hid fun W (hb : Below w.heap.size w W) => makeRoom_any HOK.out x.1 x.2.1 x.2.2 HX.out HM.out W ⟨V, c, H.out.below hb⟩
  rw [HQ.out] at HMK
  go_wp2_with fail
  refine (HMK.out _ HB5.out).mono ?_
  rintro e w7 ⟨rfl, ⟨V7, c7, hcb⟩, htu⟩
  have HCB := Lib.hid hcb
  have HTU : Hid (Touch (Own3 g b tk) w w7) := Lib.hid ((Touch.ofBelow HB5.out).trans htu fun k hk => Or.inl hk)
  have HE7 := Lib.hid ((HE5.out.touchT htu (H.out.not3 (Nat.le_refl _))))
  have HX7 := Lib.hid ((HX5.out.touchT htu (H.out.not3 HG4.out.1)))
  clear hcb htu q0 q1 q2 q3 q4 q5
  go_wp2_with fail
  go_ret
  exact ⟨rfl, ⟨V7, c7, HCB.out⟩, HTU.out⟩
theorem store_some_use {F : Nat → Prop} {g b tk c : Nat} {S : Cl} {V : List CV} (ok : OkC S) (x : EV) (y : CV) (hx : okE x.1) (hs : x.1.s ≠ 0) (hu : S.us ≤ 4611686018427387904) (hM : ∀ t ∈ S.tok, t ≤ 4611686018427300000) (w : World) (h : ClB w F g b tk S V c) (hN : RowN (Own3 g b tk) w x.2.1 (x.1.v.map byteV)) (hc : x.1.v.length ≤ x.2.2) (hg : getK kC V x.1.k = some y) (hp : 0 ≤ cE y.1.e x.1) :
    Calls Tryz.prog 20 #[.pointer (some ⟨g, 0, none⟩), entV ⟨x.1.k.toArray⟩ x.1.s x.1.u x.1.o x.1.has x.2.1 x.1.v.length x.2.2] w (RoomC F g b tk (useS S y.1, 0) w) := by
  obtain ⟨hs1, hs2, hs3, hs4⟩ := sizE_le hx
  have H := Lib.hid h
  have HOK := Lib.hid ok
  have HX := Lib.hid hx
  have HRW := Lib.hid hN
  have HCAP : Hid (x.1.v.length ≤ x.2.2 ∧ x.1.v.length ≤ 60000) := Lib.hid ⟨hc, hs3⟩
  have HM := Lib.hid hM
  have HU : Hid (S.us ≤ 4611686018427387904) := Lib.hid hu
  have HR := Lib.hid (right_valC (x := x) hx (by omega) (by omega))
  have HAL : Hid (Below w.heap.size w (w.alloc (.cells #[.string ⟨x.1.k.toArray⟩, .int .i64 x.1.s, .int .i64 x.1.u, .int .i64 x.1.o, .bool x.1.has, .slice x.2.1 x.1.v.length x.2.2] 43))) := Lib.hid ((Below.refl _ _).alloc (Nat.le_refl _) _)
  have HBL := Lib.hid (Blk.new w 43 #[.string ⟨x.1.k.toArray⟩, .int .i64 x.1.s, .int .i64 x.1.u, .int .i64 x.1.o, .bool x.1.has, .slice x.2.1 x.1.v.length x.2.2])
  have hgl := h.lt g h.fg
  have HNN : Hid ((x.1.s == 0) = false) := Lib.hid (by simpa using hs)
  obtain ⟨t0, ht0⟩ : ∃ t0, tokK S x.1.k = t0 := ⟨_, rfl⟩
  have HTK : Hid (∀ W, Below w.heap.size w W → Calls Tryz.prog 42 #[.pointer (some ⟨g, 0, none⟩), .string ⟨x.1.k.toArray⟩] W (IsII0 t0 0 W)) := Lib.hid fun W hb => by rw [← ht0]; exact token_any ok x.1.k (by omega) W (h.below hb)
  have HYM := Lib.hid (get_some hg).1
  have HYO := Lib.hid (h.okE ok (get_some hg).1)
  have hyk : y.1.e.k = x.1.k := (get_some hg).2
  obtain ⟨bw, hbw⟩ : ∃ bw, y.1.wh = bw := ⟨_, rfl⟩
  have HBW := Lib.hid hbw
  obtain ⟨cv, hcv⟩ : ∃ cv, cE y.1.e x.1 = cv := ⟨_, rfl⟩
  have HCV : Hid (cmpT y.1.e.s y.1.e.u y.1.e.o x.1.s x.1.u x.1.o = cv) := Lib.hid hcv
  rw [hcv] at hp
  have HLK : Hid (∀ W, Below w.heap.size w W → (Instr.lookup 71 (.map (some b)) (.string ⟨x.1.k.toArray⟩) true).run Tryz.prog W = .ok (.tuple #[.agg #[.string ⟨y.1.e.k.toArray⟩, .int .i64 y.1.e.s, .int .i64 y.1.e.u, .int .i64 y.1.e.o, .bool y.1.e.has, .slice y.2.1 y.1.e.v.length y.2.2, .bool bw, .bool y.1.cl, .int .i64 y.1.us], .bool true]) W) := Lib.hid fun W hb => by
    have := look_okL h (k := x.1.k) (by unfold maxLen; omega) true W hb
    rw [show oldC V x.1.k = y by unfold oldC; rw [hg]; rfl, hg] at this
    unfold cV at this
    rw [hbw] at this
    exact this
  clear h ok hx hN hc hM hs1 hs2 hs3 hs4 ht0 hs hg hyk hbw hcv
  go_enter Tryz.func20, Tryz.ntmps20
  go_wp2_with fail
  refine (HR.out _).mono ?_
  rintro e w1 ⟨rfl, hb⟩
  have HB1 := Lib.hid (HAL.out.trans (hb.mono HAL.out.size))
  have HE1 := Lib.hid (HBL.out.below hb HBL.out.lt)
  have t1 := HE1.out.is 1 _ rfl
  have t2 := HE1.out.is 2 _ rfl
  have t3 := HE1.out.is 3 _ rfl
  clear hb
  go_wp2_with fail
  refine (none_val _ _ _ _ HNN _).mono ?_
  rintro e w2 ⟨rfl, hb⟩
  have HB2 := Lib.hid (HB1.out.trans (hb.mono HB1.out.size))
  have HE2 := Lib.hid (HE1.out.below hb HE1.out.lt)
  clear hb t1 t2 t3
  have k0 := HE2.out.is 0 _ rfl
  go_wp2_with fail
  refine (HTK.out _ HB2.out).mono ?_
  rintro e w3 ⟨rfl, hb⟩
  have HB3 := Lib.hid (HB2.out.trans (hb.mono HB2.out.size))
  have HE3 := Lib.hid (HE2.out.below hb HE2.out.lt)
  clear hb k0
  have c4 := (H.out.below HB3.out).c4
  have e0 := HE3.out.is 0 _ rfl
  have hg3 : g < w3.heap.size := Nat.lt_of_lt_of_le hgl HB3.out.size
  have he3 : w.heap.size < w3.heap.size := HE3.out.lt
  have HBA : Hid (∀ ob, Below w3.heap.size w3 (w3.alloc ob).drew) := Lib.hid fun ob => ((Below.refl _ _).alloc (Nat.le_refl _) ob).drew
  have hlkA := HLK.out w3.drew (HB3.out.trans ((Below.refl _ _).drew.mono HB3.out.size))
  have hlkB := fun ob => HLK.out (w3.alloc ob).drew (HB3.out.trans ((HBA.out ob).mono HB3.out.size))
  go_wp2_with fail
  go_region
  have HB5 := Lib.hid (HB3.out.trans ((HBA.out (.cells #[.string ⟨y.1.e.k.toArray⟩, .int .i64 y.1.e.s, .int .i64 y.1.e.u, .int .i64 y.1.e.o, .bool y.1.e.has, .slice y.2.1 y.1.e.v.length y.2.2, .bool bw, .bool y.1.cl, .int .i64 y.1.us] 88)).mono HB3.out.size))
  have HE5 := Lib.hid (HE3.out.below (HBA.out (.cells #[.string ⟨y.1.e.k.toArray⟩, .int .i64 y.1.e.s, .int .i64 y.1.e.u, .int .i64 y.1.e.o, .bool y.1.e.has, .slice y.2.1 y.1.e.v.length y.2.2, .bool bw, .bool y.1.cl, .int .i64 y.1.us] 88)) HE3.out.lt)
  have hX5 := Blk.new w3 88 #[.string ⟨y.1.e.k.toArray⟩, .int .i64 y.1.e.s, .int .i64 y.1.e.u, .int .i64 y.1.e.o, .bool y.1.e.has, .slice y.2.1 y.1.e.v.length y.2.2, .bool bw, .bool y.1.cl, .int .i64 y.1.us]
  have HX5 := Lib.hid (hX5.below (Below.refl _ _).drew hX5.lt)
  have HG4 : Hid (w.heap.size ≤ w3.heap.size ∧ w.heap.size < w3.heap.size) := Lib.hid ⟨HB3.out.size, he3⟩
  obtain ⟨w5, hw5⟩ : ∃ w5, (w3.alloc (.cells #[.string ⟨y.1.e.k.toArray⟩, .int .i64 y.1.e.s, .int .i64 y.1.e.u, .int .i64 y.1.e.o, .bool y.1.e.has, .slice y.2.1 y.1.e.v.length y.2.2, .bool bw, .bool y.1.cl, .int .i64 y.1.us] 88)).drew = w5 := ⟨_, rfl⟩
  rw [hw5] at HB5 HE5 HX5 ⊢
  clear hX5 c4 e0 hg3 he3 hlkA hlkB hw5
  have x1 := HX5.out.is 1 _ rfl
  have x2 := HX5.out.is 2 _ rfl
  have x3 := HX5.out.is 3 _ rfl
  have q1 := HE5.out.is 1 _ rfl
  have q2 := HE5.out.is 2 _ rfl
  have q3 := HE5.out.is 3 _ rfl
  go_wp2_with fail
  refine (compare_val _ _ _ _ _ _ _ HCV _).mono ?_
  rintro e w6 ⟨rfl, hb⟩
  have HB6 := Lib.hid (HB5.out.trans (hb.mono HB5.out.size))
  have HE6 := Lib.hid (HE5.out.below hb HE5.out.lt)
  have HX6 := Lib.hid (HX5.out.below hb HX5.out.lt)
  clear hb x1 x2 x3 q1 q2 q3
  have x0 := HX6.out.is 0 _ rfl
  have x1 := HX6.out.is 1 _ rfl
  have x2 := HX6.out.is 2 _ rfl
  have x3 := HX6.out.is 3 _ rfl
  have x4 := HX6.out.is 4 _ rfl
  have x5 := HX6.out.is 5 _ rfl
  have x6 := HX6.out.is 6 _ rfl
  have x7 := HX6.out.is 7 _ rfl
  have x8 := HX6.out.is 8 _ rfl
  have HUSE : Hid (Calls Tryz.prog 44 #[.pointer (some ⟨g, 0, none⟩), .agg #[.string ⟨y.1.e.k.toArray⟩, .int .i64 y.1.e.s, .int .i64 y.1.e.u, .int .i64 y.1.e.o, .bool y.1.e.has, .slice y.2.1 y.1.e.v.length y.2.2, .bool bw, .bool y.1.cl, .int .i64 y.1.us]] w6 (UsedC F g b tk (useS S y.1) w6)) := Lib.hid (by
    have := use_any HOK.out y HYO.out HU.out w6 (H.out.below HB6.out) ((H.out.below HB6.out).val y HYM.out)
    unfold cV at this
    rw [HBW.out] at this
    exact this)
  have HB7 := HB6
  go_wp2_with fail
  refine HUSE.out.mono ?_
  rintro e w8 ⟨rfl, hat, htu⟩
  have HFIN := Lib.hid (And.intro hat ((Touch.ofBelow HB7.out).trans htu fun k hk => Or.inl hk))
  clear hat htu
  go_wp2_with fail
  go_ret
  exact ⟨rfl, HFIN.out.1, HFIN.out.2⟩
theorem store_some_lay {F : Nat → Prop} {g b tk c : Nat} {S : Cl} {V : List CV} (ok : OkC S) (x : EV) (y : CV) (hx : okE x.1) (hs : x.1.s ≠ 0) (hu : S.us ≤ 4611686018427387904) (hM : ∀ t ∈ S.tok, t ≤ 4611686018427300000) (w : World) (h : ClB w F g b tk S V c) (hN : RowN (Own3 g b tk) w x.2.1 (x.1.v.map byteV)) (hc : x.1.v.length ≤ x.2.2) (hg : getK kC V x.1.k = some y) (hp : ¬ 0 ≤ cE y.1.e x.1) (hq : (roomS S x.1).2 = 0) :
    Calls Tryz.prog 20 #[.pointer (some ⟨g, 0, none⟩), entV ⟨x.1.k.toArray⟩ x.1.s x.1.u x.1.o x.1.has x.2.1 x.1.v.length x.2.2] w (RoomC F g b tk (useS (roomS S x.1).1 ⟨x.1, y.1.wh, false, 0⟩, 0) w) := by
  obtain ⟨hs1, hs2, hs3, hs4⟩ := sizE_le hx
  have H := Lib.hid h
  have HOK := Lib.hid ok
  have HX := Lib.hid hx
  have HRW := Lib.hid hN
  have HCAP : Hid (x.1.v.length ≤ x.2.2 ∧ x.1.v.length ≤ 60000) := Lib.hid ⟨hc, hs3⟩
  have HM := Lib.hid hM
  have HU : Hid (S.us ≤ 4611686018427387904) := Lib.hid hu
  have HR := Lib.hid (right_valC (x := x) hx (by omega) (by omega))
  have HAL : Hid (Below w.heap.size w (w.alloc (.cells #[.string ⟨x.1.k.toArray⟩, .int .i64 x.1.s, .int .i64 x.1.u, .int .i64 x.1.o, .bool x.1.has, .slice x.2.1 x.1.v.length x.2.2] 43))) := Lib.hid ((Below.refl _ _).alloc (Nat.le_refl _) _)
  have HBL := Lib.hid (Blk.new w 43 #[.string ⟨x.1.k.toArray⟩, .int .i64 x.1.s, .int .i64 x.1.u, .int .i64 x.1.o, .bool x.1.has, .slice x.2.1 x.1.v.length x.2.2])
  have hgl := h.lt g h.fg
  have HNN : Hid ((x.1.s == 0) = false) := Lib.hid (by simpa using hs)
  obtain ⟨t0, ht0⟩ : ∃ t0, tokK S x.1.k = t0 := ⟨_, rfl⟩
  have HTK : Hid (∀ W, Below w.heap.size w W → Calls Tryz.prog 42 #[.pointer (some ⟨g, 0, none⟩), .string ⟨x.1.k.toArray⟩] W (IsII0 t0 0 W)) := Lib.hid fun W hb => by rw [← ht0]; exact token_any ok x.1.k (by omega) W (h.below hb)
  have HYM := Lib.hid (get_some hg).1
  have HYO := Lib.hid (h.okE ok (get_some hg).1)
  have hyk : y.1.e.k = x.1.k := (get_some hg).2
  obtain ⟨bw, hbw⟩ : ∃ bw, y.1.wh = bw := ⟨_, rfl⟩
  have HBW := Lib.hid hbw
  obtain ⟨cv, hcv⟩ : ∃ cv, cE y.1.e x.1 = cv := ⟨_, rfl⟩
  have HCV : Hid (cmpT y.1.e.s y.1.e.u y.1.e.o x.1.s x.1.u x.1.o = cv) := Lib.hid hcv
  rw [hcv] at hp
  have hp2 : cv < 0 := by omega
  rw [hbw]
  have HLK : Hid (∀ W, Below w.heap.size w W → (Instr.lookup 71 (.map (some b)) (.string ⟨x.1.k.toArray⟩) true).run Tryz.prog W = .ok (.tuple #[.agg #[.string ⟨y.1.e.k.toArray⟩, .int .i64 y.1.e.s, .int .i64 y.1.e.u, .int .i64 y.1.e.o, .bool y.1.e.has, .slice y.2.1 y.1.e.v.length y.2.2, .bool bw, .bool y.1.cl, .int .i64 y.1.us], .bool true]) W) := Lib.hid fun W hb => by
    have := look_okL h (k := x.1.k) (by unfold maxLen; omega) true W hb
    rw [show oldC V x.1.k = y by unfold oldC; rw [hg]; rfl, hg] at this
    unfold cV at this
    rw [hbw] at this
    exact this
  have HQ : Hid ((roomS S x.1).2 = 0) := Lib.hid hq
  clear h ok hx hN hc hM hs1 hs2 hs3 hs4 ht0 hs hg hyk hbw hcv hq hp
  rcases bw with _ | _
  · go_enter Tryz.func20, Tryz.ntmps20
    go_wp2_with fail
    refine (HR.out _).mono ?_
    rintro e w1 ⟨rfl, hb⟩
    have HB1 := Lib.hid (HAL.out.trans (hb.mono HAL.out.size))
    have HE1 := Lib.hid (HBL.out.below hb HBL.out.lt)
    have t1 := HE1.out.is 1 _ rfl
    have t2 := HE1.out.is 2 _ rfl
    have t3 := HE1.out.is 3 _ rfl
    clear hb
    go_wp2_with fail
    refine (none_val _ _ _ _ HNN _).mono ?_
    rintro e w2 ⟨rfl, hb⟩
    have HB2 := Lib.hid (HB1.out.trans (hb.mono HB1.out.size))
    have HE2 := Lib.hid (HE1.out.below hb HE1.out.lt)
    clear hb t1 t2 t3
    have k0 := HE2.out.is 0 _ rfl
    go_wp2_with fail
    refine (HTK.out _ HB2.out).mono ?_
    rintro e w3 ⟨rfl, hb⟩
    have HB3 := Lib.hid (HB2.out.trans (hb.mono HB2.out.size))
    have HE3 := Lib.hid (HE2.out.below hb HE2.out.lt)
    clear hb k0
    have c4 := (H.out.below HB3.out).c4
    have e0 := HE3.out.is 0 _ rfl
    have hg3 : g < w3.heap.size := Nat.lt_of_lt_of_le hgl HB3.out.size
    have he3 : w.heap.size < w3.heap.size := HE3.out.lt
    have HBA : Hid (∀ ob, Below w3.heap.size w3 (w3.alloc ob).drew) := Lib.hid fun ob => ((Below.refl _ _).alloc (Nat.le_refl _) ob).drew
    have hlkA := HLK.out w3.drew (HB3.out.trans ((Below.refl _ _).drew.mono HB3.out.size))
    have hlkB := fun ob => HLK.out (w3.alloc ob).drew (HB3.out.trans ((HBA.out ob).mono HB3.out.size))
    go_wp2_with fail
    go_region
    have HB5 := Lib.hid (HB3.out.trans ((HBA.out (.cells #[.string ⟨y.1.e.k.toArray⟩, .int .i64 y.1.e.s, .int .i64 y.1.e.u, .int .i64 y.1.e.o, .bool y.1.e.has, .slice y.2.1 y.1.e.v.length y.2.2, .bool false, .bool y.1.cl, .int .i64 y.1.us] 88)).mono HB3.out.size))
    have HE5 := Lib.hid (HE3.out.below (HBA.out (.cells #[.string ⟨y.1.e.k.toArray⟩, .int .i64 y.1.e.s, .int .i64 y.1.e.u, .int .i64 y.1.e.o, .bool y.1.e.has, .slice y.2.1 y.1.e.v.length y.2.2, .bool false, .bool y.1.cl, .int .i64 y.1.us] 88)) HE3.out.lt)
    have hX5 := Blk.new w3 88 #[.string ⟨y.1.e.k.toArray⟩, .int .i64 y.1.e.s, .int .i64 y.1.e.u, .int .i64 y.1.e.o, .bool y.1.e.has, .slice y.2.1 y.1.e.v.length y.2.2, .bool false, .bool y.1.cl, .int .i64 y.1.us]
    have HX5 := Lib.hid (hX5.below (Below.refl _ _).drew hX5.lt)
    have HG4 : Hid (w.heap.size ≤ w3.heap.size ∧ w.heap.size < w3.heap.size) := Lib.hid ⟨HB3.out.size, he3⟩
    obtain ⟨w5, hw5⟩ : ∃ w5, (w3.alloc (.cells #[.string ⟨y.1.e.k.toArray⟩, .int .i64 y.1.e.s, .int .i64 y.1.e.u, .int .i64 y.1.e.o, .bool y.1.e.has, .slice y.2.1 y.1.e.v.length y.2.2, .bool false, .bool y.1.cl, .int .i64 y.1.us] 88)).drew = w5 := ⟨_, rfl⟩
    rw [hw5] at HB5 HE5 HX5 ⊢
    clear hX5 c4 e0 hg3 he3 hlkA hlkB hw5
    have x1 := HX5.out.is 1 _ rfl
    have x2 := HX5.out.is 2 _ rfl
    have x3 := HX5.out.is 3 _ rfl
    have q1 := HE5.out.is 1 _ rfl
    have q2 := HE5.out.is 2 _ rfl
    have q3 := HE5.out.is 3 _ rfl
    go_wp2_with fail
    refine (compare_val _ _ _ _ _ _ _ HCV _).mono ?_
    rintro e w6 ⟨rfl, hb⟩
    have HB6 := Lib.hid (HB5.out.trans (hb.mono HB5.out.size))
    have HE6 := Lib.hid (HE5.out.below hb HE5.out.lt)
    have HX6 := Lib.hid (HX5.out.below hb HX5.out.lt)
    clear hb x1 x2 x3 q1 q2 q3
    have q0 := HE6.out.is 0 _ rfl
    have q1 := HE6.out.is 1 _ rfl
    have q2 := HE6.out.is 2 _ rfl
    have q3 := HE6.out.is 3 _ rfl
    have q4 := HE6.out.is 4 _ rfl
    have q5 := HE6.out.is 5 _ rfl
    have HMK := Lib.hid fun W (hb : Below w.heap.size w W) => makeRoom_any HOK.out x.1 x.2.1 x.2.2 HX.out HM.out W ⟨V, c, H.out.below hb⟩

    go_wp2_with fail
    refine (HMK.out _ HB6.out).mono ?_
    rintro e w7 ⟨rfl, ⟨V7, c7, hcb⟩, htu⟩
    have HCB := Lib.hid hcb
    have HTU : Hid (Touch (Own3 g b tk) w w7) := Lib.hid ((Touch.ofBelow HB6.out).trans htu fun k hk => Or.inl hk)
    have HE7 := Lib.hid ((HE6.out.touchT htu (H.out.not3 (Nat.le_refl _))))
    have HX7 := Lib.hid ((HX6.out.touchT htu (H.out.not3 HG4.out.1)))
    clear hcb htu q0 q1 q2 q3 q4 q5
    rw [HQ.out]
    have HDR : Hid (Below w7.heap.size w7 w7.drew) := Lib.hid (Below.refl _ _).drew
    have HVO : Hid (ValOk w7 x.1.has x.2.1 x.1.v x.2.2) := Lib.hid ⟨(HRW.out.touch HTU.out).row, by have := HCAP.out.2; omega, HCAP.out.1⟩
    have HCPY : Hid (∀ W, Below w7.heap.size w7 W → Calls Tryz.prog 37 #[entV ⟨x.1.k.toArray⟩ x.1.s x.1.u x.1.o x.1.has x.2.1 x.1.v.length x.2.2] W (MadeE W.heap.size ⟨x.1.k.toArray⟩ x.1.s x.1.u x.1.o x.1.has x.1.v W)) := Lib.hid fun W hb => copyE_any ⟨x.1.k.toArray⟩ x.1.s x.1.u x.1.o x.1.has x.2.1 x.1.v x.1.v.length x.2.2 rfl W (HVO.out.below hb)
    have s0 := HE7.out.is 0 _ rfl
    have s1 := HE7.out.is 1 _ rfl
    have s2 := HE7.out.is 2 _ rfl
    have s3 := HE7.out.is 3 _ rfl
    have s4 := HE7.out.is 4 _ rfl
    have s5 := HE7.out.is 5 _ rfl
    have s6 := HX7.out.is 6 _ rfl
    have HK0 : Hid (w7.drew.cell? ⟨w.heap.size, 0, none⟩ = some (.string ⟨x.1.k.toArray⟩) ∧ w7.drew.cell? ⟨w.heap.size, 1, none⟩ = some (.int .i64 x.1.s) ∧ w7.drew.cell? ⟨w.heap.size, 2, none⟩ = some (.int .i64 x.1.u) ∧ w7.drew.cell? ⟨w.heap.size, 3, none⟩ = some (.int .i64 x.1.o) ∧ w7.drew.cell? ⟨w.heap.size, 4, none⟩ = some (.bool x.1.has) ∧ w7.drew.cell? ⟨w.heap.size, 5, none⟩ = some (.slice x.2.1 x.1.v.length x.2.2) ∧ w7.drew.cell? ⟨w3.heap.size, 6, none⟩ = some (.bool false)) := Lib.hid ⟨s0, s1, s2, s3, s4, s5, s6⟩
    go_wp2_with fail
    refine wp_region_held_drew (S := fun W => W.cell? ⟨w.heap.size, 0, none⟩ = some (.string ⟨x.1.k.toArray⟩) ∧ W.cell? ⟨w.heap.size, 1, none⟩ = some (.int .i64 x.1.s) ∧ W.cell? ⟨w.heap.size, 2, none⟩ = some (.int .i64 x.1.u) ∧ W.cell? ⟨w.heap.size, 3, none⟩ = some (.int .i64 x.1.o) ∧ W.cell? ⟨w.heap.size, 4, none⟩ = some (.bool x.1.has) ∧ W.cell? ⟨w.heap.size, 5, none⟩ = some (.slice x.2.1 x.1.v.length x.2.2) ∧ W.cell? ⟨w3.heap.size, 6, none⟩ = some (.bool false)) (by kernel_rfl) HK0.out (fun hHeld => ?_)
    refine wpAnyH_take (i := 0) (v := .pointer (some ⟨g, 0, none⟩)) rfl (by kernel_rfl) (by kernel_rfl) (by kernel_rfl) (fun _ _ _ h => h) (Or.inl ⟨by rfl, ?_⟩) (by assumption) ?_
    · intro W hSw
      try dsimp only at hSw
      obtain ⟨h0, h1, h2, h3, h4, h5, h6⟩ := hSw
      go_simp
    try simp only [Act.put, List.setIfInBounds_toArray, List.set_cons_zero, List.set_cons_succ]
    refine wpAnyH_take (i := 1) (v := entV ⟨x.1.k.toArray⟩ x.1.s x.1.u x.1.o x.1.has x.2.1 x.1.v.length x.2.2) rfl (by kernel_rfl) (by kernel_rfl) (by kernel_rfl) (fun _ _ _ h => h) (Or.inl ⟨by rfl, ?_⟩) (by assumption) ?_
    · intro W hSw
      try dsimp only at hSw
      obtain ⟨h0, h1, h2, h3, h4, h5, h6⟩ := hSw
      go_simp
    try simp only [Act.put, List.setIfInBounds_toArray, List.set_cons_zero, List.set_cons_succ]
    refine wpAnyH_take (i := 3) (v := .pointer (some ⟨w3.heap.size, 6, none⟩)) rfl (by kernel_rfl) (by kernel_rfl) (by kernel_rfl) (fun _ _ _ h => h) (Or.inl ⟨by rfl, ?_⟩) (by assumption) ?_
    · intro W hSw
      try dsimp only at hSw
      obtain ⟨h0, h1, h2, h3, h4, h5, h6⟩ := hSw
      go_simp
    try simp only [Act.put, List.setIfInBounds_toArray, List.set_cons_zero, List.set_cons_succ]
    refine wpAnyH_take (i := 4) (v := .bool false) rfl (by kernel_rfl) (by kernel_rfl) (by kernel_rfl) (fun _ _ _ h => h) (Or.inl ⟨by rfl, ?_⟩) (by assumption) ?_
    · intro W hSw
      try dsimp only at hSw
      obtain ⟨h0, h1, h2, h3, h4, h5, h6⟩ := hSw
      go_simp
    try simp only [Act.put, List.setIfInBounds_toArray, List.set_cons_zero, List.set_cons_succ]
    refine wpAnyH_ready (rs := [2]) (by kernel_rfl) (by simp) ?_
    refine AllReadyH.cons rfl (fun K hK => ?_) AllReadyH.nil
    go_simp
    go_at_call 37
    refine (HCPY.out _ HDR.out).mono ?_
    rintro e w8 ⟨A8, c8, rfl, ho, hb⟩
    have HB8 := Lib.hid (HDR.out.trans (hb.mono HDR.out.size))
    have HE8 := Lib.hid (HE7.out.below HB8.out HE7.out.lt)
    have HX8 := Lib.hid (HX7.out.below HB8.out HX7.out.lt)
    have HK8 : Hid (w8.cell? ⟨w.heap.size, 0, none⟩ = some (.string ⟨x.1.k.toArray⟩) ∧ w8.cell? ⟨w.heap.size, 1, none⟩ = some (.int .i64 x.1.s) ∧ w8.cell? ⟨w.heap.size, 2, none⟩ = some (.int .i64 x.1.u) ∧ w8.cell? ⟨w.heap.size, 3, none⟩ = some (.int .i64 x.1.o) ∧ w8.cell? ⟨w.heap.size, 4, none⟩ = some (.bool x.1.has) ∧ w8.cell? ⟨w.heap.size, 5, none⟩ = some (.slice x.2.1 x.1.v.length x.2.2) ∧ w8.cell? ⟨w3.heap.size, 6, none⟩ = some (.bool false)) := Lib.hid ⟨HE8.out.is 0 _ rfl, HE8.out.is 1 _ rfl, HE8.out.is 2 _ rfl, HE8.out.is 3 _ rfl, HE8.out.is 4 _ rfl, HE8.out.is 5 _ rfl, HX8.out.is 6 _ rfl⟩

    have HUSE := Lib.hid (use_any (room_us HOK.out x.1).1 (⟨x.1, false, false, 0⟩, A8, c8) HX.out (by rw [(room_us HOK.out x.1).2]; exact HU.out) w8 (HCB.out.below HB8.out) (valF_new HCB.out HDR.out.size ho))
    clear ho hb
    unfold cV at HUSE
    refine hK.out _ _ HK8.out (fun hHeld2 => ?_)
    clear hK K hHeld
    try simp only [Act.put, List.setIfInBounds_toArray, List.set_cons_zero, List.set_cons_succ]
    refine wpAnyH_take (i := 5) (v := .bool false) rfl (by kernel_rfl) (by kernel_rfl) (by kernel_rfl) (fun _ _ _ h => h) (Or.inl ⟨by rfl, ?_⟩) (by assumption) ?_
    · intro W hSw
      try dsimp only at hSw
      obtain ⟨h0, h1, h2, h3, h4, h5, h6⟩ := hSw
      go_simp
    try simp only [Act.put, List.setIfInBounds_toArray, List.set_cons_zero, List.set_cons_succ]
    refine wpAnyH_take (i := 6) (v := .bool true) rfl (by kernel_rfl) (by kernel_rfl) (by kernel_rfl) (fun _ _ _ h => h) (Or.inl ⟨by rfl, ?_⟩) (by assumption) ?_
    · intro W hSw
      try dsimp only at hSw
      obtain ⟨h0, h1, h2, h3, h4, h5, h6⟩ := hSw
      go_simp
    try simp only [Act.put, List.setIfInBounds_toArray, List.set_cons_zero, List.set_cons_succ]
    refine wpAnyH_take (i := 7) (v := .bool false) rfl (by kernel_rfl) (by kernel_rfl) (by kernel_rfl) (fun _ _ _ h => h) (Or.inl ⟨by rfl, ?_⟩) (by assumption) ?_
    · intro W hSw
      try dsimp only at hSw
      obtain ⟨h0, h1, h2, h3, h4, h5, h6⟩ := hSw
      go_simp
    try simp only [Act.put, List.setIfInBounds_toArray, List.set_cons_zero, List.set_cons_succ]
    refine wpAnyH_take (i := 8) (v := .bool false) rfl (by kernel_rfl) (by kernel_rfl) (by kernel_rfl) (fun _ _ _ h => h) (Or.inl ⟨by rfl, ?_⟩) (by assumption) ?_
    · intro W hSw
      try dsimp only at hSw
      obtain ⟨h0, h1, h2, h3, h4, h5, h6⟩ := hSw
      go_simp
    try simp only [Act.put, List.setIfInBounds_toArray, List.set_cons_zero, List.set_cons_succ]
    refine wpAnyH_take (i := 9) (v := undef) rfl (by kernel_rfl) (by kernel_rfl) (by kernel_rfl) (fun _ _ _ h => h) (Or.inr ⟨by rfl, rfl⟩) (by assumption) ?_
    try simp only [Act.put, List.setIfInBounds_toArray, List.set_cons_zero, List.set_cons_succ]
    refine wpAnyH_take (i := 10) (v := undef) rfl (by kernel_rfl) (by kernel_rfl) (by kernel_rfl) (fun _ _ _ h => h) (Or.inr ⟨by rfl, rfl⟩) (by assumption) ?_
    try simp only [Act.put, List.setIfInBounds_toArray, List.set_cons_zero, List.set_cons_succ]
    refine wpAnyH_take (i := 11) (v := .bool false) rfl (by kernel_rfl) (by kernel_rfl) (by kernel_rfl) (fun _ _ _ h => h) (Or.inl ⟨by rfl, ?_⟩) (by assumption) ?_
    · intro W hSw
      try dsimp only at hSw
      obtain ⟨h0, h1, h2, h3, h4, h5, h6⟩ := hSw
      go_simp
    try simp only [Act.put, List.setIfInBounds_toArray, List.set_cons_zero, List.set_cons_succ]
    refine wpAnyH_take (i := 12) (v := .bool false) rfl (by kernel_rfl) (by kernel_rfl) (by kernel_rfl) (fun _ _ _ h => h) (Or.inl ⟨by rfl, ?_⟩) (by assumption) ?_
    · intro W hSw
      try dsimp only at hSw
      obtain ⟨h0, h1, h2, h3, h4, h5, h6⟩ := hSw
      go_simp
    try simp only [Act.put, List.setIfInBounds_toArray, List.set_cons_zero, List.set_cons_succ]
    refine wpAnyH_take (i := 13) (v := .agg #[.string ⟨x.1.k.toArray⟩, .int .i64 x.1.s, .int .i64 x.1.u, .int .i64 x.1.o, .bool x.1.has, .slice A8 x.1.v.length c8, .bool false, .bool false, .int .i64 0]) rfl (by kernel_rfl) (by kernel_rfl) (by kernel_rfl) (fun _ _ _ h => h) (Or.inl ⟨by rfl, ?_⟩) (by assumption) ?_
    · intro W hSw
      try dsimp only at hSw
      obtain ⟨h0, h1, h2, h3, h4, h5, h6⟩ := hSw
      go_simp
    try simp only [Act.put, List.setIfInBounds_toArray, List.set_cons_zero, List.set_cons_succ]
    refine wpAnyH_ready (rs := [14]) (by kernel_rfl) (by simp) ?_
    refine AllReadyH.cons rfl (fun K hK => ?_) AllReadyH.nil
    go_simp
    go_at_call 44
    refine HUSE.out.mono ?_
    rintro e w9 ⟨rfl, hat, htu⟩
    have HE9 := HE8.out.touchT htu (H.out.not3 (Nat.le_refl _))
    have HX9 := HX8.out.touchT htu (H.out.not3 HG4.out.1)
    have HK9 : Hid (w9.cell? ⟨w.heap.size, 0, none⟩ = some (.string ⟨x.1.k.toArray⟩) ∧ w9.cell? ⟨w.heap.size, 1, none⟩ = some (.int .i64 x.1.s) ∧ w9.cell? ⟨w.heap.size, 2, none⟩ = some (.int .i64 x.1.u) ∧ w9.cell? ⟨w.heap.size, 3, none⟩ = some (.int .i64 x.1.o) ∧ w9.cell? ⟨w.heap.size, 4, none⟩ = some (.bool x.1.has) ∧ w9.cell? ⟨w.heap.size, 5, none⟩ = some (.slice x.2.1 x.1.v.length x.2.2) ∧ w9.cell? ⟨w3.heap.size, 6, none⟩ = some (.bool false)) := Lib.hid ⟨HE9.is 0 _ rfl, HE9.is 1 _ rfl, HE9.is 2 _ rfl, HE9.is 3 _ rfl, HE9.is 4 _ rfl, HE9.is 5 _ rfl, HX9.is 6 _ rfl⟩
    have HFIN := Lib.hid (And.intro hat ((HTU.out.thenBelow HB8.out).trans htu fun k hk => Or.inl hk))
    clear hat htu HE9 HX9
    refine hK.out _ _ HK9.out (fun hHeld3 => ?_)
    clear hK K hHeld2
    refine wpAnyH_done (by kernel_rfl) ?_ _
    clear HK0 HK8 HK9 HUSE HE8 HX8 hHeld3
    go_wp2_with fail
    go_ret
    exact ⟨rfl, HFIN.out.1, HFIN.out.2⟩
  · go_enter Tryz.func20, Tryz.ntmps20
    go_wp2_with fail
    refine (HR.out _).mono ?_
    rintro e w1 ⟨rfl, hb⟩
    have HB1 := Lib.hid (HAL.out.trans (hb.mono HAL.out.size))
    have HE1 := Lib.hid (HBL.out.below hb HBL.out.lt)
    have t1 := HE1.out.is 1 _ rfl
    have t2 := HE1.out.is 2 _ rfl
    have t3 := HE1.out.is 3 _ rfl
    clear hb
    go_wp2_with fail
    refine (none_val _ _ _ _ HNN _).mono ?_
    rintro e w2 ⟨rfl, hb⟩
    have HB2 := Lib.hid (HB1.out.trans (hb.mono HB1.out.size))
    have HE2 := Lib.hid (HE1.out.below hb HE1.out.lt)
    clear hb t1 t2 t3
    have k0 := HE2.out.is 0 _ rfl
    go_wp2_with fail
    refine (HTK.out _ HB2.out).mono ?_
    rintro e w3 ⟨rfl, hb⟩
    have HB3 := Lib.hid (HB2.out.trans (hb.mono HB2.out.size))
    have HE3 := Lib.hid (HE2.out.below hb HE2.out.lt)
    clear hb k0
    have c4 := (H.out.below HB3.out).c4
    have e0 := HE3.out.is 0 _ rfl
    have hg3 : g < w3.heap.size := Nat.lt_of_lt_of_le hgl HB3.out.size
    have he3 : w.heap.size < w3.heap.size := HE3.out.lt
    have HBA : Hid (∀ ob, Below w3.heap.size w3 (w3.alloc ob).drew) := Lib.hid fun ob => ((Below.refl _ _).alloc (Nat.le_refl _) ob).drew
    have hlkA := HLK.out w3.drew (HB3.out.trans ((Below.refl _ _).drew.mono HB3.out.size))
    have hlkB := fun ob => HLK.out (w3.alloc ob).drew (HB3.out.trans ((HBA.out ob).mono HB3.out.size))
    go_wp2_with fail
    go_region
    have HB5 := Lib.hid (HB3.out.trans ((HBA.out (.cells #[.string ⟨y.1.e.k.toArray⟩, .int .i64 y.1.e.s, .int .i64 y.1.e.u, .int .i64 y.1.e.o, .bool y.1.e.has, .slice y.2.1 y.1.e.v.length y.2.2, .bool true, .bool y.1.cl, .int .i64 y.1.us] 88)).mono HB3.out.size))
    have HE5 := Lib.hid (HE3.out.below (HBA.out (.cells #[.string ⟨y.1.e.k.toArray⟩, .int .i64 y.1.e.s, .int .i64 y.1.e.u, .int .i64 y.1.e.o, .bool y.1.e.has, .slice y.2.1 y.1.e.v.length y.2.2, .bool true, .bool y.1.cl, .int .i64 y.1.us] 88)) HE3.out.lt)
    have hX5 := Blk.new w3 88 #[.string ⟨y.1.e.k.toArray⟩, .int .i64 y.1.e.s, .int .i64 y.1.e.u, .int .i64 y.1.e.o, .bool y.1.e.has, .slice y.2.1 y.1.e.v.length y.2.2, .bool true, .bool y.1.cl, .int .i64 y.1.us]
    have HX5 := Lib.hid (hX5.below (Below.refl _ _).drew hX5.lt)
    have HG4 : Hid (w.heap.size ≤ w3.heap.size ∧ w.heap.size < w3.heap.size) := Lib.hid ⟨HB3.out.size, he3⟩
    obtain ⟨w5, hw5⟩ : ∃ w5, (w3.alloc (.cells #[.string ⟨y.1.e.k.toArray⟩, .int .i64 y.1.e.s, .int .i64 y.1.e.u, .int .i64 y.1.e.o, .bool y.1.e.has, .slice y.2.1 y.1.e.v.length y.2.2, .bool true, .bool y.1.cl, .int .i64 y.1.us] 88)).drew = w5 := ⟨_, rfl⟩
    rw [hw5] at HB5 HE5 HX5 ⊢
    clear hX5 c4 e0 hg3 he3 hlkA hlkB hw5
    have x1 := HX5.out.is 1 _ rfl
    have x2 := HX5.out.is 2 _ rfl
    have x3 := HX5.out.is 3 _ rfl
    have q1 := HE5.out.is 1 _ rfl
    have q2 := HE5.out.is 2 _ rfl
    have q3 := HE5.out.is 3 _ rfl
    go_wp2_with fail
    refine (compare_val _ _ _ _ _ _ _ HCV _).mono ?_
    rintro e w6 ⟨rfl, hb⟩
    have HB6 := Lib.hid (HB5.out.trans (hb.mono HB5.out.size))
    have HE6 := Lib.hid (HE5.out.below hb HE5.out.lt)
    have HX6 := Lib.hid (HX5.out.below hb HX5.out.lt)
    clear hb x1 x2 x3 q1 q2 q3
    have q0 := HE6.out.is 0 _ rfl
    have q1 := HE6.out.is 1 _ rfl
    have q2 := HE6.out.is 2 _ rfl
    have q3 := HE6.out.is 3 _ rfl
    have q4 := HE6.out.is 4 _ rfl
    have q5 := HE6.out.is 5 _ rfl
    have HMK := Lib.hid fun W (hb : Below w.heap.size w W) => makeRoom_any HOK.out x.1 x.2.1 x.2.2 HX.out HM.out W ⟨V, c, H.out.below hb⟩

    go_wp2_with fail
    refine (HMK.out _ HB6.out).mono ?_
    rintro e w7 ⟨rfl, ⟨V7, c7, hcb⟩, htu⟩
    have HCB := Lib.hid hcb
    have HTU : Hid (Touch (Own3 g b tk) w w7) := Lib.hid ((Touch.ofBelow HB6.out).trans htu fun k hk => Or.inl hk)
    have HE7 := Lib.hid ((HE6.out.touchT htu (H.out.not3 (Nat.le_refl _))))
    have HX7 := Lib.hid ((HX6.out.touchT htu (H.out.not3 HG4.out.1)))
    clear hcb htu q0 q1 q2 q3 q4 q5
    rw [HQ.out]
    have HDR : Hid (Below w7.heap.size w7 w7.drew) := Lib.hid (Below.refl _ _).drew
    have HVO : Hid (ValOk w7 x.1.has x.2.1 x.1.v x.2.2) := Lib.hid ⟨(HRW.out.touch HTU.out).row, by have := HCAP.out.2; omega, HCAP.out.1⟩
    have HCPY : Hid (∀ W, Below w7.heap.size w7 W → Calls Tryz.prog 37 #[entV ⟨x.1.k.toArray⟩ x.1.s x.1.u x.1.o x.1.has x.2.1 x.1.v.length x.2.2] W (MadeE W.heap.size ⟨x.1.k.toArray⟩ x.1.s x.1.u x.1.o x.1.has x.1.v W)) := Lib.hid fun W hb => copyE_any ⟨x.1.k.toArray⟩ x.1.s x.1.u x.1.o x.1.has x.2.1 x.1.v x.1.v.length x.2.2 rfl W (HVO.out.below hb)
    have s0 := HE7.out.is 0 _ rfl
    have s1 := HE7.out.is 1 _ rfl
    have s2 := HE7.out.is 2 _ rfl
    have s3 := HE7.out.is 3 _ rfl
    have s4 := HE7.out.is 4 _ rfl
    have s5 := HE7.out.is 5 _ rfl
    have s6 := HX7.out.is 6 _ rfl
    have HK0 : Hid (w7.drew.cell? ⟨w.heap.size, 0, none⟩ = some (.string ⟨x.1.k.toArray⟩) ∧ w7.drew.cell? ⟨w.heap.size, 1, none⟩ = some (.int .i64 x.1.s) ∧ w7.drew.cell? ⟨w.heap.size, 2, none⟩ = some (.int .i64 x.1.u) ∧ w7.drew.cell? ⟨w.heap.size, 3, none⟩ = some (.int .i64 x.1.o) ∧ w7.drew.cell? ⟨w.heap.size, 4, none⟩ = some (.bool x.1.has) ∧ w7.drew.cell? ⟨w.heap.size, 5, none⟩ = some (.slice x.2.1 x.1.v.length x.2.2) ∧ w7.drew.cell? ⟨w3.heap.size, 6, none⟩ = some (.bool true)) := Lib.hid ⟨s0, s1, s2, s3, s4, s5, s6⟩
    go_wp2_with fail
    refine wp_region_held_drew (S := fun W => W.cell? ⟨w.heap.size, 0, none⟩ = some (.string ⟨x.1.k.toArray⟩) ∧ W.cell? ⟨w.heap.size, 1, none⟩ = some (.int .i64 x.1.s) ∧ W.cell? ⟨w.heap.size, 2, none⟩ = some (.int .i64 x.1.u) ∧ W.cell? ⟨w.heap.size, 3, none⟩ = some (.int .i64 x.1.o) ∧ W.cell? ⟨w.heap.size, 4, none⟩ = some (.bool x.1.has) ∧ W.cell? ⟨w.heap.size, 5, none⟩ = some (.slice x.2.1 x.1.v.length x.2.2) ∧ W.cell? ⟨w3.heap.size, 6, none⟩ = some (.bool true)) (by kernel_rfl) HK0.out (fun hHeld => ?_)
    refine wpAnyH_take (i := 0) (v := .pointer (some ⟨g, 0, none⟩)) rfl (by kernel_rfl) (by kernel_rfl) (by kernel_rfl) (fun _ _ _ h => h) (Or.inl ⟨by rfl, ?_⟩) (by assumption) ?_
    · intro W hSw
      try dsimp only at hSw
      obtain ⟨h0, h1, h2, h3, h4, h5, h6⟩ := hSw
      go_simp
    try simp only [Act.put, List.setIfInBounds_toArray, List.set_cons_zero, List.set_cons_succ]
    refine wpAnyH_take (i := 1) (v := entV ⟨x.1.k.toArray⟩ x.1.s x.1.u x.1.o x.1.has x.2.1 x.1.v.length x.2.2) rfl (by kernel_rfl) (by kernel_rfl) (by kernel_rfl) (fun _ _ _ h => h) (Or.inl ⟨by rfl, ?_⟩) (by assumption) ?_
    · intro W hSw
      try dsimp only at hSw
      obtain ⟨h0, h1, h2, h3, h4, h5, h6⟩ := hSw
      go_simp
    try simp only [Act.put, List.setIfInBounds_toArray, List.set_cons_zero, List.set_cons_succ]
    refine wpAnyH_take (i := 3) (v := .pointer (some ⟨w3.heap.size, 6, none⟩)) rfl (by kernel_rfl) (by kernel_rfl) (by kernel_rfl) (fun _ _ _ h => h) (Or.inl ⟨by rfl, ?_⟩) (by assumption) ?_
    · intro W hSw
      try dsimp only at hSw
      obtain ⟨h0, h1, h2, h3, h4, h5, h6⟩ := hSw
      go_simp
    try simp only [Act.put, List.setIfInBounds_toArray, List.set_cons_zero, List.set_cons_succ]
    refine wpAnyH_take (i := 4) (v := .bool true) rfl (by kernel_rfl) (by kernel_rfl) (by kernel_rfl) (fun _ _ _ h => h) (Or.inl ⟨by rfl, ?_⟩) (by assumption) ?_
    · intro W hSw
      try dsimp only at hSw
      obtain ⟨h0, h1, h2, h3, h4, h5, h6⟩ := hSw
      go_simp
    try simp only [Act.put, List.setIfInBounds_toArray, List.set_cons_zero, List.set_cons_succ]
    refine wpAnyH_ready (rs := [2]) (by kernel_rfl) (by simp) ?_
    refine AllReadyH.cons rfl (fun K hK => ?_) AllReadyH.nil
    go_simp
    go_at_call 37
    refine (HCPY.out _ HDR.out).mono ?_
    rintro e w8 ⟨A8, c8, rfl, ho, hb⟩
    have HB8 := Lib.hid (HDR.out.trans (hb.mono HDR.out.size))
    have HE8 := Lib.hid (HE7.out.below HB8.out HE7.out.lt)
    have HX8 := Lib.hid (HX7.out.below HB8.out HX7.out.lt)
    have HK8 : Hid (w8.cell? ⟨w.heap.size, 0, none⟩ = some (.string ⟨x.1.k.toArray⟩) ∧ w8.cell? ⟨w.heap.size, 1, none⟩ = some (.int .i64 x.1.s) ∧ w8.cell? ⟨w.heap.size, 2, none⟩ = some (.int .i64 x.1.u) ∧ w8.cell? ⟨w.heap.size, 3, none⟩ = some (.int .i64 x.1.o) ∧ w8.cell? ⟨w.heap.size, 4, none⟩ = some (.bool x.1.has) ∧ w8.cell? ⟨w.heap.size, 5, none⟩ = some (.slice x.2.1 x.1.v.length x.2.2) ∧ w8.cell? ⟨w3.heap.size, 6, none⟩ = some (.bool true)) := Lib.hid ⟨HE8.out.is 0 _ rfl, HE8.out.is 1 _ rfl, HE8.out.is 2 _ rfl, HE8.out.is 3 _ rfl, HE8.out.is 4 _ rfl, HE8.out.is 5 _ rfl, HX8.out.is 6 _ rfl⟩

    have HUSE := Lib.hid (use_any (room_us HOK.out x.1).1 (⟨x.1, true, false, 0⟩, A8, c8) HX.out (by rw [(room_us HOK.out x.1).2]; exact HU.out) w8 (HCB.out.below HB8.out) (valF_new HCB.out HDR.out.size ho))
    clear ho hb
    unfold cV at HUSE
    refine hK.out _ _ HK8.out (fun hHeld2 => ?_)
    clear hK K hHeld
    try simp only [Act.put, List.setIfInBounds_toArray, List.set_cons_zero, List.set_cons_succ]
    refine wpAnyH_take (i := 5) (v := .bool true) rfl (by kernel_rfl) (by kernel_rfl) (by kernel_rfl) (fun _ _ _ h => h) (Or.inl ⟨by rfl, ?_⟩) (by assumption) ?_
    · intro W hSw
      try dsimp only at hSw
      obtain ⟨h0, h1, h2, h3, h4, h5, h6⟩ := hSw
      go_simp
    try simp only [Act.put, List.setIfInBounds_toArray, List.set_cons_zero, List.set_cons_succ]
    refine wpAnyH_take (i := 6) (v := undef) rfl (by kernel_rfl) (by kernel_rfl) (by kernel_rfl) (fun _ _ _ h => h) (Or.inr ⟨by rfl, rfl⟩) (by assumption) ?_
    try simp only [Act.put, List.setIfInBounds_toArray, List.set_cons_zero, List.set_cons_succ]
    refine wpAnyH_take (i := 7) (v := undef) rfl (by kernel_rfl) (by kernel_rfl) (by kernel_rfl) (fun _ _ _ h => h) (Or.inr ⟨by rfl, rfl⟩) (by assumption) ?_
    try simp only [Act.put, List.setIfInBounds_toArray, List.set_cons_zero, List.set_cons_succ]
    refine wpAnyH_take (i := 8) (v := undef) rfl (by kernel_rfl) (by kernel_rfl) (by kernel_rfl) (fun _ _ _ h => h) (Or.inr ⟨by rfl, rfl⟩) (by assumption) ?_
    try simp only [Act.put, List.setIfInBounds_toArray, List.set_cons_zero, List.set_cons_succ]
    refine wpAnyH_take (i := 9) (v := undef) rfl (by kernel_rfl) (by kernel_rfl) (by kernel_rfl) (fun _ _ _ h => h) (Or.inr ⟨by rfl, rfl⟩) (by assumption) ?_
    try simp only [Act.put, List.setIfInBounds_toArray, List.set_cons_zero, List.set_cons_succ]
    refine wpAnyH_take (i := 10) (v := undef) rfl (by kernel_rfl) (by kernel_rfl) (by kernel_rfl) (fun _ _ _ h => h) (Or.inr ⟨by rfl, rfl⟩) (by assumption) ?_
    try simp only [Act.put, List.setIfInBounds_toArray, List.set_cons_zero, List.set_cons_succ]
    refine wpAnyH_take (i := 11) (v := undef) rfl (by kernel_rfl) (by kernel_rfl) (by kernel_rfl) (fun _ _ _ h => h) (Or.inr ⟨by rfl, rfl⟩) (by assumption) ?_
    try simp only [Act.put, List.setIfInBounds_toArray, List.set_cons_zero, List.set_cons_succ]
    refine wpAnyH_take (i := 12) (v := .bool true) rfl (by kernel_rfl) (by kernel_rfl) (by kernel_rfl) (fun _ _ _ h => h) (Or.inl ⟨by rfl, ?_⟩) (by assumption) ?_
    · intro W hSw
      try dsimp only at hSw
      obtain ⟨h0, h1, h2, h3, h4, h5, h6⟩ := hSw
      go_simp
    try simp only [Act.put, List.setIfInBounds_toArray, List.set_cons_zero, List.set_cons_succ]
    refine wpAnyH_take (i := 13) (v := .agg #[.string ⟨x.1.k.toArray⟩, .int .i64 x.1.s, .int .i64 x.1.u, .int .i64 x.1.o, .bool x.1.has, .slice A8 x.1.v.length c8, .bool true, .bool false, .int .i64 0]) rfl (by kernel_rfl) (by kernel_rfl) (by kernel_rfl) (fun _ _ _ h => h) (Or.inl ⟨by rfl, ?_⟩) (by assumption) ?_
    · intro W hSw
      try dsimp only at hSw
      obtain ⟨h0, h1, h2, h3, h4, h5, h6⟩ := hSw
      go_simp
    try simp only [Act.put, List.setIfInBounds_toArray, List.set_cons_zero, List.set_cons_succ]
    refine wpAnyH_ready (rs := [14]) (by kernel_rfl) (by simp) ?_
    refine AllReadyH.cons rfl (fun K hK => ?_) AllReadyH.nil
    go_simp
    go_at_call 44
    refine HUSE.out.mono ?_
    rintro e w9 ⟨rfl, hat, htu⟩
    have HE9 := HE8.out.touchT htu (H.out.not3 (Nat.le_refl _))
    have HX9 := HX8.out.touchT htu (H.out.not3 HG4.out.1)
    have HK9 : Hid (w9.cell? ⟨w.heap.size, 0, none⟩ = some (.string ⟨x.1.k.toArray⟩) ∧ w9.cell? ⟨w.heap.size, 1, none⟩ = some (.int .i64 x.1.s) ∧ w9.cell? ⟨w.heap.size, 2, none⟩ = some (.int .i64 x.1.u) ∧ w9.cell? ⟨w.heap.size, 3, none⟩ = some (.int .i64 x.1.o) ∧ w9.cell? ⟨w.heap.size, 4, none⟩ = some (.bool x.1.has) ∧ w9.cell? ⟨w.heap.size, 5, none⟩ = some (.slice x.2.1 x.1.v.length x.2.2) ∧ w9.cell? ⟨w3.heap.size, 6, none⟩ = some (.bool true)) := Lib.hid ⟨HE9.is 0 _ rfl, HE9.is 1 _ rfl, HE9.is 2 _ rfl, HE9.is 3 _ rfl, HE9.is 4 _ rfl, HE9.is 5 _ rfl, HX9.is 6 _ rfl⟩
    have HFIN := Lib.hid (And.intro hat ((HTU.out.thenBelow HB8.out).trans htu fun k hk => Or.inl hk))
    clear hat htu HE9 HX9
    refine hK.out _ _ HK9.out (fun hHeld3 => ?_)
    clear hK K hHeld2
    refine wpAnyH_done (by kernel_rfl) ?_ _
    clear HK0 HK8 HK9 HUSE HE8 HX8 hHeld3
    go_wp2_with fail
    go_ret
    exact ⟨rfl, HFIN.out.1, HFIN.out.2⟩
theorem store_some_busy {F : Nat → Prop} {g b tk c : Nat} {S : Cl} {V : List CV} (ok : OkC S) (x : EV) (y : CV) (hx : okE x.1) (hs : x.1.s ≠ 0) (hu : S.us ≤ 4611686018427387904) (hM : ∀ t ∈ S.tok, t ≤ 4611686018427300000) (w : World) (h : ClB w F g b tk S V c) (hN : RowN (Own3 g b tk) w x.2.1 (x.1.v.map byteV)) (hc : x.1.v.length ≤ x.2.2) (hg : getK kC V x.1.k = some y) (hp : ¬ 0 ≤ cE y.1.e x.1) (hq : (roomS S x.1).2 ≠ 0) :
    Calls Tryz.prog 20 #[.pointer (some ⟨g, 0, none⟩), entV ⟨x.1.k.toArray⟩ x.1.s x.1.u x.1.o x.1.has x.2.1 x.1.v.length x.2.2] w (RoomC F g b tk (S, 30) w) := by
  obtain ⟨hs1, hs2, hs3, hs4⟩ := sizE_le hx
  have H := Lib.hid h
  have HOK := Lib.hid ok
  have HX := Lib.hid hx
  have HRW := Lib.hid hN
  have HCAP : Hid (x.1.v.length ≤ x.2.2 ∧ x.1.v.length ≤ 60000) := Lib.hid ⟨hc, hs3⟩
  have HM := Lib.hid hM
  have HU : Hid (S.us ≤ 4611686018427387904) := Lib.hid hu
  have HR := Lib.hid (right_valC (x := x) hx (by omega) (by omega))
  have HAL : Hid (Below w.heap.size w (w.alloc (.cells #[.string ⟨x.1.k.toArray⟩, .int .i64 x.1.s, .int .i64 x.1.u, .int .i64 x.1.o, .bool x.1.has, .slice x.2.1 x.1.v.length x.2.2] 43))) := Lib.hid ((Below.refl _ _).alloc (Nat.le_refl _) _)
  have HBL := Lib.hid (Blk.new w 43 #[.string ⟨x.1.k.toArray⟩, .int .i64 x.1.s, .int .i64 x.1.u, .int .i64 x.1.o, .bool x.1.has, .slice x.2.1 x.1.v.length x.2.2])
  have hgl := h.lt g h.fg
  have HNN : Hid ((x.1.s == 0) = false) := Lib.hid (by simpa using hs)
  obtain ⟨t0, ht0⟩ : ∃ t0, tokK S x.1.k = t0 := ⟨_, rfl⟩
  have HTK : Hid (∀ W, Below w.heap.size w W → Calls Tryz.prog 42 #[.pointer (some ⟨g, 0, none⟩), .string ⟨x.1.k.toArray⟩] W (IsII0 t0 0 W)) := Lib.hid fun W hb => by rw [← ht0]; exact token_any ok x.1.k (by omega) W (h.below hb)
  have HYM := Lib.hid (get_some hg).1
  have HYO := Lib.hid (h.okE ok (get_some hg).1)
  have hyk : y.1.e.k = x.1.k := (get_some hg).2
  obtain ⟨bw, hbw⟩ : ∃ bw, y.1.wh = bw := ⟨_, rfl⟩
  have HBW := Lib.hid hbw
  obtain ⟨cv, hcv⟩ : ∃ cv, cE y.1.e x.1 = cv := ⟨_, rfl⟩
  have HCV : Hid (cmpT y.1.e.s y.1.e.u y.1.e.o x.1.s x.1.u x.1.o = cv) := Lib.hid hcv
  rw [hcv] at hp
  have hp2 : cv < 0 := by omega
  have HLK : Hid (∀ W, Below w.heap.size w W → (Instr.lookup 71 (.map (some b)) (.string ⟨x.1.k.toArray⟩) true).run Tryz.prog W = .ok (.tuple #[.agg #[.string ⟨y.1.e.k.toArray⟩, .int .i64 y.1.e.s, .int .i64 y.1.e.u, .int .i64 y.1.e.o, .bool y.1.e.has, .slice y.2.1 y.1.e.v.length y.2.2, .bool bw, .bool y.1.cl, .int .i64 y.1.us], .bool true]) W) := Lib.hid fun W hb => by
    have := look_okL h (k := x.1.k) (by unfold maxLen; omega) true W hb
    rw [show oldC V x.1.k = y by unfold oldC; rw [hg]; rfl, hg] at this
    unfold cV at this
    rw [hbw] at this
    exact this
  have HQ : Hid (roomS S x.1 = (S, 30)) := Lib.hid (room_busy ok.srt hq)
  clear h ok hx hN hc hM hs1 hs2 hs3 hs4 ht0 hs hg hyk hbw hcv hq hp
  go_enter Tryz.func20, Tryz.ntmps20
  go_wp2_with fail
  refine (HR.out _).mono ?_
  rintro e w1 ⟨rfl, hb⟩
  have HB1 := Lib.hid (HAL.out.trans (hb.mono HAL.out.size))
  have HE1 := Lib.hid (HBL.out.below hb HBL.out.lt)
  have t1 := HE1.out.is 1 _ rfl
  have t2 := HE1.out.is 2 _ rfl
  have t3 := HE1.out.is 3 _ rfl
  clear hb
  go_wp2_with fail
  refine (none_val _ _ _ _ HNN _).mono ?_
  rintro e w2 ⟨rfl, hb⟩
  have HB2 := Lib.hid (HB1.out.trans (hb.mono HB1.out.size))
  have HE2 := Lib.hid (HE1.out.below hb HE1.out.lt)
  clear hb t1 t2 t3
  have k0 := HE2.out.is 0 _ rfl
  go_wp2_with fail
  refine (HTK.out _ HB2.out).mono ?_
  rintro e w3 ⟨rfl, hb⟩
  have HB3 := Lib.hid (HB2.out.trans (hb.mono HB2.out.size))
  have HE3 := Lib.hid (HE2.out.below hb HE2.out.lt)
  clear hb k0
  have c4 := (H.out.below HB3.out).c4
  have e0 := HE3.out.is 0 _ rfl
  have hg3 : g < w3.heap.size := Nat.lt_of_lt_of_le hgl HB3.out.size
  have he3 : w.heap.size < w3.heap.size := HE3.out.lt
  have HBA : Hid (∀ ob, Below w3.heap.size w3 (w3.alloc ob).drew) := Lib.hid fun ob => ((Below.refl _ _).alloc (Nat.le_refl _) ob).drew
  have hlkA := HLK.out w3.drew (HB3.out.trans ((Below.refl _ _).drew.mono HB3.out.size))
  have hlkB := fun ob => HLK.out (w3.alloc ob).drew (HB3.out.trans ((HBA.out ob).mono HB3.out.size))
  go_wp2_with fail
  go_region
  have HB5 := Lib.hid (HB3.out.trans ((HBA.out (.cells #[.string ⟨y.1.e.k.toArray⟩, .int .i64 y.1.e.s, .int .i64 y.1.e.u, .int .i64 y.1.e.o, .bool y.1.e.has, .slice y.2.1 y.1.e.v.length y.2.2, .bool bw, .bool y.1.cl, .int .i64 y.1.us] 88)).mono HB3.out.size))
  have HE5 := Lib.hid (HE3.out.below (HBA.out (.cells #[.string ⟨y.1.e.k.toArray⟩, .int .i64 y.1.e.s, .int .i64 y.1.e.u, .int .i64 y.1.e.o, .bool y.1.e.has, .slice y.2.1 y.1.e.v.length y.2.2, .bool bw, .bool y.1.cl, .int .i64 y.1.us] 88)) HE3.out.lt)
  have hX5 := Blk.new w3 88 #[.string ⟨y.1.e.k.toArray⟩, .int .i64 y.1.e.s, .int .i64 y.1.e.u, .int .i64 y.1.e.o, .bool y.1.e.has, .slice y.2.1 y.1.e.v.length y.2.2, .bool bw, .bool y.1.cl, .int .i64 y.1.us]
  have HX5 := Lib.hid (hX5.below (Below.refl _ _).drew hX5.lt)
  have HG4 : Hid (w.heap.size ≤ w3.heap.size ∧ w.heap.size < w3.heap.size) := Lib.hid ⟨HB3.out.size, he3⟩
  obtain ⟨w5, hw5⟩ : ∃ w5, (w3.alloc (.cells #[.string ⟨y.1.e.k.toArray⟩, .int .i64 y.1.e.s, .int .i64 y.1.e.u, .int .i64 y.1.e.o, .bool y.1.e.has, .slice y.2.1 y.1.e.v.length y.2.2, .bool bw, .bool y.1.cl, .int .i64 y.1.us] 88)).drew = w5 := ⟨_, rfl⟩
  rw [hw5] at HB5 HE5 HX5 ⊢
  clear hX5 c4 e0 hg3 he3 hlkA hlkB hw5
  have x1 := HX5.out.is 1 _ rfl
  have x2 := HX5.out.is 2 _ rfl
  have x3 := HX5.out.is 3 _ rfl
  have q1 := HE5.out.is 1 _ rfl
  have q2 := HE5.out.is 2 _ rfl
  have q3 := HE5.out.is 3 _ rfl
  go_wp2_with fail
  refine (compare_val _ _ _ _ _ _ _ HCV _).mono ?_
  rintro e w6 ⟨rfl, hb⟩
  have HB6 := Lib.hid (HB5.out.trans (hb.mono HB5.out.size))
  have HE6 := Lib.hid (HE5.out.below hb HE5.out.lt)
  have HX6 := Lib.hid (HX5.out.below hb HX5.out.lt)
  clear hb x1 x2 x3 q1 q2 q3
  have q0 := HE6.out.is 0 _ rfl
  have q1 := HE6.out.is 1 _ rfl
  have q2 := HE6.out.is 2 _ rfl
  have q3 := HE6.out.is 3 _ rfl
  have q4 := HE6.out.is 4 _ rfl
  have q5 := HE6.out.is 5 _ rfl
  have HMK := Lib.hid fun W (hb : Below w.heap.size w W) => makeRoom_any HOK.out x.1 x.2.1 x.2.2 HX.out HM.out W ⟨V, c, H.out.below hb⟩
  rw [HQ.out] at HMK
  go_wp2_with fail
  refine (HMK.out _ HB6.out).mono ?_
  rintro e w7 ⟨rfl, ⟨V7, c7, hcb⟩, htu⟩
  have HCB := Lib.hid hcb
  have HTU : Hid (Touch (Own3 g b tk) w w7) := Lib.hid ((Touch.ofBelow HB6.out).trans htu fun k hk => Or.inl hk)
  have HE7 := Lib.hid ((HE6.out.touchT htu (H.out.not3 (Nat.le_refl _))))
  have HX7 := Lib.hid ((HX6.out.touchT htu (H.out.not3 HG4.out.1)))
  clear hcb htu q0 q1 q2 q3 q4 q5
  go_wp2_with fail
  go_ret
  exact ⟨rfl, ⟨V7, c7, HCB.out⟩, HTU.out⟩
theorem fill_none_lay {F : Nat → Prop} {g b tk c : Nat} {S : Cl} {V : List CV} (ok : OkC S) (x : EV) (t : Int) (hx : okE x.1) (ht : t = tokK S x.1.k) (hu : S.us ≤ 4611686018427387904) (hM : ∀ t ∈ S.tok, t ≤ 4611686018427300000) (w : World) (h : ClB w F g b tk S V c) (hN : RowN (Own3 g b tk) w x.2.1 (x.1.v.map byteV)) (hc : x.1.v.length ≤ x.2.2) (hg : getK kC V x.1.k = none) (hq : (roomS S x.1).2 = 0) :
    Calls Tryz.prog 26 #[.pointer (some ⟨g, 0, none⟩), entV ⟨x.1.k.toArray⟩ x.1.s x.1.u x.1.o x.1.has x.2.1 x.1.v.length x.2.2, .int .i64 t] w (FillC F g b tk (useS (roomS S x.1).1 ⟨x.1, true, true, 0⟩, true, 0) w) := by
  obtain ⟨hs1, hs2, hs3, hs4⟩ := sizE_le hx
  have H := Lib.hid h
  have HOK := Lib.hid ok
  have HX := Lib.hid hx
  have HRW := Lib.hid hN
  have HCAP : Hid (x.1.v.length ≤ x.2.2 ∧ x.1.v.length ≤ 60000) := Lib.hid ⟨hc, hs3⟩
  have HM := Lib.hid hM
  have HU : Hid (S.us ≤ 4611686018427387904) := Lib.hid hu
  have HR := Lib.hid (right_valC (x := x) hx (by omega) (by omega))
  have HAL : Hid (Below w.heap.size w (w.alloc (.cells #[.string ⟨x.1.k.toArray⟩, .int .i64 x.1.s, .int .i64 x.1.u, .int .i64 x.1.o, .bool x.1.has, .slice x.2.1 x.1.v.length x.2.2] 43))) := Lib.hid ((Below.refl _ _).alloc (Nat.le_refl _) _)
  have HBL := Lib.hid (Blk.new w 43 #[.string ⟨x.1.k.toArray⟩, .int .i64 x.1.s, .int .i64 x.1.u, .int .i64 x.1.o, .bool x.1.has, .slice x.2.1 x.1.v.length x.2.2])
  have hgl := h.lt g h.fg
  obtain ⟨t0, ht0⟩ : ∃ t0, tokK S x.1.k = t0 := ⟨_, rfl⟩
  rw [ht0] at ht
  subst ht
  have hne : (t != t) = false := by simp
  have HTK : Hid (∀ W, Below w.heap.size w W → Calls Tryz.prog 42 #[.pointer (some ⟨g, 0, none⟩), .string ⟨x.1.k.toArray⟩] W (IsII0 t 0 W)) := Lib.hid fun W hb => by rw [← ht0]; exact token_any ok x.1.k (by omega) W (h.below hb)
  have HLK : Hid (∀ W, Below w.heap.size w W → (Instr.lookup 71 (.map (some b)) (.string ⟨x.1.k.toArray⟩) true).run Tryz.prog W = .ok (.tuple #[.agg #[.string ⟨#[]⟩, .int .i64 0, .int .i64 0, .int .i64 0, .bool false, .slice none 0 0, .bool false, .bool false, .int .i64 0], .bool false]) W) := Lib.hid fun W hb => by
    have := look_okL h (k := x.1.k) (by unfold maxLen; omega) true W hb
    rw [show oldC V x.1.k = cvN [] by unfold oldC; rw [hg]; rfl, hg] at this
    exact this
  have HQ : Hid ((roomS S x.1).2 = 0) := Lib.hid hq
  clear h ok hx hN hc hM hs1 hs2 hs3 hs4 ht0 hg hq
  go_enter Tryz.func26, Tryz.ntmps26
  go_wp2_with fail
  refine (HR.out _).mono ?_
  rintro e w1 ⟨rfl, hb⟩
  have HB1 := Lib.hid (HAL.out.trans (hb.mono HAL.out.size))
  have HE1 := Lib.hid (HBL.out.below hb HBL.out.lt)
  have HB2 := HB1
  have HE2 := HE1
  clear hb
  have k0 := HE2.out.is 0 _ rfl
  go_wp2_with fail
  refine (HTK.out _ HB2.out).mono ?_
  rintro e w3 ⟨rfl, hb⟩
  have HB3 := Lib.hid (HB2.out.trans (hb.mono HB2.out.size))
  have HE3 := Lib.hid (HE2.out.below hb HE2.out.lt)
  clear hb k0
  have c4 := (H.out.below HB3.out).c4
  have e0 := HE3.out.is 0 _ rfl
  have hg3 : g < w3.heap.size := Nat.lt_of_lt_of_le hgl HB3.out.size
  have he3 : w.heap.size < w3.heap.size := HE3.out.lt
  have HBA : Hid (∀ ob, Below w3.heap.size w3 (w3.alloc ob).drew) := Lib.hid fun ob => ((Below.refl _ _).alloc (Nat.le_refl _) ob).drew
  have hlkA := HLK.out w3.drew (HB3.out.trans ((Below.refl _ _).drew.mono HB3.out.size))
  have hlkB := fun ob => HLK.out (w3.alloc ob).drew (HB3.out.trans ((HBA.out ob).mono HB3.out.size))
  go_wp2_with fail
  go_region
  have HB5 := Lib.hid (HB3.out.trans ((HBA.out (.cells #[.string ⟨#[]⟩, .int .i64 0, .int .i64 0, .int .i64 0, .bool false, .slice none 0 0, .bool false, .bool false, .int .i64 0] 88)).mono HB3.out.size))
  have HE5 := Lib.hid (HE3.out.below (HBA.out (.cells #[.string ⟨#[]⟩, .int .i64 0, .int .i64 0, .int .i64 0, .bool false, .slice none 0 0, .bool false, .bool false, .int .i64 0] 88)) HE3.out.lt)
  have hX5 := Blk.new w3 88 #[.string ⟨#[]⟩, .int .i64 0, .int .i64 0, .int .i64 0, .bool false, .slice none 0 0, .bool false, .bool false, .int .i64 0]
  have HX5 := Lib.hid (hX5.below (Below.refl _ _).drew hX5.lt)
  have HG4 : Hid (w.heap.size ≤ w3.heap.size ∧ w.heap.size < w3.heap.size) := Lib.hid ⟨HB3.out.size, he3⟩
  obtain ⟨w5, hw5⟩ : ∃ w5, (w3.alloc (.cells #[.string ⟨#[]⟩, .int .i64 0, .int .i64 0, .int .i64 0, .bool false, .slice none 0 0, .bool false, .bool false, .int .i64 0] 88)).drew = w5 := ⟨_, rfl⟩
  rw [hw5] at HB5 HE5 HX5 ⊢
  clear hX5 c4 e0 hg3 he3 hlkA hlkB hw5
  have q0 := HE5.out.is 0 _ rfl
  have q1 := HE5.out.is 1 _ rfl
  have q2 := HE5.out.is 2 _ rfl
  have q3 := HE5.out.is 3 _ rfl
  have q4 := HE5.out.is 4 _ rfl
  have q5 := HE5.out.is 5 _ rfl
  have HMK := Lib.hid fun W (hb : Below w.heap.size w W) => makeRoom_any HOK.out x.1 x.2.1 x.2.2 HX.out HM.out W ⟨V, c, H.out.below hb⟩

  go_wp2_with fail
  refine (HMK.out _ HB5.out).mono ?_
  rintro e w7 ⟨rfl, ⟨V7, c7, hcb⟩, htu⟩
  have HCB := Lib.hid hcb
  have HTU : Hid (Touch (Own3 g b tk) w w7) := Lib.hid ((Touch.ofBelow HB5.out).trans htu fun k hk => Or.inl hk)
  have HE7 := Lib.hid ((HE5.out.touchT htu (H.out.not3 (Nat.le_refl _))))
  have HX7 := Lib.hid ((HX5.out.touchT htu (H.out.not3 HG4.out.1)))
  clear hcb htu q0 q1 q2 q3 q4 q5
  rw [HQ.out]
  have HDR : Hid (Below w7.heap.size w7 w7) := Lib.hid (Below.refl _ _)
  have HVO : Hid (ValOk w7 x.1.has x.2.1 x.1.v x.2.2) := Lib.hid ⟨(HRW.out.touch HTU.out).row, by have := HCAP.out.2; omega, HCAP.out.1⟩
  have HCPY : Hid (∀ W, Below w7.heap.size w7 W → Calls Tryz.prog 37 #[entV ⟨x.1.k.toArray⟩ x.1.s x.1.u x.1.o x.1.has x.2.1 x.1.v.length x.2.2] W (MadeE W.heap.size ⟨x.1.k.toArray⟩ x.1.s x.1.u x.1.o x.1.has x.1.v W)) := Lib.hid fun W hb => copyE_any ⟨x.1.k.toArray⟩ x.1.s x.1.u x.1.o x.1.has x.2.1 x.1.v x.1.v.length x.2.2 rfl W (HVO.out.below hb)
  have s0 := HE7.out.is 0 _ rfl
  have s1 := HE7.out.is 1 _ rfl
  have s2 := HE7.out.is 2 _ rfl
  have s3 := HE7.out.is 3 _ rfl
  have s4 := HE7.out.is 4 _ rfl
  have s5 := HE7.out.is 5 _ rfl
  go_wp2_with fail
  refine (HCPY.out _ HDR.out).mono ?_
  rintro e w8 ⟨A8, c8, rfl, ho, hb⟩
  have HB8 := Lib.hid (HDR.out.trans (hb.mono HDR.out.size))

  have HUSE := Lib.hid (use_any (room_us HOK.out x.1).1 (⟨x.1, true, true, 0⟩, A8, c8) HX.out (by rw [(room_us HOK.out x.1).2]; exact HU.out) w8 (HCB.out.below HB8.out) (valF_new HCB.out HDR.out.size ho))
  clear ho hb
  unfold cV at HUSE
  go_wp2_with fail
  refine HUSE.out.mono ?_
  rintro e w9 ⟨rfl, hat, htu⟩
  have HFIN := Lib.hid (And.intro hat ((HTU.out.thenBelow HB8.out).trans htu fun k hk => Or.inl hk))
  clear hat htu
  go_wp2_with fail
  go_ret2
  exact ⟨rfl, HFIN.out.1, HFIN.out.2⟩
theorem fill_none_busy {F : Nat → Prop} {g b tk c : Nat} {S : Cl} {V : List CV} (ok : OkC S) (x : EV) (t : Int) (hx : okE x.1) (ht : t = tokK S x.1.k) (hu : S.us ≤ 4611686018427387904) (hM : ∀ t ∈ S.tok, t ≤ 4611686018427300000) (w : World) (h : ClB w F g b tk S V c) (hN : RowN (Own3 g b tk) w x.2.1 (x.1.v.map byteV)) (hc : x.1.v.length ≤ x.2.2) (hg : getK kC V x.1.k = none) (hq : (roomS S x.1).2 ≠ 0) :
    Calls Tryz.prog 26 #[.pointer (some ⟨g, 0, none⟩), entV ⟨x.1.k.toArray⟩ x.1.s x.1.u x.1.o x.1.has x.2.1 x.1.v.length x.2.2, .int .i64 t] w (FillC F g b tk (S, false, 30) w) := by
  obtain ⟨hs1, hs2, hs3, hs4⟩ := sizE_le hx
  have H := Lib.hid h
  have HOK := Lib.hid ok
  have HX := Lib.hid hx
  have HRW := Lib.hid hN
  have HCAP : Hid (x.1.v.length ≤ x.2.2 ∧ x.1.v.length ≤ 60000) := Lib.hid ⟨hc, hs3⟩
  have HM := Lib.hid hM
  have HU : Hid (S.us ≤ 4611686018427387904) := Lib.hid hu
  have HR := Lib.hid (right_valC (x := x) hx (by omega) (by omega))
  have HAL : Hid (Below w.heap.size w (w.alloc (.cells #[.string ⟨x.1.k.toArray⟩, .int .i64 x.1.s, .int .i64 x.1.u, .int .i64 x.1.o, .bool x.1.has, .slice x.2.1 x.1.v.length x.2.2] 43))) := Lib.hid ((Below.refl _ _).alloc (Nat.le_refl _) _)
  have HBL := Lib.hid (Blk.new w 43 #[.string ⟨x.1.k.toArray⟩, .int .i64 x.1.s, .int .i64 x.1.u, .int .i64 x.1.o, .bool x.1.has, .slice x.2.1 x.1.v.length x.2.2])
  have hgl := h.lt g h.fg
  obtain ⟨t0, ht0⟩ : ∃ t0, tokK S x.1.k = t0 := ⟨_, rfl⟩
  rw [ht0] at ht
  subst ht
  have hne : (t != t) = false := by simp
  have HTK : Hid (∀ W, Below w.heap.size w W → Calls Tryz.prog 42 #[.pointer (some ⟨g, 0, none⟩), .string ⟨x.1.k.toArray⟩] W (IsII0 t 0 W)) := Lib.hid fun W hb => by rw [← ht0]; exact token_any ok x.1.k (by omega) W (h.below hb)
  have HLK : Hid (∀ W, Below w.heap.size w W → (Instr.lookup 71 (.map (some b)) (.string ⟨x.1.k.toArray⟩) true).run Tryz.prog W = .ok (.tuple #[.agg #[.string ⟨#[]⟩, .int .i64 0, .int .i64 0, .int .i64 0, .bool false, .slice none 0 0, .bool false, .bool false, .int .i64 0], .bool false]) W) := Lib.hid fun W hb => by
    have := look_okL h (k := x.1.k) (by unfold maxLen; omega) true W hb
    rw [show oldC V x.1.k = cvN [] by unfold oldC; rw [hg]; rfl, hg] at this
    exact this
  have HQ : Hid (roomS S x.1 = (S, 30)) := Lib.hid (room_busy ok.srt hq)
  clear h ok hx hN hc hM hs1 hs2 hs3 hs4 ht0 hg hq
  go_enter Tryz.func26, Tryz.ntmps26
  go_wp2_with fail
  refine (HR.out _).mono ?_
  rintro e w1 ⟨rfl, hb⟩
  have HB1 := Lib.hid (HAL.out.trans (hb.mono HAL.out.size))
  have HE1 := Lib.hid (HBL.out.below hb HBL.out.lt)
  have HB2 := HB1
  have HE2 := HE1
  clear hb
  have k0 := HE2.out.is 0 _ rfl
  go_wp2_with fail
  refine (HTK.out _ HB2.out).mono ?_
  rintro e w3 ⟨rfl, hb⟩
  have HB3 := Lib.hid (HB2.out.trans (hb.mono HB2.out.size))
  have HE3 := Lib.hid (HE2.out.below hb HE2.out.lt)
  clear hb k0
  have c4 := (H.out.below HB3.out).c4
  have e0 := HE3.out.is 0 _ rfl
  have hg3 : g < w3.heap.size := Nat.lt_of_lt_of_le hgl HB3.out.size
  have he3 : w.heap.size < w3.heap.size := HE3.out.lt
  have HBA : Hid (∀ ob, Below w3.heap.size w3 (w3.alloc ob).drew) := Lib.hid fun ob => ((Below.refl _ _).alloc (Nat.le_refl _) ob).drew
  have hlkA := HLK.out w3.drew (HB3.out.trans ((Below.refl _ _).drew.mono HB3.out.size))
  have hlkB := fun ob => HLK.out (w3.alloc ob).drew (HB3.out.trans ((HBA.out ob).mono HB3.out.size))
  go_wp2_with fail
  go_region
  have HB5 := Lib.hid (HB3.out.trans ((HBA.out (.cells #[.string ⟨#[]⟩, .int .i64 0, .int .i64 0, .int .i64 0, .bool false, .slice none 0 0, .bool false, .bool false, .int .i64 0] 88)).mono HB3.out.size))
  have HE5 := Lib.hid (HE3.out.below (HBA.out (.cells #[.string ⟨#[]⟩, .int .i64 0, .int .i64 0, .int .i64 0, .bool false, .slice none 0 0, .bool false, .bool false, .int .i64 0] 88)) HE3.out.lt)
  have hX5 := Blk.new w3 88 #[.string ⟨#[]⟩, .int .i64 0, .int .i64 0, .int .i64 0, .bool false, .slice none 0 0, .bool false, .bool false, .int .i64 0]
  have HX5 := Lib.hid (hX5.below (Below.refl _ _).drew hX5.lt)
  have HG4 : Hid (w.heap.size ≤ w3.heap.size ∧ w.heap.size < w3.heap.size) := Lib.hid ⟨HB3.out.size, he3⟩
  obtain ⟨w5, hw5⟩ : ∃ w5, (w3.alloc (.cells #[.string ⟨#[]⟩, .int .i64 0, .int .i64 0, .int .i64 0, .bool false, .slice none 0 0, .bool false, .bool false, .int .i64 0] 88)).drew = w5 := ⟨_, rfl⟩
  rw [hw5] at HB5 HE5 HX5 ⊢
  clear hX5 c4 e0 hg3 he3 hlkA hlkB hw5
  have q0 := HE5.out.is 0 _ rfl
  have q1 := HE5.out.is 1 _ rfl
  have q2 := HE5.out.is 2 _ rfl
  have q3 := HE5.out.is 3 _ rfl
  have q4 := HE5.out.is 4 _ rfl
  have q5 := HE5.out.is 5 _ rfl
  have HMK := Lib.hid fun W (hb : Below w.heap.size w W) => makeRoom_any HOK.out x.1 x.2.1 x.2.2 HX.out HM.out W ⟨V, c, H.out.below hb⟩
  rw [HQ.out] at HMK
  go_wp2_with fail
  refine (HMK.out _ HB5.out).mono ?_
  rintro e w7 ⟨rfl, ⟨V7, c7, hcb⟩, htu⟩
  have HCB := Lib.hid hcb
  have HTU : Hid (Touch (Own3 g b tk) w w7) := Lib.hid ((Touch.ofBelow HB5.out).trans htu fun k hk => Or.inl hk)
  have HE7 := Lib.hid ((HE5.out.touchT htu (H.out.not3 (Nat.le_refl _))))
  have HX7 := Lib.hid ((HX5.out.touchT htu (H.out.not3 HG4.out.1)))
  clear hcb htu q0 q1 q2 q3 q4 q5
  go_wp2_with fail
  go_ret2
  exact ⟨rfl, ⟨V7, c7, HCB.out⟩, HTU.out⟩
theorem fill_some_use {F : Nat → Prop} {g b tk c : Nat} {S : Cl} {V : List CV} (ok : OkC S) (x : EV) (y : CV) (t : Int) (hx : okE x.1) (ht : t = tokK S x.1.k) (hu : S.us ≤ 4611686018427387904) (hM : ∀ t ∈ S.tok, t ≤ 4611686018427300000) (w : World) (h : ClB w F g b tk S V c) (hN : RowN (Own3 g b tk) w x.2.1 (x.1.v.map byteV)) (hc : x.1.v.length ≤ x.2.2) (hg : getK kC V x.1.k = some y) (hp : 0 < cE y.1.e x.1) :
    Calls Tryz.prog 26 #[.pointer (some ⟨g, 0, none⟩), entV ⟨x.1.k.toArray⟩ x.1.s x.1.u x.1.o x.1.has x.2.1 x.1.v.length x.2.2, .int .i64 t] w (FillC F g b tk (useS S { y.1 with wh := true }, true, 0) w) := by
  obtain ⟨hs1, hs2, hs3, hs4⟩ := sizE_le hx
  have H := Lib.hid h
  have HOK := Lib.hid ok
  have HX := Lib.hid hx
  have HRW := Lib.hid hN
  have HCAP : Hid (x.1.v.length ≤ x.2.2 ∧ x.1.v.length ≤ 60000) := Lib.hid ⟨hc, hs3⟩
  have HM := Lib.hid hM
  have HU : Hid (S.us ≤ 4611686018427387904) := Lib.hid hu
  have HR := Lib.hid (right_valC (x := x) hx (by omega) (by omega))
  have HAL : Hid (Below w.heap.size w (w.alloc (.cells #[.string ⟨x.1.k.toArray⟩, .int .i64 x.1.s, .int .i64 x.1.u, .int .i64 x.1.o, .bool x.1.has, .slice x.2.1 x.1.v.length x.2.2] 43))) := Lib.hid ((Below.refl _ _).alloc (Nat.le_refl _) _)
  have HBL := Lib.hid (Blk.new w 43 #[.string ⟨x.1.k.toArray⟩, .int .i64 x.1.s, .int .i64 x.1.u, .int .i64 x.1.o, .bool x.1.has, .slice x.2.1 x.1.v.length x.2.2])
  have hgl := h.lt g h.fg
  obtain ⟨t0, ht0⟩ : ∃ t0, tokK S x.1.k = t0 := ⟨_, rfl⟩
  rw [ht0] at ht
  subst ht
  have hne : (t != t) = false := by simp
  have HTK : Hid (∀ W, Below w.heap.size w W → Calls Tryz.prog 42 #[.pointer (some ⟨g, 0, none⟩), .string ⟨x.1.k.toArray⟩] W (IsII0 t 0 W)) := Lib.hid fun W hb => by rw [← ht0]; exact token_any ok x.1.k (by omega) W (h.below hb)
  have HYM := Lib.hid (get_some hg).1
  have HYO := Lib.hid (h.okE ok (get_some hg).1)
  have hyk : y.1.e.k = x.1.k := (get_some hg).2
  obtain ⟨bw, hbw⟩ : ∃ bw, y.1.wh = bw := ⟨_, rfl⟩
  have HBW := Lib.hid hbw
  obtain ⟨cv, hcv⟩ : ∃ cv, cE y.1.e x.1 = cv := ⟨_, rfl⟩
  have HCV : Hid (cmpT y.1.e.s y.1.e.u y.1.e.o x.1.s x.1.u x.1.o = cv) := Lib.hid hcv
  rw [hcv] at hp
  have HLK : Hid (∀ W, Below w.heap.size w W → (Instr.lookup 71 (.map (some b)) (.string ⟨x.1.k.toArray⟩) true).run Tryz.prog W = .ok (.tuple #[.agg #[.string ⟨y.1.e.k.toArray⟩, .int .i64 y.1.e.s, .int .i64 y.1.e.u, .int .i64 y.1.e.o, .bool y.1.e.has, .slice y.2.1 y.1.e.v.length y.2.2, .bool bw, .bool y.1.cl, .int .i64 y.1.us], .bool true]) W) := Lib.hid fun W hb => by
    have := look_okL h (k := x.1.k) (by unfold maxLen; omega) true W hb
    rw [show oldC V x.1.k = y by unfold oldC; rw [hg]; rfl, hg] at this
    unfold cV at this
    rw [hbw] at this
    exact this
  clear h ok hx hN hc hM hs1 hs2 hs3 hs4 ht0 hg hyk hbw hcv
  go_enter Tryz.func26, Tryz.ntmps26
  go_wp2_with fail
  refine (HR.out _).mono ?_
  rintro e w1 ⟨rfl, hb⟩
  have HB1 := Lib.hid (HAL.out.trans (hb.mono HAL.out.size))
  have HE1 := Lib.hid (HBL.out.below hb HBL.out.lt)
  have HB2 := HB1
  have HE2 := HE1
  clear hb
  have k0 := HE2.out.is 0 _ rfl
  go_wp2_with fail
  refine (HTK.out _ HB2.out).mono ?_
  rintro e w3 ⟨rfl, hb⟩
  have HB3 := Lib.hid (HB2.out.trans (hb.mono HB2.out.size))
  have HE3 := Lib.hid (HE2.out.below hb HE2.out.lt)
  clear hb k0
  have c4 := (H.out.below HB3.out).c4
  have e0 := HE3.out.is 0 _ rfl
  have hg3 : g < w3.heap.size := Nat.lt_of_lt_of_le hgl HB3.out.size
  have he3 : w.heap.size < w3.heap.size := HE3.out.lt
  have HBA : Hid (∀ ob, Below w3.heap.size w3 (w3.alloc ob).drew) := Lib.hid fun ob => ((Below.refl _ _).alloc (Nat.le_refl _) ob).drew
  have hlkA := HLK.out w3.drew (HB3.out.trans ((Below.refl _ _).drew.mono HB3.out.size))
  have hlkB := fun ob => HLK.out (w3.alloc ob).drew (HB3.out.trans ((HBA.out ob).mono HB3.out.size))
  go_wp2_with fail
  go_region
  have HB5 := Lib.hid (HB3.out.trans ((HBA.out (.cells #[.string ⟨y.1.e.k.toArray⟩, .int .i64 y.1.e.s, .int .i64 y.1.e.u, .int .i64 y.1.e.o, .bool y.1.e.has, .slice y.2.1 y.1.e.v.length y.2.2, .bool bw, .bool y.1.cl, .int .i64 y.1.us] 88)).mono HB3.out.size))
  have HE5 := Lib.hid (HE3.out.below (HBA.out (.cells #[.string ⟨y.1.e.k.toArray⟩, .int .i64 y.1.e.s, .int .i64 y.1.e.u, .int .i64 y.1.e.o, .bool y.1.e.has, .slice y.2.1 y.1.e.v.length y.2.2, .bool bw, .bool y.1.cl, .int .i64 y.1.us] 88)) HE3.out.lt)
  have hX5 := Blk.new w3 88 #[.string ⟨y.1.e.k.toArray⟩, .int .i64 y.1.e.s, .int .i64 y.1.e.u, .int .i64 y.1.e.o, .bool y.1.e.has, .slice y.2.1 y.1.e.v.length y.2.2, .bool bw, .bool y.1.cl, .int .i64 y.1.us]
  have HX5 := Lib.hid (hX5.below (Below.refl _ _).drew hX5.lt)
  have HG4 : Hid (w.heap.size ≤ w3.heap.size ∧ w.heap.size < w3.heap.size) := Lib.hid ⟨HB3.out.size, he3⟩
  obtain ⟨w5, hw5⟩ : ∃ w5, (w3.alloc (.cells #[.string ⟨y.1.e.k.toArray⟩, .int .i64 y.1.e.s, .int .i64 y.1.e.u, .int .i64 y.1.e.o, .bool y.1.e.has, .slice y.2.1 y.1.e.v.length y.2.2, .bool bw, .bool y.1.cl, .int .i64 y.1.us] 88)).drew = w5 := ⟨_, rfl⟩
  rw [hw5] at HB5 HE5 HX5 ⊢
  clear hX5 c4 e0 hg3 he3 hlkA hlkB hw5
  have x1 := HX5.out.is 1 _ rfl
  have x2 := HX5.out.is 2 _ rfl
  have x3 := HX5.out.is 3 _ rfl
  have q1 := HE5.out.is 1 _ rfl
  have q2 := HE5.out.is 2 _ rfl
  have q3 := HE5.out.is 3 _ rfl
  go_wp2_with fail
  refine (compare_val _ _ _ _ _ _ _ HCV _).mono ?_
  rintro e w6 ⟨rfl, hb⟩
  have HB6 := Lib.hid (HB5.out.trans (hb.mono HB5.out.size))
  have HE6 := Lib.hid (HE5.out.below hb HE5.out.lt)
  have HX6 := Lib.hid (HX5.out.below hb HX5.out.lt)
  clear hb x1 x2 x3 q1 q2 q3
  have z6 := HX6.out.frozen 6
  have x6 := HX6.out.is 6 _ rfl
  have HX7 : Hid (Blk (w6.setCell ⟨w3.heap.size, 6, none⟩ (.bool true)) w3.heap.size 88 #[.string ⟨y.1.e.k.toArray⟩, .int .i64 y.1.e.s, .int .i64 y.1.e.u, .int .i64 y.1.e.o, .bool y.1.e.has, .slice y.2.1 y.1.e.v.length y.2.2, .bool true, .bool y.1.cl, .int .i64 y.1.us]) := Lib.hid (by simpa using HX6.out.set_ 6 (.bool true))
  have HB7 : Hid (Below w.heap.size w (w6.setCell ⟨w3.heap.size, 6, none⟩ (.bool true))) := Lib.hid (below_set HB6.out HG4.out.1 _ _)
  have HUSE : Hid (Calls Tryz.prog 44 #[.pointer (some ⟨g, 0, none⟩), .agg #[.string ⟨y.1.e.k.toArray⟩, .int .i64 y.1.e.s, .int .i64 y.1.e.u, .int .i64 y.1.e.o, .bool y.1.e.has, .slice y.2.1 y.1.e.v.length y.2.2, .bool true, .bool y.1.cl, .int .i64 y.1.us]] (w6.setCell ⟨w3.heap.size, 6, none⟩ (.bool true)) (UsedC F g b tk (useS S { y.1 with wh := true }) (w6.setCell ⟨w3.heap.size, 6, none⟩ (.bool true)))) := Lib.hid (by
    have hv := (H.out.below HB7.out).val y HYM.out
    have := use_any HOK.out ({ y.1 with wh := true }, y.2) HYO.out HU.out _ (H.out.below HB7.out) ⟨hv.row, hv.cap, hv.mx⟩
    unfold cV at this
    exact this)
  have y0 := HX7.out.is 0 _ rfl
  have y1 := HX7.out.is 1 _ rfl
  have y2 := HX7.out.is 2 _ rfl
  have y3 := HX7.out.is 3 _ rfl
  have y4 := HX7.out.is 4 _ rfl
  have y5 := HX7.out.is 5 _ rfl
  have y6 := HX7.out.is 6 _ rfl
  have y7 := HX7.out.is 7 _ rfl
  have y8 := HX7.out.is 8 _ rfl
  go_wp2_with fail
  refine HUSE.out.mono ?_
  rintro e w8 ⟨rfl, hat, htu⟩
  have HFIN := Lib.hid (And.intro hat ((Touch.ofBelow HB7.out).trans htu fun k hk => Or.inl hk))
  clear hat htu
  go_wp2_with fail
  go_ret2
  exact ⟨rfl, HFIN.out.1, HFIN.out.2⟩
theorem fill_some_lay {F : Nat → Prop} {g b tk c : Nat} {S : Cl} {V : List CV} (ok : OkC S) (x : EV) (y : CV) (t : Int) (hx : okE x.1) (ht : t = tokK S x.1.k) (hu : S.us ≤ 4611686018427387904) (hM : ∀ t ∈ S.tok, t ≤ 4611686018427300000) (w : World) (h : ClB w F g b tk S V c) (hN : RowN (Own3 g b tk) w x.2.1 (x.1.v.map byteV)) (hc : x.1.v.length ≤ x.2.2) (hg : getK kC V x.1.k = some y) (hp : ¬ 0 < cE y.1.e x.1) (hq : (roomS S x.1).2 = 0) :
    Calls Tryz.prog 26 #[.pointer (some ⟨g, 0, none⟩), entV ⟨x.1.k.toArray⟩ x.1.s x.1.u x.1.o x.1.has x.2.1 x.1.v.length x.2.2, .int .i64 t] w (FillC F g b tk (useS (roomS S x.1).1 ⟨x.1, true, true, 0⟩, true, 0) w) := by
  obtain ⟨hs1, hs2, hs3, hs4⟩ := sizE_le hx
  have H := Lib.hid h
  have HOK := Lib.hid ok
  have HX := Lib.hid hx
  have HRW := Lib.hid hN
  have HCAP : Hid (x.1.v.length ≤ x.2.2 ∧ x.1.v.length ≤ 60000) := Lib.hid ⟨hc, hs3⟩
  have HM := Lib.hid hM
  have HU : Hid (S.us ≤ 4611686018427387904) := Lib.hid hu
  have HR := Lib.hid (right_valC (x := x) hx (by omega) (by omega))
  have HAL : Hid (Below w.heap.size w (w.alloc (.cells #[.string ⟨x.1.k.toArray⟩, .int .i64 x.1.s, .int .i64 x.1.u, .int .i64 x.1.o, .bool x.1.has, .slice x.2.1 x.1.v.length x.2.2] 43))) := Lib.hid ((Below.refl _ _).alloc (Nat.le_refl _) _)
  have HBL := Lib.hid (Blk.new w 43 #[.string ⟨x.1.k.toArray⟩, .int .i64 x.1.s, .int .i64 x.1.u, .int .i64 x.1.o, .bool x.1.has, .slice x.2.1 x.1.v.length x.2.2])
  have hgl := h.lt g h.fg
  obtain ⟨t0, ht0⟩ : ∃ t0, tokK S x.1.k = t0 := ⟨_, rfl⟩
  rw [ht0] at ht
  subst ht
  have hne : (t != t) = false := by simp
  have HTK : Hid (∀ W, Below w.heap.size w W → Calls Tryz.prog 42 #[.pointer (some ⟨g, 0, none⟩), .string ⟨x.1.k.toArray⟩] W (IsII0 t 0 W)) := Lib.hid fun W hb => by rw [← ht0]; exact token_any ok x.1.k (by omega) W (h.below hb)
  have HYM := Lib.hid (get_some hg).1
  have HYO := Lib.hid (h.okE ok (get_some hg).1)
  have hyk : y.1.e.k = x.1.k := (get_some hg).2
  obtain ⟨bw, hbw⟩ : ∃ bw, y.1.wh = bw := ⟨_, rfl⟩
  have HBW := Lib.hid hbw
  obtain ⟨cv, hcv⟩ : ∃ cv, cE y.1.e x.1 = cv := ⟨_, rfl⟩
  have HCV : Hid (cmpT y.1.e.s y.1.e.u y.1.e.o x.1.s x.1.u x.1.o = cv) := Lib.hid hcv
  rw [hcv] at hp
  have hp2 : cv ≤ 0 := by omega
  have HLK : Hid (∀ W, Below w.heap.size w W → (Instr.lookup 71 (.map (some b)) (.string ⟨x.1.k.toArray⟩) true).run Tryz.prog W = .ok (.tuple #[.agg #[.string ⟨y.1.e.k.toArray⟩, .int .i64 y.1.e.s, .int .i64 y.1.e.u, .int .i64 y.1.e.o, .bool y.1.e.has, .slice y.2.1 y.1.e.v.length y.2.2, .bool bw, .bool y.1.cl, .int .i64 y.1.us], .bool true]) W) := Lib.hid fun W hb => by
    have := look_okL h (k := x.1.k) (by unfold maxLen; omega) true W hb
    rw [show oldC V x.1.k = y by unfold oldC; rw [hg]; rfl, hg] at this
    unfold cV at this
    rw [hbw] at this
    exact this
  have HQ : Hid ((roomS S x.1).2 = 0) := Lib.hid hq
  clear h ok hx hN hc hM hs1 hs2 hs3 hs4 ht0 hg hyk hbw hcv hq hp
  go_enter Tryz.func26, Tryz.ntmps26
  go_wp2_with fail
  refine (HR.out _).mono ?_
  rintro e w1 ⟨rfl, hb⟩
  have HB1 := Lib.hid (HAL.out.trans (hb.mono HAL.out.size))
  have HE1 := Lib.hid (HBL.out.below hb HBL.out.lt)
  have HB2 := HB1
  have HE2 := HE1
  clear hb
  have k0 := HE2.out.is 0 _ rfl
  go_wp2_with fail
  refine (HTK.out _ HB2.out).mono ?_
  rintro e w3 ⟨rfl, hb⟩
  have HB3 := Lib.hid (HB2.out.trans (hb.mono HB2.out.size))
  have HE3 := Lib.hid (HE2.out.below hb HE2.out.lt)
  clear hb k0
  have c4 := (H.out.below HB3.out).c4
  have e0 := HE3.out.is 0 _ rfl
  have hg3 : g < w3.heap.size := Nat.lt_of_lt_of_le hgl HB3.out.size
  have he3 : w.heap.size < w3.heap.size := HE3.out.lt
  have HBA : Hid (∀ ob, Below w3.heap.size w3 (w3.alloc ob).drew) := Lib.hid fun ob => ((Below.refl _ _).alloc (Nat.le_refl _) ob).drew
  have hlkA := HLK.out w3.drew (HB3.out.trans ((Below.refl _ _).drew.mono HB3.out.size))
  have hlkB := fun ob => HLK.out (w3.alloc ob).drew (HB3.out.trans ((HBA.out ob).mono HB3.out.size))
  go_wp2_with fail
  go_region
  have HB5 := Lib.hid (HB3.out.trans ((HBA.out (.cells #[.string ⟨y.1.e.k.toArray⟩, .int .i64 y.1.e.s, .int .i64 y.1.e.u, .int .i64 y.1.e.o, .bool y.1.e.has, .slice y.2.1 y.1.e.v.length y.2.2, .bool bw, .bool y.1.cl, .int .i64 y.1.us] 88)).mono HB3.out.size))
  have HE5 := Lib.hid (HE3.out.below (HBA.out (.cells #[.string ⟨y.1.e.k.toArray⟩, .int .i64 y.1.e.s, .int .i64 y.1.e.u, .int .i64 y.1.e.o, .bool y.1.e.has, .slice y.2.1 y.1.e.v.length y.2.2, .bool bw, .bool y.1.cl, .int .i64 y.1.us] 88)) HE3.out.lt)
  have hX5 := Blk.new w3 88 #[.string ⟨y.1.e.k.toArray⟩, .int .i64 y.1.e.s, .int .i64 y.1.e.u, .int .i64 y.1.e.o, .bool y.1.e.has, .slice y.2.1 y.1.e.v.length y.2.2, .bool bw, .bool y.1.cl, .int .i64 y.1.us]
  have HX5 := Lib.hid (hX5.below (Below.refl _ _).drew hX5.lt)
  have HG4 : Hid (w.heap.size ≤ w3.heap.size ∧ w.heap.size < w3.heap.size) := Lib.hid ⟨HB3.out.size, he3⟩
  obtain ⟨w5, hw5⟩ : ∃ w5, (w3.alloc (.cells #[.string ⟨y.1.e.k.toArray⟩, .int .i64 y.1.e.s, .int .i64 y.1.e.u, .int .i64 y.1.e.o, .bool y.1.e.has, .slice y.2.1 y.1.e.v.length y.2.2, .bool bw, .bool y.1.cl, .int .i64 y.1.us] 88)).drew = w5 := ⟨_, rfl⟩
  rw [hw5] at HB5 HE5 HX5 ⊢
  clear hX5 c4 e0 hg3 he3 hlkA hlkB hw5
  have x1 := HX5.out.is 1 _ rfl
  have x2 := HX5.out.is 2 _ rfl
  have x3 := HX5.out.is 3 _ rfl
  have q1 := HE5.out.is 1 _ rfl
  have q2 := HE5.out.is 2 _ rfl
  have q3 := HE5.out.is 3 _ rfl
  go_wp2_with fail
  refine (compare_val _ _ _ _ _ _ _ HCV _).mono ?_
  rintro e w6 ⟨rfl, hb⟩
  have HB6 := Lib.hid (HB5.out.trans (hb.mono HB5.out.size))
  have HE6 := Lib.hid (HE5.out.below hb HE5.out.lt)
  have HX6 := Lib.hid (HX5.out.below hb HX5.out.lt)
  clear hb x1 x2 x3 q1 q2 q3
  have q0 := HE6.out.is 0 _ rfl
  have q1 := HE6.out.is 1 _ rfl
  have q2 := HE6.out.is 2 _ rfl
  have q3 := HE6.out.is 3 _ rfl
  have q4 := HE6.out.is 4 _ rfl
  have q5 := HE6.out.is 5 _ rfl
  have HMK := Lib.hid fun W (hb : Below w.heap.size w W) => makeRoom_any HOK.out x.1 x.2.1 x.2.2 HX.out HM.out W ⟨V, c, H.out.below hb⟩

  go_wp2_with fail
  refine (HMK.out _ HB6.out).mono ?_
  rintro e w7 ⟨rfl, ⟨V7, c7, hcb⟩, htu⟩
  have HCB := Lib.hid hcb
  have HTU : Hid (Touch (Own3 g b tk) w w7) := Lib.hid ((Touch.ofBelow HB6.out).trans htu fun k hk => Or.inl hk)
  have HE7 := Lib.hid ((HE6.out.touchT htu (H.out.not3 (Nat.le_refl _))))
  have HX7 := Lib.hid ((HX6.out.touchT htu (H.out.not3 HG4.out.1)))
  clear hcb htu q0 q1 q2 q3 q4 q5
  rw [HQ.out]
  have HDR : Hid (Below w7.heap.size w7 w7) := Lib.hid (Below.refl _ _)
  have HVO : Hid (ValOk w7 x.1.has x.2.1 x.1.v x.2.2) := Lib.hid ⟨(HRW.out.touch HTU.out).row, by have := HCAP.out.2; omega, HCAP.out.1⟩
  have HCPY : Hid (∀ W, Below w7.heap.size w7 W → Calls Tryz.prog 37 #[entV ⟨x.1.k.toArray⟩ x.1.s x.1.u x.1.o x.1.has x.2.1 x.1.v.length x.2.2] W (MadeE W.heap.size ⟨x.1.k.toArray⟩ x.1.s x.1.u x.1.o x.1.has x.1.v W)) := Lib.hid fun W hb => copyE_any ⟨x.1.k.toArray⟩ x.1.s x.1.u x.1.o x.1.has x.2.1 x.1.v x.1.v.length x.2.2 rfl W (HVO.out.below hb)
  have s0 := HE7.out.is 0 _ rfl
  have s1 := HE7.out.is 1 _ rfl
  have s2 := HE7.out.is 2 _ rfl
  have s3 := HE7.out.is 3 _ rfl
  have s4 := HE7.out.is 4 _ rfl
  have s5 := HE7.out.is 5 _ rfl
  go_wp2_with fail
  refine (HCPY.out _ HDR.out).mono ?_
  rintro e w8 ⟨A8, c8, rfl, ho, hb⟩
  have HB8 := Lib.hid (HDR.out.trans (hb.mono HDR.out.size))

  have HUSE := Lib.hid (use_any (room_us HOK.out x.1).1 (⟨x.1, true, true, 0⟩, A8, c8) HX.out (by rw [(room_us HOK.out x.1).2]; exact HU.out) w8 (HCB.out.below HB8.out) (valF_new HCB.out HDR.out.size ho))
  clear ho hb
  unfold cV at HUSE
  go_wp2_with fail
  refine HUSE.out.mono ?_
  rintro e w9 ⟨rfl, hat, htu⟩
  have HFIN := Lib.hid (And.intro hat ((HTU.out.thenBelow HB8.out).trans htu fun k hk => Or.inl hk))
  clear hat htu
  go_wp2_with fail
  go_ret2
  exact ⟨rfl, HFIN.out.1, HFIN.out.2⟩
theorem fill_some_busy {F : Nat → Prop} {g b tk c : Nat} {S : Cl} {V : List CV} (ok : OkC S) (x : EV) (y : CV) (t : Int) (hx : okE x.1) (ht : t = tokK S x.1.k) (hu : S.us ≤ 4611686018427387904) (hM : ∀ t ∈ S.tok, t ≤ 4611686018427300000) (w : World) (h : ClB w F g b tk S V c) (hN : RowN (Own3 g b tk) w x.2.1 (x.1.v.map byteV)) (hc : x.1.v.length ≤ x.2.2) (hg : getK kC V x.1.k = some y) (hp : ¬ 0 < cE y.1.e x.1) (hq : (roomS S x.1).2 ≠ 0) :
    Calls Tryz.prog 26 #[.pointer (some ⟨g, 0, none⟩), entV ⟨x.1.k.toArray⟩ x.1.s x.1.u x.1.o x.1.has x.2.1 x.1.v.length x.2.2, .int .i64 t] w (FillC F g b tk (S, false, 30) w) := by
  obtain ⟨hs1, hs2, hs3, hs4⟩ := sizE_le hx
  have H := Lib.hid h
  have HOK := Lib.hid ok
  have HX := Lib.hid hx
  have HRW := Lib.hid hN
  have HCAP : Hid (x.1.v.length ≤ x.2.2 ∧ x.1.v.length ≤ 60000) := Lib.hid ⟨hc, hs3⟩
  have HM := Lib.hid hM
  have HU : Hid (S.us ≤ 4611686018427387904) := Lib.hid hu
  have HR := Lib.hid (right_valC (x := x) hx (by omega) (by omega))
  have HAL : Hid (Below w.heap.size w (w.alloc (.cells #[.string ⟨x.1.k.toArray⟩, .int .i64 x.1.s, .int .i64 x.1.u, .int .i64 x.1.o, .bool x.1.has, .slice x.2.1 x.1.v.length x.2.2] 43))) := Lib.hid ((Below.refl _ _).alloc (Nat.le_refl _) _)
  have HBL := Lib.hid (Blk.new w 43 #[.string ⟨x.1.k.toArray⟩, .int .i64 x.1.s, .int .i64 x.1.u, .int .i64 x.1.o, .bool x.1.has, .slice x.2.1 x.1.v.length x.2.2])
  have hgl := h.lt g h.fg
  obtain ⟨t0, ht0⟩ : ∃ t0, tokK S x.1.k = t0 := ⟨_, rfl⟩
  rw [ht0] at ht
  subst ht
  have hne : (t != t) = false := by simp
  have HTK : Hid (∀ W, Below w.heap.size w W → Calls Tryz.prog 42 #[.pointer (some ⟨g, 0, none⟩), .string ⟨x.1.k.toArray⟩] W (IsII0 t 0 W)) := Lib.hid fun W hb => by rw [← ht0]; exact token_any ok x.1.k (by omega) W (h.below hb)
  have HYM := Lib.hid (get_some hg).1
  have HYO := Lib.hid (h.okE ok (get_some hg).1)
  have hyk : y.1.e.k = x.1.k := (get_some hg).2
  obtain ⟨bw, hbw⟩ : ∃ bw, y.1.wh = bw := ⟨_, rfl⟩
  have HBW := Lib.hid hbw
  obtain ⟨cv, hcv⟩ : ∃ cv, cE y.1.e x.1 = cv := ⟨_, rfl⟩
  have HCV : Hid (cmpT y.1.e.s y.1.e.u y.1.e.o x.1.s x.1.u x.1.o = cv) := Lib.hid hcv
  rw [hcv] at hp
  have hp2 : cv ≤ 0 := by omega
  have HLK : Hid (∀ W, Below w.heap.size w W → (Instr.lookup 71 (.map (some b)) (.string ⟨x.1.k.toArray⟩) true).run Tryz.prog W = .ok (.tuple #[.agg #[.string ⟨y.1.e.k.toArray⟩, .int .i64 y.1.e.s, .int .i64 y.1.e.u, .int .i64 y.1.e.o, .bool y.1.e.has, .slice y.2.1 y.1.e.v.length y.2.2, .bool bw, .bool y.1.cl, .int .i64 y.1.us], .bool true]) W) := Lib.hid fun W hb => by
    have := look_okL h (k := x.1.k) (by unfold maxLen; omega) true W hb
    rw [show oldC V x.1.k = y by unfold oldC; rw [hg]; rfl, hg] at this
    unfold cV at this
    rw [hbw] at this
    exact this
  have HQ : Hid (roomS S x.1 = (S, 30)) := Lib.hid (room_busy ok.srt hq)
  clear h ok hx hN hc hM hs1 hs2 hs3 hs4 ht0 hg hyk hbw hcv hq hp
  go_enter Tryz.func26, Tryz.ntmps26
  go_wp2_with fail
  refine (HR.out _).mono ?_
  rintro e w1 ⟨rfl, hb⟩
  have HB1 := Lib.hid (HAL.out.trans (hb.mono HAL.out.size))
  have HE1 := Lib.hid (HBL.out.below hb HBL.out.lt)
  have HB2 := HB1
  have HE2 := HE1
  clear hb
  have k0 := HE2.out.is 0 _ rfl
  go_wp2_with fail
  refine (HTK.out _ HB2.out).mono ?_
  rintro e w3 ⟨rfl, hb⟩
  have HB3 := Lib.hid (HB2.out.trans (hb.mono HB2.out.size))
  have HE3 := Lib.hid (HE2.out.below hb HE2.out.lt)
  clear hb k0
  have c4 := (H.out.below HB3.out).c4
  have e0 := HE3.out.is 0 _ rfl
  have hg3 : g < w3.heap.size := Nat.lt_of_lt_of_le hgl HB3.out.size
  have he3 : w.heap.size < w3.heap.size := HE3.out.lt
  have HBA : Hid (∀ ob, Below w3.heap.size w3 (w3.alloc ob).drew) := Lib.hid fun ob => ((Below.refl _ _).alloc (Nat.le_refl _) ob).drew
  have hlkA := HLK.out w3.drew (HB3.out.trans ((Below.refl _ _).drew.mono HB3.out.size))
  have hlkB := fun ob => HLK.out (w3.alloc ob).drew (HB3.out.trans ((HBA.out ob).mono HB3.out.size))
  go_wp2_with fail
  go_region
  have HB5 := Lib.hid (HB3.out.trans ((HBA.out (.cells #[.string ⟨y.1.e.k.toArray⟩, .int .i64 y.1.e.s, .int .i64 y.1.e.u, .int .i64 y.1.e.o, .bool y.1.e.has, .slice y.2.1 y.1.e.v.length y.2.2, .bool bw, .bool y.1.cl, .int .i64 y.1.us] 88)).mono HB3.out.size))
  have HE5 := Lib.hid (HE3.out.below (HBA.out (.cells #[.string ⟨y.1.e.k.toArray⟩, .int .i64 y.1.e.s, .int .i64 y.1.e.u, .int .i64 y.1.e.o, .bool y.1.e.has, .slice y.2.1 y.1.e.v.length y.2.2, .bool bw, .bool y.1.cl, .int .i64 y.1.us] 88)) HE3.out.lt)
  have hX5 := Blk.new w3 88 #[.string ⟨y.1.e.k.toArray⟩, .int .i64 y.1.e.s, .int .i64 y.1.e.u, .int .i64 y.1.e.o, .bool y.1.e.has, .slice y.2.1 y.1.e.v.length y.2.2, .bool bw, .bool y.1.cl, .int .i64 y.1.us]
  have HX5 := Lib.hid (hX5.below (Below.refl _ _).drew hX5.lt)
  have HG4 : Hid (w.heap.size ≤ w3.heap.size ∧ w.heap.size < w3.heap.size) := Lib.hid ⟨HB3.out.size, he3⟩
  obtain ⟨w5, hw5⟩ : ∃ w5, (w3.alloc (.cells #[.string ⟨y.1.e.k.toArray⟩, .int .i64 y.1.e.s, .int .i64 y.1.e.u, .int .i64 y.1.e.o, .bool y.1.e.has, .slice y.2.1 y.1.e.v.length y.2.2, .bool bw, .bool y.1.cl, .int .i64 y.1.us] 88)).drew = w5 := ⟨_, rfl⟩
  rw [hw5] at HB5 HE5 HX5 ⊢
  clear hX5 c4 e0 hg3 he3 hlkA hlkB hw5
  have x1 := HX5.out.is 1 _ rfl
  have x2 := HX5.out.is 2 _ rfl
  have x3 := HX5.out.is 3 _ rfl
  have q1 := HE5.out.is 1 _ rfl
  have q2 := HE5.out.is 2 _ rfl
  have q3 := HE5.out.is 3 _ rfl
  go_wp2_with fail
  refine (compare_val _ _ _ _ _ _ _ HCV _).mono ?_
  rintro e w6 ⟨rfl, hb⟩
  have HB6 := Lib.hid (HB5.out.trans (hb.mono HB5.out.size))
  have HE6 := Lib.hid (HE5.out.below hb HE5.out.lt)
  have HX6 := Lib.hid (HX5.out.below hb HX5.out.lt)
  clear hb x1 x2 x3 q1 q2 q3
  have q0 := HE6.out.is 0 _ rfl
  have q1 := HE6.out.is 1 _ rfl
  have q2 := HE6.out.is 2 _ rfl
  have q3 := HE6.out.is 3 _ rfl
  have q4 := HE6.out.is 4 _ rfl
  have q5 := HE6.out.is 5 _ rfl
  have HMK := Lib.hid fun W (hb : Below w.heap.size w W) => makeRoom_any HOK.out x.1 x.2.1 x.2.2 HX.out HM.out W ⟨V, c, H.out.below hb⟩
  rw [HQ.out] at HMK
  go_wp2_with fail
  refine (HMK.out _ HB6.out).mono ?_
  rintro e w7 ⟨rfl, ⟨V7, c7, hcb⟩, htu⟩
  have HCB := Lib.hid hcb
  have HTU : Hid (Touch (Own3 g b tk) w w7) := Lib.hid ((Touch.ofBelow HB6.out).trans htu fun k hk => Or.inl hk)
  have HE7 := Lib.hid ((HE6.out.touchT htu (H.out.not3 (Nat.le_refl _))))
  have HX7 := Lib.hid ((HX6.out.touchT htu (H.out.not3 HG4.out.1)))
  clear hcb htu q0 q1 q2 q3 q4 q5
  go_wp2_with fail
  go_ret2
  exact ⟨rfl, ⟨V7, c7, HCB.out⟩, HTU.out⟩
theorem lay_eq {S : Cl} (ok : OkC S) {e : EntP} {wh cl : Bool} : layS S e wh cl = if (roomS S e).2 = 0 then (useS (roomS S e).1 ⟨e, wh, cl, 0⟩, 0) else (S, 30) := by
  unfold layS
  by_cases hq : (roomS S e).2 = 0
  · rw [if_pos hq, if_pos hq]
  · rw [if_neg hq, if_neg hq]; exact room_busy ok.srt hq
theorem layF_eq {S : Cl} (ok : OkC S) {e : EntP} : layF S e = if (roomS S e).2 = 0 then (useS (roomS S e).1 ⟨e, true, true, 0⟩, true, 0) else (S, false, 30) := by
  unfold layF
  rw [lay_eq ok]
  split <;> rfl
theorem store_any {F : Nat → Prop} {g b tk : Nat} {S : Cl} (ok : OkC S) (x : EV) (hl : x.1.v.length ≤ x.2.2 ∧ x.2.2 ≤ maxLen) (hk : x.1.k.length ≤ maxLen) (hu : S.us ≤ 4611686018427387904) (hM : ∀ t ∈ S.tok, t ≤ 4611686018427300000) (w : World) (h : ClAt w F g b tk S) (hN : RowN (Own3 g b tk) w x.2.1 (x.1.v.map byteV)) :
    Calls Tryz.prog 20 #[.pointer (some ⟨g, 0, none⟩), entV ⟨x.1.k.toArray⟩ x.1.s x.1.u x.1.o x.1.has x.2.1 x.1.v.length x.2.2] w (RoomC F g b tk (storeS S x.1) w) := by
  unfold storeS
  by_cases hb : ¬ okE x.1 ∨ x.1.s = 0
  · rw [if_pos hb]
    exact store_bad x (by have := hl; unfold maxLen at this; omega) (by unfold maxLen at hk; omega) hb w h
  · rw [if_neg hb]
    have hx : okE x.1 := Classical.byContradiction fun e => hb (Or.inl e)
    have hs : x.1.s ≠ 0 := fun e => hb (Or.inr e)
    obtain ⟨V, c, h⟩ := h
    rw [h.get]
    cases hg : getK kC V x.1.k with
    | none =>
      show Calls _ _ _ _ (RoomC F g b tk (layS S x.1 (tokK S x.1.k == 0) false) w)
      rw [lay_eq ok]
      by_cases hq : (roomS S x.1).2 = 0
      · rw [if_pos hq]; exact store_none_lay ok x hx hs hu hM w h hN hl.1 hg hq
      · rw [if_neg hq]; exact store_none_busy ok x hx hs hu hM w h hN hl.1 hg hq
    | some y =>
      show Calls _ _ _ _ (RoomC F g b tk (if 0 ≤ cE y.1.e x.1 then (useS S y.1, 0) else layS S x.1 y.1.wh false) w)
      by_cases hp : 0 ≤ cE y.1.e x.1
      · rw [if_pos hp]; exact store_some_use ok x y hx hs hu hM w h hN hl.1 hg hp
      · rw [if_neg hp, lay_eq ok]
        by_cases hq : (roomS S x.1).2 = 0
        · rw [if_pos hq]; exact store_some_lay ok x y hx hs hu hM w h hN hl.1 hg hp hq
        · rw [if_neg hq]; exact store_some_busy ok x y hx hs hu hM w h hN hl.1 hg hp hq
theorem fill_any {F : Nat → Prop} {g b tk : Nat} {S : Cl} (ok : OkC S) (x : EV) (t : Int) (hl : x.1.v.length ≤ x.2.2 ∧ x.2.2 ≤ maxLen) (hk : x.1.k.length ≤ maxLen) (hu : S.us ≤ 4611686018427387904) (hM : ∀ t ∈ S.tok, t ≤ 4611686018427300000) (w : World) (h : ClAt w F g b tk S) (hN : RowN (Own3 g b tk) w x.2.1 (x.1.v.map byteV)) :
    Calls Tryz.prog 26 #[.pointer (some ⟨g, 0, none⟩), entV ⟨x.1.k.toArray⟩ x.1.s x.1.u x.1.o x.1.has x.2.1 x.1.v.length x.2.2, .int .i64 t] w (FillC F g b tk (fillS S x.1 t) w) := by
  unfold fillS
  by_cases hb : ¬ okE x.1
  · rw [if_pos hb]
    exact fill_bad x t (by have := hl; unfold maxLen at this; omega) (by unfold maxLen at hk; omega) hb w h
  · rw [if_neg hb]
    have hx : okE x.1 := Classical.not_not.1 hb
    obtain ⟨V, c, h⟩ := h
    by_cases ht : t ≠ tokK S x.1.k
    · rw [if_pos ht]
      exact fill_other ok x t hx ht hu hM w h hN hl.1
    · rw [if_neg ht]
      have ht : t = tokK S x.1.k := Classical.not_not.1 ht
      rw [h.get]
      cases hg : getK kC V x.1.k with
      | none =>
        show Calls _ _ _ _ (FillC F g b tk (layF S x.1) w)
        rw [layF_eq ok]
        by_cases hq : (roomS S x.1).2 = 0
        · rw [if_pos hq]; exact fill_none_lay ok x t hx ht hu hM w h hN hl.1 hg hq
        · rw [if_neg hq]; exact fill_none_busy ok x t hx ht hu hM w h hN hl.1 hg hq
      | some y =>
        show Calls _ _ _ _ (FillC F g b tk (if 0 < cE y.1.e x.1 then (useS S { y.1 with wh := true }, true, 0) else layF S x.1) w)
        by_cases hp : 0 < cE y.1.e x.1
        · rw [if_pos hp]; exact fill_some_use ok x y t hx ht hu hM w h hN hl.1 hg hp
        · rw [if_neg hp, layF_eq ok]
          by_cases hq : (roomS S x.1).2 = 0
          · rw [if_pos hq]; exact fill_some_lay ok x y t hx ht hu hM w h hN hl.1 hg hp hq
          · rw [if_neg hq]; exact fill_some_busy ok x y t hx ht hu hM w h hN hl.1 hg hp hq
end Go.Proofs.YtpebhfjcakllmaaGreat
