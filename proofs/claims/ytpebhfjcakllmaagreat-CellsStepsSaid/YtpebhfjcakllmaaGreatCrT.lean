/- CrT: The reference's table of cells, in memory; where a key is found, its bucket, how much there is. -/
import Derived.Test.YtpebhfjcakllmaaGreatCrP
import Derived.Test.YtpebhfjcakllmaaGreatClK
import Derived.Test.YtpebhfjcakllmaaGreatBoxT
import Derived.Test.YtpebhfjcakllmaaGreatLaterR
import Derived.BigFrame
namespace Go.Proofs.YtpebhfjcakllmaaGreat
open Go.RowKit Go.ChangeShapes Mem Be Word Rg Go.Maps
set_option maxRecDepth 100000
set_option maxHeartbeats 8000000
set_option linter.unusedVariables false
set_option linter.unusedSimpArgs false
/-- The reference's table, a value: its room, its cells, tokens and uses, and where they lie. -/
structure Tr where
  rc : Int
  rb : Int
  nb : Nat
  fr : Bool
  L : List CV
  A : Option Addr
  c : Nat
  tok : List Int
  tA : Option Addr
  tc : Nat
  us : Int
def trS (t : Tr) : Cl := ⟨t.rc, t.rb, t.nb, t.fr, t.L.map Prod.fst, t.tok, t.us⟩
theorem trT_len (t : Tr) : (trS t).T.length = t.L.length := List.length_map _
theorem trT_at (t : Tr) (i : Nat) (hi : i < (trS t).T.length) (h2 : i < t.L.length) : (trS t).T[i] = (t.L[i]'h2).1 := List.getElem_map (f := Prod.fst) (l := t.L) (h := hi)
structure TrM (w : World) (t : Tr) : Prop where
  cev : CeV w t.A t.L
  cap : t.L.length ≤ t.c
  tok : Row w w.heap.size t.tA (t.tok.map iV)
  ln : t.L.length ≤ 100000
  tl : t.tok.length ≤ 100000
theorem TrM.below {w w' : World} {t : Tr} (h : TrM w t) (hb : Below w.heap.size w w') : TrM w' t := ⟨h.cev.below hb, h.cap, (h.tok.below hb).more hb.size, h.ln, h.tl⟩
def VlN (F : Nat → Prop) (w : World) (v : List UInt8) (A : Option Addr) (c : Nat) : Prop := RowN F w A (v.map byteV) ∧ v.length ≤ c ∧ c ≤ maxLen ∧ v.length ≤ 60000
/-- The same, outside of some blocks. -/
structure TrN (F : Nat → Prop) (w : World) (t : Tr) : Prop where
  cen : CeN F w t.A t.L
  cap : t.L.length ≤ t.c
  tok : RowN F w t.tA (t.tok.map iV)
  ln : t.L.length ≤ 100000
  tl : t.tok.length ≤ 100000
section
variable {F : Nat → Prop} {w w' : World} {A : Option Addr} {xs : List Value} {v : List UInt8} {c g : Nat} {t : Tr}
theorem RowN.wide (h : RowN F w A xs) (hb : Below w.heap.size w w') : RowN (More2 F w.heap.size w'.heap.size) w' A xs := by
  rcases h with h | ⟨b, o, e, hf, hl, hc⟩
  · exact Or.inl h
  · exact Or.inr ⟨b, o, e, fun q => by rcases q with q | q; exact hf q; omega, Nat.lt_of_lt_of_le hl hb.size, fun j hj => (World.cell?_of_block (hb.block b hl)).trans (hc j hj)⟩
theorem RowN.narrow {a b : Nat} (h : RowN (More2 F a b) w A xs) : RowN F w A xs := by
  rcases h with h | ⟨b, o, e, hf, hl, hc⟩
  · exact Or.inl h
  · exact Or.inr ⟨b, o, e, fun q => hf (Or.inl q), hl, hc⟩
theorem touch_box (hg : w.grownBy w' (some g)) (hF : F g) : Touch F w w' := ⟨hg.os, hg.tape, hg.output, hg.size, fun k hk hn => hg.block k hk fun e => hn (by injection e with e; rw [e]; exact hF)⟩
theorem VlN.ok {has : Bool} (h : VlN F w v A c) : ValOk w has A v c := ⟨h.1.row, by have := h.2.2.2; omega, h.2.1⟩
theorem VlN.touch (h : VlN F w v A c) (ht : Touch F w w') : VlN F w' v A c := ⟨h.1.touch ht, h.2⟩
theorem VlN.below (h : VlN F w v A c) (hb : Below w.heap.size w w') : VlN F w' v A c := h.touch (Touch.ofBelow hb)
theorem VlN.wide (h : VlN F w v A c) (hb : Below w.heap.size w w') : VlN (More2 F w.heap.size w'.heap.size) w' v A c := ⟨h.1.wide hb, h.2⟩
theorem VlN.narrow {a b : Nat} (h : VlN (More2 F a b) w v A c) : VlN F w v A c := ⟨h.1.narrow, h.2⟩
theorem TrN.m (h : TrN F w t) : TrM w t := ⟨h.cen.cev, h.cap, h.tok.row, h.ln, h.tl⟩
theorem TrN.touch (h : TrN F w t) (ht : Touch F w w') : TrN F w' t := ⟨h.cen.touch ht, h.cap, h.tok.touch ht, h.ln, h.tl⟩
theorem TrN.below (h : TrN F w t) (hb : Below w.heap.size w w') : TrN F w' t := h.touch (Touch.ofBelow hb)
theorem TrN.wide (h : TrN F w t) (hb : Below w.heap.size w w') : TrN (More2 F w.heap.size w'.heap.size) w' t := ⟨⟨h.cen.row.wide hb, fun x hx => (show VlN _ _ _ _ _ from h.cen.val x hx).wide hb⟩, h.cap, h.tok.wide hb, h.ln, h.tl⟩
theorem TrN.narrow {a b : Nat} (h : TrN (More2 F a b) w t) : TrN F w t := ⟨⟨h.cen.row.narrow, fun x hx => (show VlN _ _ _ _ _ from h.cen.val x hx).narrow⟩, h.cap, h.tok.narrow, h.ln, h.tl⟩
theorem TrN.val (h : TrN F w t) {x : CV} (hx : x ∈ t.L) : VlN F w x.1.e.v x.2.1 x.2.2 := h.cen.val x hx
theorem more2_lt {a : Nat} (hF : ∀ k, F k → k < w.heap.size) (hb : w.heap.size ≤ w'.heap.size) : ∀ k, More2 F a w'.heap.size k → k < w'.heap.size := fun k hk => by
  rcases hk with hk | hk
  · have := hF k hk; omega
  · exact hk.2
end
/-- A table that is handed back: nothing of it lies in the blocks of F. -/
def TrP (F : Nat → Prop) (S : Cl) (w : World) (e : Ending) (w' : World) : Prop := ∃ t : Tr, e = .returned (.agg #[.int .i64 t.rc, .int .i64 t.rb, .int .i64 (t.nb : Int), .bool t.fr, .slice t.A t.L.length t.c, .slice t.tA t.tok.length t.tc, .int .i64 t.us]) ∧ trS t = S ∧ TrN F w' t ∧ Below w.heap.size w w'
theorem own_upT {w w' : World} {B s n g : Nat} {e : TypeId} {v : Value} {xs : List Value} (h : w.ownsRow B e s v n xs) (hg : w.grownBy w' (some g)) (hB : g < B) : w'.ownsRow B e s v n xs :=
  h.kept hg (by
    cases hv : v.ownBlock with
    | none => exact Or.inl rfl
    | some k => exact Or.inr (fun e => by injection e with e; have := (h.lt k hv).1; omega))
/-- A table whose cells lie in a row of their own: handed back. -/
theorem tr_end {F : Nat → Prop} {t : Tr} {S' : Cl} {L' : List CV} {w wz : World} {B N1 c1 : Nat} {A1 : Option Addr} (h : TrN F w t) (hF : ∀ k, F k → k < w.heap.size) (hb : Below w.heap.size w wz) (hB : w.heap.size ≤ B) (ho : wz.ownsRow B 88 9 (.slice A1 N1 c1) N1 (cellsC L')) (hn : N1 = L'.length)
    (hval : ∀ y ∈ L', y ∈ t.L ∨ VlN F wz y.1.e.v y.2.1 y.2.2) (hl : L'.length ≤ 100000) (hS : S' = { trS t with T := L'.map Prod.fst }) :
    TrP F S' w (.returned (.agg #[.int .i64 t.rc, .int .i64 t.rb, .int .i64 (t.nb : Int), .bool t.fr, .slice A1 N1 c1, .slice t.tA t.tok.length t.tc, .int .i64 t.us])) wz := by
  subst hn
  obtain ⟨_, _, e, hc, _⟩ := ownShape ho
  injection e with _ _ e
  subst e
  have hm := h.below hb
  exact ⟨⟨t.rc, t.rb, t.nb, t.fr, L', A1, _, t.tok, t.tA, t.tc, t.us⟩, rfl, hS.symm, ⟨⟨rowN_own hF (ownBase ho hB), fun y hy => (hval y hy).elim (fun h2 => hm.cen.val y h2) id⟩, hc, hm.tok, hl, hm.tl⟩, hb⟩
theorem keys_ne {x k : List UInt8} (h : ¬ x = k) : ((⟨x.toArray⟩ : ByteArray).toList == (⟨k.toArray⟩ : ByteArray).toList) = false := list_ne (fun e => h (by
  injection e with e
  have := congrArg Array.toList e
  simpa using this))
theorem rfind (t : Tr) (k : List UInt8) (w : World) (h : TrM w t) (hs : SortT kP (trS t).T) :
    Calls Tryz.prog 48 #[.agg #[.int .i64 t.rc, .int .i64 t.rb, .int .i64 (t.nb : Int), .bool t.fr, .slice t.A t.L.length t.c, .slice t.tA t.tok.length t.tc, .int .i64 t.us], .string ⟨k.toArray⟩] w (fun e w' => ∃ r, e = .returned (.int .i64 r) ∧ FindR (trS t).T k r ∧ Below w.heap.size w w') := by
  have hb : Below w.heap.size w (w.alloc (.cells #[.int .i64 t.rc, .int .i64 t.rb, .int .i64 (t.nb : Int), .bool t.fr, .slice t.A t.L.length t.c, .slice t.tA t.tok.length t.tc, .int .i64 t.us] 34)) := (Below.refl _ _).alloc (Nat.le_refl _) _
  have HK := Lib.hid (Blk.new w 34 #[.int .i64 t.rc, .int .i64 t.rb, .int .i64 (t.nb : Int), .bool t.fr, .slice t.A t.L.length t.c, .slice t.tA t.tok.length t.tc, .int .i64 t.us])
  have HM := Lib.hid (h.below hb)
  have HS := Lib.hid hs
  have HB0 := Lib.hid hb
  have hln := h.ln
  obtain ⟨W1, hW1⟩ : ∃ W, w.alloc (.cells #[.int .i64 t.rc, .int .i64 t.rb, .int .i64 (t.nb : Int), .bool t.fr, .slice t.A t.L.length t.c, .slice t.tA t.tok.length t.tc, .int .i64 t.us] 34) = W := ⟨_, rfl⟩
  rw [hW1] at HK HM HB0
  have hni : (t.L.length : Int) ≤ 100000 := by omega
  have hni0 : (0 : Int) ≤ (t.L.length : Int) := by omega
  obtain ⟨n, hn⟩ : ∃ n, t.L.length = n := ⟨_, rfl⟩
  have HN := Lib.hid hn
  have HK4 : Hid (∀ W, Below W1.heap.size W1 W → W.cell? ⟨w.heap.size, 4, none⟩ = some (.slice t.A n t.c)) := Lib.hid fun W hb => by
    rw [← hn]; exact (HK.out.below hb HK.out.lt).cell 4
  rw [hn] at hni hni0
  clear hb h hs hn hln
  go_enter Tryz.func48, Tryz.ntmps48
  go_wp2
  clear hW1
  go_loopw [5] (fun i wr => ∃ j : Nat, j ≤ n ∧ i = .int .i64 j ∧ Hid (∀ i (hi : i < t.L.length), i < j → t.L[i].1.e.k ≠ k) ∧ Hid (Below W1.heap.size W1 wr)) (fun i _ => n - (intOf i).toNat)
  case atStart => exact ⟨0, Nat.zero_le _, rfl, Lib.hid (fun _ _ h => absurd h (Nat.not_lt_zero _)), Lib.hid (Below.refl _ _)⟩
  case round =>
    obtain ⟨j, hj, rfl, HF, HB⟩ := hrel
    have HBW := Lib.hid (HB0.out.trans (HB.out.mono HB0.out.size))
    by_cases hlt : j < n
    · have hj1 : j < t.L.length := by rw [HN.out]; exact hlt
      obtain ⟨b, o, hA, hb, hc⟩ := cells_open (HM.out.cev.below HB.out).row (by omega)
      have h4 : wr.cell? ⟨w.heap.size, 4, none⟩ = some (.slice (some ⟨b, o, none⟩) n t.c) := by rw [← hA]; exact HK4.out wr HB.out
      have hc0 := hc j hj1 0 _ rfl
      rw [Nat.add_zero] at hc0
      have hji : (0 : Int) ≤ (j : Int) := by omega
      have hji2 : (j : Int) < (n : Int) := by omega
      obtain ⟨x, hx⟩ : ∃ x, (t.L[j]'hj1).1.e.k = x := ⟨_, rfl⟩
      rw [hx] at hc0
      have HX := Lib.hid hx
      clear hc hx hA
      by_cases hkey : x = k
      · subst hkey
        go_wp2
        go_ret
        exact ⟨_, rfl, find_at HS.out j (by rw [trT_len]; exact hj1) (by rw [trT_at t j _ hj1]; exact HX.out), HBW.out⟩
      · have hb2 := keys_ne hkey
        have hb3 : (x == k) = false := by simpa using hkey
        have HF2 : Hid (∀ i (hi : i < t.L.length), i < j + 1 → t.L[i].1.e.k ≠ k) := Lib.hid fun i hi h1 => by
          by_cases e : i = j
          · subst e; rw [HX.out]; exact hkey
          · exact HF.out i hi (by omega)
        clear hkey
        go_wp2
        go_roundw
        case rel => exact ⟨j + 1, by omega, by go_num, HF2, HB⟩
        case measure => simp [intOf]; omega
    · obtain rfl : j = n := by omega
      have h4 : wr.cell? ⟨w.heap.size, 4, none⟩ = some (.slice t.A j t.c) := HK4.out wr HB.out
      go_wp2
      go_ret
      exact ⟨_, rfl, find_no fun i hi => by
        have hi' : i < t.L.length := by rw [trT_len] at hi; exact hi
        rw [trT_at t i hi hi']; exact HF.out i hi' (by rw [← HN.out]; exact hi'), HBW.out⟩
theorem rbucket (t : Tr) (k : List UInt8) (hk : k.length ≤ 100000) (hn : 1 ≤ t.nb ∧ t.nb ≤ 256) (w : World) :
    Calls Tryz.prog 47 #[.agg #[.int .i64 t.rc, .int .i64 t.rb, .int .i64 (t.nb : Int), .bool t.fr, .slice t.A t.L.length t.c, .slice t.tA t.tok.length t.tc, .int .i64 t.us], .string ⟨k.toArray⟩] w (fun e w' => e = .returned (.int .i64 ((bk t.nb k : Nat) : Int)) ∧ Below w.heap.size w w') := by
  have HC := Lib.hid fun W => refbucket_any ⟨k.toArray⟩ (t.nb : Int) (by show k.toArray.size ≤ _; rw [List.size_toArray]; omega) W
  rw [bucket_bk hn k] at HC
  have HB : Hid (Below w.heap.size w (w.alloc (.cells #[.int .i64 t.rc, .int .i64 t.rb, .int .i64 (t.nb : Int), .bool t.fr, .slice t.A t.L.length t.c, .slice t.tA t.tok.length t.tc, .int .i64 t.us] 34))) := Lib.hid ((Below.refl _ _).alloc (Nat.le_refl _) _)
  clear hk hn
  go_enter Tryz.func47, Tryz.ntmps47
  go_wp2_with fail
  refine (HC.out _).mono ?_
  rintro e w2 ⟨rfl, hb⟩
  have HB2 := Lib.hid (HB.out.trans (hb.mono HB.out.size))
  clear hb
  go_wp2
  go_ret
  exact ⟨rfl, HB2.out⟩
theorem rsize (x : CP) (xA : Option Addr) (xc : Nat) (hl : (x.e.k.length : Int) + (x.e.v.length : Int) ≤ 9223372036854775807) (w : World) :
    Calls Tryz.prog 39 #[.agg #[.string ⟨x.e.k.toArray⟩, .int .i64 x.e.s, .int .i64 x.e.u, .int .i64 x.e.o, .bool x.e.has, .slice xA x.e.v.length xc, .bool x.wh, .bool x.cl, .int .i64 x.us]] w (fun e w' => e = .returned (.int .i64 ((sizE x.e : Nat) : Int)) ∧ Below w.heap.size w w') := by
  have HB : Hid (Below w.heap.size w (w.alloc (.cells #[.string ⟨x.e.k.toArray⟩, .int .i64 x.e.s, .int .i64 x.e.u, .int .i64 x.e.o, .bool x.e.has, .slice xA x.e.v.length xc, .bool x.wh, .bool x.cl, .int .i64 x.us] 88))) := Lib.hid ((Below.refl _ _).alloc (Nat.le_refl _) _)
  have h1 : (0 : Int) ≤ (x.e.k.length : Int) := by omega
  have h2 : (0 : Int) ≤ (x.e.v.length : Int) := by omega
  have h3 : (x.e.k.length : Int) ≤ 9223372036854775807 := by omega
  have h4 : (x.e.v.length : Int) ≤ 9223372036854775807 := by omega
  have hw : IntKind.i64.wrap ((x.e.k.length : Int) + (x.e.v.length : Int)) = (x.e.k.length : Int) + (x.e.v.length : Int) := by rw [IntKind.wrap_i64]; omega
  have HE : Hid ((x.e.k.length : Int) + (x.e.v.length : Int) = ((sizE x.e : Nat) : Int)) := Lib.hid (by unfold sizE; omega)
  go_enter Tryz.func39, Tryz.ntmps39
  go_wp2
  go_ret
  exact ⟨congrArg (fun z => Ending.returned (Value.int .i64 z)) HE.out, HB.out⟩
theorem sumC_snoc (T : List CP) (j : Nat) (h : j < T.length) : sumC (T.take (j + 1)) = sumC (T.take j) + sizE T[j].e := by
  rw [List.take_succ_eq_append_getElem h, sumC_app]
  show _ = _
  congr 1
theorem sumC_take_le (T : List CP) (j : Nat) : sumC (T.take j) ≤ sumC T := by
  have : sumC T = sumC (T.take j) + sumC (T.drop j) := by rw [← sumC_app, List.take_append_drop]
  omega
theorem rbytes (t : Tr) (w : World) (h : TrM w t) (hm : sumC (trS t).T ≤ 1000000000) :
    Calls Tryz.prog 16 #[.agg #[.int .i64 t.rc, .int .i64 t.rb, .int .i64 (t.nb : Int), .bool t.fr, .slice t.A t.L.length t.c, .slice t.tA t.tok.length t.tc, .int .i64 t.us]] w (fun e w' => e = .returned (.int .i64 ((sumC (trS t).T : Nat) : Int)) ∧ Below w.heap.size w w') := by
  have hb : Below w.heap.size w (w.alloc (.cells #[.int .i64 t.rc, .int .i64 t.rb, .int .i64 (t.nb : Int), .bool t.fr, .slice t.A t.L.length t.c, .slice t.tA t.tok.length t.tc, .int .i64 t.us] 34)) := (Below.refl _ _).alloc (Nat.le_refl _) _
  have HK := Lib.hid (Blk.new w 34 #[.int .i64 t.rc, .int .i64 t.rb, .int .i64 (t.nb : Int), .bool t.fr, .slice t.A t.L.length t.c, .slice t.tA t.tok.length t.tc, .int .i64 t.us])
  have HM := Lib.hid (h.below hb)
  have HB0 := Lib.hid hb
  have HSM := Lib.hid hm
  have hln := h.ln
  obtain ⟨W1, hW1⟩ : ∃ W, w.alloc (.cells #[.int .i64 t.rc, .int .i64 t.rb, .int .i64 (t.nb : Int), .bool t.fr, .slice t.A t.L.length t.c, .slice t.tA t.tok.length t.tc, .int .i64 t.us] 34) = W := ⟨_, rfl⟩
  rw [hW1] at HK HM HB0
  have hni : (t.L.length : Int) ≤ 100000 := by omega
  have hni0 : (0 : Int) ≤ (t.L.length : Int) := by omega
  obtain ⟨n, hn⟩ : ∃ n, t.L.length = n := ⟨_, rfl⟩
  have HN := Lib.hid hn
  have HK4 : Hid (∀ W, Below W1.heap.size W1 W → W.cell? ⟨w.heap.size, 4, none⟩ = some (.slice t.A n t.c)) := Lib.hid fun W hb => by
    rw [← hn]; exact (HK.out.below hb HK.out.lt).cell 4
  rw [hn] at hni hni0
  clear hb h hm hn hln
  go_enter Tryz.func16, Tryz.ntmps16
  go_wp2
  clear hW1
  go_loopw [3, 4] (fun z i wr => ∃ j : Nat, j ≤ n ∧ i = .int .i64 j ∧ z = .int .i64 ((sumC ((trS t).T.take j) : Nat) : Int) ∧ Hid (Below W1.heap.size W1 wr)) (fun _ i _ => n - (intOf i).toNat)
  case atStart => exact ⟨0, Nat.zero_le _, rfl, rfl, Lib.hid (Below.refl _ _)⟩
  case round =>
    obtain ⟨j, hj, rfl, rfl, HB⟩ := hrel
    have HBW := Lib.hid (HB0.out.trans (HB.out.mono HB0.out.size))
    by_cases hlt : j < n
    · have hj1 : j < t.L.length := by rw [HN.out]; exact hlt
      have hj2 : j < (trS t).T.length := by rw [trT_len]; exact hj1
      obtain ⟨b, o, hA, hb, hc⟩ := cells_open (HM.out.cev.below HB.out).row (by omega)
      have h4 : wr.cell? ⟨w.heap.size, 4, none⟩ = some (.slice (some ⟨b, o, none⟩) n t.c) := by rw [← hA]; exact HK4.out wr HB.out
      have hcc := hc j hj1
      have hsn := sumC_snoc (trS t).T j hj2
      have hle := sumC_take_le (trS t).T (j + 1)
      have hfst : ((trS t).T[j]'hj2) = (t.L[j]'hj1).1 := trT_at t j hj2 hj1
      rw [hfst] at hsn
      obtain ⟨⟨x, xA, xc⟩, hx⟩ : ∃ p, t.L[j]'hj1 = p := ⟨_, rfl⟩
      rw [hx] at hcc hsn
      simp only at hsn
      obtain ⟨s0, hs0⟩ : ∃ s, sumC ((trS t).T.take j) = s := ⟨_, rfl⟩
      obtain ⟨s1, hs1⟩ : ∃ s, sumC ((trS t).T.take (j + 1)) = s := ⟨_, rfl⟩
      obtain ⟨q, hq⟩ : ∃ q, sizE x.e = q := ⟨_, rfl⟩
      rw [hs0, hs1, hq] at hsn
      rw [hs1] at hle
      rw [hs0]
      have HS1 := Lib.hid hs1
      have hsm := HSM.out
      have HQ := Lib.hid hq
      have HC : Hid (∀ W, Calls Tryz.prog 39 #[.agg #[.string ⟨x.e.k.toArray⟩, .int .i64 x.e.s, .int .i64 x.e.u, .int .i64 x.e.o, .bool x.e.has, .slice xA x.e.v.length xc, .bool x.wh, .bool x.cl, .int .i64 x.us]] W (fun e w' => e = .returned (.int .i64 ((q : Nat) : Int)) ∧ Below W.heap.size W w')) := Lib.hid fun W => by
        have h9 : sizE x.e = x.e.k.length + x.e.v.length := rfl
        have := rsize x xA xc (by omega) W
        rw [HQ.out] at this
        exact this
      have hz0 : (0 : Int) ≤ (s0 : Int) := by omega
      have hz1 : (s0 : Int) ≤ 1000000000 := by omega
      have hz2 : (0 : Int) ≤ (q : Int) := by omega
      have hz3 : (s0 : Int) + (q : Int) ≤ 1000000000 := by omega
      have HSE : Hid ((s0 : Int) + (q : Int) = (s1 : Int)) := Lib.hid (by omega)
      have hji : (0 : Int) ≤ (j : Int) := by omega
      have hji2 : (j : Int) < (n : Int) := by omega
      have hc0 := hcc 0 _ rfl
      rw [Nat.add_zero] at hc0
      have hc1 := hcc 1 _ rfl
      have hc2 := hcc 2 _ rfl
      have hc3 := hcc 3 _ rfl
      have hc4 := hcc 4 _ rfl
      have hc5 := hcc 5 _ rfl
      have hc6 := hcc 6 _ rfl
      have hc7 := hcc 7 _ rfl
      have hc8 := hcc 8 _ rfl
      clear hc hcc hA hx hs0 hs1 hsn hle hfst hq hsm
      go_wp2_with fail
      refine (HC.out _).mono ?_
      rintro e w2 ⟨rfl, hb2⟩
      have HB2 := Lib.hid (HB.out.trans (hb2.mono HB.out.size))
      clear hb2 hc0 hc1 hc2 hc3 hc4 hc5 hc6 hc7 hc8 h4
      go_wp2
      go_roundw
      case rel => exact ⟨j + 1, by omega, by go_num, by rw [HS1.out, ← HSE.out], HB2⟩
      case measure => simp [intOf]; omega
    · obtain rfl : j = n := by omega
      have h4 : wr.cell? ⟨w.heap.size, 4, none⟩ = some (.slice t.A j t.c) := HK4.out wr HB.out
      have HTK : Hid ((trS t).T.take j = (trS t).T) := Lib.hid (List.take_of_length_le (by rw [trT_len, HN.out]; exact Nat.le_refl _))
      go_wp2
      go_ret
      exact ⟨congrArg (fun z => Ending.returned (Value.int .i64 ((sumC z : Nat) : Int))) HTK.out, HBW.out⟩
end Go.Proofs.YtpebhfjcakllmaaGreat
