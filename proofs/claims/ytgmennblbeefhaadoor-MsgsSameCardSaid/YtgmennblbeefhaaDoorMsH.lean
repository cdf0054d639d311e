/- MsH: Package msgs: entries written behind bytes. -/
import Derived.Test.YtgmennblbeefhaaDoorMsG
namespace Go.Proofs.YtgmennblbeefhaaDoor
open Go.RowKit Mem Be Rg
set_option maxRecDepth 100000
set_option maxHeartbeats 4000000
set_option linter.unusedVariables false
theorem bytes_put12 (y : EntP) (h : okE y) (A : Option Addr) (c : Nat) (W : World) (hW : ValOk W y.has A y.v c) :
    Calls Tryd.prog 80 #[.agg #[.string ⟨y.k.toArray⟩, .int .i64 y.s, .int .i64 y.u, .int .i64 y.o, .bool y.has, .slice A y.v.length c]] W (Made2 W.heap.size (putE y) 0 W) := by
  obtain ⟨k, s, u, o, has, v⟩ := y
  have hr : rightE (⟨k.toArray⟩ : ByteArray).size v.length s u o has = 0 := h
  have hk : kb ⟨k.toArray⟩ = k := kb_mk k
  cases has
  · have := bytes_no ⟨k.toArray⟩ s u o A v v.length c rfl hr W hW
    rw [hk] at this; exact this
  · have := bytes_yes ⟨k.toArray⟩ s u o A v v.length c rfl hr W hW
    rw [hk] at this; exact this
theorem putE_le (y : EntP) (h : okE y) : (putE y).length ≤ 60300 := by
  have := entB_le y.k y.s y.u y.o y.has y.v
  have h2 := rightE_yes h
  unfold putE
  omega
def putEs (us : List EV) : List UInt8 := us.flatMap fun x => putE x.1
theorem putEs_take (us : List EV) (k : Nat) (h : k < us.length) : putEs (us.take (k + 1)) = putEs (us.take k) ++ putE us[k].1 := by
  unfold putEs
  rw [List.take_succ_eq_append_getElem h, List.flatMap_append]; simp
theorem putEs_le (us : List EV) (h : ∀ x ∈ us, okE x.1) : (putEs us).length ≤ 60300 * us.length := by
  induction us with
  | nil => simp [putEs]
  | cons a l ih =>
    have h1 := putE_le a.1 (h a (by simp))
    have h2 := ih fun x hx => h x (by simp [hx])
    unfold putEs at h2 ⊢
    rw [List.flatMap_cons, List.length_append, List.length_cons]; omega
theorem putEs_map (us : List EV) : putEs us = (us.map Prod.fst).flatMap putE := by
  unfold putEs
  rw [List.flatMap_map]
structure AppTo (g : Nat) (w w' : World) : Prop where
  outs : OutTo g w w'
  sub : Below (g + 1) w w'
theorem AppTo.refl (g : Nat) (w : World) : AppTo g w w := ⟨OutTo.refl _ _, Below.refl _ _⟩
theorem AppTo.trans {g : Nat} {w w1 w2 : World} (h : AppTo g w w1) (h' : AppTo g w1 w2) : AppTo g w w2 := ⟨h.outs.trans h'.outs, h.sub.trans h'.sub⟩
theorem app_to {w w2 w3 : World} {g : Nat} {A : Option Addr} {c : Nat} {n : Nat} {xs : List Value} (hg : g < w.heap.size) (ho : w.ownsRow (g + 1) 5 1 (.slice A n c) n xs) (hb : Below w.heap.size w w2) (hgr : w2.grownBy w3 (Value.slice A n c).ownBlock) : AppTo g w w3 := by
  have hr := row_block12 ho hb
  have key : Below (g + 1) w w3 := (hb.mono hg).trans ⟨hgr.os, hgr.tape, hgr.output, hgr.size, fun k hk' => hgr.block k (by have := hb.size; omega) (fun e => by have := (hr k e.symm).1; omega)⟩
  refine ⟨⟨key.mono (by omega), fun k t cs hkg ht hbk => ?_⟩, key⟩
  have h2 := hbk.below hb hbk.lt
  exact (hgr.block k h2.lt (fun e => ht ((hr k e.symm).2 t cs h2))).trans h2
def AppP (g : Nat) (bs : List UInt8) (w : World) (e : Ending) (w' : World) : Prop := ∃ A c, e = .returned (.slice A bs.length c) ∧ w'.ownsRow (g + 1) 5 1 (.slice A bs.length c) bs.length (bs.map byteV) ∧ AppTo g w w'
theorem appents_any (A lA : Option Addr) (c n lc g : Nat) (bs : List UInt8) (us : List EV) (hn : n = us.length) (hl : n ≤ 1000) (hbl : bs.length ≤ 1000000) (w : World) (hg : g < w.heap.size) (ho : w.ownsRow (g + 1) 5 1 (.slice A bs.length c) bs.length (bs.map byteV))
    (hE : ∀ w', OutTo g w w' → Row w' w'.heap.size lA (entsC us)) (hV : ∀ x ∈ us, Row w g x.2.1 (x.1.v.map byteV) ∧ okE x.1 ∧ x.1.v.length ≤ x.2.2) :
    Calls Tryd.prog 35 #[.slice A bs.length c, .slice lA n lc] w (AppP g (bs ++ putEs us) w) := by
  obtain ⟨i0, hi0, hz0, hz1, hz2⟩ := info_parts info_b
  have HE := Lib.hid hE
  have HV := Lib.hid hV
  have HN := Lib.hid hn
  have HBL := Lib.hid hbl
  have HNL := Lib.hid hl
  have HO := Lib.hid ho
  have HG := Lib.hid hg
  have hni : (n : Int) ≤ 1000 := by omega
  have hni0 : (0 : Int) ≤ (n : Int) := by omega
  clear hE hV hn hbl hl ho hg
  go_enter Tryd.func35, Tryd.ntmps35
  go_wp2
  go_loopw [11, 0] (fun i v wr => ∃ (j : Nat) (A' : Option Addr) (c' : Nat), j ≤ n ∧ i = .int .i64 j ∧ v = .slice A' (bs ++ putEs (us.take j)).length c' ∧ Hid (wr.ownsRow (g + 1) 5 1 (.slice A' (bs ++ putEs (us.take j)).length c') (bs ++ putEs (us.take j)).length ((bs ++ putEs (us.take j)).map byteV)) ∧ Hid (AppTo g w wr)) (fun i _ _ => n - (intOf i).toNat)
  case atStart => exact ⟨0, A, c, by omega, rfl, by simp [putEs], Lib.hid (by simpa [putEs] using HO.out), Lib.hid (AppTo.refl _ _)⟩
  case round =>
    obtain ⟨j, A', c', hj, rfl, rfl, HOW, HT⟩ := hrel
    by_cases hlt : j < n
    · have hj1 : j < us.length := by rw [← HN.out]; exact hlt
      obtain ⟨b, o, rfl, hb, hc⟩ := ents_open (HE.out wr HT.out.outs) (by omega)
      obtain ⟨a0, a1, a2, a3, a4, a5⟩ := hc j hj1
      obtain ⟨hv1, hv2, hv3⟩ := HV.out us[j] (List.getElem_mem hj1)
      have HNX := Lib.hid (putEs_take us j hj1)
      have hle := putEs_le (us.take j) (fun x hx => (HV.out x (List.mem_of_mem_take hx)).2.1)
      have hpl := putE_le _ hv2
      have hgs : Hid (g ≤ wr.heap.size) := Lib.hid (Nat.le_trans (Nat.le_of_lt HG.out) HT.out.outs.low.size)
      have hgl : Hid (g < wr.heap.size) := Lib.hid (Nat.lt_of_lt_of_le HG.out HT.out.outs.low.size)
      have HVO := Lib.hid (show ValOk wr us[j].1.has us[j].2.1 us[j].1.v us[j].2.2 from ⟨((hv1.below HT.out.outs.low).more hgs.out), by have := (rightE_yes hv2).2.2.1; omega, hv3⟩)
      obtain ⟨x, hx⟩ : ∃ p, us[j]'hj1 = p := ⟨_, rfl⟩
      rw [hx] at a0 a1 a2 a3 a4 a5 hv2 HNX HVO hpl
      have HOK := Lib.hid hv2
      obtain ⟨T, hT⟩ : ∃ T, bs ++ putEs (us.take j) = T := ⟨_, rfl⟩
      have HTL : Hid (T.length ≤ 70000000) := Lib.hid (by
        rw [← hT, List.length_append]
        have := HBL.out
        have := HNL.out
        have : (us.take j).length ≤ 1000 := by rw [List.length_take]; omega
        omega)
      rw [hT] at HOW ⊢
      obtain ⟨P, hP⟩ : ∃ P, putE x.1 = P := ⟨_, rfl⟩
      have HNX2 : Hid (bs ++ putEs (us.take (j + 1)) = T ++ P) := Lib.hid (by rw [HNX.out, ← List.append_assoc, hT, hP])
      rw [hP] at hpl
      have HPL := Lib.hid hpl
      have HBY := Lib.hid fun W hW => bytes_put12 x.1 hv2 x.2.1 x.2.2 W hW
      rw [hP] at HBY
      have hji : (0 : Int) ≤ (j : Int) := by omega
      have hji2 : (j : Int) < (n : Int) := by omega
      have HAL : Hid (∀ ob, Below wr.heap.size wr (wr.alloc ob)) := Lib.hid fun ob => (Below.refl _ _).alloc (Nat.le_refl _) ob
      clear hc hx hv1 hv3 hle hpl hP hT HNX hv2 hb
      go_wp2_with fail
      refine (HBY.out _ (HVO.out.below (HAL.out _))).mono ?_
      rintro e1 w2 ⟨A2, c2, rfl, ho2, hb2⟩
      have HB2 : Hid (Below wr.heap.size wr w2) := Lib.hid ((HAL.out _).trans (hb2.mono (HAL.out _).size))
      have HR2 := Lib.hid (Row.of_own ho2)
      clear ho2 hb2 a0 a1 a2 a3 a4 a5
      go_wp2_with (at_builtin; refine wpList_app _ rfl _ _ 24 rfl (g + 1) 5 i0 (.int .u8 0) 1 Tryd.underlying24 hi0 hz0 hz1 hz2 rfl _ _ _ rfl (own_at12 HOW.out HB2.out) w2.heap.size _ P.length c2 (P.map byteV) rfl (by simp) HR2.out (byte_one P) (by have := HTL.out; have := HPL.out; unfold maxLen; omega) (by have := HTL.out; have := HPL.out; omega) (by have := HB2.out.size; have := HG.out; have := HT.out.outs.low.size; omega) ?_; intro v' w3 hown hgr hat; obtain ⟨A3, c3, rfl, _, _⟩ := ownShape hown; have HO3 := Lib.hid hown; have HT3 := Lib.hid (HT.out.trans (app_to hgl.out HOW.out HB2.out hgr)); clear hown hgr hat)
      go_roundw
      case rel => exact ⟨j + 1, A3, c3, by omega, by go_num, by rw [HNX2.out, List.length_append], Lib.hid (by rw [HNX2.out, List.length_append, List.map_append]; exact HO3.out), HT3⟩
      case measure => simp [intOf]; omega
    · obtain rfl : j = n := by omega
      have ht : us.take j = us := by rw [HN.out]; exact List.take_length
      rw [ht] at HOW ⊢
      obtain ⟨T, hT⟩ : ∃ T, bs ++ putEs us = T := ⟨_, rfl⟩
      have HFIN : Hid (AppP g (bs ++ putEs us) w (.returned (.slice A' T.length c')) wr) := Lib.hid (by rw [hT] at HOW ⊢; exact ⟨A', c', rfl, HOW.out, HT.out⟩)
      rw [hT]
      clear ht hT HOW
      go_wp2
      go_ret
      exact HFIN.out
end Go.Proofs.YtgmennblbeefhaaDoor
