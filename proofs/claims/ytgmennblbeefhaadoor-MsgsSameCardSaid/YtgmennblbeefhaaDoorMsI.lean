/- MsI: Package msgs: the fields written, by function values. -/
import Derived.Test.YtgmennblbeefhaaDoorMsH
namespace Go.Proofs.YtgmennblbeefhaaDoor
open Go.RowKit Mem Be Rg
set_option maxRecDepth 100000
set_option maxHeartbeats 4000000
set_option linter.unusedVariables false
theorem putn_any (n : Int) (g q b : Nat) (bs : List UInt8) (hl : bs.length ≤ 1073741824) (w : World) (h : OutB w g bs) (hq : NumF w g q) (hm : w.cell? ⟨b, 5, none⟩ = some (.int .i64 n)) :
    Calls Tryd.prog 31 #[.pointer (some ⟨q, 0, none⟩), .pointer (some ⟨b, 0, none⟩)] w (OutP g (bs ++ numB n) w) := by
  have HP := Lib.hid (putnum_any n g bs hl w h)
  unfold NumF at hq
  clear hl h
  go_enter Tryd.func31, Tryd.ntmps31
  go_wp2_with fail
  refine HP.out.mono ?_
  rintro e w1 ⟨rfl, h1, h2⟩
  have H1 := Lib.hid h1
  have H2 := Lib.hid h2
  clear h1 h2
  go_wp2
  go_end0
  exact ⟨rfl, H1.out, H2.out⟩
theorem putring_any (rA : Option Addr) (rc : Nat) (ns : List Int) (e k : Int) (hl : ns.length ≤ 1000000) (g q b : Nat) (bs : List UInt8) (hbl : bs.length ≤ 100000000) (w : World) (h : OutB w g bs) (hr : Row w g rA (ns.map iV)) (hq : NumF w g q)
    (hm0 : w.cell? ⟨b, 14, none⟩ = some (.slice rA ns.length rc)) (hm1 : w.cell? ⟨b, 15, none⟩ = some (.int .i64 e)) (hm2 : w.cell? ⟨b, 16, none⟩ = some (.int .i64 k)) :
    Calls Tryd.prog 37 #[.pointer (some ⟨b, 0, none⟩), .pointer (some ⟨q, 0, none⟩)] w (OutP g (bs ++ ringB ns e k) w) := by
  have HP := Lib.hid (eachnum_any rA ns.length rc ns e k rfl hl g bs hbl w h hr)
  unfold NumF at hq
  clear hl hbl h hr
  go_enter Tryd.func37, Tryd.ntmps37
  go_wp2_with fail
  refine HP.out.mono ?_
  rintro e w1 ⟨rfl, h1, h2⟩
  have H1 := Lib.hid h1
  have H2 := Lib.hid h2
  clear h1 h2
  go_wp2
  go_end0
  exact ⟨rfl, H1.out, H2.out⟩
theorem out_store {w : World} {g c : Nat} {A : Option Addr} {old : Value} {bs : List UInt8} (hk : Blk w g 24 #[old]) (ho : w.ownsRow (g + 1) 5 1 (.slice A bs.length c) bs.length (bs.map byteV)) :
    OutB (w.setCell ⟨g, 0, none⟩ (.slice A bs.length c)) g bs ∧ OutTo g w (w.setCell ⟨g, 0, none⟩ (.slice A bs.length c)) :=
  ⟨⟨A, c, hk.set_ 0 _, own_put ho (by omega) 0 _⟩, below_set (Below.refl _ _) (Nat.le_refl _) _ _, fun k t cs hkg ht hb => hb.far (p := ⟨g, 0, none⟩) (by show k ≠ g; omega) _⟩
/-- The list's entries, behind the bytes. -/
theorem putlist_any (lA : Option Addr) (lc : Nat) (us : List EV) (hl : us.length ≤ 1000) (g q b : Nat) (bs : List UInt8) (hbl : bs.length ≤ 100000) (w : World) (h : OutB w g bs) (hq : NumF w g q) (hqg : g < q) (hqb : ∃ cs, Blk w q 64 cs)
    (hb : b < g) (hm : w.cell? ⟨b, 13, none⟩ = some (.slice lA us.length lc)) (hE : Row w g lA (entsC us)) (hV : ∀ x ∈ us, Row w g x.2.1 (x.1.v.map byteV) ∧ okE x.1 ∧ x.1.v.length ≤ x.2.2) :
    Calls Tryd.prog 36 #[.pointer (some ⟨q, 0, none⟩), .pointer (some ⟨b, 0, none⟩), .pointer (some ⟨g, 0, none⟩)] w (OutP g (bs ++ listB (us.map Prod.fst)) w) := by
  have HP := Lib.hid (putnum_any (us.length : Int) g bs (by omega) w h)
  have HBL := Lib.hid hbl
  have HL := Lib.hid hl
  have HE := Lib.hid hE
  have HV := Lib.hid hV
  have hnl := numB_le (us.length : Int)
  obtain ⟨N, hN⟩ : ∃ N, numB (us.length : Int) = N := ⟨_, rfl⟩
  have HLB : Hid (bs ++ listB (us.map Prod.fst) = bs ++ N ++ putEs us) := Lib.hid (by
    unfold listB
    rw [List.length_map, hN, putEs_map, List.append_assoc])
  rw [hN] at HP hnl
  rw [HLB.out]
  have HNL := Lib.hid hnl
  have HB := Lib.hid hb
  unfold NumF at hq
  have hgw : g < w.heap.size := h.lt
  have hli : (us.length : Int) ≤ 1000 := by omega
  clear hN hnl hE hV hbl hl h hb
  go_enter Tryd.func36, Tryd.ntmps36
  go_wp2_with fail
  refine HP.out.mono ?_
  rintro e w1 ⟨rfl, h1, h2⟩
  obtain ⟨A, c, hk, ho⟩ := h1
  have hgl1 : g < w1.heap.size := hk.lt
  have d0 : w1.cell? ⟨g, 0, none⟩ = some (.slice A (bs ++ N).length c) := hk.cell 0
  have dm : w1.cell? ⟨b, 13, none⟩ = some (.slice lA us.length lc) := (h2.low.cell (p := ⟨b, 13, none⟩) HB.out).trans hm
  have HT1 := Lib.hid h2
  have HK1 := Lib.hid hk
  obtain ⟨T, hT⟩ : ∃ T, bs ++ N = T := ⟨_, rfl⟩
  have htl : T.length ≤ 1000000 := by rw [← hT, List.length_append]; have := HBL.out; have := HNL.out; omega
  have HTT := Lib.hid hT
  rw [hT] at ho d0 HK1
  have HAP := Lib.hid (appents_any A lA c us.length lc g T us rfl HL.out htl w1 hgl1 ho (fun w' ht => (HE.out.below (h2.low.trans ht.low)).more (by have := ht.low.size; omega)) (fun x hx => ⟨(HV.out x hx).1.below h2.low, (HV.out x hx).2⟩))
  clear hk ho h2 htl hT
  go_wp2_with fail
  refine HAP.out.mono ?_
  rintro e2 w2 ⟨A2, c2, rfl, ho2, ht2⟩
  have hk2 : Blk w2 g 24 #[.slice A T.length c] := (ht2.sub.block g (by omega)).trans HK1.out
  have d2 : w2.cell? ⟨g, 0, none⟩ = some (.slice A T.length c) := hk2.cell 0
  have z2 : w2.frozen? ⟨g, 0, none⟩ = false := hk2.frozen 0
  obtain ⟨P, hP⟩ : ∃ P, T ++ putEs us = P := ⟨_, rfl⟩
  have HPP : Hid (bs ++ N ++ putEs us = P) := Lib.hid (by rw [← hP, ← HTT.out])
  have HPQ : Hid ((T ++ putEs us).length = P.length) := Lib.hid (by rw [hP])
  rw [hP] at ho2 ⊢
  have HS := Lib.hid (out_store hk2 ho2)
  have HT2 := Lib.hid (HT1.out.trans ht2.outs)
  clear ho2 ht2 hk2 hP d0 dm
  go_wp2
  go_end0
  exact ⟨rfl, by rw [HPP.out]; exact HS.out.1, HT2.out.trans HS.out.2⟩
/-- The entry, behind the bytes. -/
theorem putent_any (x : EV) (g b : Nat) (bs : List UInt8) (hbl : bs.length ≤ 1000000) (w : World) (h : OutB w g bs) (hx : okE x.1) (hV : Row w g x.2.1 (x.1.v.map byteV)) (hc : x.1.v.length ≤ x.2.2)
    (c0 : w.cell? ⟨b, 7, none⟩ = some (.string ⟨x.1.k.toArray⟩)) (c1 : w.cell? ⟨b, 8, none⟩ = some (.int .i64 x.1.s)) (c2 : w.cell? ⟨b, 9, none⟩ = some (.int .i64 x.1.u)) (c3 : w.cell? ⟨b, 10, none⟩ = some (.int .i64 x.1.o)) (c4 : w.cell? ⟨b, 11, none⟩ = some (.bool x.1.has)) (c5 : w.cell? ⟨b, 12, none⟩ = some (.slice x.2.1 x.1.v.length x.2.2)) :
    Calls Tryd.prog 34 #[.pointer (some ⟨g, 0, none⟩), .pointer (some ⟨b, 0, none⟩)] w (OutP g (bs ++ putE x.1) w) := by
  obtain ⟨A, c, hk, ho⟩ := h
  have d0 : w.cell? ⟨g, 0, none⟩ = some (.slice A bs.length c) := hk.cell 0
  have hal : Below w.heap.size w (w.alloc (.cells ⟨entC x⟩ 28)) := (Below.refl _ _).alloc (Nat.le_refl _) _
  have hgw : g < w.heap.size := hk.lt
  have hnb : Blk (w.alloc (.cells ⟨entC x⟩ 28)) w.heap.size 28 ⟨entC x⟩ := Blk.new _ _ _
  have HPE : Hid (putEs [x] = putE x.1) := Lib.hid (by unfold putEs; simp)
  have HAP := Lib.hid (appents_any A (some ⟨w.heap.size, 0, none⟩) c 1 1 g bs [x] rfl (by omega) hbl (w.alloc (.cells ⟨entC x⟩ 28)) (by simp; omega) (own_later ho hal)
    (fun w' ht => ent_lit (ht.typ _ _ _ hgw (by decide) hnb) ((ht.typ _ _ _ hgw (by decide) hnb).lt)) (fun y hy => by
      rw [List.mem_singleton.1 hy]
      exact ⟨hV.below (hal.mono (Nat.le_of_lt hgw)), hx, hc⟩))
  have HK := Lib.hid (hk.below hal hk.lt)
  have HT0 := Lib.hid (OutTo.of hal (Nat.le_of_lt hgw))
  rw [HPE.out] at HAP
  clear hk ho hal hnb hV hx hc hbl
  go_enter Tryd.func34, Tryd.ntmps34
  go_wp2_with fail
  refine HAP.out.mono ?_
  rintro e2 w2 ⟨A2, c2', rfl, ho2, ht2⟩
  have hk2 : Blk w2 g 24 #[.slice A bs.length c] := (ht2.sub.block g (by omega)).trans HK.out
  have d2 : w2.cell? ⟨g, 0, none⟩ = some (.slice A bs.length c) := hk2.cell 0
  have z2 : w2.frozen? ⟨g, 0, none⟩ = false := hk2.frozen 0
  obtain ⟨P, hP⟩ : ∃ P, bs ++ putE x.1 = P := ⟨_, rfl⟩
  have HPP := Lib.hid hP
  rw [hP] at ho2 ⊢
  have HS := Lib.hid (out_store hk2 ho2)
  have HT2 := Lib.hid (HT0.out.trans ht2.outs)
  clear ho2 ht2 hk2 hP d0 c0 c1 c2 c3 c4 c5
  go_wp2
  go_end0
  exact ⟨rfl, by rw [HPP.out]; exact HS.out.1, HT2.out.trans HS.out.2⟩
end Go.Proofs.YtgmennblbeefhaaDoor
