/- Whether a store is as it is to be, by the statements' own call. Written by tools/gen_same8.py. -/
import Derived.Test.YtndbggkpobcpjaaGreatGrpA
import Derived.Test.YtndbggkpobcpjaaGreatGrpB
import Derived.Test.YtndbggkpobcpjaaGreatRely
namespace Go.Proofs.YtndbggkpobcpjaaGreat
open Go.RowKit Go.ChangeShapes Mem Be Word Frm Go.Maps
set_option maxRecDepth 100000
set_option maxHeartbeats 40000000
set_option linter.unusedVariables false
set_option linter.unusedSimpArgs false
/-- Entries, in a world. -/
def EnAt (T : List EntP) (w : World) (A : Option Addr) : Prop := ∃ us : List EV, us.map Prod.fst = T ∧ EnV w A us
theorem EnAt.later {T : List EntP} {w w1 : World} {A : Option Addr} (h : EnAt T w A) (hb : Below w.heap.size w w1) : EnAt T w1 A := by
  obtain ⟨us, hu, hi⟩ := h
  exact ⟨us, hu, hi.below hb⟩
theorem okT_lensR {T : List EntP} {us : List EV} (h : OkT T) (he : us.map Prod.fst = T) : ∀ x ∈ us, x.1.v.length ≤ 60000 := fun x hx => by
  have h1 := (rightE_yes (h.ok x.1 (by rw [← he]; exact List.mem_map_of_mem (f := Prod.fst) hx))).2.2.1
  omega
theorem ofT_at {T : List EntP} (h : OkT T) {j : Nat} (hj : j < T.length) : ofT T T[j].k = T[j] := by
  unfold ofT
  have := get_mem (key := kE) h.srt (List.getElem_mem hj)
  rw [show kE T[j] = T[j].k from rfl] at this
  rw [this]; rfl
def rg8A (g y b na cC nL cN n' m' cL cT : Nat) (TL : List EntP) (L T : List UInt8) (AC AN AL AT : Option Addr) : Nat → Value → World → Prop
  | 0, v, _ => v = .pointer (some ⟨g, 0, none⟩)
  | 1, v, w => ∃ A' c', v = .slice A' nL c' ∧ EnAt TL w A'
  | 2, v, _ => v = .pointer (some ⟨b, 6, none⟩)
  | 3, v, _ => v = .slice AN nL cN
  | 4, v, _ => v = .bool true
  | 5, v, _ => v = .bool false
  | 6, v, _ => v = .bool false
  | 7, v, _ => v = .pointer (some ⟨g, 0, none⟩)
  | 8, v, _ => v = .int .i64 (na : Int)
  | 9, v, _ => v = .pointer (some ⟨b, 7, none⟩)
  | 10, v, _ => v = .slice AC na cC
  | 11, v, _ => v = .int .i64 (na : Int)
  | 12, v, _ => v = .bool false
  | 13, v, _ => v = .bool false
  | 14, v, _ => v = .bool false
  | 15, v, _ => v = .pointer (some ⟨y, 0, none⟩)
  | 16, v, w => ∃ A' c', v = .slice A' L.length c' ∧ w.ownsRow 0 5 1 (.slice A' L.length c') L.length (L.map byteV)
  | 17, v, _ => v = .pointer (some ⟨b, 0, none⟩)
  | 18, v, _ => v = .pointer (some ⟨b, 0, none⟩)
  | 19, v, _ => v = .pointer (some ⟨b, 0, none⟩)
  | 20, v, _ => v = .slice AL n' cL
  | 21, v, _ => v = .bool true
  | 22, v, _ => v = .bool false
  | 23, v, _ => v = .bool false
  | 24, v, _ => v = .bool false
  | 25, v, _ => v = .pointer (some ⟨y, 0, none⟩)
  | 26, v, w => ∃ A' c', v = .slice A' T.length c' ∧ w.ownsRow 0 5 1 (.slice A' T.length c') T.length (T.map byteV)
  | 27, v, _ => v = .pointer (some ⟨b, 0, none⟩)
  | 28, v, _ => v = .pointer (some ⟨b, 0, none⟩)
  | 29, v, _ => v = .pointer (some ⟨b, 1, none⟩)
  | 30, v, _ => v = .slice AT m' cT
  | 31, v, _ => v = .bool true
  | 32, v, _ => v = .bool false
  | _, v, _ => v = .bool false
theorem rg8A_later (g y b na cC nL cN n' m' cL cT : Nat) (TL : List EntP) (L T : List UInt8) (AC AN AL AT : Option Addr) : ∀ i v w1 w2, rg8A g y b na cC nL cN n' m' cL cT TL L T AC AN AL AT i v w1 → Below w1.heap.size w1 w2 → rg8A g y b na cC nL cN n' m' cL cT TL L T AC AN AL AT i v w2 := by
  intro i v w1 w2 h hb
  unfold rg8A at h ⊢
  split at h <;> first | exact h | (obtain ⟨p, e, hk⟩ := h; exact ⟨p, e, hk.below hb hk.lt⟩) | (obtain ⟨a, b, e, hk⟩ := h; exact ⟨a, b, e, own_later hk hb⟩) | (obtain ⟨a, b, e, hk⟩ := h; exact ⟨a, b, e, hk.later hb⟩)
def rg8B (g b nN cN j rb ro nv c2 : Nat) (k : ByteArray) (s u o : Int) (has : Bool) (xv : List UInt8) (A2 : Option Addr) : Nat → Value → World → Prop
  | 0, v, _ => v = .pointer (some ⟨g, 0, none⟩)
  | 1, v, _ => v = .pointer (some ⟨b, 5, none⟩)
  | 2, v, _ => v = .slice (some ⟨rb, ro, none⟩) nN cN
  | 3, v, _ => v = .int .i64 (j : Int)
  | 4, v, _ => v = .pointer (some ⟨rb, ro + j * 6, none⟩)
  | 5, v, _ => v = .pointer (some ⟨rb, ro + j * 6, none⟩)
  | 6, v, _ => v = .string k
  | 7, v, w => ∃ A' c', v = .agg #[.string k, .int .i64 s, .int .i64 u, .int .i64 o, .bool has, .slice A' nv c'] ∧ ValOk w has A' xv c'
  | 8, v, _ => v = .pointer (some ⟨b, 5, none⟩)
  | 9, v, _ => v = .slice (some ⟨rb, ro, none⟩) nN cN
  | 10, v, _ => v = .int .i64 (j : Int)
  | 11, v, _ => v = .pointer (some ⟨rb, ro + j * 6, none⟩)
  | 12, v, _ => v = .agg #[.string k, .int .i64 s, .int .i64 u, .int .i64 o, .bool has, .slice A2 nv c2]
  | 13, v, _ => v = .bool true
  | _, v, _ => v = .bool false
theorem rg8B_later (g b nN cN j rb ro nv c2 : Nat) (k : ByteArray) (s u o : Int) (has : Bool) (xv : List UInt8) (A2 : Option Addr) : ∀ i v w1 w2, rg8B g b nN cN j rb ro nv c2 k s u o has xv A2 i v w1 → Below w1.heap.size w1 w2 → rg8B g b nN cN j rb ro nv c2 k s u o has xv A2 i v w2 := by
  intro i v w1 w2 h hb
  unfold rg8B at h ⊢
  split at h <;> first | exact h | (obtain ⟨p, e, hk⟩ := h; exact ⟨p, e, hk.below hb hk.lt⟩) | (obtain ⟨a, b, e, hk⟩ := h; exact ⟨a, b, e, own_later hk hb⟩) | (obtain ⟨a, b, e, hk⟩ := h; exact ⟨a, b, e, hk.below hb⟩)
theorem same8_any (F : Nat → Prop) (g q n' m' k cL cT cR na cC nU cU nV cV : Nat) (S : St8) (L T : List UInt8) (us vs : List EV) (AL AT R AU AV AC : Option Addr) (qq mm : Int) (hL : allB (S.rs.take S.m) = L) (hT : allB (S.rs.drop S.m) = T) (hn : n' = L.length) (hm : m' = T.length) (hna : na = S.acks.length)
    (hu : nU = us.length) (hv : nV = vs.length) (hus : us.map Prod.fst = S.N) (hvs : vs.map Prod.fst = S.L) (hul : nU ≤ 1000000000) (hvl : nV ≤ 1000000000) (w : World) (h : StAt w F g S q) (hl : Row w w.heap.size AL (L.map byteV)) (ht : Row w w.heap.size AT (T.map byteV)) (hu2 : EnV w AU us) (hv2 : EnV w AV vs) :
    Calls Tryz.prog 10 #[.pointer (some ⟨g, 0, none⟩), .agg #[.slice AL n' cL, .slice AT m' cT, .int .i64 qq, .slice R k cR, .int .i64 mm, .slice AU nU cU, .slice AV nV cV, .slice AC na cC]] w (IsT8 true w) := by
  obtain ⟨w0, hw0⟩ : ∃ w0, w.alloc (.cells #[.slice AL n' cL, .slice AT m' cT, .int .i64 qq, .slice R k cR, .int .i64 mm, .slice AU nU cU, .slice AV nV cV, .slice AC na cC] 36) = w0 := ⟨_, rfl⟩
  have hb0 : Below w.heap.size w w0 := by rw [← hw0]; exact (Below.refl _ _).alloc (Nat.le_refl _) _
  have hblk : Blk w0 w.heap.size 36 #[.slice AL n' cL, .slice AT m' cT, .int .i64 qq, .slice R k cR, .int .i64 mm, .slice AU nU cU, .slice AV nV cV, .slice AC na cC] := by rw [← hw0]; exact Blk.new _ _ _
  obtain ⟨b, hbb⟩ : ∃ b, w.heap.size = b := ⟨_, rfl⟩
  have hdk := disk_any8 F g q S w0 (h.below hb0)
  rw [hL, hT] at hdk
  have HDK := Lib.hid hdk
  rw [hbb] at hblk
  have HBK := Lib.hid hblk
  have HB0 := Lib.hid hb0
  have HST0 := Lib.hid (h.below hb0)
  have HRL0 := Lib.hid ((hl.below hb0).more hb0.size)
  have HRT0 := Lib.hid ((ht.below hb0).more hb0.size)
  have HU0 := Lib.hid (hu2.below hb0)
  have HV0 := Lib.hid (hv2.below hb0)
  have HNL := Lib.hid hn
  have HML := Lib.hid hm
  have HNA := Lib.hid hna
  have HUS := Lib.hid hus
  have HVS := Lib.hid hvs
  have HNU := Lib.hid hu
  have HNV := Lib.hid hv
  have HOK := Lib.hid h.ok
  have HVL := Lib.hid hvl
  have HW0 := Lib.hid hw0
  have HBB := Lib.hid hbb
  have hui : (nU : Int) ≤ 1000000000 := by omega
  clear h hL hT hn hm hna hus hvs hl ht hu2 hv2 hu hv hb0 hblk hw0 hbb hdk hvl
  go_enter Tryz.func10, Tryz.ntmps10
  go_wp2_with fail
  rw [HW0.out]
  rw [HBB.out]
  refine HDK.out.mono ?_
  rintro e wa ⟨y, FY, rfl, hfy, hdy, hba⟩
  simp only [id]
  have HBA := Lib.hid hba
  have HDY : Hid (∀ W, Below wa.heap.size wa W → DkAt dk0 W FY y L T q) := Lib.hid fun W hb => hdy.below hb
  have HBL : Hid (∀ W, Below wa.heap.size wa W → Below w0.heap.size w0 W) := Lib.hid fun W hb => hba.trans (hb.mono hba.size)
  have HST : Hid (∀ W, Below wa.heap.size wa W → StAt W F g S q) := Lib.hid fun W hb => HST0.out.below (HBL.out W hb)
  have HB : Hid (∀ W, Below wa.heap.size wa W → W.cell? ⟨b, 6, none⟩ = some (.slice AV nV cV) ∧ W.cell? ⟨b, 7, none⟩ = some (.slice AC na cC) ∧ W.cell? ⟨b, 0, none⟩ = some (.slice AL n' cL) ∧ W.cell? ⟨b, 1, none⟩ = some (.slice AT m' cT)) := Lib.hid fun W hb => by
    have hbk := HBK.out.below (HBL.out W hb) HBK.out.lt
    exact ⟨hbk.cell 6, hbk.cell 7, hbk.cell 0, hbk.cell 1⟩
  have HRL : Hid (∀ W, Below wa.heap.size wa W → Row W W.heap.size AL (L.map byteV)) := Lib.hid fun W hb => (HRL0.out.below (HBL.out W hb)).more (HBL.out W hb).size
  have HRT : Hid (∀ W, Below wa.heap.size wa W → Row W W.heap.size AT (T.map byteV)) := Lib.hid fun W hb => (HRT0.out.below (HBL.out W hb)).more (HBL.out W hb).size
  have HXL : Hid (∀ xs : List EV, xs.map Prod.fst = S.L → xs.length = nV) := Lib.hid fun xs hx => by
    have h1 := congrArg List.length (hx.trans HVS.out.symm)
    rw [List.length_map, List.length_map] at h1
    rw [h1, HNV.out]
  have HALL : Hid (∀ W, Below wa.heap.size wa W → Calls Tryz.prog 26 #[.pointer (some ⟨g, 0, none⟩)] W fun e w' => ∃ (A : Option Addr) (c' : Nat), e = .returned (.slice A nV c') ∧ EnAt S.L w' A ∧ Below W.heap.size W w') := Lib.hid fun W hb =>
    (all_any8 F g q S W (HST.out W hb)).mono fun e w' ⟨xs, A, c', hx, he, ho, hent, hb2⟩ => ⟨A, c', by rw [he, HXL.out xs hx], ⟨xs, hx, enV_of ho hent (okT_lensR HOK.out.lOk hx)⟩, hb2⟩
  have HSA : Hid (∀ W, Below wa.heap.size wa W → ∀ (a : Option Addr) (c' : Nat), EnAt S.L W a → Calls Tryz.prog 25 #[.slice a nV c', .slice AV nV cV] W (IsT8 true W)) := Lib.hid fun W hb a c' ⟨xs, hx, hi⟩ =>
    sameall_true nV c' nV cV a AV xs vs (HXL.out xs hx).symm HNV.out (hx.trans HVS.out.symm) (by have := HVL.out; omega) W hi (HV0.out.below (HBL.out W hb))
  have HWT : Hid (∀ W, Below wa.heap.size wa W → Calls Tryz.prog 27 #[.pointer (some ⟨g, 0, none⟩)] W fun e w' => e = .returned (.int .i64 (na : Int)) ∧ W = w') := Lib.hid fun W hb => by
    have := waiting_any8 F g q S W (HST.out W hb)
    rw [← HNA.out] at this; exact this
  have HDL := Lib.hid fun (W : World) (hW : Below wa.heap.size wa W) => lasting_any FY y q L T W (HDY.out W hW)
  have HDT := Lib.hid fun (W : World) (hW : Below wa.heap.size wa W) => tail_any FY y q L T W (HDY.out W hW)
  have HS1 : Hid (∀ W, Below wa.heap.size wa W → ∀ (a : Option Addr) (c' : Nat), W.ownsRow 0 5 1 (.slice a L.length c') L.length (L.map byteV) → Calls Tryz.prog 28 #[.slice a L.length c', .slice AL n' cL] W fun e w' => e = .returned (.bool true) ∧ W = w') := Lib.hid fun W hW a c' ho =>
    same6_true W.heap.size W.heap.size c' cL L.length n' a AL L W (Row.of_own ho) (HRL.out W hW) rfl HNL.out
  have HS2 : Hid (∀ W, Below wa.heap.size wa W → ∀ (a : Option Addr) (c' : Nat), W.ownsRow 0 5 1 (.slice a T.length c') T.length (T.map byteV) → Calls Tryz.prog 28 #[.slice a T.length c', .slice AT m' cT] W fun e w' => e = .returned (.bool true) ∧ W = w') := Lib.hid fun W hW a c' ho =>
    same6_true W.heap.size W.heap.size c' cT T.length m' a AT T W (Row.of_own ho) (HRT.out W hW) rfl HML.out
  clear hfy hdy hba HDK
  go_wp2_with fail
  refine Rely.wp_region_by [[], [(0, 9)], [], [(2, 11)], [(1, 10), (3, 12)], [(4, 13)], [(5, 14)], [(6, 15)], [(6, 15), (7, 16)], [(6, 15)], [(6, 15), (9, 18)], [(6, 15), (10, 19)], [(6, 15), (8, 17), (11, 20)], [(6, 15), (12, 21)], [(13, 22)], [(14, 23)], [(14, 23), (15, 24)], [(14, 23)], [(14, 23), (17, 26)], [(14, 23), (18, 27)], [(14, 23), (19, 28)], [(14, 23), (16, 25), (20, 29)], [(14, 23), (21, 30)], [(14, 23), (22, 31)], [(23, 32)], [(24, 33)], [(24, 33), (25, 34)], [(24, 33)], [(24, 33), (27, 36)], [(24, 33), (28, 37)], [(24, 33), (29, 38)], [(24, 33), (26, 35), (30, 39)], [(24, 33), (31, 40)], [(24, 33), (32, 41)]] [(0, 9), (1, 10), (2, 11), (3, 12), (4, 13), (5, 14), (6, 15), (7, 16), (8, 17), (9, 18), (10, 19), (11, 20), (12, 21), (13, 22), (14, 23), (15, 24), (16, 25), (17, 26), (18, 27), (19, 28), (20, 29), (21, 30), (22, 31), (23, 32), (24, 33), (25, 34), (26, 35), (27, 36), (28, 37), (29, 38), (30, 39), (31, 40), (32, 41), (33, 42)] [] (rg8A g y b na cC nV cV n' m' cL cT S.L L T AC AV AL AT) (by kernel_rfl) (by kernel_rfl) (by kernel_rfl) (by kernel_rfl) (by kernel_rfl) (by kernel_rfl) (rg8A_later g y b na cC nV cV n' m' cL cT S.L L T AC AV AL AT) ?_ ?_
  · skip
    refine Rely.stepsZ_cons (by
      intro vs w' hb hp
      simp only [Rely.Pre, rg8A] at hp
      unfold Rely.gives
      simp only [Rely.sel, List.foldl_cons, List.foldl_nil]
      go_simp
      exact ⟨Below.refl _ _, rfl⟩) ?_
    refine Rely.stepsZ_cons (by
      intro vs w' hb hp
      simp only [Rely.Pre, rg8A] at hp
      obtain ⟨h9, _⟩ := hp
      unfold Rely.gives
      simp only [Rely.sel, List.foldl_cons, List.foldl_nil]
      go_simp
      simp only [Rely.GivesR]
      refine (HALL.out w' hb).mono ?_
      rintro e w3 ⟨A3, c3, rfl, ho3, hb3⟩
      exact ⟨_, rfl, hb3, A3, c3, rfl, ho3⟩) ?_
    refine Rely.stepsZ_cons (by
      intro vs w' hb hp
      simp only [Rely.Pre, rg8A] at hp
      unfold Rely.gives
      simp only [Rely.sel, List.foldl_cons, List.foldl_nil]
      go_simp
      exact ⟨Below.refl _ _, rfl⟩) ?_
    refine Rely.stepsZ_cons (by
      intro vs w' hb hp
      simp only [Rely.Pre, rg8A] at hp
      obtain ⟨h11, _⟩ := hp
      have hfact := (HB.out w' hb).1
      unfold Rely.gives
      simp only [Rely.sel, List.foldl_cons, List.foldl_nil]
      go_simp
      exact ⟨Below.refl _ _, rfl⟩) ?_
    refine Rely.stepsZ_cons (by
      intro vs w' hb hp
      simp only [Rely.Pre, rg8A] at hp
      obtain ⟨⟨a10, c10, e10, ho10⟩, h12, _⟩ := hp
      unfold Rely.gives
      simp only [Rely.sel, List.foldl_cons, List.foldl_nil]
      go_simp
      simp only [Rely.GivesR]
      refine (HSA.out w' hb a10 c10 ho10).mono ?_
      rintro e w3 ⟨rfl, hb3⟩
      exact ⟨_, rfl, hb3, rfl⟩) ?_
    refine Rely.stepsZ_cons (by
      intro vs w' hb hp
      simp only [Rely.Pre, rg8A] at hp
      obtain ⟨h13, _⟩ := hp
      unfold Rely.gives
      simp only [Rely.sel, List.foldl_cons, List.foldl_nil]
      go_simp
      exact ⟨Below.refl _ _, rfl⟩) ?_
    refine Rely.stepsZ_cons (by
      intro vs w' hb hp
      simp only [Rely.Pre, rg8A] at hp
      obtain ⟨h14, _⟩ := hp
      unfold Rely.gives
      simp only [Rely.sel, List.foldl_cons, List.foldl_nil]
      go_simp
      exact ⟨Below.refl _ _, rfl⟩) ?_
    refine Rely.stepsZ_cons (by
      intro vs w' hb hp
      simp only [Rely.Pre, rg8A] at hp
      obtain ⟨h15, _⟩ := hp
      unfold Rely.gives
      simp only [Rely.sel, List.foldl_cons, List.foldl_nil]
      go_simp
      exact ⟨Below.refl _ _, rfl⟩) ?_
    refine Rely.stepsZ_cons (by
      intro vs w' hb hp
      simp only [Rely.Pre, rg8A] at hp
      obtain ⟨h15, h16, _⟩ := hp
      unfold Rely.gives
      simp only [Rely.sel, List.foldl_cons, List.foldl_nil]
      go_simp
      simp only [Rely.GivesR]
      refine (HWT.out w' hb).mono ?_
      rintro e w3 ⟨rfl, rfl⟩
      exact ⟨_, rfl, Below.refl _ _, rfl⟩) ?_
    refine Rely.stepsZ_cons (by
      intro vs w' hb hp
      simp only [Rely.Pre, rg8A] at hp
      obtain ⟨h15, _⟩ := hp
      unfold Rely.gives
      simp only [Rely.sel, List.foldl_cons, List.foldl_nil]
      go_simp
      exact ⟨Below.refl _ _, rfl⟩) ?_
    refine Rely.stepsZ_cons (by
      intro vs w' hb hp
      simp only [Rely.Pre, rg8A] at hp
      obtain ⟨h15, h18, _⟩ := hp
      have hfact := (HB.out w' hb).2.1
      unfold Rely.gives
      simp only [Rely.sel, List.foldl_cons, List.foldl_nil]
      go_simp
      exact ⟨Below.refl _ _, rfl⟩) ?_
    refine Rely.stepsZ_cons (by
      intro vs w' hb hp
      simp only [Rely.Pre, rg8A] at hp
      obtain ⟨h15, h19, _⟩ := hp
      unfold Rely.gives
      simp only [Rely.sel, List.foldl_cons, List.foldl_nil]
      go_simp
      exact ⟨Below.refl _ _, rfl⟩) ?_
    refine Rely.stepsZ_cons (by
      intro vs w' hb hp
      simp only [Rely.Pre, rg8A] at hp
      obtain ⟨h15, h17, h20, _⟩ := hp
      unfold Rely.gives
      simp only [Rely.sel, List.foldl_cons, List.foldl_nil]
      go_simp
      exact ⟨Below.refl _ _, rfl⟩) ?_
    refine Rely.stepsZ_cons (by
      intro vs w' hb hp
      simp only [Rely.Pre, rg8A] at hp
      obtain ⟨h15, h21, _⟩ := hp
      unfold Rely.gives
      simp only [Rely.sel, List.foldl_cons, List.foldl_nil]
      go_simp
      exact ⟨Below.refl _ _, rfl⟩) ?_
    refine Rely.stepsZ_cons (by
      intro vs w' hb hp
      simp only [Rely.Pre, rg8A] at hp
      obtain ⟨h22, _⟩ := hp
      unfold Rely.gives
      simp only [Rely.sel, List.foldl_cons, List.foldl_nil]
      go_simp
      exact ⟨Below.refl _ _, rfl⟩) ?_
    refine Rely.stepsZ_cons (by
      intro vs w' hb hp
      simp only [Rely.Pre, rg8A] at hp
      obtain ⟨h23, _⟩ := hp
      unfold Rely.gives
      simp only [Rely.sel, List.foldl_cons, List.foldl_nil]
      go_simp
      exact ⟨Below.refl _ _, rfl⟩) ?_
    refine Rely.stepsZ_cons (by
      intro vs w' hb hp
      simp only [Rely.Pre, rg8A] at hp
      obtain ⟨h23, h24, _⟩ := hp
      unfold Rely.gives
      simp only [Rely.sel, List.foldl_cons, List.foldl_nil]
      go_simp
      simp only [Rely.GivesR]
      refine (HDL.out w' hb).mono ?_
      rintro e w3 ⟨A3, c3, rfl, ho3, hb3⟩
      exact ⟨_, rfl, hb3, A3, c3, rfl, ownBase ho3 (Nat.zero_le _)⟩) ?_
    refine Rely.stepsZ_cons (by
      intro vs w' hb hp
      simp only [Rely.Pre, rg8A] at hp
      obtain ⟨h23, _⟩ := hp
      unfold Rely.gives
      simp only [Rely.sel, List.foldl_cons, List.foldl_nil]
      go_simp
      exact ⟨Below.refl _ _, rfl⟩) ?_
    refine Rely.stepsZ_cons (by
      intro vs w' hb hp
      simp only [Rely.Pre, rg8A] at hp
      obtain ⟨h23, h26, _⟩ := hp
      unfold Rely.gives
      simp only [Rely.sel, List.foldl_cons, List.foldl_nil]
      go_simp
      exact ⟨Below.refl _ _, rfl⟩) ?_
    refine Rely.stepsZ_cons (by
      intro vs w' hb hp
      simp only [Rely.Pre, rg8A] at hp
      obtain ⟨h23, h27, _⟩ := hp
      unfold Rely.gives
      simp only [Rely.sel, List.foldl_cons, List.foldl_nil]
      go_simp
      exact ⟨Below.refl _ _, rfl⟩) ?_
    refine Rely.stepsZ_cons (by
      intro vs w' hb hp
      simp only [Rely.Pre, rg8A] at hp
      obtain ⟨h23, h28, _⟩ := hp
      have hfact := (HB.out w' hb).2.2.1
      unfold Rely.gives
      simp only [Rely.sel, List.foldl_cons, List.foldl_nil]
      go_simp
      exact ⟨Below.refl _ _, rfl⟩) ?_
    refine Rely.stepsZ_cons (by
      intro vs w' hb hp
      simp only [Rely.Pre, rg8A] at hp
      obtain ⟨h23, ⟨a25, c25, e25, ho25⟩, h29, _⟩ := hp
      unfold Rely.gives
      simp only [Rely.sel, List.foldl_cons, List.foldl_nil]
      go_simp
      simp only [Rely.GivesR]
      refine (HS1.out w' hb a25 c25 ho25).mono ?_
      rintro e w3 ⟨rfl, rfl⟩
      exact ⟨_, rfl, Below.refl _ _, rfl⟩) ?_
    refine Rely.stepsZ_cons (by
      intro vs w' hb hp
      simp only [Rely.Pre, rg8A] at hp
      obtain ⟨h23, h30, _⟩ := hp
      unfold Rely.gives
      simp only [Rely.sel, List.foldl_cons, List.foldl_nil]
      go_simp
      exact ⟨Below.refl _ _, rfl⟩) ?_
    refine Rely.stepsZ_cons (by
      intro vs w' hb hp
      simp only [Rely.Pre, rg8A] at hp
      obtain ⟨h23, h31, _⟩ := hp
      unfold Rely.gives
      simp only [Rely.sel, List.foldl_cons, List.foldl_nil]
      go_simp
      exact ⟨Below.refl _ _, rfl⟩) ?_
    refine Rely.stepsZ_cons (by
      intro vs w' hb hp
      simp only [Rely.Pre, rg8A] at hp
      obtain ⟨h32, _⟩ := hp
      unfold Rely.gives
      simp only [Rely.sel, List.foldl_cons, List.foldl_nil]
      go_simp
      exact ⟨Below.refl _ _, rfl⟩) ?_
    refine Rely.stepsZ_cons (by
      intro vs w' hb hp
      simp only [Rely.Pre, rg8A] at hp
      obtain ⟨h33, _⟩ := hp
      unfold Rely.gives
      simp only [Rely.sel, List.foldl_cons, List.foldl_nil]
      go_simp
      exact ⟨Below.refl _ _, rfl⟩) ?_
    refine Rely.stepsZ_cons (by
      intro vs w' hb hp
      simp only [Rely.Pre, rg8A] at hp
      obtain ⟨h33, h34, _⟩ := hp
      unfold Rely.gives
      simp only [Rely.sel, List.foldl_cons, List.foldl_nil]
      go_simp
      simp only [Rely.GivesR]
      refine (HDT.out w' hb).mono ?_
      rintro e w3 ⟨A3, c3, rfl, ho3, hb3⟩
      exact ⟨_, rfl, hb3, A3, c3, rfl, ownBase ho3 (Nat.zero_le _)⟩) ?_
    refine Rely.stepsZ_cons (by
      intro vs w' hb hp
      simp only [Rely.Pre, rg8A] at hp
      obtain ⟨h33, _⟩ := hp
      unfold Rely.gives
      simp only [Rely.sel, List.foldl_cons, List.foldl_nil]
      go_simp
      exact ⟨Below.refl _ _, rfl⟩) ?_
    refine Rely.stepsZ_cons (by
      intro vs w' hb hp
      simp only [Rely.Pre, rg8A] at hp
      obtain ⟨h33, h36, _⟩ := hp
      unfold Rely.gives
      simp only [Rely.sel, List.foldl_cons, List.foldl_nil]
      go_simp
      exact ⟨Below.refl _ _, rfl⟩) ?_
    refine Rely.stepsZ_cons (by
      intro vs w' hb hp
      simp only [Rely.Pre, rg8A] at hp
      obtain ⟨h33, h37, _⟩ := hp
      unfold Rely.gives
      simp only [Rely.sel, List.foldl_cons, List.foldl_nil]
      go_simp
      exact ⟨Below.refl _ _, rfl⟩) ?_
    refine Rely.stepsZ_cons (by
      intro vs w' hb hp
      simp only [Rely.Pre, rg8A] at hp
      obtain ⟨h33, h38, _⟩ := hp
      have hfact := (HB.out w' hb).2.2.2
      unfold Rely.gives
      simp only [Rely.sel, List.foldl_cons, List.foldl_nil]
      go_simp
      exact ⟨Below.refl _ _, rfl⟩) ?_
    refine Rely.stepsZ_cons (by
      intro vs w' hb hp
      simp only [Rely.Pre, rg8A] at hp
      obtain ⟨h33, ⟨a35, c35, e35, ho35⟩, h39, _⟩ := hp
      unfold Rely.gives
      simp only [Rely.sel, List.foldl_cons, List.foldl_nil]
      go_simp
      simp only [Rely.GivesR]
      refine (HS2.out w' hb a35 c35 ho35).mono ?_
      rintro e w3 ⟨rfl, rfl⟩
      exact ⟨_, rfl, Below.refl _ _, rfl⟩) ?_
    refine Rely.stepsZ_cons (by
      intro vs w' hb hp
      simp only [Rely.Pre, rg8A] at hp
      obtain ⟨h33, h40, _⟩ := hp
      unfold Rely.gives
      simp only [Rely.sel, List.foldl_cons, List.foldl_nil]
      go_simp
      exact ⟨Below.refl _ _, rfl⟩) ?_
    refine Rely.stepsZ_cons (by
      intro vs w' hb hp
      simp only [Rely.Pre, rg8A] at hp
      obtain ⟨h33, h41, _⟩ := hp
      unfold Rely.gives
      simp only [Rely.sel, List.foldl_cons, List.foldl_nil]
      go_simp
      exact ⟨Below.refl _ _, rfl⟩) ?_
    exact Rely.stepsZ_nil
  intro tvs wb hbb hp _
  simp only [Rely.Pre, rg8A] at hp
  obtain ⟨h0, ⟨a1, b1, h1, ho1⟩, h2, h3, h4, h5, h6, h7, h8, h9, h10, h11, h12, h13, h14, h15, ⟨a16, b16, h16, ho16⟩, h17, h18, h19, h20, h21, h22, h23, h24, h25, ⟨a26, b26, h26, ho26⟩, h27, h28, h29, h30, h31, h32, h33, _⟩ := hp
  simp only [Rely.sel, List.foldl_cons, List.foldl_nil, h0, h1, h2, h3, h4, h5, h6, h7, h8, h9, h10, h11, h12, h13, h14, h15, h16, h17, h18, h19, h20, h21, h22, h23, h24, h25, h26, h27, h28, h29, h30, h31, h32, h33]
  clear h0 h1 h2 h3 h4 h5 h6 h7 h8 h9 h10 h11 h12 h13 h14 h15 h16 h17 h18 h19 h20 h21 h22 h23 h24 h25 h26 h27 h28 h29 h30 h31 h32 h33
  simp only [Act.put, List.setIfInBounds_toArray, List.set_cons_succ, List.set_cons_zero]
  have hbb9 : Below wa.heap.size wa wb := hbb
  clear hbb HALL HSA HWT HDL HDT HS1 HS2 HB
  go_wp2_with fail
  go_loopw [6] (fun i wr => ∃ j : Nat, j ≤ nU ∧ i = .int .i64 j ∧ Hid (Below wa.heap.size wa wr)) (fun i _ => nU - (intOf i).toNat)
  case atStart => exact ⟨0, Nat.zero_le _, rfl, Lib.hid hbb9⟩
  case round =>
    obtain ⟨j, hj, rfl, HBR⟩ := hrel
    have b5 : wr.cell? ⟨b, 5, none⟩ = some (.slice AU nU cU) := (HBK.out.below (HBL.out wr HBR.out) HBK.out.lt).cell 5
    by_cases hlt : j < nU
    · have hj1 : j < us.length := by rw [← HNU.out]; exact hlt
      have hev := HU0.out.below (HBL.out wr HBR.out)
      obtain ⟨rb, ro, hA, -, hc⟩ := ents_open hev.row (by omega)
      obtain ⟨x0, x1, x2, x3, x4, x5⟩ := hc j hj1
      have hval := hev.val us[j] (List.getElem_mem hj1)
      have hofj : ofT S.N us[j].1.k = us[j].1 := by
        have hjN : j < S.N.length := by rw [← HUS.out, List.length_map]; exact hj1
        have h1 : S.N[j] = us[j].1 := by simp only [← HUS.out, List.getElem_map]
        have h2 := ofT_at HOK.out.nOk hjN
        rw [h1] at h2; exact h2
      have hkl := (rightE_yes (HOK.out.nOk.ok us[j].1 (by rw [← HUS.out]; exact List.mem_map_of_mem (f := Prod.fst) (List.getElem_mem hj1)))).2.1
      have hvl6 := okT_lensR HOK.out.nOk HUS.out us[j] (List.getElem_mem hj1)
      obtain ⟨⟨⟨xk, xs, xu, xo, xh, xv⟩, A2, c2⟩, hy⟩ : ∃ y, us[j] = y := ⟨_, rfl⟩
      rw [hy] at x0 x1 x2 x3 x4 x5 hval hofj hkl hvl6
      simp only at x0 x1 x2 x3 x4 x5 hval hofj hkl hvl6
      have HB7 : Hid (∀ W, Below wr.heap.size wr W → W.cell? ⟨b, 5, none⟩ = some (.slice (some ⟨rb, ro, none⟩) nU cU) ∧ W.cell? ⟨rb, ro + j * 6, none⟩ = some (.string ⟨xk.toArray⟩) ∧ W.cell? ⟨rb, ro + j * 6 + 1, none⟩ = some (.int .i64 xs) ∧ W.cell? ⟨rb, ro + j * 6 + 2, none⟩ = some (.int .i64 xu) ∧ W.cell? ⟨rb, ro + j * 6 + 3, none⟩ = some (.int .i64 xo) ∧ W.cell? ⟨rb, ro + j * 6 + 4, none⟩ = some (.bool xh) ∧ W.cell? ⟨rb, ro + j * 6 + 5, none⟩ = some (.slice A2 xv.length c2)) := Lib.hid fun W hW =>
        ⟨by rw [← hA]; exact (hW.cell (p := ⟨b, 5, none⟩) (block_lt b5)).trans b5, (hW.cell (p := ⟨rb, ro + j * 6, none⟩) (block_lt x0)).trans x0, (hW.cell (p := ⟨rb, ro + j * 6 + 1, none⟩) (block_lt x1)).trans x1, (hW.cell (p := ⟨rb, ro + j * 6 + 2, none⟩) (block_lt x2)).trans x2, (hW.cell (p := ⟨rb, ro + j * 6 + 3, none⟩) (block_lt x3)).trans x3, (hW.cell (p := ⟨rb, ro + j * 6 + 4, none⟩) (block_lt x4)).trans x4, (hW.cell (p := ⟨rb, ro + j * 6 + 5, none⟩) (block_lt x5)).trans x5⟩
      have HNW : Hid (∀ W, Below wr.heap.size wr W → Calls Tryz.prog 14 #[.pointer (some ⟨g, 0, none⟩), .string ⟨xk.toArray⟩] W fun e w' => ∃ A c, e = .returned (.agg #[.string ⟨xk.toArray⟩, .int .i64 xs, .int .i64 xu, .int .i64 xo, .bool xh, .slice A xv.length c]) ∧ ValOk w' xh A xv c ∧ Below W.heap.size W w') := Lib.hid fun W hW => by
        have h1 := getnew_any8 F g q S xk (by unfold maxLen; omega) W (HST.out W (HBR.out.trans (hW.mono HBR.out.size)))
        rw [hofj] at h1
        refine h1.mono fun e w' hg => ?_
        obtain ⟨A, c, e1, e2, _, e4⟩ := getP_open (x := ⟨xk, xs, xu, xo, xh, xv⟩) rfl hvl6 hg
        exact ⟨A, c, e1, e2, e4⟩
      have HSM : Hid (∀ W, Below wr.heap.size wr W → ∀ (a : Option Addr) (c' : Nat), ValOk W xh a xv c' → Calls Tryz.prog 11 #[.agg #[.string ⟨xk.toArray⟩, .int .i64 xs, .int .i64 xu, .int .i64 xo, .bool xh, .slice a xv.length c'], .agg #[.string ⟨xk.toArray⟩, .int .i64 xs, .int .i64 xu, .int .i64 xo, .bool xh, .slice A2 xv.length c2]] W (IsB true W)) := Lib.hid fun W hW a c' ha =>
        refsame_true ⟨xk.toArray⟩ xs xu xo xh a A2 xv c' c2 xv.length xv.length rfl rfl W ha (hval.below hW)
      have hji : (0 : Int) ≤ (j : Int) := by omega
      have hji2 : (j : Int) < (nU : Int) := by omega
      clear hc x0 x1 x2 x3 x4 x5 hval hofj hkl hvl6 hy hev hA
      go_wp2_with fail
      refine Rely.wp_region_by [[], [], [(1, 51)], [], [(2, 52), (3, 53)], [(4, 54)], [(5, 55)], [(0, 50), (6, 56)], [], [(8, 58)], [], [(9, 59), (10, 60)], [(11, 61)], [(7, 57), (12, 62)], [(13, 63)]] [(0, 50), (1, 51), (2, 52), (3, 53), (4, 54), (5, 55), (6, 56), (7, 57), (8, 58), (9, 59), (10, 60), (11, 61), (12, 62), (13, 63), (14, 64)] [] (rg8B g b nU cU j rb ro xv.length c2 ⟨xk.toArray⟩ xs xu xo xh xv A2) (by kernel_rfl) (by kernel_rfl) (by kernel_rfl) (by kernel_rfl) (by kernel_rfl) (by kernel_rfl) (rg8B_later g b nU cU j rb ro xv.length c2 ⟨xk.toArray⟩ xs xu xo xh xv A2) ?_ ?_
      · skip
        refine Rely.stepsZ_cons (by
          intro vs w' hb hp
          simp only [Rely.Pre, rg8B] at hp
          unfold Rely.gives
          simp only [Rely.sel, List.foldl_cons, List.foldl_nil]
          go_simp
          exact ⟨Below.refl _ _, rfl⟩) ?_
        refine Rely.stepsZ_cons (by
          intro vs w' hb hp
          simp only [Rely.Pre, rg8B] at hp
          unfold Rely.gives
          simp only [Rely.sel, List.foldl_cons, List.foldl_nil]
          go_simp
          exact ⟨Below.refl _ _, rfl⟩) ?_
        refine Rely.stepsZ_cons (by
          intro vs w' hb hp
          simp only [Rely.Pre, rg8B] at hp
          obtain ⟨h51, _⟩ := hp
          have hfact := (HB7.out w' hb).1
          unfold Rely.gives
          simp only [Rely.sel, List.foldl_cons, List.foldl_nil]
          go_simp
          exact ⟨Below.refl _ _, rfl⟩) ?_
        refine Rely.stepsZ_cons (by
          intro vs w' hb hp
          simp only [Rely.Pre, rg8B] at hp
          unfold Rely.gives
          simp only [Rely.sel, List.foldl_cons, List.foldl_nil]
          go_simp
          exact ⟨Below.refl _ _, rfl⟩) ?_
        refine Rely.stepsZ_cons (by
          intro vs w' hb hp
          simp only [Rely.Pre, rg8B] at hp
          obtain ⟨h52, h53, _⟩ := hp
          unfold Rely.gives
          simp only [Rely.sel, List.foldl_cons, List.foldl_nil]
          go_simp
          exact ⟨Below.refl _ _, rfl⟩) ?_
        refine Rely.stepsZ_cons (by
          intro vs w' hb hp
          simp only [Rely.Pre, rg8B] at hp
          obtain ⟨h54, _⟩ := hp
          unfold Rely.gives
          simp only [Rely.sel, List.foldl_cons, List.foldl_nil]
          go_simp
          exact ⟨Below.refl _ _, rfl⟩) ?_
        refine Rely.stepsZ_cons (by
          intro vs w' hb hp
          simp only [Rely.Pre, rg8B] at hp
          obtain ⟨h55, _⟩ := hp
          have hfact := (HB7.out w' hb).2.1
          unfold Rely.gives
          simp only [Rely.sel, List.foldl_cons, List.foldl_nil]
          go_simp
          exact ⟨Below.refl _ _, rfl⟩) ?_
        refine Rely.stepsZ_cons (by
          intro vs w' hb hp
          simp only [Rely.Pre, rg8B] at hp
          obtain ⟨h50, h56, _⟩ := hp
          unfold Rely.gives
          simp only [Rely.sel, List.foldl_cons, List.foldl_nil]
          go_simp
          simp only [Rely.GivesR]
          refine (HNW.out w' hb).mono ?_
          rintro e w3 ⟨A3, c3, rfl, ho3, hb3⟩
          exact ⟨_, rfl, hb3, A3, c3, rfl, ho3⟩) ?_
        refine Rely.stepsZ_cons (by
          intro vs w' hb hp
          simp only [Rely.Pre, rg8B] at hp
          unfold Rely.gives
          simp only [Rely.sel, List.foldl_cons, List.foldl_nil]
          go_simp
          exact ⟨Below.refl _ _, rfl⟩) ?_
        refine Rely.stepsZ_cons (by
          intro vs w' hb hp
          simp only [Rely.Pre, rg8B] at hp
          obtain ⟨h58, _⟩ := hp
          have hfact := (HB7.out w' hb).1
          unfold Rely.gives
          simp only [Rely.sel, List.foldl_cons, List.foldl_nil]
          go_simp
          exact ⟨Below.refl _ _, rfl⟩) ?_
        refine Rely.stepsZ_cons (by
          intro vs w' hb hp
          simp only [Rely.Pre, rg8B] at hp
          unfold Rely.gives
          simp only [Rely.sel, List.foldl_cons, List.foldl_nil]
          go_simp
          exact ⟨Below.refl _ _, rfl⟩) ?_
        refine Rely.stepsZ_cons (by
          intro vs w' hb hp
          simp only [Rely.Pre, rg8B] at hp
          obtain ⟨h59, h60, _⟩ := hp
          unfold Rely.gives
          simp only [Rely.sel, List.foldl_cons, List.foldl_nil]
          go_simp
          exact ⟨Below.refl _ _, rfl⟩) ?_
        refine Rely.stepsZ_cons (by
          intro vs w' hb hp
          simp only [Rely.Pre, rg8B] at hp
          obtain ⟨h61, _⟩ := hp
          have hfact := (HB7.out w' hb).2
          unfold Rely.gives
          simp only [Rely.sel, List.foldl_cons, List.foldl_nil]
          go_simp
          exact ⟨Below.refl _ _, rfl⟩) ?_
        refine Rely.stepsZ_cons (by
          intro vs w' hb hp
          simp only [Rely.Pre, rg8B] at hp
          obtain ⟨⟨a57, c57, e57, ho57⟩, h62, _⟩ := hp
          unfold Rely.gives
          simp only [Rely.sel, List.foldl_cons, List.foldl_nil]
          go_simp
          simp only [Rely.GivesR]
          refine (HSM.out w' hb a57 c57 ho57).mono ?_
          rintro e w3 ⟨rfl, hb3⟩
          exact ⟨_, rfl, hb3, rfl⟩) ?_
        refine Rely.stepsZ_cons (by
          intro vs w' hb hp
          simp only [Rely.Pre, rg8B] at hp
          obtain ⟨h63, _⟩ := hp
          unfold Rely.gives
          simp only [Rely.sel, List.foldl_cons, List.foldl_nil]
          go_simp
          exact ⟨Below.refl _ _, rfl⟩) ?_
        exact Rely.stepsZ_nil
      intro tvs wx hbx hp _
      simp only [Rely.Pre, rg8B] at hp
      obtain ⟨h0, h1, h2, h3, h4, h5, h6, ⟨a7, b7, h7, ho7⟩, h8, h9, h10, h11, h12, h13, h14, _⟩ := hp
      simp only [Rely.sel, List.foldl_cons, List.foldl_nil, h0, h1, h2, h3, h4, h5, h6, h7, h8, h9, h10, h11, h12, h13, h14]
      clear h0 h1 h2 h3 h4 h5 h6 h7 h8 h9 h10 h11 h12 h13 h14
      simp only [Act.put, List.setIfInBounds_toArray, List.set_cons_succ, List.set_cons_zero]
      have HBN : Hid (Below wa.heap.size wa wx) := Lib.hid (HBR.out.trans (hbx.mono HBR.out.size))
      clear hbx HB7 HNW HSM
      go_wp2
      go_roundw
      case rel => exact ⟨j + 1, by omega, by go_num, HBN⟩
      case measure => simp [intOf]; omega
    · have hji2 : ¬ (j : Int) < (nU : Int) := by omega
      go_wp2
      go_ret
      exact ⟨rfl, HB0.out.trans ((HBL.out wr HBR.out).mono HB0.out.size)⟩
end Go.Proofs.YtndbggkpobcpjaaGreat
