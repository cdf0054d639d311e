/- Whether a log is as it is to be, by the statements' own call. Written by tools/gen_same7.py. -/
import Derived.Test.YtkagfjjocmjeoaaRef7
import Derived.Test.YtkagfjjocmjeoaaLaw7B
import Derived.Test.YtkagfjjocmjeoaaRely
namespace Go.Proofs.Ytkagfjjocmjeoaa
open Go.RowKit Mem Be Word Frm
set_option maxRecDepth 100000
set_option maxHeartbeats 40000000
set_option linter.unusedVariables false
set_option linter.unusedSimpArgs false
/-- Records with these kinds and bytes, in whatever later world. -/
def RsAt (rs : List Rc) (w : World) (A : Option Addr) : Prop := ∃ us : List RecV, us.map rcOf = rs ∧ InRs w A us
theorem RsAt.later {rs : List Rc} {w w1 : World} {A : Option Addr} (h : RsAt rs w A) (hb : Below w.heap.size w w1) : RsAt rs w1 A := by
  obtain ⟨us, hu, hi⟩ := h
  exact ⟨us, hu, hi.later hb⟩
theorem InRs.tail {w : World} {A : Option Addr} {us : List RecV} (h : InRs w A us) {c p : Nat} (hc : us.length ≤ c) (hp : p ≤ us.length) : InRs w (if c = p then A else A.map (·.add (p * 2))) (us.drop p) := fun W hb =>
  ⟨rowR_tail (h W hb).1 hc hp, recs_sub (h W hb).2 fun r hr => List.mem_of_mem_drop hr⟩
def s7T (g b m p : Nat) (rs : List Rc) (R AB AW A2 : Option Addr) (c cB cW c2 : Nat) (z : Int) (nW : Nat) (RT : Option Addr) : Nat → Value → World → Prop
  | 0, v, _ => v = .pointer (some ⟨g, 0, none⟩)
  | 1, v, w => ∃ A' c', v = .slice A' rs.length c' ∧ RsAt rs w A'
  | 2, v, _ => v = .pointer (some ⟨b, 3, none⟩)
  | 3, v, _ => v = .slice R rs.length c
  | 4, v, _ => v = .bool true
  | 5, v, _ => v = .bool false
  | 6, v, _ => v = .bool false
  | 7, v, _ => v = .pointer (some ⟨g, 0, none⟩)
  | 8, v, _ => v = .int .i64 (m : Int)
  | 9, v, _ => v = .pointer (some ⟨b, 4, none⟩)
  | 10, v, _ => v = .int .i64 (m : Int)
  | 11, v, _ => v = .bool false
  | 12, v, _ => v = .bool false
  | 13, v, _ => v = .bool false
  | 14, v, _ => v = .pointer (some ⟨g, 0, none⟩)
  | 15, v, _ => v = .int .i64 ((rs.length : Int) - (m : Int))
  | 16, v, _ => v = .pointer (some ⟨b, 3, none⟩)
  | 17, v, _ => v = .slice R rs.length c
  | 18, v, _ => v = .int .i64 (rs.length : Int)
  | 19, v, _ => v = .pointer (some ⟨b, 4, none⟩)
  | 20, v, _ => v = .int .i64 (m : Int)
  | 21, v, _ => v = .int .i64 ((rs.length : Int) - (m : Int))
  | 22, v, _ => v = .bool false
  | 23, v, _ => v = .bool false
  | 24, v, _ => v = .bool false
  | 25, v, _ => v = .slice AB (lastB rs p).length cB
  | 26, v, _ => v = .slice AW nW cW
  | 27, v, _ => v = .bool true
  | 28, v, _ => v = .bool false
  | 29, v, _ => v = .bool false
  | 30, v, _ => v = .bool false
  | 31, v, _ => v = .slice A2 (rs.length - p) c2
  | 32, v, _ => v = .pointer (some ⟨b, 3, none⟩)
  | 33, v, _ => v = .slice R rs.length c
  | 34, v, _ => v = .int .i64 z
  | 35, v, _ => v = .int .i64 (p : Int)
  | 36, v, _ => v = .slice RT (rs.length - p) (c - p)
  | 37, v, _ => v = .bool true
  | 38, v, _ => v = .bool false
  | _, v, _ => v = .bool false
theorem s7T_later (g b m p : Nat) (rs : List Rc) (R AB AW A2 : Option Addr) (c cB cW c2 : Nat) (z : Int) (nW : Nat) (RT : Option Addr) : ∀ i v w1 w2, s7T g b m p rs R AB AW A2 c cB cW c2 z nW RT i v w1 → Below w1.heap.size w1 w2 → s7T g b m p rs R AB AW A2 c cB cW c2 z nW RT i v w2 := by
  intro i v w1 w2 h hb
  unfold s7T at h ⊢
  split at h <;> first | exact h | (obtain ⟨p, e, hk⟩ := h; exact ⟨p, e, hk.below hb hk.lt⟩) | (obtain ⟨a, b, e, hk⟩ := h; exact ⟨a, b, e, own_later hk hb⟩) | (obtain ⟨a, b, e, hk⟩ := h; exact ⟨a, b, e, hk.later hb⟩)
def s9T (y b n' m' cL cT : Nat) (L T : List UInt8) (AL AT : Option Addr) : Nat → Value → World → Prop
  | 0, v, _ => v = .pointer (some ⟨y, 0, none⟩)
  | 1, v, w => ∃ A' c', v = .slice A' L.length c' ∧ w.ownsRow 0 5 1 (.slice A' L.length c') L.length (L.map byteV)
  | 2, v, _ => v = .pointer (some ⟨b, 0, none⟩)
  | 3, v, _ => v = .pointer (some ⟨b, 0, none⟩)
  | 4, v, _ => v = .slice AL n' cL
  | 5, v, _ => v = .bool true
  | 6, v, _ => v = .bool true
  | 7, v, _ => v = .pointer (some ⟨y, 0, none⟩)
  | 8, v, w => ∃ A' c', v = .slice A' T.length c' ∧ w.ownsRow 0 5 1 (.slice A' T.length c') T.length (T.map byteV)
  | 9, v, _ => v = .pointer (some ⟨b, 0, none⟩)
  | 10, v, _ => v = .pointer (some ⟨b, 1, none⟩)
  | 11, v, _ => v = .slice AT m' cT
  | 12, v, _ => v = .bool true
  | 13, v, _ => v = .bool true
  | _, v, _ => v = .bool true
theorem s9T_later (y b n' m' cL cT : Nat) (L T : List UInt8) (AL AT : Option Addr) : ∀ i v w1 w2, s9T y b n' m' cL cT L T AL AT i v w1 → Below w1.heap.size w1 w2 → s9T y b n' m' cL cT L T AL AT i v w2 := by
  intro i v w1 w2 h hb
  unfold s9T at h ⊢
  split at h <;> first | exact h | (obtain ⟨p, e, hk⟩ := h; exact ⟨p, e, hk.below hb hk.lt⟩) | (obtain ⟨a, b, e, hk⟩ := h; exact ⟨a, b, e, own_later hk hb⟩)
theorem same7_any (F : Nat → Prop) (g m q n' m' k cL cT c : Nat) (rs : List Rc) (L T : List UInt8) (vs : List RecV) (AL AT R : Option Addr) (qq : Int) (hL : allB (rs.take m) = L) (hT : allB (rs.drop m) = T) (hn : n' = L.length) (hm : m' = T.length) (hk : k = rs.length) (hkc : k ≤ c)
    (hvs : vs.map rcOf = rs) (w : World) (h : LgAt w F g rs m q) (hl : Row w w.heap.size AL (L.map byteV)) (ht : Row w w.heap.size AT (T.map byteV)) (hr : InRs w R vs) :
    Calls Try.prog 15 #[.pointer (some ⟨g, 0, none⟩), .agg #[.slice AL n' cL, .slice AT m' cT, .int .i64 qq, .slice R k c, .int .i64 (m : Int)]] w (IsT true w) := by
  subst hk
  obtain ⟨w0, hw0⟩ : ∃ w0, w.alloc (.cells #[.slice AL n' cL, .slice AT m' cT, .int .i64 qq, .slice R rs.length c, .int .i64 (m : Int)] 32) = w0 := ⟨_, rfl⟩
  have hb0 : Below w.heap.size w w0 := by rw [← hw0]; exact (Below.refl _ _).alloc (Nat.le_refl _) _
  have hblk : Blk w0 w.heap.size 32 #[.slice AL n' cL, .slice AT m' cT, .int .i64 qq, .slice R rs.length c, .int .i64 (m : Int)] := by rw [← hw0]; exact Blk.new _ _ _
  obtain ⟨b, hbb⟩ : ∃ b, w.heap.size = b := ⟨_, rfl⟩
  have hmany := h.many
  have hml := h.le
  have hvl : vs.length = rs.length := by rw [← hvs, List.length_map]
  have HLG : Hid (∀ W, Below w0.heap.size w0 W → LgAt W F g rs m q) := Lib.hid fun W hb => (h.below hb0).below hb
  have hdk := disk7_any F g m q rs w0 (h.below hb0)
  rw [hL, hT] at hdk
  have HDK := Lib.hid hdk
  rw [hbb] at hblk
  have HBK := Lib.hid hblk
  have HB0 := Lib.hid hb0
  have HRL0 := Lib.hid ((hl.below hb0).more hb0.size)
  have HRT0 := Lib.hid ((ht.below hb0).more hb0.size)
  have HIR : Hid (∀ W, Below w0.heap.size w0 W → InRs W R vs) := Lib.hid fun W hb => (hr.later hb0).later hb
  have HNL := Lib.hid hn
  have HML := Lib.hid hm
  have HVS := Lib.hid hvs
  have HVL := Lib.hid hvl
  have HW0 := Lib.hid hw0
  have HBB := Lib.hid hbb
  have hri : (rs.length : Int) ≤ 419430 := by omega
  have hmi : (m : Int) ≤ (rs.length : Int) := by omega
  have HKC := Lib.hid hkc
  clear h hL hT hn hm hvs hl ht hr hb0 hblk hw0 hbb hdk hkc hml
  go_enter Try.func15, Try.ntmps15
  go_wp2_with fail
  rw [HW0.out]
  rw [HBB.out]
  refine HDK.out.mono ?_
  rintro e wa ⟨y, FY, rfl, hfy, hdy, hba⟩
  have HDYA := Lib.hid hdy
  have HBA := Lib.hid hba
  simp only [id]
  have HLA0 := Lib.hid (last7_any F g m q rs wa (HLG.out wa hba))
  clear hfy hdy hba HDK
  go_wp2_with fail
  refine HLA0.out.mono ?_
  rintro e wb ⟨p, AB, cB, us, A2, c2, hp, hus, rfl, hob, hou, hru, hbb⟩
  have hul : us.length = rs.length - p := by rw [← List.length_map (f := rcOf), hus, List.length_drop]
  rw [hul]
  have HP := Lib.hid hp
  have HUS := Lib.hid hus
  have HUL := Lib.hid hul
  have HOB := Lib.hid hob
  have HIU := Lib.hid (inRs_of hou hru)
  have HBW : Hid (Below w0.heap.size w0 wb) := Lib.hid (HBA.out.trans (hbb.mono HBA.out.size))
  have HDYB := Lib.hid (HDYA.out.below hbb)
  have hbk := HBK.out.below HBW.out HBK.out.lt
  have b0 : wb.cell? ⟨b, 0, none⟩ = some (.slice AL n' cL) := hbk.cell 0
  have b1 : wb.cell? ⟨b, 1, none⟩ = some (.slice AT m' cT) := hbk.cell 1
  have b2 : wb.cell? ⟨b, 2, none⟩ = some (.int .i64 qq) := hbk.cell 2
  have b3 : wb.cell? ⟨b, 3, none⟩ = some (.slice R rs.length c) := hbk.cell 3
  have b4 : wb.cell? ⟨b, 4, none⟩ = some (.int .i64 (m : Int)) := hbk.cell 4
  have HRF := Lib.hid (reflast_any AL AT R n' cL m' cT rs.length c m qq vs HVL.out.symm (by omega) wb (HIR.out wb HBW.out wb (Below.refl _ _)).1)
  clear hp hus hul hob hou hru hbb hbk HLA0 HDYA
  go_wp2_with fail
  refine HRF.out.mono ?_
  rintro e wc ⟨⟨p', hp', rfl⟩, hbc⟩
  obtain rfl : p' = p := lastIs_unique (rs := rs) (by rw [← HVS.out]; exact hp') HP.out
  obtain ⟨z, hz⟩ : ∃ z : Int, (p' : Int) - 1 = z := ⟨_, rfl⟩
  rw [hz]
  have hpl := HP.out.le
  have HBC : Hid (Below w0.heap.size w0 wc) := Lib.hid (HBW.out.trans (hbc.mono HBW.out.size))
  have HBL : Hid (∀ W, Below wc.heap.size wc W → Below w0.heap.size w0 W) := Lib.hid fun W hb => HBC.out.trans (hb.mono HBC.out.size)
  have HDY : Hid (∀ W, Below wc.heap.size wc W → DkAt dk0 W FY y L T q) := Lib.hid fun W hb => HDYB.out.below (hbc.trans (hb.mono hbc.size))
  have HB : Hid (∀ W, Below wc.heap.size wc W → W.cell? ⟨b, 3, none⟩ = some (.slice R rs.length c) ∧ W.cell? ⟨b, 4, none⟩ = some (.int .i64 (m : Int))) := Lib.hid fun W hb => by
    have hbk := HBK.out.below (HBL.out W hb) HBK.out.lt
    exact ⟨hbk.cell 3, hbk.cell 4⟩
  have HB2 : Hid (∀ W, Below wc.heap.size wc W → W.cell? ⟨b, 0, none⟩ = some (.slice AL n' cL) ∧ W.cell? ⟨b, 1, none⟩ = some (.slice AT m' cT)) := Lib.hid fun W hb => by
    have hbk := HBK.out.below (HBL.out W hb) HBK.out.lt
    exact ⟨hbk.cell 0, hbk.cell 1⟩
  have HRL : Hid (∀ W, Below wc.heap.size wc W → Row W W.heap.size AL (L.map byteV)) := Lib.hid fun W hb => (HRL0.out.below (HBL.out W hb)).more (HBL.out W hb).size
  have HRT : Hid (∀ W, Below wc.heap.size wc W → Row W W.heap.size AT (T.map byteV)) := Lib.hid fun W hb => (HRT0.out.below (HBL.out W hb)).more (HBL.out W hb).size
  have HRC : Hid (∀ W, Below wc.heap.size wc W → Calls Try.prog 24 #[.pointer (some ⟨g, 0, none⟩)] W fun e w' => ∃ (A : Option Addr) (c' : Nat), e = .returned (.slice A rs.length c') ∧ RsAt rs w' A ∧ Below W.heap.size W w') := Lib.hid fun W hb =>
    (records7_any F g m q rs W (HLG.out W (HBL.out W hb))).mono fun e w' ⟨us, A, c', hu, he, ho, hr, hb2⟩ => ⟨A, c', by rw [he, show us.length = rs.length by rw [← hu, List.length_map]], ⟨us, hu, inRs_of ho hr⟩, hb2⟩
  have HSR : Hid (∀ W, Below wc.heap.size wc W → ∀ (a : Option Addr) (c' : Nat), RsAt rs W a → Calls Try.prog 26 #[.slice a rs.length c', .slice R rs.length c] W (IsT true W)) := Lib.hid fun W hb a c' ⟨us, hu, hi⟩ =>
    same_rs hi (HIR.out W (HBL.out W hb)) rs.length rs.length c' c (by rw [← hu, List.length_map]) HVL.out.symm (hu.trans HVS.out.symm) (by omega)
  have HLA := Lib.hid fun (W : World) (hb : Below wc.heap.size wc W) => lasting7_any F g m q rs W (HLG.out W (HBL.out W hb))
  have HPE := Lib.hid fun (W : World) (hb : Below wc.heap.size wc W) => pending7_any F g m q rs W (HLG.out W (HBL.out W hb))
  obtain ⟨RT, hRT⟩ : ∃ RT : Option Addr, (if c = p' then R else R.map (·.add (p' * 2))) = RT := ⟨_, rfl⟩
  have hcut : ∀ W, (Instr.slice 30 (.slice R rs.length c) (some (.int .i64 (p' : Int))) none none).run Try.prog W = .ok (.slice RT (rs.length - p') (c - p')) W := fun W => by rw [← hRT]; exact cutR W R rs.length c p' (by omega)
  have HSL : Hid (∀ W, Below wc.heap.size wc W → Calls Try.prog 26 #[.slice A2 (rs.length - p') c2, .slice RT (rs.length - p') (c - p')] W (IsT true W)) := Lib.hid fun W hb => by
    rw [← hRT]
    exact same_rs (HIU.out.later (hbc.trans (hb.mono hbc.size))) ((HIR.out W (HBL.out W hb)).tail (by rw [HVL.out]; exact HKC.out) (by rw [HVL.out]; exact hpl)) (rs.length - p') (rs.length - p') c2 (c - p') HUL.out.symm (by rw [List.length_drop, HVL.out]) (by rw [HUS.out, List.map_drop, HVS.out]) (by omega)
  have HIC := Lib.hid (HIR.out wc HBC.out wc (Below.refl _ _))
  have b0 := (HB2.out wc (Below.refl _ _)).1
  have b1 := (HB2.out wc (Below.refl _ _)).2
  have b3 := (HB.out wc (Below.refl _ _)).1
  have b4 := (HB.out wc (Below.refl _ _)).2
  have HBO : Hid (∀ W, Below wc.heap.size wc W → Row W W.heap.size AB ((lastB rs p').map byteV)) := Lib.hid fun W hb => ((Row.of_own HOB.out).below (hbc.trans (hb.mono hbc.size))).more (hbc.trans (hb.mono hbc.size)).size
  clear hRT hp' hbc HRF HDYB HBW HRL0 HRT0 HIU HUS HOB HLG HBK HBA b2
  have HZP : Hid (z + 1 = (p' : Int)) := Lib.hid (by omega)
  by_cases hp0 : p' = 0
  · obtain rfl : z = -1 := by omega
    have HSB : Hid (∀ W, Below wc.heap.size wc W → Calls Try.prog 21 #[.slice AB (lastB rs p').length cB, .slice none 0 0] W fun e w' => e = .returned (.bool true) ∧ W = w') := Lib.hid fun W hb =>
      same6_true W.heap.size W.heap.size cB 0 (lastB rs p').length 0 AB none (lastB rs p') W (HBO.out W hb) (by rw [hp0]; exact Row.nil _ _ _) rfl (by rw [hp0]; rfl)
    clear HIC HBO hp0 hz
    go_wp2_with fail
    refine Rely.wp_region_by [[], [(0, 27)], [], [(2, 29)], [(1, 28), (3, 30)], [(4, 31)], [(5, 32)], [(6, 33)], [(6, 33), (7, 34)], [(6, 33)], [(6, 33), (9, 36)], [(6, 33), (8, 35), (10, 37)], [(6, 33), (11, 38)], [(12, 39)], [(13, 40)], [(13, 40), (14, 41)], [(13, 40)], [(13, 40), (16, 43)], [(13, 40), (17, 44)], [(13, 40)], [(13, 40), (19, 46)], [(13, 40), (18, 45), (20, 47)], [(13, 40), (15, 42), (21, 48)], [(13, 40), (22, 49)], [(23, 50)], [(24, 51)], [(24, 51)], [(24, 51), (25, 52), (26, 53)], [(24, 51), (27, 54)], [(24, 51), (28, 55)], [(29, 56)], [(30, 57)], [(30, 57)], [(30, 57), (32, 59)], [(30, 57)], [(30, 57), (34, 61)], [(30, 57), (33, 60), (35, 62)], [(30, 57), (31, 58), (36, 63)], [(30, 57), (37, 64)], [(30, 57), (38, 65)]] [(0, 27), (1, 28), (2, 29), (3, 30), (4, 31), (5, 32), (6, 33), (7, 34), (8, 35), (9, 36), (10, 37), (11, 38), (12, 39), (13, 40), (14, 41), (15, 42), (16, 43), (17, 44), (18, 45), (19, 46), (20, 47), (21, 48), (22, 49), (23, 50), (24, 51), (25, 52), (26, 53), (27, 54), (28, 55), (29, 56), (30, 57), (31, 58), (32, 59), (33, 60), (34, 61), (35, 62), (36, 63), (37, 64), (38, 65), (39, 66)] [] (s7T g b m p' rs (R) AB (none) A2 c cB (0) c2 (-1) (0) RT) (by kernel_rfl) (by kernel_rfl) (by kernel_rfl) (by kernel_rfl) (by kernel_rfl) (by kernel_rfl) (s7T_later g b m p' rs (R) AB (none) A2 c cB (0) c2 (-1) (0) RT) ?_ ?_
    · skip
      refine Rely.stepsZ_cons (by
        intro vs w' hb hp
        simp only [Rely.Pre, s7T] at hp
        unfold Rely.gives
        simp only [Rely.sel, List.foldl_cons, List.foldl_nil]
        go_simp
        exact ⟨Below.refl _ _, rfl⟩) ?_
      refine Rely.stepsZ_cons (by
        intro vs w' hb hp
        simp only [Rely.Pre, s7T] at hp
        obtain ⟨h27, _⟩ := hp
        unfold Rely.gives
        simp only [Rely.sel, List.foldl_cons, List.foldl_nil]
        go_simp
        simp only [Rely.GivesR]
        refine (HRC.out w' hb).mono ?_
        rintro e w3 ⟨A3, c3, rfl, ho3, hb3⟩
        exact ⟨_, rfl, hb3, A3, c3, rfl, ho3⟩) ?_
      refine Rely.stepsZ_cons (by
        intro vs w' hb hp
        simp only [Rely.Pre, s7T] at hp
        unfold Rely.gives
        simp only [Rely.sel, List.foldl_cons, List.foldl_nil]
        go_simp
        exact ⟨Below.refl _ _, rfl⟩) ?_
      refine Rely.stepsZ_cons (by
        intro vs w' hb hp
        simp only [Rely.Pre, s7T] at hp
        obtain ⟨h29, _⟩ := hp
        have hfact := (HB.out w' hb).1
        unfold Rely.gives
        simp only [Rely.sel, List.foldl_cons, List.foldl_nil]
        go_simp
        exact ⟨Below.refl _ _, rfl⟩) ?_
      refine Rely.stepsZ_cons (by
        intro vs w' hb hp
        simp only [Rely.Pre, s7T] at hp
        obtain ⟨⟨a28, c28, e28, ho28⟩, h30, _⟩ := hp
        unfold Rely.gives
        simp only [Rely.sel, List.foldl_cons, List.foldl_nil]
        go_simp
        simp only [Rely.GivesR]
        refine (HSR.out w' hb a28 c28 ho28).mono ?_
        rintro e w3 ⟨rfl, hb3⟩
        exact ⟨_, rfl, hb3, rfl⟩) ?_
      refine Rely.stepsZ_cons (by
        intro vs w' hb hp
        simp only [Rely.Pre, s7T] at hp
        obtain ⟨h31, _⟩ := hp
        unfold Rely.gives
        simp only [Rely.sel, List.foldl_cons, List.foldl_nil]
        go_simp
        exact ⟨Below.refl _ _, rfl⟩) ?_
      refine Rely.stepsZ_cons (by
        intro vs w' hb hp
        simp only [Rely.Pre, s7T] at hp
        obtain ⟨h32, _⟩ := hp
        unfold Rely.gives
        simp only [Rely.sel, List.foldl_cons, List.foldl_nil]
        go_simp
        exact ⟨Below.refl _ _, rfl⟩) ?_
      refine Rely.stepsZ_cons (by
        intro vs w' hb hp
        simp only [Rely.Pre, s7T] at hp
        obtain ⟨h33, _⟩ := hp
        unfold Rely.gives
        simp only [Rely.sel, List.foldl_cons, List.foldl_nil]
        go_simp
        exact ⟨Below.refl _ _, rfl⟩) ?_
      refine Rely.stepsZ_cons (by
        intro vs w' hb hp
        simp only [Rely.Pre, s7T] at hp
        obtain ⟨h33, h34, _⟩ := hp
        unfold Rely.gives
        simp only [Rely.sel, List.foldl_cons, List.foldl_nil]
        go_simp
        simp only [Rely.GivesR]
        refine (HLA.out w' hb).mono ?_
        rintro e w3 ⟨rfl, rfl⟩
        exact ⟨_, rfl, Below.refl _ _, rfl⟩) ?_
      refine Rely.stepsZ_cons (by
        intro vs w' hb hp
        simp only [Rely.Pre, s7T] at hp
        obtain ⟨h33, _⟩ := hp
        unfold Rely.gives
        simp only [Rely.sel, List.foldl_cons, List.foldl_nil]
        go_simp
        exact ⟨Below.refl _ _, rfl⟩) ?_
      refine Rely.stepsZ_cons (by
        intro vs w' hb hp
        simp only [Rely.Pre, s7T] at hp
        obtain ⟨h33, h36, _⟩ := hp
        have hfact := (HB.out w' hb).2
        unfold Rely.gives
        simp only [Rely.sel, List.foldl_cons, List.foldl_nil]
        go_simp
        exact ⟨Below.refl _ _, rfl⟩) ?_
      refine Rely.stepsZ_cons (by
        intro vs w' hb hp
        simp only [Rely.Pre, s7T] at hp
        obtain ⟨h33, h35, h37, _⟩ := hp
        unfold Rely.gives
        simp only [Rely.sel, List.foldl_cons, List.foldl_nil]
        go_simp
        exact ⟨Below.refl _ _, rfl⟩) ?_
      refine Rely.stepsZ_cons (by
        intro vs w' hb hp
        simp only [Rely.Pre, s7T] at hp
        obtain ⟨h33, h38, _⟩ := hp
        unfold Rely.gives
        simp only [Rely.sel, List.foldl_cons, List.foldl_nil]
        go_simp
        exact ⟨Below.refl _ _, rfl⟩) ?_
      refine Rely.stepsZ_cons (by
        intro vs w' hb hp
        simp only [Rely.Pre, s7T] at hp
        obtain ⟨h39, _⟩ := hp
        unfold Rely.gives
        simp only [Rely.sel, List.foldl_cons, List.foldl_nil]
        go_simp
        exact ⟨Below.refl _ _, rfl⟩) ?_
      refine Rely.stepsZ_cons (by
        intro vs w' hb hp
        simp only [Rely.Pre, s7T] at hp
        obtain ⟨h40, _⟩ := hp
        unfold Rely.gives
        simp only [Rely.sel, List.foldl_cons, List.foldl_nil]
        go_simp
        exact ⟨Below.refl _ _, rfl⟩) ?_
      refine Rely.stepsZ_cons (by
        intro vs w' hb hp
        simp only [Rely.Pre, s7T] at hp
        obtain ⟨h40, h41, _⟩ := hp
        unfold Rely.gives
        simp only [Rely.sel, List.foldl_cons, List.foldl_nil]
        go_simp
        simp only [Rely.GivesR]
        refine (HPE.out w' hb).mono ?_
        rintro e w3 ⟨rfl, hb3⟩
        exact ⟨_, rfl, hb3, rfl⟩) ?_
      refine Rely.stepsZ_cons (by
        intro vs w' hb hp
        simp only [Rely.Pre, s7T] at hp
        obtain ⟨h40, _⟩ := hp
        unfold Rely.gives
        simp only [Rely.sel, List.foldl_cons, List.foldl_nil]
        go_simp
        exact ⟨Below.refl _ _, rfl⟩) ?_
      refine Rely.stepsZ_cons (by
        intro vs w' hb hp
        simp only [Rely.Pre, s7T] at hp
        obtain ⟨h40, h43, _⟩ := hp
        have hfact := (HB.out w' hb).1
        unfold Rely.gives
        simp only [Rely.sel, List.foldl_cons, List.foldl_nil]
        go_simp
        exact ⟨Below.refl _ _, rfl⟩) ?_
      refine Rely.stepsZ_cons (by
        intro vs w' hb hp
        simp only [Rely.Pre, s7T] at hp
        obtain ⟨h40, h44, _⟩ := hp
        unfold Rely.gives
        simp only [Rely.sel, List.foldl_cons, List.foldl_nil]
        go_simp
        exact ⟨Below.refl _ _, rfl⟩) ?_
      refine Rely.stepsZ_cons (by
        intro vs w' hb hp
        simp only [Rely.Pre, s7T] at hp
        obtain ⟨h40, _⟩ := hp
        unfold Rely.gives
        simp only [Rely.sel, List.foldl_cons, List.foldl_nil]
        go_simp
        exact ⟨Below.refl _ _, rfl⟩) ?_
      refine Rely.stepsZ_cons (by
        intro vs w' hb hp
        simp only [Rely.Pre, s7T] at hp
        obtain ⟨h40, h46, _⟩ := hp
        have hfact := (HB.out w' hb).2
        unfold Rely.gives
        simp only [Rely.sel, List.foldl_cons, List.foldl_nil]
        go_simp
        exact ⟨Below.refl _ _, rfl⟩) ?_
      refine Rely.stepsZ_cons (by
        intro vs w' hb hp
        simp only [Rely.Pre, s7T] at hp
        obtain ⟨h40, h45, h47, _⟩ := hp
        unfold Rely.gives
        simp only [Rely.sel, List.foldl_cons, List.foldl_nil]
        go_simp
        refine ⟨Below.refl _ _, ?_⟩
        have hq := HZP.out
        first | rfl | (show (_ : Value) = _; congr 1 <;> first | omega | (rw [IntKind.wrap_i64]; omega))) ?_
      refine Rely.stepsZ_cons (by
        intro vs w' hb hp
        simp only [Rely.Pre, s7T] at hp
        obtain ⟨h40, h42, h48, _⟩ := hp
        unfold Rely.gives
        simp only [Rely.sel, List.foldl_cons, List.foldl_nil]
        go_simp
        exact ⟨Below.refl _ _, rfl⟩) ?_
      refine Rely.stepsZ_cons (by
        intro vs w' hb hp
        simp only [Rely.Pre, s7T] at hp
        obtain ⟨h40, h49, _⟩ := hp
        unfold Rely.gives
        simp only [Rely.sel, List.foldl_cons, List.foldl_nil]
        go_simp
        exact ⟨Below.refl _ _, rfl⟩) ?_
      refine Rely.stepsZ_cons (by
        intro vs w' hb hp
        simp only [Rely.Pre, s7T] at hp
        obtain ⟨h50, _⟩ := hp
        unfold Rely.gives
        simp only [Rely.sel, List.foldl_cons, List.foldl_nil]
        go_simp
        exact ⟨Below.refl _ _, rfl⟩) ?_
      refine Rely.stepsZ_cons (by
        intro vs w' hb hp
        simp only [Rely.Pre, s7T] at hp
        obtain ⟨h51, _⟩ := hp
        unfold Rely.gives
        simp only [Rely.sel, List.foldl_cons, List.foldl_nil]
        go_simp
        exact ⟨Below.refl _ _, rfl⟩) ?_
      refine Rely.stepsZ_cons (by
        intro vs w' hb hp
        simp only [Rely.Pre, s7T] at hp
        obtain ⟨h51, _⟩ := hp
        unfold Rely.gives
        simp only [Rely.sel, List.foldl_cons, List.foldl_nil]
        go_simp
        exact ⟨Below.refl _ _, rfl⟩) ?_
      refine Rely.stepsZ_cons (by
        intro vs w' hb hp
        simp only [Rely.Pre, s7T] at hp
        obtain ⟨h51, h52, h53, _⟩ := hp
        unfold Rely.gives
        simp only [Rely.sel, List.foldl_cons, List.foldl_nil]
        go_simp
        simp only [Rely.GivesR]
        refine (HSB.out w' hb).mono ?_
        rintro e w3 ⟨rfl, rfl⟩
        exact ⟨_, rfl, Below.refl _ _, rfl⟩) ?_
      refine Rely.stepsZ_cons (by
        intro vs w' hb hp
        simp only [Rely.Pre, s7T] at hp
        obtain ⟨h51, h54, _⟩ := hp
        unfold Rely.gives
        simp only [Rely.sel, List.foldl_cons, List.foldl_nil]
        go_simp
        exact ⟨Below.refl _ _, rfl⟩) ?_
      refine Rely.stepsZ_cons (by
        intro vs w' hb hp
        simp only [Rely.Pre, s7T] at hp
        obtain ⟨h51, h55, _⟩ := hp
        unfold Rely.gives
        simp only [Rely.sel, List.foldl_cons, List.foldl_nil]
        go_simp
        exact ⟨Below.refl _ _, rfl⟩) ?_
      refine Rely.stepsZ_cons (by
        intro vs w' hb hp
        simp only [Rely.Pre, s7T] at hp
        obtain ⟨h56, _⟩ := hp
        unfold Rely.gives
        simp only [Rely.sel, List.foldl_cons, List.foldl_nil]
        go_simp
        exact ⟨Below.refl _ _, rfl⟩) ?_
      refine Rely.stepsZ_cons (by
        intro vs w' hb hp
        simp only [Rely.Pre, s7T] at hp
        obtain ⟨h57, _⟩ := hp
        unfold Rely.gives
        simp only [Rely.sel, List.foldl_cons, List.foldl_nil]
        go_simp
        exact ⟨Below.refl _ _, rfl⟩) ?_
      refine Rely.stepsZ_cons (by
        intro vs w' hb hp
        simp only [Rely.Pre, s7T] at hp
        obtain ⟨h57, _⟩ := hp
        unfold Rely.gives
        simp only [Rely.sel, List.foldl_cons, List.foldl_nil]
        go_simp
        exact ⟨Below.refl _ _, rfl⟩) ?_
      refine Rely.stepsZ_cons (by
        intro vs w' hb hp
        simp only [Rely.Pre, s7T] at hp
        obtain ⟨h57, h59, _⟩ := hp
        have hfact := (HB.out w' hb).1
        unfold Rely.gives
        simp only [Rely.sel, List.foldl_cons, List.foldl_nil]
        go_simp
        exact ⟨Below.refl _ _, rfl⟩) ?_
      refine Rely.stepsZ_cons (by
        intro vs w' hb hp
        simp only [Rely.Pre, s7T] at hp
        obtain ⟨h57, _⟩ := hp
        unfold Rely.gives
        simp only [Rely.sel, List.foldl_cons, List.foldl_nil]
        go_simp
        exact ⟨Below.refl _ _, rfl⟩) ?_
      refine Rely.stepsZ_cons (by
        intro vs w' hb hp
        simp only [Rely.Pre, s7T] at hp
        obtain ⟨h57, h61, _⟩ := hp
        unfold Rely.gives
        simp only [Rely.sel, List.foldl_cons, List.foldl_nil]
        go_simp
        refine ⟨Below.refl _ _, ?_⟩
        have hq := HZP.out
        first | rfl | (show (_ : Value) = _; congr 1 <;> first | omega | (rw [IntKind.wrap_i64]; omega))) ?_
      refine Rely.stepsZ_cons (by
        intro vs w' hb hp
        simp only [Rely.Pre, s7T] at hp
        obtain ⟨h57, h60, h62, _⟩ := hp
        have hfact := hcut w'
        unfold Rely.gives
        simp only [Rely.sel, List.foldl_cons, List.foldl_nil]
        go_simp
        exact ⟨Below.refl _ _, rfl⟩) ?_
      refine Rely.stepsZ_cons (by
        intro vs w' hb hp
        simp only [Rely.Pre, s7T] at hp
        obtain ⟨h57, h58, h63, _⟩ := hp
        unfold Rely.gives
        simp only [Rely.sel, List.foldl_cons, List.foldl_nil]
        go_simp
        simp only [Rely.GivesR]
        refine (HSL.out w' hb).mono ?_
        rintro e w3 ⟨rfl, hb3⟩
        exact ⟨_, rfl, hb3, rfl⟩) ?_
      refine Rely.stepsZ_cons (by
        intro vs w' hb hp
        simp only [Rely.Pre, s7T] at hp
        obtain ⟨h57, h64, _⟩ := hp
        unfold Rely.gives
        simp only [Rely.sel, List.foldl_cons, List.foldl_nil]
        go_simp
        exact ⟨Below.refl _ _, rfl⟩) ?_
      refine Rely.stepsZ_cons (by
        intro vs w' hb hp
        simp only [Rely.Pre, s7T] at hp
        obtain ⟨h57, h65, _⟩ := hp
        unfold Rely.gives
        simp only [Rely.sel, List.foldl_cons, List.foldl_nil]
        go_simp
        exact ⟨Below.refl _ _, rfl⟩) ?_
      exact Rely.stepsZ_nil
    intro vs wd hbd hp _
    simp only [Rely.Pre, s7T] at hp
    obtain ⟨h0, ⟨a1, b1, h1, ho1⟩, h2, h3, h4, h5, h6, h7, h8, h9, h10, h11, h12, h13, h14, h15, h16, h17, h18, h19, h20, h21, h22, h23, h24, h25, h26, h27, h28, h29, h30, h31, h32, h33, h34, h35, h36, h37, h38, h39, _⟩ := hp
    simp only [Rely.sel, List.foldl_cons, List.foldl_nil, h0, h1, h2, h3, h4, h5, h6, h7, h8, h9, h10, h11, h12, h13, h14, h15, h16, h17, h18, h19, h20, h21, h22, h23, h24, h25, h26, h27, h28, h29, h30, h31, h32, h33, h34, h35, h36, h37, h38, h39]
    clear h0 h1 h2 h3 h4 h5 h6 h7 h8 h9 h10 h11 h12 h13 h14 h15 h16 h17 h18 h19 h20 h21 h22 h23 h24 h25 h26 h27 h28 h29 h30 h31 h32 h33 h34 h35 h36 h37 h38 h39
    simp only [Act.put, List.setIfInBounds_toArray, List.set_cons_succ, List.set_cons_zero]

    have HBD := Lib.hid hbd
    have HB9 : Hid (∀ W, Below wd.heap.size wd W → W.cell? ⟨b, 0, none⟩ = some (.slice AL n' cL) ∧ W.cell? ⟨b, 1, none⟩ = some (.slice AT m' cT)) := Lib.hid fun W hW => HB2.out W (hbd.trans (hW.mono hbd.size))
    have HDL := Lib.hid fun (W : World) (hW : Below wd.heap.size wd W) => lasting_any FY y q L T W (HDY.out W (hbd.trans (hW.mono hbd.size)))
    have HDT := Lib.hid fun (W : World) (hW : Below wd.heap.size wd W) => tail_any FY y q L T W (HDY.out W (hbd.trans (hW.mono hbd.size)))
    have HS1 : Hid (∀ W, Below wd.heap.size wd W → ∀ (a : Option Addr) (c' : Nat), W.ownsRow 0 5 1 (.slice a L.length c') L.length (L.map byteV) → Calls Try.prog 21 #[.slice a L.length c', .slice AL n' cL] W fun e w' => e = .returned (.bool true) ∧ W = w') := Lib.hid fun W hW a c' ho =>
      same6_true W.heap.size W.heap.size c' cL L.length n' a AL L W (Row.of_own ho) (HRL.out W (hbd.trans (hW.mono hbd.size))) rfl HNL.out
    have HS2 : Hid (∀ W, Below wd.heap.size wd W → ∀ (a : Option Addr) (c' : Nat), W.ownsRow 0 5 1 (.slice a T.length c') T.length (T.map byteV) → Calls Try.prog 21 #[.slice a T.length c', .slice AT m' cT] W fun e w' => e = .returned (.bool true) ∧ W = w') := Lib.hid fun W hW a c' ho =>
      same6_true W.heap.size W.heap.size c' cT T.length m' a AT T W (Row.of_own ho) (HRT.out W (hbd.trans (hW.mono hbd.size))) rfl HML.out
    clear hbd HRC HSR HLA HPE HSB HSL HB
    go_wp2_with fail
    refine Rely.wp_region_by [[], [(0, 67)], [], [(2, 69)], [(3, 70)], [(1, 68), (4, 71)], [(5, 72)], [(6, 73)], [(6, 73), (7, 74)], [(6, 73)], [(6, 73), (9, 76)], [(6, 73), (10, 77)], [(6, 73), (8, 75), (11, 78)], [(6, 73), (12, 79)], [(13, 80)]] [(0, 67), (1, 68), (2, 69), (3, 70), (4, 71), (5, 72), (6, 73), (7, 74), (8, 75), (9, 76), (10, 77), (11, 78), (12, 79), (13, 80), (14, 4)] [] (s9T y b n' m' cL cT L T AL AT) (by kernel_rfl) (by kernel_rfl) (by kernel_rfl) (by kernel_rfl) (by kernel_rfl) (by kernel_rfl) (s9T_later y b n' m' cL cT L T AL AT) ?_ ?_
    · skip
      refine Rely.stepsZ_cons (by
        intro vs w' hb hp
        simp only [Rely.Pre, s9T] at hp
        unfold Rely.gives
        simp only [Rely.sel, List.foldl_cons, List.foldl_nil]
        go_simp
        exact ⟨Below.refl _ _, rfl⟩) ?_
      refine Rely.stepsZ_cons (by
        intro vs w' hb hp
        simp only [Rely.Pre, s9T] at hp
        obtain ⟨h67, _⟩ := hp
        unfold Rely.gives
        simp only [Rely.sel, List.foldl_cons, List.foldl_nil]
        go_simp
        simp only [Rely.GivesR]
        refine (HDL.out w' hb).mono ?_
        rintro e w3 ⟨A3, c3, rfl, ho3, hb3⟩
        exact ⟨_, rfl, hb3, A3, c3, rfl, ownBase ho3 (Nat.zero_le _)⟩) ?_
      refine Rely.stepsZ_cons (by
        intro vs w' hb hp
        simp only [Rely.Pre, s9T] at hp
        unfold Rely.gives
        simp only [Rely.sel, List.foldl_cons, List.foldl_nil]
        go_simp
        exact ⟨Below.refl _ _, rfl⟩) ?_
      refine Rely.stepsZ_cons (by
        intro vs w' hb hp
        simp only [Rely.Pre, s9T] at hp
        obtain ⟨h69, _⟩ := hp
        unfold Rely.gives
        simp only [Rely.sel, List.foldl_cons, List.foldl_nil]
        go_simp
        exact ⟨Below.refl _ _, rfl⟩) ?_
      refine Rely.stepsZ_cons (by
        intro vs w' hb hp
        simp only [Rely.Pre, s9T] at hp
        obtain ⟨h70, _⟩ := hp
        have hfact := (HB9.out w' hb).1
        unfold Rely.gives
        simp only [Rely.sel, List.foldl_cons, List.foldl_nil]
        go_simp
        exact ⟨Below.refl _ _, rfl⟩) ?_
      refine Rely.stepsZ_cons (by
        intro vs w' hb hp
        simp only [Rely.Pre, s9T] at hp
        obtain ⟨⟨a68, c68, e68, ho68⟩, h71, _⟩ := hp
        unfold Rely.gives
        simp only [Rely.sel, List.foldl_cons, List.foldl_nil]
        go_simp
        simp only [Rely.GivesR]
        refine (HS1.out w' hb a68 c68 ho68).mono ?_
        rintro e w3 ⟨rfl, rfl⟩
        exact ⟨_, rfl, Below.refl _ _, rfl⟩) ?_
      refine Rely.stepsZ_cons (by
        intro vs w' hb hp
        simp only [Rely.Pre, s9T] at hp
        obtain ⟨h72, _⟩ := hp
        unfold Rely.gives
        simp only [Rely.sel, List.foldl_cons, List.foldl_nil]
        go_simp
        exact ⟨Below.refl _ _, rfl⟩) ?_
      refine Rely.stepsZ_cons (by
        intro vs w' hb hp
        simp only [Rely.Pre, s9T] at hp
        obtain ⟨h73, _⟩ := hp
        unfold Rely.gives
        simp only [Rely.sel, List.foldl_cons, List.foldl_nil]
        go_simp
        exact ⟨Below.refl _ _, rfl⟩) ?_
      refine Rely.stepsZ_cons (by
        intro vs w' hb hp
        simp only [Rely.Pre, s9T] at hp
        obtain ⟨h73, h74, _⟩ := hp
        unfold Rely.gives
        simp only [Rely.sel, List.foldl_cons, List.foldl_nil]
        go_simp
        simp only [Rely.GivesR]
        refine (HDT.out w' hb).mono ?_
        rintro e w3 ⟨A3, c3, rfl, ho3, hb3⟩
        exact ⟨_, rfl, hb3, A3, c3, rfl, ownBase ho3 (Nat.zero_le _)⟩) ?_
      refine Rely.stepsZ_cons (by
        intro vs w' hb hp
        simp only [Rely.Pre, s9T] at hp
        obtain ⟨h73, _⟩ := hp
        unfold Rely.gives
        simp only [Rely.sel, List.foldl_cons, List.foldl_nil]
        go_simp
        exact ⟨Below.refl _ _, rfl⟩) ?_
      refine Rely.stepsZ_cons (by
        intro vs w' hb hp
        simp only [Rely.Pre, s9T] at hp
        obtain ⟨h73, h76, _⟩ := hp
        unfold Rely.gives
        simp only [Rely.sel, List.foldl_cons, List.foldl_nil]
        go_simp
        exact ⟨Below.refl _ _, rfl⟩) ?_
      refine Rely.stepsZ_cons (by
        intro vs w' hb hp
        simp only [Rely.Pre, s9T] at hp
        obtain ⟨h73, h77, _⟩ := hp
        have hfact := (HB9.out w' hb).2
        unfold Rely.gives
        simp only [Rely.sel, List.foldl_cons, List.foldl_nil]
        go_simp
        exact ⟨Below.refl _ _, rfl⟩) ?_
      refine Rely.stepsZ_cons (by
        intro vs w' hb hp
        simp only [Rely.Pre, s9T] at hp
        obtain ⟨h73, ⟨a75, c75, e75, ho75⟩, h78, _⟩ := hp
        unfold Rely.gives
        simp only [Rely.sel, List.foldl_cons, List.foldl_nil]
        go_simp
        simp only [Rely.GivesR]
        refine (HS2.out w' hb a75 c75 ho75).mono ?_
        rintro e w3 ⟨rfl, rfl⟩
        exact ⟨_, rfl, Below.refl _ _, rfl⟩) ?_
      refine Rely.stepsZ_cons (by
        intro vs w' hb hp
        simp only [Rely.Pre, s9T] at hp
        obtain ⟨h73, h79, _⟩ := hp
        unfold Rely.gives
        simp only [Rely.sel, List.foldl_cons, List.foldl_nil]
        go_simp
        exact ⟨Below.refl _ _, rfl⟩) ?_
      refine Rely.stepsZ_cons (by
        intro vs w' hb hp
        simp only [Rely.Pre, s9T] at hp
        obtain ⟨h80, _⟩ := hp
        unfold Rely.gives
        simp only [Rely.sel, List.foldl_cons, List.foldl_nil]
        go_simp
        exact ⟨Below.refl _ _, rfl⟩) ?_
      exact Rely.stepsZ_nil
    intro vs we hbe hp _
    simp only [Rely.Pre, s9T] at hp
    obtain ⟨h0, ⟨a1, b1, h1, ho1⟩, h2, h3, h4, h5, h6, h7, ⟨a8, b8, h8, ho8⟩, h9, h10, h11, h12, h13, h14, _⟩ := hp
    simp only [Rely.sel, List.foldl_cons, List.foldl_nil, h0, h1, h2, h3, h4, h5, h6, h7, h8, h9, h10, h11, h12, h13, h14]
    clear h0 h1 h2 h3 h4 h5 h6 h7 h8 h9 h10 h11 h12 h13 h14
    simp only [Act.put, List.setIfInBounds_toArray, List.set_cons_succ, List.set_cons_zero]

    have HBE := Lib.hid (HB0.out.trans ((HBC.out.trans ((HBD.out.trans (hbe.mono HBD.out.size)).mono HBC.out.size)).mono HB0.out.size))
    clear hbe
    go_wp2
    go_ret
    exact ⟨rfl, HBE.out⟩
  · obtain ⟨k0, rfl⟩ : ∃ k0 : Nat, z = (k0 : Int) := ⟨p' - 1, by omega⟩
    have hk0 : k0 < vs.length := by rw [HVL.out]; omega
    obtain ⟨b9, o, rfl, _, hcc⟩ := recs_open HIC.out.1 (by omega)
    have hcell := (hcc k0 hk0).2
    have hlb : lastB rs p' = vs[k0].2.2.1 := by
      rw [show p' = k0 + 1 by omega, ← HVS.out]
      simp [lastB, rcOf, hk0]
    have HRW : Hid (∀ W, Below wc.heap.size wc W → Row W W.heap.size vs[k0].2.1 (vs[k0].2.2.1.map byteV)) := Lib.hid fun W hb => (HIR.out W (HBL.out W hb) W (Below.refl _ _)).2 vs[k0] (List.getElem_mem hk0)
    obtain ⟨⟨kd, AW, yW, cW⟩, hy⟩ : ∃ r, vs[k0] = r := ⟨_, rfl⟩
    rw [hy] at hcell hlb HRW
    simp only at hcell hlb HRW
    have HSB : Hid (∀ W, Below wc.heap.size wc W → Calls Try.prog 21 #[.slice AB (lastB rs p').length cB, .slice AW yW.length cW] W fun e w' => e = .returned (.bool true) ∧ W = w') := Lib.hid fun W hb =>
      same6_true W.heap.size W.heap.size cB cW (lastB rs p').length yW.length AB AW (lastB rs p') W (HBO.out W hb) (by rw [hlb]; exact HRW.out W hb) rfl (by rw [hlb])
    have hk0i : (0 : Int) ≤ (k0 : Int) := by omega
    have hk1i : (k0 : Int) < (rs.length : Int) := by omega
    clear HIC HBO hcc hlb HRW hy hp0 hz
    go_wp2_with fail
    refine Rely.wp_region_by [[], [(0, 27)], [], [(2, 29)], [(1, 28), (3, 30)], [(4, 31)], [(5, 32)], [(6, 33)], [(6, 33), (7, 34)], [(6, 33)], [(6, 33), (9, 36)], [(6, 33), (8, 35), (10, 37)], [(6, 33), (11, 38)], [(12, 39)], [(13, 40)], [(13, 40), (14, 41)], [(13, 40)], [(13, 40), (16, 43)], [(13, 40), (17, 44)], [(13, 40)], [(13, 40), (19, 46)], [(13, 40), (18, 45), (20, 47)], [(13, 40), (15, 42), (21, 48)], [(13, 40), (22, 49)], [(23, 50)], [(24, 51)], [(24, 51)], [(24, 51), (25, 52), (26, 53)], [(24, 51), (27, 54)], [(24, 51), (28, 55)], [(29, 56)], [(30, 57)], [(30, 57)], [(30, 57), (32, 59)], [(30, 57)], [(30, 57), (34, 61)], [(30, 57), (33, 60), (35, 62)], [(30, 57), (31, 58), (36, 63)], [(30, 57), (37, 64)], [(30, 57), (38, 65)]] [(0, 27), (1, 28), (2, 29), (3, 30), (4, 31), (5, 32), (6, 33), (7, 34), (8, 35), (9, 36), (10, 37), (11, 38), (12, 39), (13, 40), (14, 41), (15, 42), (16, 43), (17, 44), (18, 45), (19, 46), (20, 47), (21, 48), (22, 49), (23, 50), (24, 51), (25, 52), (26, 53), (27, 54), (28, 55), (29, 56), (30, 57), (31, 58), (32, 59), (33, 60), (34, 61), (35, 62), (36, 63), (37, 64), (38, 65), (39, 66)] [] (s7T g b m p' rs (some ⟨b9, o, none⟩) AB (AW) A2 c cB (cW) c2 ((k0 : Int)) (yW.length) RT) (by kernel_rfl) (by kernel_rfl) (by kernel_rfl) (by kernel_rfl) (by kernel_rfl) (by kernel_rfl) (s7T_later g b m p' rs (some ⟨b9, o, none⟩) AB (AW) A2 c cB (cW) c2 ((k0 : Int)) (yW.length) RT) ?_ ?_
    · skip
      refine Rely.stepsZ_cons (by
        intro vs w' hb hp
        simp only [Rely.Pre, s7T] at hp
        unfold Rely.gives
        simp only [Rely.sel, List.foldl_cons, List.foldl_nil]
        go_simp
        exact ⟨Below.refl _ _, rfl⟩) ?_
      refine Rely.stepsZ_cons (by
        intro vs w' hb hp
        simp only [Rely.Pre, s7T] at hp
        obtain ⟨h27, _⟩ := hp
        unfold Rely.gives
        simp only [Rely.sel, List.foldl_cons, List.foldl_nil]
        go_simp
        simp only [Rely.GivesR]
        refine (HRC.out w' hb).mono ?_
        rintro e w3 ⟨A3, c3, rfl, ho3, hb3⟩
        exact ⟨_, rfl, hb3, A3, c3, rfl, ho3⟩) ?_
      refine Rely.stepsZ_cons (by
        intro vs w' hb hp
        simp only [Rely.Pre, s7T] at hp
        unfold Rely.gives
        simp only [Rely.sel, List.foldl_cons, List.foldl_nil]
        go_simp
        exact ⟨Below.refl _ _, rfl⟩) ?_
      refine Rely.stepsZ_cons (by
        intro vs w' hb hp
        simp only [Rely.Pre, s7T] at hp
        obtain ⟨h29, _⟩ := hp
        have hfact := (HB.out w' hb).1
        unfold Rely.gives
        simp only [Rely.sel, List.foldl_cons, List.foldl_nil]
        go_simp
        exact ⟨Below.refl _ _, rfl⟩) ?_
      refine Rely.stepsZ_cons (by
        intro vs w' hb hp
        simp only [Rely.Pre, s7T] at hp
        obtain ⟨⟨a28, c28, e28, ho28⟩, h30, _⟩ := hp
        unfold Rely.gives
        simp only [Rely.sel, List.foldl_cons, List.foldl_nil]
        go_simp
        simp only [Rely.GivesR]
        refine (HSR.out w' hb a28 c28 ho28).mono ?_
        rintro e w3 ⟨rfl, hb3⟩
        exact ⟨_, rfl, hb3, rfl⟩) ?_
      refine Rely.stepsZ_cons (by
        intro vs w' hb hp
        simp only [Rely.Pre, s7T] at hp
        obtain ⟨h31, _⟩ := hp
        unfold Rely.gives
        simp only [Rely.sel, List.foldl_cons, List.foldl_nil]
        go_simp
        exact ⟨Below.refl _ _, rfl⟩) ?_
      refine Rely.stepsZ_cons (by
        intro vs w' hb hp
        simp only [Rely.Pre, s7T] at hp
        obtain ⟨h32, _⟩ := hp
        unfold Rely.gives
        simp only [Rely.sel, List.foldl_cons, List.foldl_nil]
        go_simp
        exact ⟨Below.refl _ _, rfl⟩) ?_
      refine Rely.stepsZ_cons (by
        intro vs w' hb hp
        simp only [Rely.Pre, s7T] at hp
        obtain ⟨h33, _⟩ := hp
        unfold Rely.gives
        simp only [Rely.sel, List.foldl_cons, List.foldl_nil]
        go_simp
        exact ⟨Below.refl _ _, rfl⟩) ?_
      refine Rely.stepsZ_cons (by
        intro vs w' hb hp
        simp only [Rely.Pre, s7T] at hp
        obtain ⟨h33, h34, _⟩ := hp
        unfold Rely.gives
        simp only [Rely.sel, List.foldl_cons, List.foldl_nil]
        go_simp
        simp only [Rely.GivesR]
        refine (HLA.out w' hb).mono ?_
        rintro e w3 ⟨rfl, rfl⟩
        exact ⟨_, rfl, Below.refl _ _, rfl⟩) ?_
      refine Rely.stepsZ_cons (by
        intro vs w' hb hp
        simp only [Rely.Pre, s7T] at hp
        obtain ⟨h33, _⟩ := hp
        unfold Rely.gives
        simp only [Rely.sel, List.foldl_cons, List.foldl_nil]
        go_simp
        exact ⟨Below.refl _ _, rfl⟩) ?_
      refine Rely.stepsZ_cons (by
        intro vs w' hb hp
        simp only [Rely.Pre, s7T] at hp
        obtain ⟨h33, h36, _⟩ := hp
        have hfact := (HB.out w' hb).2
        unfold Rely.gives
        simp only [Rely.sel, List.foldl_cons, List.foldl_nil]
        go_simp
        exact ⟨Below.refl _ _, rfl⟩) ?_
      refine Rely.stepsZ_cons (by
        intro vs w' hb hp
        simp only [Rely.Pre, s7T] at hp
        obtain ⟨h33, h35, h37, _⟩ := hp
        unfold Rely.gives
        simp only [Rely.sel, List.foldl_cons, List.foldl_nil]
        go_simp
        exact ⟨Below.refl _ _, rfl⟩) ?_
      refine Rely.stepsZ_cons (by
        intro vs w' hb hp
        simp only [Rely.Pre, s7T] at hp
        obtain ⟨h33, h38, _⟩ := hp
        unfold Rely.gives
        simp only [Rely.sel, List.foldl_cons, List.foldl_nil]
        go_simp
        exact ⟨Below.refl _ _, rfl⟩) ?_
      refine Rely.stepsZ_cons (by
        intro vs w' hb hp
        simp only [Rely.Pre, s7T] at hp
        obtain ⟨h39, _⟩ := hp
        unfold Rely.gives
        simp only [Rely.sel, List.foldl_cons, List.foldl_nil]
        go_simp
        exact ⟨Below.refl _ _, rfl⟩) ?_
      refine Rely.stepsZ_cons (by
        intro vs w' hb hp
        simp only [Rely.Pre, s7T] at hp
        obtain ⟨h40, _⟩ := hp
        unfold Rely.gives
        simp only [Rely.sel, List.foldl_cons, List.foldl_nil]
        go_simp
        exact ⟨Below.refl _ _, rfl⟩) ?_
      refine Rely.stepsZ_cons (by
        intro vs w' hb hp
        simp only [Rely.Pre, s7T] at hp
        obtain ⟨h40, h41, _⟩ := hp
        unfold Rely.gives
        simp only [Rely.sel, List.foldl_cons, List.foldl_nil]
        go_simp
        simp only [Rely.GivesR]
        refine (HPE.out w' hb).mono ?_
        rintro e w3 ⟨rfl, hb3⟩
        exact ⟨_, rfl, hb3, rfl⟩) ?_
      refine Rely.stepsZ_cons (by
        intro vs w' hb hp
        simp only [Rely.Pre, s7T] at hp
        obtain ⟨h40, _⟩ := hp
        unfold Rely.gives
        simp only [Rely.sel, List.foldl_cons, List.foldl_nil]
        go_simp
        exact ⟨Below.refl _ _, rfl⟩) ?_
      refine Rely.stepsZ_cons (by
        intro vs w' hb hp
        simp only [Rely.Pre, s7T] at hp
        obtain ⟨h40, h43, _⟩ := hp
        have hfact := (HB.out w' hb).1
        unfold Rely.gives
        simp only [Rely.sel, List.foldl_cons, List.foldl_nil]
        go_simp
        exact ⟨Below.refl _ _, rfl⟩) ?_
      refine Rely.stepsZ_cons (by
        intro vs w' hb hp
        simp only [Rely.Pre, s7T] at hp
        obtain ⟨h40, h44, _⟩ := hp
        unfold Rely.gives
        simp only [Rely.sel, List.foldl_cons, List.foldl_nil]
        go_simp
        exact ⟨Below.refl _ _, rfl⟩) ?_
      refine Rely.stepsZ_cons (by
        intro vs w' hb hp
        simp only [Rely.Pre, s7T] at hp
        obtain ⟨h40, _⟩ := hp
        unfold Rely.gives
        simp only [Rely.sel, List.foldl_cons, List.foldl_nil]
        go_simp
        exact ⟨Below.refl _ _, rfl⟩) ?_
      refine Rely.stepsZ_cons (by
        intro vs w' hb hp
        simp only [Rely.Pre, s7T] at hp
        obtain ⟨h40, h46, _⟩ := hp
        have hfact := (HB.out w' hb).2
        unfold Rely.gives
        simp only [Rely.sel, List.foldl_cons, List.foldl_nil]
        go_simp
        exact ⟨Below.refl _ _, rfl⟩) ?_
      refine Rely.stepsZ_cons (by
        intro vs w' hb hp
        simp only [Rely.Pre, s7T] at hp
        obtain ⟨h40, h45, h47, _⟩ := hp
        unfold Rely.gives
        simp only [Rely.sel, List.foldl_cons, List.foldl_nil]
        go_simp
        refine ⟨Below.refl _ _, ?_⟩
        have hq := HZP.out
        first | rfl | (show (_ : Value) = _; congr 1 <;> first | omega | (rw [IntKind.wrap_i64]; omega))) ?_
      refine Rely.stepsZ_cons (by
        intro vs w' hb hp
        simp only [Rely.Pre, s7T] at hp
        obtain ⟨h40, h42, h48, _⟩ := hp
        unfold Rely.gives
        simp only [Rely.sel, List.foldl_cons, List.foldl_nil]
        go_simp
        exact ⟨Below.refl _ _, rfl⟩) ?_
      refine Rely.stepsZ_cons (by
        intro vs w' hb hp
        simp only [Rely.Pre, s7T] at hp
        obtain ⟨h40, h49, _⟩ := hp
        unfold Rely.gives
        simp only [Rely.sel, List.foldl_cons, List.foldl_nil]
        go_simp
        exact ⟨Below.refl _ _, rfl⟩) ?_
      refine Rely.stepsZ_cons (by
        intro vs w' hb hp
        simp only [Rely.Pre, s7T] at hp
        obtain ⟨h50, _⟩ := hp
        unfold Rely.gives
        simp only [Rely.sel, List.foldl_cons, List.foldl_nil]
        go_simp
        exact ⟨Below.refl _ _, rfl⟩) ?_
      refine Rely.stepsZ_cons (by
        intro vs w' hb hp
        simp only [Rely.Pre, s7T] at hp
        obtain ⟨h51, _⟩ := hp
        unfold Rely.gives
        simp only [Rely.sel, List.foldl_cons, List.foldl_nil]
        go_simp
        exact ⟨Below.refl _ _, rfl⟩) ?_
      refine Rely.stepsZ_cons (by
        intro vs w' hb hp
        simp only [Rely.Pre, s7T] at hp
        obtain ⟨h51, _⟩ := hp
        unfold Rely.gives
        simp only [Rely.sel, List.foldl_cons, List.foldl_nil]
        go_simp
        exact ⟨Below.refl _ _, rfl⟩) ?_
      refine Rely.stepsZ_cons (by
        intro vs w' hb hp
        simp only [Rely.Pre, s7T] at hp
        obtain ⟨h51, h52, h53, _⟩ := hp
        unfold Rely.gives
        simp only [Rely.sel, List.foldl_cons, List.foldl_nil]
        go_simp
        simp only [Rely.GivesR]
        refine (HSB.out w' hb).mono ?_
        rintro e w3 ⟨rfl, rfl⟩
        exact ⟨_, rfl, Below.refl _ _, rfl⟩) ?_
      refine Rely.stepsZ_cons (by
        intro vs w' hb hp
        simp only [Rely.Pre, s7T] at hp
        obtain ⟨h51, h54, _⟩ := hp
        unfold Rely.gives
        simp only [Rely.sel, List.foldl_cons, List.foldl_nil]
        go_simp
        exact ⟨Below.refl _ _, rfl⟩) ?_
      refine Rely.stepsZ_cons (by
        intro vs w' hb hp
        simp only [Rely.Pre, s7T] at hp
        obtain ⟨h51, h55, _⟩ := hp
        unfold Rely.gives
        simp only [Rely.sel, List.foldl_cons, List.foldl_nil]
        go_simp
        exact ⟨Below.refl _ _, rfl⟩) ?_
      refine Rely.stepsZ_cons (by
        intro vs w' hb hp
        simp only [Rely.Pre, s7T] at hp
        obtain ⟨h56, _⟩ := hp
        unfold Rely.gives
        simp only [Rely.sel, List.foldl_cons, List.foldl_nil]
        go_simp
        exact ⟨Below.refl _ _, rfl⟩) ?_
      refine Rely.stepsZ_cons (by
        intro vs w' hb hp
        simp only [Rely.Pre, s7T] at hp
        obtain ⟨h57, _⟩ := hp
        unfold Rely.gives
        simp only [Rely.sel, List.foldl_cons, List.foldl_nil]
        go_simp
        exact ⟨Below.refl _ _, rfl⟩) ?_
      refine Rely.stepsZ_cons (by
        intro vs w' hb hp
        simp only [Rely.Pre, s7T] at hp
        obtain ⟨h57, _⟩ := hp
        unfold Rely.gives
        simp only [Rely.sel, List.foldl_cons, List.foldl_nil]
        go_simp
        exact ⟨Below.refl _ _, rfl⟩) ?_
      refine Rely.stepsZ_cons (by
        intro vs w' hb hp
        simp only [Rely.Pre, s7T] at hp
        obtain ⟨h57, h59, _⟩ := hp
        have hfact := (HB.out w' hb).1
        unfold Rely.gives
        simp only [Rely.sel, List.foldl_cons, List.foldl_nil]
        go_simp
        exact ⟨Below.refl _ _, rfl⟩) ?_
      refine Rely.stepsZ_cons (by
        intro vs w' hb hp
        simp only [Rely.Pre, s7T] at hp
        obtain ⟨h57, _⟩ := hp
        unfold Rely.gives
        simp only [Rely.sel, List.foldl_cons, List.foldl_nil]
        go_simp
        exact ⟨Below.refl _ _, rfl⟩) ?_
      refine Rely.stepsZ_cons (by
        intro vs w' hb hp
        simp only [Rely.Pre, s7T] at hp
        obtain ⟨h57, h61, _⟩ := hp
        unfold Rely.gives
        simp only [Rely.sel, List.foldl_cons, List.foldl_nil]
        go_simp
        refine ⟨Below.refl _ _, ?_⟩
        have hq := HZP.out
        first | rfl | (show (_ : Value) = _; congr 1 <;> first | omega | (rw [IntKind.wrap_i64]; omega))) ?_
      refine Rely.stepsZ_cons (by
        intro vs w' hb hp
        simp only [Rely.Pre, s7T] at hp
        obtain ⟨h57, h60, h62, _⟩ := hp
        have hfact := hcut w'
        unfold Rely.gives
        simp only [Rely.sel, List.foldl_cons, List.foldl_nil]
        go_simp
        exact ⟨Below.refl _ _, rfl⟩) ?_
      refine Rely.stepsZ_cons (by
        intro vs w' hb hp
        simp only [Rely.Pre, s7T] at hp
        obtain ⟨h57, h58, h63, _⟩ := hp
        unfold Rely.gives
        simp only [Rely.sel, List.foldl_cons, List.foldl_nil]
        go_simp
        simp only [Rely.GivesR]
        refine (HSL.out w' hb).mono ?_
        rintro e w3 ⟨rfl, hb3⟩
        exact ⟨_, rfl, hb3, rfl⟩) ?_
      refine Rely.stepsZ_cons (by
        intro vs w' hb hp
        simp only [Rely.Pre, s7T] at hp
        obtain ⟨h57, h64, _⟩ := hp
        unfold Rely.gives
        simp only [Rely.sel, List.foldl_cons, List.foldl_nil]
        go_simp
        exact ⟨Below.refl _ _, rfl⟩) ?_
      refine Rely.stepsZ_cons (by
        intro vs w' hb hp
        simp only [Rely.Pre, s7T] at hp
        obtain ⟨h57, h65, _⟩ := hp
        unfold Rely.gives
        simp only [Rely.sel, List.foldl_cons, List.foldl_nil]
        go_simp
        exact ⟨Below.refl _ _, rfl⟩) ?_
      exact Rely.stepsZ_nil
    intro vs wd hbd hp _
    simp only [Rely.Pre, s7T] at hp
    obtain ⟨h0, ⟨a1, b1, h1, ho1⟩, h2, h3, h4, h5, h6, h7, h8, h9, h10, h11, h12, h13, h14, h15, h16, h17, h18, h19, h20, h21, h22, h23, h24, h25, h26, h27, h28, h29, h30, h31, h32, h33, h34, h35, h36, h37, h38, h39, _⟩ := hp
    simp only [Rely.sel, List.foldl_cons, List.foldl_nil, h0, h1, h2, h3, h4, h5, h6, h7, h8, h9, h10, h11, h12, h13, h14, h15, h16, h17, h18, h19, h20, h21, h22, h23, h24, h25, h26, h27, h28, h29, h30, h31, h32, h33, h34, h35, h36, h37, h38, h39]
    clear h0 h1 h2 h3 h4 h5 h6 h7 h8 h9 h10 h11 h12 h13 h14 h15 h16 h17 h18 h19 h20 h21 h22 h23 h24 h25 h26 h27 h28 h29 h30 h31 h32 h33 h34 h35 h36 h37 h38 h39
    simp only [Act.put, List.setIfInBounds_toArray, List.set_cons_succ, List.set_cons_zero]

    have HBD := Lib.hid hbd
    have HB9 : Hid (∀ W, Below wd.heap.size wd W → W.cell? ⟨b, 0, none⟩ = some (.slice AL n' cL) ∧ W.cell? ⟨b, 1, none⟩ = some (.slice AT m' cT)) := Lib.hid fun W hW => HB2.out W (hbd.trans (hW.mono hbd.size))
    have HDL := Lib.hid fun (W : World) (hW : Below wd.heap.size wd W) => lasting_any FY y q L T W (HDY.out W (hbd.trans (hW.mono hbd.size)))
    have HDT := Lib.hid fun (W : World) (hW : Below wd.heap.size wd W) => tail_any FY y q L T W (HDY.out W (hbd.trans (hW.mono hbd.size)))
    have HS1 : Hid (∀ W, Below wd.heap.size wd W → ∀ (a : Option Addr) (c' : Nat), W.ownsRow 0 5 1 (.slice a L.length c') L.length (L.map byteV) → Calls Try.prog 21 #[.slice a L.length c', .slice AL n' cL] W fun e w' => e = .returned (.bool true) ∧ W = w') := Lib.hid fun W hW a c' ho =>
      same6_true W.heap.size W.heap.size c' cL L.length n' a AL L W (Row.of_own ho) (HRL.out W (hbd.trans (hW.mono hbd.size))) rfl HNL.out
    have HS2 : Hid (∀ W, Below wd.heap.size wd W → ∀ (a : Option Addr) (c' : Nat), W.ownsRow 0 5 1 (.slice a T.length c') T.length (T.map byteV) → Calls Try.prog 21 #[.slice a T.length c', .slice AT m' cT] W fun e w' => e = .returned (.bool true) ∧ W = w') := Lib.hid fun W hW a c' ho =>
      same6_true W.heap.size W.heap.size c' cT T.length m' a AT T W (Row.of_own ho) (HRT.out W (hbd.trans (hW.mono hbd.size))) rfl HML.out
    clear hbd HRC HSR HLA HPE HSB HSL HB
    go_wp2_with fail
    refine Rely.wp_region_by [[], [(0, 67)], [], [(2, 69)], [(3, 70)], [(1, 68), (4, 71)], [(5, 72)], [(6, 73)], [(6, 73), (7, 74)], [(6, 73)], [(6, 73), (9, 76)], [(6, 73), (10, 77)], [(6, 73), (8, 75), (11, 78)], [(6, 73), (12, 79)], [(13, 80)]] [(0, 67), (1, 68), (2, 69), (3, 70), (4, 71), (5, 72), (6, 73), (7, 74), (8, 75), (9, 76), (10, 77), (11, 78), (12, 79), (13, 80), (14, 4)] [] (s9T y b n' m' cL cT L T AL AT) (by kernel_rfl) (by kernel_rfl) (by kernel_rfl) (by kernel_rfl) (by kernel_rfl) (by kernel_rfl) (s9T_later y b n' m' cL cT L T AL AT) ?_ ?_
    · skip
      refine Rely.stepsZ_cons (by
        intro vs w' hb hp
        simp only [Rely.Pre, s9T] at hp
        unfold Rely.gives
        simp only [Rely.sel, List.foldl_cons, List.foldl_nil]
        go_simp
        exact ⟨Below.refl _ _, rfl⟩) ?_
      refine Rely.stepsZ_cons (by
        intro vs w' hb hp
        simp only [Rely.Pre, s9T] at hp
        obtain ⟨h67, _⟩ := hp
        unfold Rely.gives
        simp only [Rely.sel, List.foldl_cons, List.foldl_nil]
        go_simp
        simp only [Rely.GivesR]
        refine (HDL.out w' hb).mono ?_
        rintro e w3 ⟨A3, c3, rfl, ho3, hb3⟩
        exact ⟨_, rfl, hb3, A3, c3, rfl, ownBase ho3 (Nat.zero_le _)⟩) ?_
      refine Rely.stepsZ_cons (by
        intro vs w' hb hp
        simp only [Rely.Pre, s9T] at hp
        unfold Rely.gives
        simp only [Rely.sel, List.foldl_cons, List.foldl_nil]
        go_simp
        exact ⟨Below.refl _ _, rfl⟩) ?_
      refine Rely.stepsZ_cons (by
        intro vs w' hb hp
        simp only [Rely.Pre, s9T] at hp
        obtain ⟨h69, _⟩ := hp
        unfold Rely.gives
        simp only [Rely.sel, List.foldl_cons, List.foldl_nil]
        go_simp
        exact ⟨Below.refl _ _, rfl⟩) ?_
      refine Rely.stepsZ_cons (by
        intro vs w' hb hp
        simp only [Rely.Pre, s9T] at hp
        obtain ⟨h70, _⟩ := hp
        have hfact := (HB9.out w' hb).1
        unfold Rely.gives
        simp only [Rely.sel, List.foldl_cons, List.foldl_nil]
        go_simp
        exact ⟨Below.refl _ _, rfl⟩) ?_
      refine Rely.stepsZ_cons (by
        intro vs w' hb hp
        simp only [Rely.Pre, s9T] at hp
        obtain ⟨⟨a68, c68, e68, ho68⟩, h71, _⟩ := hp
        unfold Rely.gives
        simp only [Rely.sel, List.foldl_cons, List.foldl_nil]
        go_simp
        simp only [Rely.GivesR]
        refine (HS1.out w' hb a68 c68 ho68).mono ?_
        rintro e w3 ⟨rfl, rfl⟩
        exact ⟨_, rfl, Below.refl _ _, rfl⟩) ?_
      refine Rely.stepsZ_cons (by
        intro vs w' hb hp
        simp only [Rely.Pre, s9T] at hp
        obtain ⟨h72, _⟩ := hp
        unfold Rely.gives
        simp only [Rely.sel, List.foldl_cons, List.foldl_nil]
        go_simp
        exact ⟨Below.refl _ _, rfl⟩) ?_
      refine Rely.stepsZ_cons (by
        intro vs w' hb hp
        simp only [Rely.Pre, s9T] at hp
        obtain ⟨h73, _⟩ := hp
        unfold Rely.gives
        simp only [Rely.sel, List.foldl_cons, List.foldl_nil]
        go_simp
        exact ⟨Below.refl _ _, rfl⟩) ?_
      refine Rely.stepsZ_cons (by
        intro vs w' hb hp
        simp only [Rely.Pre, s9T] at hp
        obtain ⟨h73, h74, _⟩ := hp
        unfold Rely.gives
        simp only [Rely.sel, List.foldl_cons, List.foldl_nil]
        go_simp
        simp only [Rely.GivesR]
        refine (HDT.out w' hb).mono ?_
        rintro e w3 ⟨A3, c3, rfl, ho3, hb3⟩
        exact ⟨_, rfl, hb3, A3, c3, rfl, ownBase ho3 (Nat.zero_le _)⟩) ?_
      refine Rely.stepsZ_cons (by
        intro vs w' hb hp
        simp only [Rely.Pre, s9T] at hp
        obtain ⟨h73, _⟩ := hp
        unfold Rely.gives
        simp only [Rely.sel, List.foldl_cons, List.foldl_nil]
        go_simp
        exact ⟨Below.refl _ _, rfl⟩) ?_
      refine Rely.stepsZ_cons (by
        intro vs w' hb hp
        simp only [Rely.Pre, s9T] at hp
        obtain ⟨h73, h76, _⟩ := hp
        unfold Rely.gives
        simp only [Rely.sel, List.foldl_cons, List.foldl_nil]
        go_simp
        exact ⟨Below.refl _ _, rfl⟩) ?_
      refine Rely.stepsZ_cons (by
        intro vs w' hb hp
        simp only [Rely.Pre, s9T] at hp
        obtain ⟨h73, h77, _⟩ := hp
        have hfact := (HB9.out w' hb).2
        unfold Rely.gives
        simp only [Rely.sel, List.foldl_cons, List.foldl_nil]
        go_simp
        exact ⟨Below.refl _ _, rfl⟩) ?_
      refine Rely.stepsZ_cons (by
        intro vs w' hb hp
        simp only [Rely.Pre, s9T] at hp
        obtain ⟨h73, ⟨a75, c75, e75, ho75⟩, h78, _⟩ := hp
        unfold Rely.gives
        simp only [Rely.sel, List.foldl_cons, List.foldl_nil]
        go_simp
        simp only [Rely.GivesR]
        refine (HS2.out w' hb a75 c75 ho75).mono ?_
        rintro e w3 ⟨rfl, rfl⟩
        exact ⟨_, rfl, Below.refl _ _, rfl⟩) ?_
      refine Rely.stepsZ_cons (by
        intro vs w' hb hp
        simp only [Rely.Pre, s9T] at hp
        obtain ⟨h73, h79, _⟩ := hp
        unfold Rely.gives
        simp only [Rely.sel, List.foldl_cons, List.foldl_nil]
        go_simp
        exact ⟨Below.refl _ _, rfl⟩) ?_
      refine Rely.stepsZ_cons (by
        intro vs w' hb hp
        simp only [Rely.Pre, s9T] at hp
        obtain ⟨h80, _⟩ := hp
        unfold Rely.gives
        simp only [Rely.sel, List.foldl_cons, List.foldl_nil]
        go_simp
        exact ⟨Below.refl _ _, rfl⟩) ?_
      exact Rely.stepsZ_nil
    intro vs we hbe hp _
    simp only [Rely.Pre, s9T] at hp
    obtain ⟨h0, ⟨a1, b1, h1, ho1⟩, h2, h3, h4, h5, h6, h7, ⟨a8, b8, h8, ho8⟩, h9, h10, h11, h12, h13, h14, _⟩ := hp
    simp only [Rely.sel, List.foldl_cons, List.foldl_nil, h0, h1, h2, h3, h4, h5, h6, h7, h8, h9, h10, h11, h12, h13, h14]
    clear h0 h1 h2 h3 h4 h5 h6 h7 h8 h9 h10 h11 h12 h13 h14
    simp only [Act.put, List.setIfInBounds_toArray, List.set_cons_succ, List.set_cons_zero]

    have HBE := Lib.hid (HB0.out.trans ((HBC.out.trans ((HBD.out.trans (hbe.mono HBD.out.size)).mono HBC.out.size)).mono HB0.out.size))
    clear hbe
    go_wp2
    go_ret
    exact ⟨rfl, HBE.out⟩
end Go.Proofs.Ytkagfjjocmjeoaa
