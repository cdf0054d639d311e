/- MsRs: The reference's Read, of any bytes; the law that any bytes are the message that the chapter says: walked. -/
import Derived.Test.YtfamklplhdnaiaaDoorMsRra
import Derived.Test.YtfamklplhdnaiaaDoorMsRrb
import Derived.Test.YtfamklplhdnaiaaDoorMsRrc
import Derived.Test.YtfamklplhdnaiaaDoorMsRrd
import Derived.Test.YtfamklplhdnaiaaDoorMsSm
import Derived.Test.YtfamklplhdnaiaaDoorMsN
import Derived.Test.YtfamklplhdnaiaaDoorBoxM
import Derived.BigFrame
namespace Go.Proofs.YtfamklplhdnaiaaDoor
open Go.RowKit Mem Be Rg
set_option maxRecDepth 100000
set_option maxHeartbeats 16000000
set_option linter.unusedVariables false
set_option linter.unusedSimpArgs false
theorem refread12_err (n c : Nat) (A : Option Addr) (bs : List UInt8) (hn : n = bs.length) (hl : n ≤ 1000000) (hc : n ≤ c) (w : World) (h : Row w w.heap.size A (bs.map byteV)) {e : Int} (he : e ≠ 0) (HCH : Hid (∀ W, Row W w.heap.size A (bs.map byteV) → w.heap.size ≤ W.heap.size → Calls Tryd.prog 66 #[.slice A n c] W (HeadE e W))) (hF : readM bs = (msgP0, e)) : Calls Tryd.prog 18 #[.slice A n c] w (ReadMP (readM bs) w) := by
  have hb0 : Below w.heap.size w (w.alloc (.cells #[.int .i64 0, .int .i64 0, .int .i64 0, .int .i64 0, .int .i64 0, .int .i64 0, .bool false, .string ⟨#[]⟩, .int .i64 0, .int .i64 0, .int .i64 0, .bool false, .slice none 0 0, .slice none 0 0, .slice none 0 0, .int .i64 0, .int .i64 0] 34)) := (Below.refl _ _).alloc (Nat.le_refl _) _
  have HK0 := Lib.hid (Blk.new w 34 #[.int .i64 0, .int .i64 0, .int .i64 0, .int .i64 0, .int .i64 0, .int .i64 0, .bool false, .string ⟨#[]⟩, .int .i64 0, .int .i64 0, .int .i64 0, .bool false, .slice none 0 0, .slice none 0 0, .slice none 0 0, .int .i64 0, .int .i64 0])
  have hr0 := h.alloc (Nat.le_refl _) (.cells #[.int .i64 0, .int .i64 0, .int .i64 0, .int .i64 0, .int .i64 0, .int .i64 0, .bool false, .string ⟨#[]⟩, .int .i64 0, .int .i64 0, .int .i64 0, .bool false, .slice none 0 0, .slice none 0 0, .slice none 0 0, .int .i64 0, .int .i64 0] 34)
  obtain ⟨W, hW⟩ : ∃ W, w.alloc (.cells #[.int .i64 0, .int .i64 0, .int .i64 0, .int .i64 0, .int .i64 0, .int .i64 0, .bool false, .string ⟨#[]⟩, .int .i64 0, .int .i64 0, .int .i64 0, .bool false, .slice none 0 0, .slice none 0 0, .slice none 0 0, .int .i64 0, .int .i64 0] 34) = W := ⟨_, rfl⟩
  rw [hW] at HK0 hb0 hr0
  have HC1 := Lib.hid (HCH.out W hr0 hb0.size)
  have HB0 := Lib.hid hb0
  obtain ⟨RM, hRM⟩ : ∃ r, readM bs = r := ⟨_, rfl⟩
  rw [hRM] at hF ⊢
  have HFE := Lib.hid hF
  have hne : (e == 0) = false := by simpa using he
  have hne2 : (e != 0) = true := by simpa using he
  clear h hb0 hr0 hn hRM HCH hF he
  go_enter Tryd.func18, Tryd.ntmps18
  go_wp2_with fail
  refine HC1.out.mono ?_
  rintro e1 w1 ⟨rfl, hb1⟩
  have HB1 := Lib.hid (HB0.out.trans (hb1.mono HB0.out.size))
  have HK1 := Lib.hid (HK0.out.below hb1 HK0.out.lt)
  clear hb1 HB0 HK0 HC1 hW
  go_upto_region 2 with (refine wpList_boxM rfl rfl _ rfl 34 #[.int .i64 0, .int .i64 0, .int .i64 0, .int .i64 0, .int .i64 0, .int .i64 0, .bool false, .string ⟨#[]⟩, .int .i64 0, .int .i64 0, .int .i64 0, .bool false, .slice none 0 0, .slice none 0 0, .slice none 0 0, .int .i64 0, .int .i64 0] (by kernel_rfl) _ _ rfl #[.int .i64 0, .int .i64 0, .int .i64 0, .int .i64 0, .int .i64 0, .int .i64 0, .bool false, .string ⟨#[]⟩, .int .i64 0, .int .i64 0, .int .i64 0, .bool false, .slice none 0 0, .slice none 0 0, .slice none 0 0, .int .i64 0, .int .i64 0] rfl rfl rfl (by kernel_rfl) (by kernel_rfl) ?_)
  have hal : Below w1.heap.size w1 (w1.alloc (.cells #[.int .i64 0, .int .i64 0, .int .i64 0, .int .i64 0, .int .i64 0, .int .i64 0, .bool false, .string ⟨#[]⟩, .int .i64 0, .int .i64 0, .int .i64 0, .bool false, .slice none 0 0, .slice none 0 0, .slice none 0 0, .int .i64 0, .int .i64 0] 34)) := (Below.refl _ _).alloc (Nat.le_refl _) _
  obtain ⟨V, hV⟩ : ∃ V, w1.alloc (.cells #[.int .i64 0, .int .i64 0, .int .i64 0, .int .i64 0, .int .i64 0, .int .i64 0, .bool false, .string ⟨#[]⟩, .int .i64 0, .int .i64 0, .int .i64 0, .bool false, .slice none 0 0, .slice none 0 0, .slice none 0 0, .int .i64 0, .int .i64 0] 34) = V := ⟨_, rfl⟩
  rw [hV] at hal
  have HB2 := Lib.hid (HB1.out.trans (hal.mono HB1.out.size))
  have HK2 := Lib.hid (HK1.out.below hal HK1.out.lt)
  simp only [hV]
  clear hal hV HB1 HK1
  go_wp2_with (refine wpList_store_box rfl 34 _ _ rfl w.heap.size 34 #[.int .i64 0, .int .i64 0, .int .i64 0, .int .i64 0, .int .i64 0, .int .i64 0, .bool false, .string ⟨#[]⟩, .int .i64 0, .int .i64 0, .int .i64 0, .bool false, .slice none 0 0, .slice none 0 0, .slice none 0 0, .int .i64 0, .int .i64 0] #[.int .i64 0, .int .i64 0, .int .i64 0, .int .i64 0, .int .i64 0, .int .i64 0, .bool false, .string ⟨#[]⟩, .int .i64 0, .int .i64 0, .int .i64 0, .bool false, .slice none 0 0, .slice none 0 0, .slice none 0 0, .int .i64 0, .int .i64 0] HK2.out rfl rfl rfl (by kernel_rfl) (by kernel_rfl) ?_)
  intro wz hkz hgz
  have HKz := Lib.hid hkz
  have HBz := Lib.hid (HB2.out.grown hgz HB2.out.size fun g hg => by cases hg; exact Nat.le_refl _)
  clear hkz hgz
  go_wp2
  exact bodyPost_ret (v := .tuple #[.agg #[.int .i64 0, .int .i64 0, .int .i64 0, .int .i64 0, .int .i64 0, .int .i64 0, .bool false, .string ⟨#[]⟩, .int .i64 0, .int .i64 0, .int .i64 0, .bool false, .slice none 0 0, .slice none 0 0, .slice none 0 0, .int .i64 0, .int .i64 0], .int .i64 e]) (results_cell_row2 (p := 2) (q := 3) (ty := 34) Tryd.results18 _ _ w.heap.size 34 #[.int .i64 0, .int .i64 0, .int .i64 0, .int .i64 0, .int .i64 0, .int .i64 0, .bool false, .string ⟨#[]⟩, .int .i64 0, .int .i64 0, .int .i64 0, .bool false, .slice none 0 0, .slice none 0 0, .slice none 0 0, .int .i64 0, .int .i64 0] (0, 0) _ rfl HKz.out Tryd.underlying34 rfl (by kernel_rfl)) rfl ⟨zMV, by rw [HFE.out]; rfl, by rw [HFE.out]; rfl, zMV_m _, HBz.out⟩
theorem kind_sets12r {k : Int} (h : exK k = true) : (hasN k = false ∧ hasF k = false ∧ hasE k = false ∧ hasL k = false ∧ hasR k = false) ∨ (hasN k = false ∧ hasF k = false ∧ hasE k = true ∧ hasL k = false ∧ hasR k = false) ∨ (hasN k = true ∧ hasF k = false ∧ hasE k = false ∧ hasL k = false ∧ hasR k = false) ∨ (hasN k = true ∧ hasF k = false ∧ hasE k = true ∧ hasL k = false ∧ hasR k = false) ∨ (hasN k = false ∧ hasF k = false ∧ hasE k = false ∧ hasL k = false ∧ hasR k = true) ∨ (hasN k = true ∧ hasF k = true ∧ hasE k = true ∧ hasL k = false ∧ hasR k = false) ∨ (hasN k = true ∧ hasF k = true ∧ hasE k = false ∧ hasL k = true ∧ hasR k = false) := by
  have key : ∀ i : Fin 18, 1 ≤ i.val → (hasN (i.val : Int) = false ∧ hasF (i.val : Int) = false ∧ hasE (i.val : Int) = false ∧ hasL (i.val : Int) = false ∧ hasR (i.val : Int) = false) ∨ (hasN (i.val : Int) = false ∧ hasF (i.val : Int) = false ∧ hasE (i.val : Int) = true ∧ hasL (i.val : Int) = false ∧ hasR (i.val : Int) = false) ∨ (hasN (i.val : Int) = true ∧ hasF (i.val : Int) = false ∧ hasE (i.val : Int) = false ∧ hasL (i.val : Int) = false ∧ hasR (i.val : Int) = false) ∨ (hasN (i.val : Int) = true ∧ hasF (i.val : Int) = false ∧ hasE (i.val : Int) = true ∧ hasL (i.val : Int) = false ∧ hasR (i.val : Int) = false) ∨ (hasN (i.val : Int) = false ∧ hasF (i.val : Int) = false ∧ hasE (i.val : Int) = false ∧ hasL (i.val : Int) = false ∧ hasR (i.val : Int) = true) ∨ (hasN (i.val : Int) = true ∧ hasF (i.val : Int) = true ∧ hasE (i.val : Int) = true ∧ hasL (i.val : Int) = false ∧ hasR (i.val : Int) = false) ∨ (hasN (i.val : Int) = true ∧ hasF (i.val : Int) = true ∧ hasE (i.val : Int) = false ∧ hasL (i.val : Int) = true ∧ hasR (i.val : Int) = false) := by decide +kernel
  obtain ⟨h1, h2⟩ := exK_yes h
  have := key ⟨k.toNat, by omega⟩ (by show 1 ≤ k.toNat; omega)
  have e : ((k.toNat : Nat) : Int) = k := by omega
  simp only [e] at this
  exact this
theorem refread12_any (n c : Nat) (A : Option Addr) (bs : List UInt8) (hn : n = bs.length) (hl : n ≤ 1000000) (hc : n ≤ c) (w : World) (h : Row w w.heap.size A (bs.map byteV)) : Calls Tryd.prog 18 #[.slice A n c] w (ReadMP (readM bs) w) := by
  rcases head_pure bs with ⟨e, he, h1, hm⟩ | ⟨p1, hp1, h1, hm⟩ | ⟨k, p1, hk, hex, hp1, h1, hr⟩
  · exact refread12_err n c A bs hn hl hc w h he (Lib.hid fun W hr hB => refhead_1 w.heap.size n c A bs hn hl W hr hB he h1) (read_err he hm)
  · exact refread12_err n c A bs hn hl hc w h (by decide) (Lib.hid fun W hr hB => refhead_2 w.heap.size n c A bs hn hl W hr hB h1) (read_err (by decide) hm)
  · rcases hr with ⟨e, p2, he, h2, hm⟩ | ⟨f, d, ep, op, p2, hp2, h2, hm⟩
    · exact refread12_err n c A bs hn hl hc w h he (Lib.hid fun W hr hB => refhead_3 w.heap.size n c A bs hn hl W hr hB hk (by omega) h1 he h2) (read_err he hm)
    · have HH := Lib.hid fun W (hr : Row W w.heap.size A (bs.map byteV)) (hB : w.heap.size ≤ W.heap.size) => refhead_4 w.heap.size n c A bs hn hl W hr hB hk (by omega) h1 h2
      have HF : Hid (readM bs = fin0 n k ⟨k, f, d, ep, op, 0, false, entP0, [], [], 0, 0⟩ p2 (bs.drop p2)) := Lib.hid (by rw [hn]; exact read_fin hm)
      rcases kind_sets12r hex with ⟨a, b, c1, d1, e⟩ | ⟨a, b, c1, d1, e⟩ | ⟨a, b, c1, d1, e⟩ | ⟨a, b, c1, d1, e⟩ | ⟨a, b, c1, d1, e⟩ | ⟨a, b, c1, d1, e⟩ | ⟨a, b, c1, d1, e⟩
      · exact refread12_o n c A bs hn hl hc w h (by omega) HH HF a b c1 d1 e
      · exact refread12_e n c A bs hn hl hc w h (by omega) HH HF a b c1 d1 e
      · exact refread12_n n c A bs hn hl hc w h (by omega) HH HF a b c1 d1 e
      · exact refread12_ne n c A bs hn hl hc w h (by omega) HH HF a b c1 d1 e
      · exact refread12_r n c A bs hn hl hc w h (by omega) HH HF a b c1 d1 e
      · exact refread12_nfe n c A bs hn hl hc w h (by omega) HH HF a b c1 d1 e
      · exact refread12_nfl n c A bs hn hl hc w h (by omega) HH HF a b c1 d1 e
theorem reads12_any (A : Option Addr) (c : Nat) (bs : List UInt8) (w : World) (ht : KT w) (hr : Row w w.heap.size A (bs.map byteV)) (hcap : bs.length ≤ c) (hl : bs.length ≤ maxLen) : Calls Tryd.prog 4 #[.slice A bs.length c] w (IsT12 w) := by
  obtain ⟨n, hn⟩ : ∃ n, n = bs.length := ⟨_, rfl⟩
  rw [← hn] at hcap hl ⊢
  have HR0 := Lib.hid hr
  have HT0 := Lib.hid ht
  have HN := Lib.hid hn
  clear hr ht hn
  rcases Nat.lt_or_ge 1500 n with hb | hb
  · have hbi : (1500 : Int) < (n : Int) := by omega
    unfold maxLen at hl
    go_enter Tryd.func4, Tryd.ntmps4
    go_wp2_with fail
    refine (known12 _ HT0.out).mono ?_
    rintro e wz ⟨rfl, hbz⟩
    have HBZ := Lib.hid hbz
    clear hbz
    go_wp2
    go_ret
    exact ⟨rfl, HBZ.out⟩
  · have hbi : ¬ ((1500 : Int) < (n : Int)) := by omega
    obtain ⟨⟨RMm, er⟩, hRM⟩ : ∃ r, readM bs = r := ⟨_, rfl⟩
    have hc1 := readm_any w.heap.size n c A bs HN.out (by omega) w HT0.out HR0.out (Nat.le_refl _)
    have hc2 := fun W (h : Row W W.heap.size A (bs.map byteV)) => refread12_any n c A bs HN.out (by omega) hcap W h
    rw [hRM] at hc1 hc2
    have HC1 : Hid (Calls Tryd.prog 17 #[.slice A n c] w (fun E w' => ∃ x : MV, E = .returned (.tuple #[.agg #[.int .i64 x.kind, .int .i64 x.fr, .int .i64 x.dst, .int .i64 x.ep, .int .i64 x.op, .int .i64 x.n, .bool x.flag, .string ⟨x.e.1.k.toArray⟩, .int .i64 x.e.1.s, .int .i64 x.e.1.u, .int .i64 x.e.1.o, .bool x.e.1.has, .slice x.e.2.1 x.e.1.v.length x.e.2.2, .slice x.lA x.l.length x.lc, .slice x.rA x.ns.length x.rc, .int .i64 x.each, .int .i64 x.keep], .int .i64 er]) ∧ mP x = RMm ∧ MsgM w' x ∧ Below w.heap.size w w')) := Lib.hid hc1
    have HC2 : Hid (∀ W, Row W W.heap.size A (bs.map byteV) → Calls Tryd.prog 18 #[.slice A n c] W (fun E w' => ∃ x : MV, E = .returned (.tuple #[.agg #[.int .i64 x.kind, .int .i64 x.fr, .int .i64 x.dst, .int .i64 x.ep, .int .i64 x.op, .int .i64 x.n, .bool x.flag, .string ⟨x.e.1.k.toArray⟩, .int .i64 x.e.1.s, .int .i64 x.e.1.u, .int .i64 x.e.1.o, .bool x.e.1.has, .slice x.e.2.1 x.e.1.v.length x.e.2.2, .slice x.lA x.l.length x.lc, .slice x.rA x.ns.length x.rc, .int .i64 x.each, .int .i64 x.keep], .int .i64 er]) ∧ mP x = RMm ∧ MsgM w' x ∧ Below W.heap.size W w')) := Lib.hid hc2
    clear hRM hc1 hc2
    go_enter Tryd.func4, Tryd.ntmps4
    go_wp2_with fail
    refine HC1.out.mono ?_
    rintro e w1 ⟨x, rfl, hx, hm1, hb1⟩
    have HX := Lib.hid hx
    have HB1 := Lib.hid hb1
    have HM1 := Lib.hid hm1
    have HT1 := Lib.hid (HT0.out.below hb1)
    have HR1 := Lib.hid ((HR0.out.below hb1).more hb1.size)
    clear hb1 hx hm1 HC1 HT0 HR0
    go_upto_region 4 with (refine wpList_boxM rfl rfl _ rfl 34 #[.int .i64 0, .int .i64 0, .int .i64 0, .int .i64 0, .int .i64 0, .int .i64 0, .bool false, .string ⟨#[]⟩, .int .i64 0, .int .i64 0, .int .i64 0, .bool false, .slice none 0 0, .slice none 0 0, .slice none 0 0, .int .i64 0, .int .i64 0] (by kernel_rfl) _ _ rfl #[.int .i64 x.kind, .int .i64 x.fr, .int .i64 x.dst, .int .i64 x.ep, .int .i64 x.op, .int .i64 x.n, .bool x.flag, .string ⟨x.e.1.k.toArray⟩, .int .i64 x.e.1.s, .int .i64 x.e.1.u, .int .i64 x.e.1.o, .bool x.e.1.has, .slice x.e.2.1 x.e.1.v.length x.e.2.2, .slice x.lA x.l.length x.lc, .slice x.rA x.ns.length x.rc, .int .i64 x.each, .int .i64 x.keep] rfl rfl rfl (by kernel_rfl) (by kernel_rfl) ?_)
    obtain ⟨W2, hW2⟩ : ∃ W, w1.alloc (.cells #[.int .i64 x.kind, .int .i64 x.fr, .int .i64 x.dst, .int .i64 x.ep, .int .i64 x.op, .int .i64 x.n, .bool x.flag, .string ⟨x.e.1.k.toArray⟩, .int .i64 x.e.1.s, .int .i64 x.e.1.u, .int .i64 x.e.1.o, .bool x.e.1.has, .slice x.e.2.1 x.e.1.v.length x.e.2.2, .slice x.lA x.l.length x.lc, .slice x.rA x.ns.length x.rc, .int .i64 x.each, .int .i64 x.keep] 34) = W := ⟨_, rfl⟩
    obtain ⟨g3, hg3⟩ : ∃ g, w1.heap.size = g := ⟨_, rfl⟩
    have hb2 : Below w1.heap.size w1 W2 := by rw [← hW2]; exact (Below.refl _ _).alloc (Nat.le_refl _) _
    have HX2 : Hid (Blk W2 g3 34 #[.int .i64 x.kind, .int .i64 x.fr, .int .i64 x.dst, .int .i64 x.ep, .int .i64 x.op, .int .i64 x.n, .bool x.flag, .string ⟨x.e.1.k.toArray⟩, .int .i64 x.e.1.s, .int .i64 x.e.1.u, .int .i64 x.e.1.o, .bool x.e.1.has, .slice x.e.2.1 x.e.1.v.length x.e.2.2, .slice x.lA x.l.length x.lc, .slice x.rA x.ns.length x.rc, .int .i64 x.each, .int .i64 x.keep]) := Lib.hid (by rw [← hW2, ← hg3]; exact Blk.new _ _ _)
    have HB2 := Lib.hid (HB1.out.trans (hb2.mono HB1.out.size))
    have HM2 := Lib.hid (HM1.out.below hb2)
    have HT2 := Lib.hid (HT1.out.below hb2)
    have HR2 := Lib.hid ((HR1.out.below hb2).more hb2.size)
    simp only [hW2, hg3]
    clear hb2 hW2 hg3 HB1 HM1 HT1 HR1
    go_wp2_with fail
    refine (HC2.out W2 HR2.out).mono ?_
    rintro e w3 ⟨y, rfl, hy, hm3, hb3⟩
    have HY := Lib.hid hy
    have HX3 := Lib.hid (HX2.out.below hb3 HX2.out.lt)
    have HB3 := Lib.hid (HB2.out.trans (hb3.mono HB2.out.size))
    have HM3 := Lib.hid (HM2.out.below hb3)
    have HT3 := Lib.hid (HT2.out.below hb3)
    have HN3 := Lib.hid hm3
    clear hb3 hy hm3 HC2 HX2 HB2 HM2 HT2 HR2
    go_upto_region 5 with (refine wpList_boxM rfl rfl _ rfl 34 #[.int .i64 0, .int .i64 0, .int .i64 0, .int .i64 0, .int .i64 0, .int .i64 0, .bool false, .string ⟨#[]⟩, .int .i64 0, .int .i64 0, .int .i64 0, .bool false, .slice none 0 0, .slice none 0 0, .slice none 0 0, .int .i64 0, .int .i64 0] (by kernel_rfl) _ _ rfl #[.int .i64 y.kind, .int .i64 y.fr, .int .i64 y.dst, .int .i64 y.ep, .int .i64 y.op, .int .i64 y.n, .bool y.flag, .string ⟨y.e.1.k.toArray⟩, .int .i64 y.e.1.s, .int .i64 y.e.1.u, .int .i64 y.e.1.o, .bool y.e.1.has, .slice y.e.2.1 y.e.1.v.length y.e.2.2, .slice y.lA y.l.length y.lc, .slice y.rA y.ns.length y.rc, .int .i64 y.each, .int .i64 y.keep] rfl rfl rfl (by kernel_rfl) (by kernel_rfl) ?_)
    obtain ⟨W4, hW4⟩ : ∃ W, w3.alloc (.cells #[.int .i64 y.kind, .int .i64 y.fr, .int .i64 y.dst, .int .i64 y.ep, .int .i64 y.op, .int .i64 y.n, .bool y.flag, .string ⟨y.e.1.k.toArray⟩, .int .i64 y.e.1.s, .int .i64 y.e.1.u, .int .i64 y.e.1.o, .bool y.e.1.has, .slice y.e.2.1 y.e.1.v.length y.e.2.2, .slice y.lA y.l.length y.lc, .slice y.rA y.ns.length y.rc, .int .i64 y.each, .int .i64 y.keep] 34) = W := ⟨_, rfl⟩
    obtain ⟨g5, hg5⟩ : ∃ g, w3.heap.size = g := ⟨_, rfl⟩
    have hb4 : Below w3.heap.size w3 W4 := by rw [← hW4]; exact (Below.refl _ _).alloc (Nat.le_refl _) _
    have HY4 : Hid (Blk W4 g5 34 #[.int .i64 y.kind, .int .i64 y.fr, .int .i64 y.dst, .int .i64 y.ep, .int .i64 y.op, .int .i64 y.n, .bool y.flag, .string ⟨y.e.1.k.toArray⟩, .int .i64 y.e.1.s, .int .i64 y.e.1.u, .int .i64 y.e.1.o, .bool y.e.1.has, .slice y.e.2.1 y.e.1.v.length y.e.2.2, .slice y.lA y.l.length y.lc, .slice y.rA y.ns.length y.rc, .int .i64 y.each, .int .i64 y.keep]) := Lib.hid (by rw [← hW4, ← hg5]; exact Blk.new _ _ _)
    have HX4 := Lib.hid (HX3.out.below hb4 HX3.out.lt)
    have HB4 := Lib.hid (HB3.out.trans (hb4.mono HB3.out.size))
    have HM4 := Lib.hid (HM3.out.below hb4)
    have HN4 := Lib.hid (HN3.out.below hb4)
    have HT4 := Lib.hid (HT3.out.below hb4)
    simp only [hW4, hg5]
    have HSA : Hid (∀ W, Below W4.heap.size W4 W → Calls Tryd.prog 19 #[.agg #[.int .i64 x.kind, .int .i64 x.fr, .int .i64 x.dst, .int .i64 x.ep, .int .i64 x.op, .int .i64 x.n, .bool x.flag, .string ⟨x.e.1.k.toArray⟩, .int .i64 x.e.1.s, .int .i64 x.e.1.u, .int .i64 x.e.1.o, .bool x.e.1.has, .slice x.e.2.1 x.e.1.v.length x.e.2.2, .slice x.lA x.l.length x.lc, .slice x.rA x.ns.length x.rc, .int .i64 x.each, .int .i64 x.keep], .agg #[.int .i64 y.kind, .int .i64 y.fr, .int .i64 y.dst, .int .i64 y.ep, .int .i64 y.op, .int .i64 y.n, .bool y.flag, .string ⟨y.e.1.k.toArray⟩, .int .i64 y.e.1.s, .int .i64 y.e.1.u, .int .i64 y.e.1.o, .bool y.e.1.has, .slice y.e.2.1 y.e.1.v.length y.e.2.2, .slice y.lA y.l.length y.lc, .slice y.rA y.ns.length y.rc, .int .i64 y.each, .int .i64 y.keep]] W fun e w' => e = .returned (.bool true) ∧ Below W.heap.size W w') := Lib.hid fun W hb => by
      have hs := refsame12 x y W (HM4.out.below hb) (HN4.out.below hb)
      rw [HX.out, HY.out, sameM_refl] at hs
      exact hs
    have HKN : Hid (∀ W, Below W4.heap.size W4 W → Calls Tryd.prog 11 #[] W (IsT12 W)) := Lib.hid fun W hb => known12 W (HT4.out.below hb)
    clear hb4 hW4 hg5 HX3 HB3 HM3 HT3 HN3 HM4 HN4 HX HY HN
    go_wp2_with (first | (refine wpList_load_row rfl 34 _ rfl _ rfl _ _ _ _ (show _ = _ from HX4.out) Tryd.underlying34 rfl (by kernel_rfl) ?_) | (refine wpList_load_row rfl 34 _ rfl _ rfl _ _ _ _ (show _ = _ from HY4.out) Tryd.underlying34 rfl (by kernel_rfl) ?_))
    refine (HSA.out W4 (Below.refl _ _)).mono ?_
    rintro e w5 ⟨rfl, hb5⟩
    have HB5 := Lib.hid (HB4.out.trans (hb5.mono HB4.out.size))
    have HK5 := Lib.hid (HKN.out w5 hb5)
    clear hb5 HSA HKN HX4 HY4 HT4 HB4
    go_wp2_with fail
    refine HK5.out.mono ?_
    rintro e w6 ⟨rfl, hb6⟩
    have HB6 := Lib.hid (HB5.out.trans (hb6.mono HB5.out.size))
    clear hb6 HK5
    go_wp2
    go_ret
    exact ⟨rfl, HB6.out⟩
end Go.Proofs.YtfamklplhdnaiaaDoor
