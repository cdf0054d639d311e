/- Recover, told by the reference, apart from some old blocks (written by tools/gen_refs8.py). -/
import Derived.Test.YtndbggkpobcpjaaGreatGrpA
import Derived.Test.YtndbggkpobcpjaaGreatGrpD
import Derived.Test.YtndbggkpobcpjaaGreatRefC8
import Derived.Test.YtndbggkpobcpjaaGreatRefQ8
import Derived.Test.YtndbggkpobcpjaaGreatRef7
namespace Go.Proofs.YtndbggkpobcpjaaGreat
open Go.RowKit Go.ChangeShapes Mem Be Word Frm Go.Maps
set_option maxRecDepth 100000
set_option maxHeartbeats 16000000
set_option linter.unusedVariables false
/-- What the reference's Recover tells of bytes: a store apart from F. -/
def RefRecN (F : Nat → Prop) (X : List UInt8) (w : World) (e : Ending) (w' : World) : Prop :=
  (∃ (us : List EV) (A : Option Addr) (c : Nat) (AL : Option Addr) (cL : Nat) (R : Option Addr) (cR : Nat) (vs : List RecV), recS (scanS X).1 = some (us.map Prod.fst) ∧ vs.map rcOf = (scanS X).1 ∧
    e = .returned (.tuple #[.agg #[.slice AL (scanS X).2.1 cL, .slice none 0 0, .int .i64 0, .slice R vs.length cR, .int .i64 (vs.length : Int), .slice A us.length c, .slice A us.length c, .slice none 0 0], .int .i64 ((X.length : Int) - ((scanS X).2.1 : Int)), .int .i64 0]) ∧
    us.length ≤ c ∧ EnN F w' A us ∧ RefL w' F AL cL none 0 R cR (X.take (scanS X).2.1) [] vs ∧ Below w.heap.size w w') ∨
  (recS (scanS X).1 = none ∧ e = .returned (.tuple #[.agg #[.slice none 0 0, .slice none 0 0, .int .i64 0, .slice none 0 0, .int .i64 0, .slice none 0 0, .slice none 0 0, .slice none 0 0], .int .i64 0, .int .i64 11]) ∧ Below w.heap.size w w')
theorem enN_nil (F : Nat → Prop) (w : World) : EnN F w none [] := ⟨Or.inl rfl, fun x h => by cases h⟩
theorem set8_touch {F : Nat → Prop} {w : World} {b : Nat} (u0 u1 u2 u3 u4 u5 u6 u7 : Value) : Touch (AndB F b) w (set8 w b u0 u1 u2 u3 u4 u5 u6 u7) :=
  ((((((((Touch.refl (AndB F b) w).set_ (p := ⟨b, 0, none⟩) (Or.inl (Or.inr rfl)) _).set_ (p := ⟨b, 1, none⟩) (Or.inl (Or.inr rfl)) _).set_ (p := ⟨b, 2, none⟩) (Or.inl (Or.inr rfl)) _).set_ (p := ⟨b, 3, none⟩) (Or.inl (Or.inr rfl)) _).set_ (p := ⟨b, 4, none⟩) (Or.inl (Or.inr rfl)) _).set_ (p := ⟨b, 5, none⟩) (Or.inl (Or.inr rfl)) _).set_ (p := ⟨b, 6, none⟩) (Or.inl (Or.inr rfl)) _).set_ (p := ⟨b, 7, none⟩) (Or.inl (Or.inr rfl)) _
theorem refrecN_any (F : Nat → Prop) (n c0 : Nat) (A0 : Option Addr) (X : List UInt8) (hn : n = X.length) (hc : n ≤ c0) (hl : n ≤ 4194304) (w : World) (hF : ∀ k, F k → k < w.heap.size) (h : Row w w.heap.size A0 (X.map byteV)) :
    Calls Tryz.prog 58 #[.slice A0 n c0] w (RefRecN F X w) := by
  obtain ⟨w0, hw0⟩ : ∃ w0, w.alloc (.cells #[.slice none 0 0, .slice none 0 0, .int .i64 0, .slice none 0 0, .int .i64 0, .slice none 0 0, .slice none 0 0, .slice none 0 0] 36) = w0 := ⟨_, rfl⟩
  have hb0 : Below w.heap.size w w0 := by rw [← hw0]; exact (Below.refl _ _).alloc (Nat.le_refl _) _
  have hblk : Blk w0 w.heap.size 36 #[.slice none 0 0, .slice none 0 0, .int .i64 0, .slice none 0 0, .int .i64 0, .slice none 0 0, .slice none 0 0, .slice none 0 0] := by rw [← hw0]; exact Blk.new _ _ _
  have HFF : Hid (∀ k, AndB F w.heap.size k → k < w0.heap.size) := Lib.hid fun k hk => by
    have h1 := hblk.lt
    rcases hk with hk | hk
    · have := hF k hk; omega
    · omega
  clear hF
  have HB00 := Lib.hid hb0
  have HBK := Lib.hid hblk
  have HN := Lib.hid hn
  have HW0 := Lib.hid hw0
  have HRO := Lib.hid (refopen_any n c0 A0 X hn hc hl w0 ((h.below hb0).more hb0.size))
  have hat := scan_at X
  have hni : (n : Int) ≤ 4194304 := by omega
  obtain ⟨Q, hQ⟩ : ∃ Q, recS (scanS X).1 = Q := ⟨_, rfl⟩
  have HQ := Lib.hid hQ
  clear h hb0 hblk hw0 hn
  go_enter Tryz.func58, Tryz.ntmps58
  go_wp2_with fail
  rw [HW0.out]
  refine HRO.out.mono ?_
  rintro e w2 ⟨AL, cL, vs, R, cR, hvs, rfl, hoL, hoR, hrR, hb2⟩
  obtain ⟨s, hs⟩ : ∃ s, (scanS X).2.1 = s := ⟨_, rfl⟩
  have HS := Lib.hid hs
  have hss := scan_short X
  have hvl : vs.length ≤ 4194304 := by
    have h1 := many_of (rs := vs.map rcOf) (M := n) (by rw [hvs, scan_again, List.length_take]; have := HN.out; omega)
    rw [List.length_map] at h1; omega
  rw [hs] at hoL hat ⊢
  simp only
  rw [← hvs] at hQ hss
  have HVM := Lib.hid hvl
  have HSH : Hid (∀ r ∈ vs, r.2.2.1.length ≤ 65536) := Lib.hid fun r hr => hss _ (List.mem_map_of_mem (f := rcOf) hr)
  obtain ⟨w3, hw3⟩ : ∃ w3, w2.alloc (.cells #[.slice AL s cL, .slice none 0 0, .int .i64 0, .slice R vs.length cR, .int .i64 (vs.length : Int)] 32) = w3 := ⟨_, rfl⟩
  have hb3 : Below w2.heap.size w2 w3 := by rw [← hw3]; exact (Below.refl _ _).alloc (Nat.le_refl _) _
  have hblk3 : Blk w3 w2.heap.size 32 #[.slice AL s cL, .slice none 0 0, .int .i64 0, .slice R vs.length cR, .int .i64 (vs.length : Int)] := by rw [← hw3]; exact Blk.new _ _ _
  obtain ⟨b5, hb5⟩ : ∃ b5, w2.heap.size = b5 := ⟨_, rfl⟩
  have HB5 := Lib.hid hb5
  have hcR : vs.length ≤ cR := by
    obtain ⟨A', c', he, h2, _⟩ := ownShape hoR
    injection he with _ _ he
    omega
  have hcL : s ≤ cL := by
    obtain ⟨A', c', he, h2, _⟩ := ownShape hoL
    injection he with _ _ he
    omega
  have hcap : ∀ r ∈ vs, r.2.2.1.length ≤ r.2.2.2 := fun r hr => by
    obtain ⟨A', c', he, h2, _⟩ := ownShape (hrR r hr)
    injection he with _ _ he
    omega
  have hrl2 : RefL w2 (AndB F w.heap.size) AL cL none 0 R cR (X.take s) [] vs := by
    have hsl : (X.take s).length = s := by rw [List.length_take]; omega
    refine ⟨by rw [hsl]; exact hcL, Nat.le_refl _, hcR, rowN_own HFF.out hoL, Or.inl rfl, rowN_own HFF.out hoR, fun v hv => rowN_own HFF.out (hrR v hv)⟩
  have HLA := Lib.hid (reflast_any AL none R s cL 0 0 vs.length cR vs.length 0 vs rfl (by omega) w3 (((ownRow hoR).below hb3).more hb3.size))
  have HIR3 := Lib.hid fun (W : World) (hb : Below w3.heap.size w3 W) => (((ownRow hoR).below (hb3.trans (hb.mono hb3.size))).more (hb3.trans (hb.mono hb3.size)).size)
  have HRS3 := Lib.hid fun (W : World) (hb : Below w3.heap.size w3 W) (r : RecV) (hr : r ∈ vs) => And.intro ((((Row.of_own (hrR r hr)).below (hb3.trans (hb.mono hb3.size))).more (hb3.trans (hb.mono hb3.size)).size)) (hcap r hr)
  have HAL3 := Lib.hid fun (W : World) (hb : Below w3.heap.size w3 W) => hrl2.below (hb3.trans (hb.mono hb3.size))
  have HW3 := Lib.hid hw3
  have HB03 : Hid (Below w0.heap.size w0 w3) := Lib.hid (hb2.trans (hb3.mono hb2.size))
  rw [hb5] at hblk3
  have HBK3 := Lib.hid hblk3
  have HVS := Lib.hid hvs
  have hvi : (vs.length : Int) ≤ 4194304 := by omega
  have HQV := Lib.hid hQ
  clear hvs hoL hoR hrR hb2 hs hss hw3 hb3 hblk3 hb5 hcap HRO hvl hQ hrl2 hcR hcL
  go_wp2_with fail
  rw [HW3.out]
  rw [HB5.out]
  refine HLA.out.mono ?_
  rintro e w4 ⟨⟨p, hp, rfl⟩, hb4⟩
  have hpe : p = lastN (vs.map rcOf) := lastIs_unique hp (lastIs_lastN _)
  have HP : Hid (lastN (vs.map rcOf) = p) := Lib.hid hpe.symm
  have hpl : p ≤ vs.length := by have := lastN_le (vs.map rcOf); rw [List.length_map] at this; omega
  have HPL := Lib.hid hpl
  have HIR := Lib.hid fun (W : World) (hb : Below w4.heap.size w4 W) => HIR3.out W (hb4.trans (hb.mono hb4.size))
  have HRS := Lib.hid fun (W : World) (hb : Below w4.heap.size w4 W) => HRS3.out W (hb4.trans (hb.mono hb4.size))
  have HAL := Lib.hid fun (W : World) (hb : Below w4.heap.size w4 W) => HAL3.out W (hb4.trans (hb.mono hb4.size))
  have HB5K := Lib.hid (HBK3.out.below hb4 HBK3.out.lt)
  have HB04 : Hid (Below w0.heap.size w0 w4) := Lib.hid (HB03.out.trans (hb4.mono HB03.out.size))
  have hqv := HQV.out
  unfold recS at hqv
  rw [HP.out] at hqv
  clear hp hpe hpl hb4 HIR3 HRS3 HAL3 HLA
  rcases p with _ | q
  · have hm1 : (((0 : Nat) : Int) - 1) = -1 := rfl
    rw [hm1]
    have hq0 : readCs (vs.map rcOf) [] = Q := by
      rw [← hqv]
      simp [lastO, snap8, allA, allF, readRs]
    have HQ0 := Lib.hid hq0
    clear hqv hq0 hm1
    go_wp2_with fail
    go_loopw [8, 14] (fun l i wr => ∃ (j : Nat) (us : List EV) (A : Option Addr) (c : Nat), j ≤ vs.length ∧ l = .slice A us.length c ∧ i = .int .i64 j ∧ Hid (us.length ≤ c ∧ EnN (AndB F w.heap.size) wr A us ∧ OkT (us.map Prod.fst) ∧ us.length ≤ 70000 + j) ∧ Hid (readCs ((vs.map rcOf).drop j) (us.map Prod.fst) = Q) ∧ Hid (Below w0.heap.size w0 wr) ∧ Hid (Below w4.heap.size w4 wr)) (fun _ i _ => vs.length - (intOf i).toNat)
    case atStart => exact ⟨0, [], none, 0, Nat.zero_le _, rfl, rfl, Lib.hid ⟨Nat.le_refl _, enN_nil _ _, okT_nil, by simp⟩, Lib.hid (by rw [List.drop_zero]; exact HQ0.out), HB04, Lib.hid (Below.refl _ _)⟩
    case round =>
      obtain ⟨j, us, A8, c8, hj, rfl, rfl, HU, HRD, HB, HB4⟩ := hrel
      have HK5 := Lib.hid (HB5K.out.below HB4.out HB5K.out.lt)
      have b0 : wr.cell? ⟨b5, 0, none⟩ = some (.slice AL s cL) := HK5.out.cell 0
      have b1 : wr.cell? ⟨b5, 1, none⟩ = some (.slice none 0 0) := HK5.out.cell 1
      have b2 : wr.cell? ⟨b5, 2, none⟩ = some (.int .i64 0) := HK5.out.cell 2
      have b3 : wr.cell? ⟨b5, 3, none⟩ = some (.slice R vs.length cR) := HK5.out.cell 3
      have b4 : wr.cell? ⟨b5, 4, none⟩ = some (.int .i64 (vs.length : Int)) := HK5.out.cell 4
      by_cases hlt : j < vs.length
      · obtain ⟨rb, o1, hR, -, hc⟩ := recs_open (HIR.out wr HB4.out) (by omega)
        rw [hR] at b3
        clear hR
        obtain ⟨k0, k1⟩ := hc j hlt
        have hrow := HRS.out wr HB4.out vs[j] (List.getElem_mem hlt)
        have hyl := HSH.out vs[j] (List.getElem_mem hlt)
        obtain ⟨⟨kd, A2, y, c2⟩, hy⟩ : ∃ y, vs[j] = y := ⟨_, rfl⟩
        rw [hy] at k0 k1 hrow hyl
        simp only at k0 k1 hrow hyl
        have hrd := HRD.out
        rw [readCs_drop (by simpa using hlt)] at hrd
        have hly : (vs.map rcOf)[j]'(by simpa using hlt) = (kd, y) := by rw [List.getElem_map, hy]; rfl
        rw [hly] at hrd
        simp only at hrd
        obtain ⟨⟨x, er⟩, hxe⟩ : ∃ z, readP y = z := ⟨_, rfl⟩
        have hokc : okC (kd, y) ↔ kd = 1 ∧ er = 0 ∧ x.s ≠ 0 := by unfold okC; rw [hxe]
        have HRE := Lib.hid (refread_any y.length c2 A2 y rfl (by omega) hrow.2 wr hrow.1)
        rw [← read_ref, hxe] at HRE
        rw [hxe] at hrd
        simp only at hrd
        have HXE := Lib.hid hxe
        have hji : (0 : Int) ≤ (j : Int) := by omega
        have hji2 : (j : Int) < (vs.length : Int) := by omega
        clear hc hly hrow hy hxe hyl
        go_wp2_with fail
        refine HRE.out.mono ?_
        rintro e w6 ⟨A3, c3, rfl, ho3, hb6⟩
        simp only [entV] at ho3 ⊢
        obtain ⟨w7, hw7⟩ : ∃ w7, w6.alloc (.cells #[.string ⟨x.k.toArray⟩, .int .i64 x.s, .int .i64 x.u, .int .i64 x.o, .bool x.has, .slice A3 x.v.length c3] 45) = w7 := ⟨_, rfl⟩
        have hb67 : Below wr.heap.size wr w7 := by rw [← hw7]; exact hb6.alloc hb6.size _
        have hxb : Blk w7 w6.heap.size 45 #[.string ⟨x.k.toArray⟩, .int .i64 x.s, .int .i64 x.u, .int .i64 x.o, .bool x.has, .slice A3 x.v.length c3] := by rw [← hw7]; exact Blk.new _ _ _
        have hval : er = 0 → ValN (AndB F w.heap.size) w7 (x, A3, c3) := fun h0 => ValN.below (w := w6) ⟨rowN_own (fun k hk => Nat.lt_of_lt_of_le (HFF.out k hk) HB.out.size) ho3, by have := (rightE_yes (readP_ok (b := y) (by rw [HXE.out]; exact h0)).1).2.2.1; rw [HXE.out] at this; simp only at this ⊢; omega, (own_cap ho3).1⟩ (by rw [← hw7]; exact (Below.refl _ _).alloc (Nat.le_refl _) _)
        have HVAL := Lib.hid hval
        have HB67 := Lib.hid hb67
        have d0 : w7.cell? ⟨w6.heap.size, 0, none⟩ = some (.string ⟨x.k.toArray⟩) := hxb.cell 0
        have d1 : w7.cell? ⟨w6.heap.size, 1, none⟩ = some (.int .i64 x.s) := hxb.cell 1
        have d2 : w7.cell? ⟨w6.heap.size, 2, none⟩ = some (.int .i64 x.u) := hxb.cell 2
        have d3 : w7.cell? ⟨w6.heap.size, 3, none⟩ = some (.int .i64 x.o) := hxb.cell 3
        have d4 : w7.cell? ⟨w6.heap.size, 4, none⟩ = some (.bool x.has) := hxb.cell 4
        have d5 : w7.cell? ⟨w6.heap.size, 5, none⟩ = some (.slice A3 x.v.length c3) := hxb.cell 5
        have k0' : w7.cell? ⟨rb, o1 + j * 2, none⟩ = some (.int .u8 (kd.toNat : Int)) := (hb67.cell (p := ⟨rb, o1 + j * 2, none⟩) (block_lt k0)).trans k0
        have b3' : w7.cell? ⟨b5, 3, none⟩ = some (.slice (some ⟨rb, o1, none⟩) vs.length cR) := (hb67.cell (p := ⟨b5, 3, none⟩) (block_lt b3)).trans b3
        clear ho3 hb6 hb67 hxb hval HRE k0 k1 b0 b1 b2 b3 b4
        by_cases h0 : er = 0
        · subst h0
          have e0 : (((0 : Int) != 0)) = false := rfl
          by_cases hk1 : kd = 1
          · have hkb : ((kd.toNat : Int) != 1) = false := by subst hk1; rfl
            cases hsn : (x.s == 0)
            · have hxs : x.s ≠ 0 := by simpa using hsn
              rw [if_pos (hokc.2 ⟨hk1, rfl, hxs⟩)] at hrd
              have HRD2 := Lib.hid hrd
              have hoks : OkT (layT (us.map Prod.fst) x) := okT_lay HU.out.2.2.1 (by have := (readP_ok (b := y) (by rw [HXE.out])).1; rw [HXE.out] at this; exact this)
              have HOKS := Lib.hid hoks
              have hrl := reflayN_any (AndB F w.heap.size) us.length c8 A8 us (x, A3, c3) rfl HU.out.1 (by have := HU.out.2.2.2; have := HVM.out; omega) w7 (fun k hk => Nat.lt_of_lt_of_le (HFF.out k hk) (HB.out.trans (HB67.out.mono HB.out.size)).size) (HU.out.2.1.below HB67.out) HU.out.2.2.1.srt (HVAL.out rfl)
              unfold entV at hrl
              have HRL := Lib.hid hrl
              clear hk1 hxs hrd hokc hoks hrl
              go_wp2_with fail
              refine HRL.out.mono ?_
              rintro e w8 ⟨us2, A9, c9, hus2, rfl, hc9, he9, hb8⟩
              have HU2 : Hid (us2.length ≤ c9 ∧ EnN (AndB F w.heap.size) w8 A9 us2 ∧ OkT (us2.map Prod.fst) ∧ us2.length ≤ 70000 + (j + 1)) := Lib.hid ⟨hc9, he9, by rw [hus2]; exact HOKS.out, by
                have h1 := congrArg List.length hus2
                have h2 := lay_len (us.map Prod.fst) x
                have h3 := HU.out.2.2.2
                simp only [List.length_map] at h1 h2
                omega⟩
              have HRD3 : Hid (readCs ((vs.map rcOf).drop (j + 1)) (us2.map Prod.fst) = Q) := Lib.hid (by rw [hus2]; exact HRD2.out)
              have hb68 : Below wr.heap.size wr w8 := HB67.out.trans (hb8.mono HB67.out.size)
              have HB8 : Hid (Below w0.heap.size w0 w8) := Lib.hid (HB.out.trans (hb68.mono HB.out.size))
              have HB84 : Hid (Below w4.heap.size w4 w8) := Lib.hid (HB4.out.trans (hb68.mono HB4.out.size))
              clear hus2 hc9 he9 hb8 hb68 d0 d1 d2 d3 d4 d5 k0' b3' hw7
              go_wp2
              go_roundw
              case rel => exact ⟨j + 1, us2, A9, c9, by omega, rfl, by go_num, HU2, HRD3, HB8, HB84⟩
              case measure => simp [intOf]; omega
            · have hxs : ¬ (x.s ≠ 0) := by simpa using hsn
              have HKR := Lib.hid (HBK.out.below (HB.out.trans (HB67.out.mono HB.out.size)) HBK.out.lt)
              have HF := Lib.hid (set8_fin HKR.out (.slice none 0 0) (.slice none 0 0) (.int .i64 0) (.slice none 0 0) (.int .i64 0) (.slice none 0 0) (.slice none 0 0) (.slice none 0 0))
              have HEB := Lib.hid ((HB.out.trans (HB67.out.mono HB.out.size)))
              have HNO : Hid (Q = none) := Lib.hid (by rw [← hrd, if_neg (fun h => hxs (hokc.1 h).2.2)])
              have HZ : w.heap.size < w7.heap.size := HKR.out.lt
              have r0 := HKR.out.cell 0
              have z0 := HKR.out.frozen 0
              have r1 := HKR.out.cell 1
              have z1 := HKR.out.frozen 1
              have r2 := HKR.out.cell 2
              have z2 := HKR.out.frozen 2
              have r3 := HKR.out.cell 3
              have z3 := HKR.out.frozen 3
              have r4 := HKR.out.cell 4
              have z4 := HKR.out.frozen 4
              have r5 := HKR.out.cell 5
              have z5 := HKR.out.frozen 5
              have r6 := HKR.out.cell 6
              have z6 := HKR.out.frozen 6
              have r7 := HKR.out.cell 7
              have z7 := HKR.out.frozen 7
              go_wp2
              obtain ⟨W8, hW8⟩ : ∃ W, set8 w7 w.heap.size (.slice none 0 0) (.slice none 0 0) (.int .i64 0) (.slice none 0 0) (.int .i64 0) (.slice none 0 0) (.slice none 0 0) (.slice none 0 0) = W := ⟨_, rfl⟩
              rw [hW8] at HF
              unfold set8 at hW8
              rw [hW8]
              have g0 := HF.out.1.cell 0
              have g1 := HF.out.1.cell 1
              have g2 := HF.out.1.cell 2
              have g3 := HF.out.1.cell 3
              have g4 := HF.out.1.cell 4
              have g5 := HF.out.1.cell 5
              have g6 := HF.out.1.cell 6
              have g7 := HF.out.1.cell 7
              (try simp only [Exit.inBlock, Exit.then])
              refine bodyPost_ret (v := .tuple #[.agg #[.slice none 0 0, .slice none 0 0, .int .i64 0, .slice none 0 0, .int .i64 0, .slice none 0 0, .slice none 0 0, .slice none 0 0], .int .i64 0, .int .i64 11]) (by simp [results, Tryz.results58, go_sem, g0, g1, g2, g3, g4, g5, g6, g7]) rfl ?_
              exact Or.inr ⟨HQ.out.trans HNO.out, rfl, HF.out.2.2.1 _ (HB00.out.trans (HEB.out.mono HB00.out.size)) (Nat.le_refl _)⟩
          · have hkb : ((kd.toNat : Int) != 1) = true := by
              simp only [bne_iff_ne, ne_eq]
              intro h
              exact hk1 (by apply UInt8.toNat_inj.1; have : (1 : UInt8).toNat = 1 := rfl; omega)
            have HKR := Lib.hid (HBK.out.below (HB.out.trans (HB67.out.mono HB.out.size)) HBK.out.lt)
            have HF := Lib.hid (set8_fin HKR.out (.slice none 0 0) (.slice none 0 0) (.int .i64 0) (.slice none 0 0) (.int .i64 0) (.slice none 0 0) (.slice none 0 0) (.slice none 0 0))
            have HEB := Lib.hid ((HB.out.trans (HB67.out.mono HB.out.size)))
            have HNO : Hid (Q = none) := Lib.hid (by rw [← hrd, if_neg (fun h => hk1 (hokc.1 h).1)])
            have HZ : w.heap.size < w7.heap.size := HKR.out.lt
            have r0 := HKR.out.cell 0
            have z0 := HKR.out.frozen 0
            have r1 := HKR.out.cell 1
            have z1 := HKR.out.frozen 1
            have r2 := HKR.out.cell 2
            have z2 := HKR.out.frozen 2
            have r3 := HKR.out.cell 3
            have z3 := HKR.out.frozen 3
            have r4 := HKR.out.cell 4
            have z4 := HKR.out.frozen 4
            have r5 := HKR.out.cell 5
            have z5 := HKR.out.frozen 5
            have r6 := HKR.out.cell 6
            have z6 := HKR.out.frozen 6
            have r7 := HKR.out.cell 7
            have z7 := HKR.out.frozen 7
            go_wp2
            obtain ⟨W8, hW8⟩ : ∃ W, set8 w7 w.heap.size (.slice none 0 0) (.slice none 0 0) (.int .i64 0) (.slice none 0 0) (.int .i64 0) (.slice none 0 0) (.slice none 0 0) (.slice none 0 0) = W := ⟨_, rfl⟩
            rw [hW8] at HF
            unfold set8 at hW8
            rw [hW8]
            have g0 := HF.out.1.cell 0
            have g1 := HF.out.1.cell 1
            have g2 := HF.out.1.cell 2
            have g3 := HF.out.1.cell 3
            have g4 := HF.out.1.cell 4
            have g5 := HF.out.1.cell 5
            have g6 := HF.out.1.cell 6
            have g7 := HF.out.1.cell 7
            (try simp only [Exit.inBlock, Exit.then])
            refine bodyPost_ret (v := .tuple #[.agg #[.slice none 0 0, .slice none 0 0, .int .i64 0, .slice none 0 0, .int .i64 0, .slice none 0 0, .slice none 0 0, .slice none 0 0], .int .i64 0, .int .i64 11]) (by simp [results, Tryz.results58, go_sem, g0, g1, g2, g3, g4, g5, g6, g7]) rfl ?_
            exact Or.inr ⟨HQ.out.trans HNO.out, rfl, HF.out.2.2.1 _ (HB00.out.trans (HEB.out.mono HB00.out.size)) (Nat.le_refl _)⟩
        · have e0 : (er != 0) = true := by simpa using h0
          have HKR := Lib.hid (HBK.out.below (HB.out.trans (HB67.out.mono HB.out.size)) HBK.out.lt)
          have HF := Lib.hid (set8_fin HKR.out (.slice none 0 0) (.slice none 0 0) (.int .i64 0) (.slice none 0 0) (.int .i64 0) (.slice none 0 0) (.slice none 0 0) (.slice none 0 0))
          have HEB := Lib.hid ((HB.out.trans (HB67.out.mono HB.out.size)))
          have HNO : Hid (Q = none) := Lib.hid (by rw [← hrd, if_neg (fun h => h0 (hokc.1 h).2.1)])
          have HZ : w.heap.size < w7.heap.size := HKR.out.lt
          have r0 := HKR.out.cell 0
          have z0 := HKR.out.frozen 0
          have r1 := HKR.out.cell 1
          have z1 := HKR.out.frozen 1
          have r2 := HKR.out.cell 2
          have z2 := HKR.out.frozen 2
          have r3 := HKR.out.cell 3
          have z3 := HKR.out.frozen 3
          have r4 := HKR.out.cell 4
          have z4 := HKR.out.frozen 4
          have r5 := HKR.out.cell 5
          have z5 := HKR.out.frozen 5
          have r6 := HKR.out.cell 6
          have z6 := HKR.out.frozen 6
          have r7 := HKR.out.cell 7
          have z7 := HKR.out.frozen 7
          go_wp2
          obtain ⟨W8, hW8⟩ : ∃ W, set8 w7 w.heap.size (.slice none 0 0) (.slice none 0 0) (.int .i64 0) (.slice none 0 0) (.int .i64 0) (.slice none 0 0) (.slice none 0 0) (.slice none 0 0) = W := ⟨_, rfl⟩
          rw [hW8] at HF
          unfold set8 at hW8
          rw [hW8]
          have g0 := HF.out.1.cell 0
          have g1 := HF.out.1.cell 1
          have g2 := HF.out.1.cell 2
          have g3 := HF.out.1.cell 3
          have g4 := HF.out.1.cell 4
          have g5 := HF.out.1.cell 5
          have g6 := HF.out.1.cell 6
          have g7 := HF.out.1.cell 7
          (try simp only [Exit.inBlock, Exit.then])
          refine bodyPost_ret (v := .tuple #[.agg #[.slice none 0 0, .slice none 0 0, .int .i64 0, .slice none 0 0, .int .i64 0, .slice none 0 0, .slice none 0 0, .slice none 0 0], .int .i64 0, .int .i64 11]) (by simp [results, Tryz.results58, go_sem, g0, g1, g2, g3, g4, g5, g6, g7]) rfl ?_
          exact Or.inr ⟨HQ.out.trans HNO.out, rfl, HF.out.2.2.1 _ (HB00.out.trans (HEB.out.mono HB00.out.size)) (Nat.le_refl _)⟩
      · obtain rfl : j = vs.length := by omega
        have hrd := HRD.out
        rw [List.drop_of_length_le (by rw [List.length_map]; exact Nat.le_refl _)] at hrd
        have HQS : Hid (Q = some (us.map Prod.fst)) := Lib.hid hrd.symm
        have hji2 : ¬ (vs.length : Int) < (vs.length : Int) := by omega
        have HKR := Lib.hid (HBK.out.below HB.out HBK.out.lt)
        have HF := Lib.hid (set8_fin HKR.out (.slice AL s cL) (.slice none 0 0) (.int .i64 0) (.slice R vs.length cR) (.int .i64 (vs.length : Int)) (.slice A8 us.length c8) (.slice A8 us.length c8) (.slice none 0 0))
        have HZ : w.heap.size < wr.heap.size := HKR.out.lt
        have r0 := HKR.out.cell 0
        have z0 := HKR.out.frozen 0
        have r1 := HKR.out.cell 1
        have z1 := HKR.out.frozen 1
        have r2 := HKR.out.cell 2
        have z2 := HKR.out.frozen 2
        have r3 := HKR.out.cell 3
        have z3 := HKR.out.frozen 3
        have r4 := HKR.out.cell 4
        have z4 := HKR.out.frozen 4
        have r5 := HKR.out.cell 5
        have z5 := HKR.out.frozen 5
        have r6 := HKR.out.cell 6
        have z6 := HKR.out.frozen 6
        have r7 := HKR.out.cell 7
        have z7 := HKR.out.frozen 7
        clear hrd
        go_wp2
        have HTC : Hid (Touch (AndB F w.heap.size) wr (set8 wr w.heap.size (.slice AL s cL) (.slice none 0 0) (.int .i64 0) (.slice R vs.length cR) (.int .i64 (vs.length : Int)) (.slice A8 us.length c8) (.slice A8 us.length c8) (.slice none 0 0))) := Lib.hid (set8_touch _ _ _ _ _ _ _ _)
        obtain ⟨W8, hW8⟩ : ∃ W, set8 wr w.heap.size (.slice AL s cL) (.slice none 0 0) (.int .i64 0) (.slice R vs.length cR) (.int .i64 (vs.length : Int)) (.slice A8 us.length c8) (.slice A8 us.length c8) (.slice none 0 0) = W := ⟨_, rfl⟩
        rw [hW8] at HF HTC
        unfold set8 at hW8
        rw [hW8]
        have g0 := HF.out.1.cell 0
        have g1 := HF.out.1.cell 1
        have g2 := HF.out.1.cell 2
        have g3 := HF.out.1.cell 3
        have g4 := HF.out.1.cell 4
        have g5 := HF.out.1.cell 5
        have g6 := HF.out.1.cell 6
        have g7 := HF.out.1.cell 7
        (try simp only [Exit.inBlock, Exit.then])
        refine bodyPost_ret (v := .tuple #[.agg #[.slice AL s cL, .slice none 0 0, .int .i64 0, .slice R vs.length cR, .int .i64 (vs.length : Int), .slice A8 us.length c8, .slice A8 us.length c8, .slice none 0 0], .int .i64 ((X.length : Int) - (s : Int)), .int .i64 0]) (by simp [results, Tryz.results58, go_sem, g0, g1, g2, g3, g4, g5, g6, g7]) rfl ?_
        refine Or.inl ⟨us, A8, c8, AL, cL, R, cR, vs, HQ.out.trans HQS.out, HVS.out, ?_, HU.out.1, HU.out.2.1.to (fun k hk => Or.inl (Or.inl hk)) HTC.out, ?_, HF.out.2.2.1 _ (HB00.out.trans (HB.out.mono HB00.out.size)) (Nat.le_refl _)⟩
        · rw [HS.out]
        · rw [HS.out]
          exact (HAL.out wr HB4.out).step HTC.out (fun k hk => Or.inl (Or.inl hk))
  · have hm1 : (((q + 1 : Nat) : Int) - 1) = (q : Int) := by omega
    rw [hm1]
    have hqv1 : q < vs.length := by have := HPL.out; omega
    obtain ⟨rb, o1, hR, -, hc⟩ := recs_open (HIR.out w4 (Below.refl _ _)) (by omega)
    obtain ⟨k0, k1⟩ := hc q hqv1
    have hrow := HRS.out w4 (Below.refl _ _) vs[q] (List.getElem_mem hqv1)
    have hyl := HSH.out vs[q] (List.getElem_mem hqv1)
    have hlo : lastO (vs.map rcOf) (q + 1) = vs[q].2.2.1 := by
      simp only [lastO]
      rw [List.getElem?_map, List.getElem?_eq_getElem hqv1]
      rfl
    rw [hlo] at hqv
    obtain ⟨⟨kd, A2, y, c2⟩, hy⟩ : ∃ y, vs[q] = y := ⟨_, rfl⟩
    rw [hy] at k0 k1 hrow hyl hqv
    simp only at k0 k1 hrow hyl hqv
    obtain ⟨⟨l, er⟩, hle⟩ : ∃ r, allA getR y = r := ⟨_, rfl⟩
    unfold snap8 at hqv
    rw [hle] at hqv
    simp only at hqv
    have hlen : l.length ≤ 65536 := by
      have := allF_len getR y.length y
      unfold allA at hle
      rw [hle] at this
      simp only at this
      omega
    have hrl : ∀ x ∈ l, x.length ≤ 65536 := fun x hx => allF_row y.length y x (by unfold allA at hle; rw [hle]; exact hx)
    have hrw := refrowsC_any w4.heap.size c2 y.length A2 y rfl w4 hrow.1 (Nat.le_refl _) (by omega) hrow.2
    rw [hle] at hrw
    have HRW := Lib.hid hrw
    have HK4 := Lib.hid (HB5K.out)
    have b3 : w4.cell? ⟨b5, 3, none⟩ = some (.slice R vs.length cR) := HK4.out.cell 3
    rw [hR] at b3
    clear hR
    have hq0 : (0 : Int) ≤ (q : Int) := by omega
    have hq1 : (q : Int) < (vs.length : Int) := by omega
    have HRLEN := Lib.hid hrl
    have HLEN := Lib.hid hlen
    have HQV4 := Lib.hid hqv
    clear hm1 hc hrow hyl hlo hy hle hlen hrl hrw hqv
    go_wp2_with fail
    refine HRW.out.mono ?_
    rintro e w5 ⟨A6, c6, rows, rfl, hrs, ho6, hb45, hx6, hcx6⟩
    simp only at hrs ⊢
    have HB45 := Lib.hid hb45
    have HB05 : Hid (Below w0.heap.size w0 w5) := Lib.hid (HB04.out.trans (hb45.mono HB04.out.size))
    have hrm : rows.length ≤ 65536 := by have h1 := congrArg List.length hrs; rw [List.length_map] at h1; have := HLEN.out; omega
    have HRM := Lib.hid hrm
    have hri : (rows.length : Int) ≤ 65536 := by omega
    have HRR := Lib.hid fun (W : World) (hb : Below w5.heap.size w5 W) => (((Row.of_own ho6).below hb).more hb.size)
    have HX := Lib.hid fun (W : World) (hb : Below w5.heap.size w5 W) (x : RowV) (hx : x ∈ rows) => And.intro (((hx6 x hx).below hb).more hb.size) (And.intro (hcx6 x hx) (HRLEN.out x.2.1 (by rw [← hrs]; exact List.mem_map_of_mem (f := fun x : RowV => x.2.1) hx)))
    have HRS1 := Lib.hid hrs
    clear hrs ho6 hb45 hx6 hcx6 hrm HRW k0 k1 b3
    by_cases h0 : er = 0
    · subst h0
      have e0 : (((0 : Int) != 0)) = false := rfl
      obtain ⟨Q1, hQ1⟩ : ∃ Q1, readRs l [] = Q1 := ⟨_, rfl⟩
      have HQ1 : Hid (readRs l ((([] : List EV)).map Prod.fst) = Q1) := Lib.hid hQ1
      have HQB : Hid (Q1.bind (readCs ((vs.map rcOf).drop (q + 1))) = Q) := Lib.hid (by have := HQV4.out; rw [if_pos rfl, hQ1] at this; exact this)
      clear hQ1
      go_wp2_with fail
      go_loopw [8, 11] (fun l8 i wr => ∃ (j : Nat) (us : List EV) (A : Option Addr) (c : Nat), j ≤ rows.length ∧ l8 = .slice A us.length c ∧ i = .int .i64 j ∧ Hid (us.length ≤ c ∧ EnN (AndB F w.heap.size) wr A us ∧ OkT (us.map Prod.fst) ∧ us.length ≤ j) ∧ Hid (readRs (l.drop j) (us.map Prod.fst) = Q1) ∧ Hid (Below w0.heap.size w0 wr) ∧ Hid (Below w4.heap.size w4 wr) ∧ Hid (Below w5.heap.size w5 wr)) (fun _ i _ => rows.length - (intOf i).toNat)
      case atStart => exact ⟨0, [], none, 0, Nat.zero_le _, rfl, rfl, Lib.hid ⟨Nat.le_refl _, enN_nil _ _, okT_nil, by simp⟩, Lib.hid (by rw [List.drop_zero]; exact HQ1.out), HB05, HB45, Lib.hid (Below.refl _ _)⟩
      case round =>
        obtain ⟨j, us, A8, c8, hj, rfl, rfl, HU, HRD, HB, HB4, HB5⟩ := hrel
        have hll : l.length = rows.length := by have h1 := congrArg List.length HRS1.out; rw [List.length_map] at h1; exact h1.symm
        by_cases hlt : j < rows.length
        · obtain ⟨rb, o1, rfl, -, hc⟩ := (HRR.out wr HB5.out).open_ (by simp; omega)
          have k0 := hc j (by simpa using hlt)
          rw [List.getElem_map] at k0
          have hrow := HX.out wr HB5.out rows[j] (List.getElem_mem hlt)
          have hlj : l[j]'(by omega) = rows[j].2.1 := by have h1 := HRS1.out; subst h1; rw [List.getElem_map]
          have hrd := HRD.out
          rw [readRs_drop (by omega), hlj] at hrd
          obtain ⟨⟨A2, y, c2⟩, hy⟩ : ∃ y, rows[j] = y := ⟨_, rfl⟩
          rw [hy] at k0 hrow hrd
          unfold rowV at k0
          simp only at k0 hrow hrd
          obtain ⟨⟨x, er⟩, hxe⟩ : ∃ z, readP y = z := ⟨_, rfl⟩
          have HRE := Lib.hid (refread_any y.length c2 A2 y rfl (by omega) hrow.2.1 wr hrow.1)
          rw [← read_ref, hxe] at HRE
          rw [hxe] at hrd
          simp only at hrd
          have HXE := Lib.hid hxe
          have hji : (0 : Int) ≤ (j : Int) := by omega
          have hji2 : (j : Int) < (rows.length : Int) := by omega
          clear hc hrow hy hxe hlj hll
          go_wp2_with fail
          refine HRE.out.mono ?_
          rintro e w6 ⟨A3, c3, rfl, ho3, hb6⟩
          simp only [entV] at ho3 ⊢
          obtain ⟨w7, hw7⟩ : ∃ w7, w6.alloc (.cells #[.string ⟨x.k.toArray⟩, .int .i64 x.s, .int .i64 x.u, .int .i64 x.o, .bool x.has, .slice A3 x.v.length c3] 45) = w7 := ⟨_, rfl⟩
          have hb67 : Below wr.heap.size wr w7 := by rw [← hw7]; exact hb6.alloc hb6.size _
          have hxb : Blk w7 w6.heap.size 45 #[.string ⟨x.k.toArray⟩, .int .i64 x.s, .int .i64 x.u, .int .i64 x.o, .bool x.has, .slice A3 x.v.length c3] := by rw [← hw7]; exact Blk.new _ _ _
          have hval : er = 0 → ValN (AndB F w.heap.size) w7 (x, A3, c3) := fun h0 => ValN.below (w := w6) ⟨rowN_own (fun k hk => Nat.lt_of_lt_of_le (HFF.out k hk) HB.out.size) ho3, by have := (rightE_yes (readP_ok (b := y) (by rw [HXE.out]; exact h0)).1).2.2.1; rw [HXE.out] at this; simp only at this ⊢; omega, (own_cap ho3).1⟩ (by rw [← hw7]; exact (Below.refl _ _).alloc (Nat.le_refl _) _)
          have HVAL := Lib.hid hval
          have HB67 := Lib.hid hb67
          have d0 : w7.cell? ⟨w6.heap.size, 0, none⟩ = some (.string ⟨x.k.toArray⟩) := hxb.cell 0
          have d1 : w7.cell? ⟨w6.heap.size, 1, none⟩ = some (.int .i64 x.s) := hxb.cell 1
          have d2 : w7.cell? ⟨w6.heap.size, 2, none⟩ = some (.int .i64 x.u) := hxb.cell 2
          have d3 : w7.cell? ⟨w6.heap.size, 3, none⟩ = some (.int .i64 x.o) := hxb.cell 3
          have d4 : w7.cell? ⟨w6.heap.size, 4, none⟩ = some (.bool x.has) := hxb.cell 4
          have d5 : w7.cell? ⟨w6.heap.size, 5, none⟩ = some (.slice A3 x.v.length c3) := hxb.cell 5
          clear ho3 hb6 hb67 hxb hval HRE k0
          by_cases h0 : er = 0
          · subst h0
            have e0 : (((0 : Int) != 0)) = false := rfl
            rw [if_pos rfl] at hrd
            have HRD2 := Lib.hid hrd
            have hoks : OkT (layT (us.map Prod.fst) x) := okT_lay HU.out.2.2.1 (by have := (readP_ok (b := y) (by rw [HXE.out])).1; rw [HXE.out] at this; exact this)
            have HOKS := Lib.hid hoks
            have hrl := reflayN_any (AndB F w.heap.size) us.length c8 A8 us (x, A3, c3) rfl HU.out.1 (by have := HU.out.2.2.2; have := HRM.out; omega) w7 (fun k hk => Nat.lt_of_lt_of_le (HFF.out k hk) (HB.out.trans (HB67.out.mono HB.out.size)).size) (HU.out.2.1.below HB67.out) HU.out.2.2.1.srt (HVAL.out rfl)
            unfold entV at hrl
            have HRL := Lib.hid hrl
            clear hrd hoks hrl
            go_wp2_with fail
            refine HRL.out.mono ?_
            rintro e w8 ⟨us2, A9, c9, hus2, rfl, hc9, he9, hb8⟩
            have HU2 : Hid (us2.length ≤ c9 ∧ EnN (AndB F w.heap.size) w8 A9 us2 ∧ OkT (us2.map Prod.fst) ∧ us2.length ≤ j + 1) := Lib.hid ⟨hc9, he9, by rw [hus2]; exact HOKS.out, by
              have h1 := congrArg List.length hus2
              have h2 := lay_len (us.map Prod.fst) x
              have h3 := HU.out.2.2.2
              simp only [List.length_map] at h1 h2
              omega⟩
            have HRD3 : Hid (readRs (l.drop (j + 1)) (us2.map Prod.fst) = Q1) := Lib.hid (by rw [hus2]; exact HRD2.out)
            have hb68 : Below wr.heap.size wr w8 := HB67.out.trans (hb8.mono HB67.out.size)
            have HB8 : Hid (Below w0.heap.size w0 w8) := Lib.hid (HB.out.trans (hb68.mono HB.out.size))
            have HB84 : Hid (Below w4.heap.size w4 w8) := Lib.hid (HB4.out.trans (hb68.mono HB4.out.size))
            have HB85 : Hid (Below w5.heap.size w5 w8) := Lib.hid (HB5.out.trans (hb68.mono HB5.out.size))
            clear hus2 hc9 he9 hb8 hb68 d0 d1 d2 d3 d4 d5 hw7
            go_wp2
            go_roundw
            case rel => exact ⟨j + 1, us2, A9, c9, by omega, rfl, by go_num, HU2, HRD3, HB8, HB84, HB85⟩
            case measure => simp [intOf]; omega
          · have e0 : (er != 0) = true := by simpa using h0
            have HKR := Lib.hid (HBK.out.below (HB.out.trans (HB67.out.mono HB.out.size)) HBK.out.lt)
            have HF := Lib.hid (set8_fin HKR.out (.slice none 0 0) (.slice none 0 0) (.int .i64 0) (.slice none 0 0) (.int .i64 0) (.slice none 0 0) (.slice none 0 0) (.slice none 0 0))
            have HEB := Lib.hid ((HB.out.trans (HB67.out.mono HB.out.size)))
            have HNO : Hid (Q = none) := Lib.hid (by rw [← HQB.out, ← hrd, if_neg h0]; rfl)
            have HZ : w.heap.size < w7.heap.size := HKR.out.lt
            have r0 := HKR.out.cell 0
            have z0 := HKR.out.frozen 0
            have r1 := HKR.out.cell 1
            have z1 := HKR.out.frozen 1
            have r2 := HKR.out.cell 2
            have z2 := HKR.out.frozen 2
            have r3 := HKR.out.cell 3
            have z3 := HKR.out.frozen 3
            have r4 := HKR.out.cell 4
            have z4 := HKR.out.frozen 4
            have r5 := HKR.out.cell 5
            have z5 := HKR.out.frozen 5
            have r6 := HKR.out.cell 6
            have z6 := HKR.out.frozen 6
            have r7 := HKR.out.cell 7
            have z7 := HKR.out.frozen 7
            go_wp2
            obtain ⟨W8, hW8⟩ : ∃ W, set8 w7 w.heap.size (.slice none 0 0) (.slice none 0 0) (.int .i64 0) (.slice none 0 0) (.int .i64 0) (.slice none 0 0) (.slice none 0 0) (.slice none 0 0) = W := ⟨_, rfl⟩
            rw [hW8] at HF
            unfold set8 at hW8
            rw [hW8]
            have g0 := HF.out.1.cell 0
            have g1 := HF.out.1.cell 1
            have g2 := HF.out.1.cell 2
            have g3 := HF.out.1.cell 3
            have g4 := HF.out.1.cell 4
            have g5 := HF.out.1.cell 5
            have g6 := HF.out.1.cell 6
            have g7 := HF.out.1.cell 7
            (try simp only [Exit.inBlock, Exit.then])
            refine bodyPost_ret (v := .tuple #[.agg #[.slice none 0 0, .slice none 0 0, .int .i64 0, .slice none 0 0, .int .i64 0, .slice none 0 0, .slice none 0 0, .slice none 0 0], .int .i64 0, .int .i64 11]) (by simp [results, Tryz.results58, go_sem, g0, g1, g2, g3, g4, g5, g6, g7]) rfl ?_
            exact Or.inr ⟨HQ.out.trans HNO.out, rfl, HF.out.2.2.1 _ (HB00.out.trans (HEB.out.mono HB00.out.size)) (Nat.le_refl _)⟩
        · obtain rfl : j = rows.length := by omega
          have hrd := HRD.out
          rw [List.drop_of_length_le (by omega)] at hrd
          have HQS : Hid (readCs ((vs.map rcOf).drop (q + 1)) (us.map Prod.fst) = Q) := Lib.hid (by rw [← HQB.out, ← hrd]; rfl)
          have hji2 : ¬ (rows.length : Int) < (rows.length : Int) := by omega
          have HU0 : Hid (us.length ≤ c8 ∧ EnN (AndB F w.heap.size) wr A8 us ∧ OkT (us.map Prod.fst) ∧ us.length ≤ 70000 + (q + 1)) := Lib.hid ⟨HU.out.1, HU.out.2.1, HU.out.2.2.1, by have := HU.out.2.2.2; have := HRM.out; omega⟩
          clear hrd hll
          go_wp2_with fail
          go_loopw [8, 14] (fun l i wr => ∃ (j : Nat) (us : List EV) (A : Option Addr) (c : Nat), j ≤ vs.length ∧ l = .slice A us.length c ∧ i = .int .i64 j ∧ Hid (us.length ≤ c ∧ EnN (AndB F w.heap.size) wr A us ∧ OkT (us.map Prod.fst) ∧ us.length ≤ 70000 + j) ∧ Hid (readCs ((vs.map rcOf).drop j) (us.map Prod.fst) = Q) ∧ Hid (Below w0.heap.size w0 wr) ∧ Hid (Below w4.heap.size w4 wr)) (fun _ i _ => vs.length - (intOf i).toNat)
          case atStart => exact ⟨q + 1, us, A8, c8, HPL.out, rfl, by go_num, HU0, HQS, HB, HB4⟩
          case round =>
            obtain ⟨j, us, A8, c8, hj, rfl, rfl, HU, HRD, HB, HB4⟩ := hrel
            have HK5 := Lib.hid (HB5K.out.below HB4.out HB5K.out.lt)
            have b0 : wr.cell? ⟨b5, 0, none⟩ = some (.slice AL s cL) := HK5.out.cell 0
            have b1 : wr.cell? ⟨b5, 1, none⟩ = some (.slice none 0 0) := HK5.out.cell 1
            have b2 : wr.cell? ⟨b5, 2, none⟩ = some (.int .i64 0) := HK5.out.cell 2
            have b3 : wr.cell? ⟨b5, 3, none⟩ = some (.slice R vs.length cR) := HK5.out.cell 3
            have b4 : wr.cell? ⟨b5, 4, none⟩ = some (.int .i64 (vs.length : Int)) := HK5.out.cell 4
            by_cases hlt : j < vs.length
            · obtain ⟨rb, o1, hR, -, hc⟩ := recs_open (HIR.out wr HB4.out) (by omega)
              rw [hR] at b3
              clear hR
              obtain ⟨k0, k1⟩ := hc j hlt
              have hrow := HRS.out wr HB4.out vs[j] (List.getElem_mem hlt)
              have hyl := HSH.out vs[j] (List.getElem_mem hlt)
              obtain ⟨⟨kd, A2, y, c2⟩, hy⟩ : ∃ y, vs[j] = y := ⟨_, rfl⟩
              rw [hy] at k0 k1 hrow hyl
              simp only at k0 k1 hrow hyl
              have hrd := HRD.out
              rw [readCs_drop (by simpa using hlt)] at hrd
              have hly : (vs.map rcOf)[j]'(by simpa using hlt) = (kd, y) := by rw [List.getElem_map, hy]; rfl
              rw [hly] at hrd
              simp only at hrd
              obtain ⟨⟨x, er⟩, hxe⟩ : ∃ z, readP y = z := ⟨_, rfl⟩
              have hokc : okC (kd, y) ↔ kd = 1 ∧ er = 0 ∧ x.s ≠ 0 := by unfold okC; rw [hxe]
              have HRE := Lib.hid (refread_any y.length c2 A2 y rfl (by omega) hrow.2 wr hrow.1)
              rw [← read_ref, hxe] at HRE
              rw [hxe] at hrd
              simp only at hrd
              have HXE := Lib.hid hxe
              have hji : (0 : Int) ≤ (j : Int) := by omega
              have hji2 : (j : Int) < (vs.length : Int) := by omega
              clear hc hly hrow hy hxe hyl
              go_wp2_with fail
              refine HRE.out.mono ?_
              rintro e w6 ⟨A3, c3, rfl, ho3, hb6⟩
              simp only [entV] at ho3 ⊢
              obtain ⟨w7, hw7⟩ : ∃ w7, w6.alloc (.cells #[.string ⟨x.k.toArray⟩, .int .i64 x.s, .int .i64 x.u, .int .i64 x.o, .bool x.has, .slice A3 x.v.length c3] 45) = w7 := ⟨_, rfl⟩
              have hb67 : Below wr.heap.size wr w7 := by rw [← hw7]; exact hb6.alloc hb6.size _
              have hxb : Blk w7 w6.heap.size 45 #[.string ⟨x.k.toArray⟩, .int .i64 x.s, .int .i64 x.u, .int .i64 x.o, .bool x.has, .slice A3 x.v.length c3] := by rw [← hw7]; exact Blk.new _ _ _
              have hval : er = 0 → ValN (AndB F w.heap.size) w7 (x, A3, c3) := fun h0 => ValN.below (w := w6) ⟨rowN_own (fun k hk => Nat.lt_of_lt_of_le (HFF.out k hk) HB.out.size) ho3, by have := (rightE_yes (readP_ok (b := y) (by rw [HXE.out]; exact h0)).1).2.2.1; rw [HXE.out] at this; simp only at this ⊢; omega, (own_cap ho3).1⟩ (by rw [← hw7]; exact (Below.refl _ _).alloc (Nat.le_refl _) _)
              have HVAL := Lib.hid hval
              have HB67 := Lib.hid hb67
              have d0 : w7.cell? ⟨w6.heap.size, 0, none⟩ = some (.string ⟨x.k.toArray⟩) := hxb.cell 0
              have d1 : w7.cell? ⟨w6.heap.size, 1, none⟩ = some (.int .i64 x.s) := hxb.cell 1
              have d2 : w7.cell? ⟨w6.heap.size, 2, none⟩ = some (.int .i64 x.u) := hxb.cell 2
              have d3 : w7.cell? ⟨w6.heap.size, 3, none⟩ = some (.int .i64 x.o) := hxb.cell 3
              have d4 : w7.cell? ⟨w6.heap.size, 4, none⟩ = some (.bool x.has) := hxb.cell 4
              have d5 : w7.cell? ⟨w6.heap.size, 5, none⟩ = some (.slice A3 x.v.length c3) := hxb.cell 5
              have k0' : w7.cell? ⟨rb, o1 + j * 2, none⟩ = some (.int .u8 (kd.toNat : Int)) := (hb67.cell (p := ⟨rb, o1 + j * 2, none⟩) (block_lt k0)).trans k0
              have b3' : w7.cell? ⟨b5, 3, none⟩ = some (.slice (some ⟨rb, o1, none⟩) vs.length cR) := (hb67.cell (p := ⟨b5, 3, none⟩) (block_lt b3)).trans b3
              clear ho3 hb6 hb67 hxb hval HRE k0 k1 b0 b1 b2 b3 b4
              by_cases h0 : er = 0
              · subst h0
                have e0 : (((0 : Int) != 0)) = false := rfl
                by_cases hk1 : kd = 1
                · have hkb : ((kd.toNat : Int) != 1) = false := by subst hk1; rfl
                  cases hsn : (x.s == 0)
                  · have hxs : x.s ≠ 0 := by simpa using hsn
                    rw [if_pos (hokc.2 ⟨hk1, rfl, hxs⟩)] at hrd
                    have HRD2 := Lib.hid hrd
                    have hoks : OkT (layT (us.map Prod.fst) x) := okT_lay HU.out.2.2.1 (by have := (readP_ok (b := y) (by rw [HXE.out])).1; rw [HXE.out] at this; exact this)
                    have HOKS := Lib.hid hoks
                    have hrl := reflayN_any (AndB F w.heap.size) us.length c8 A8 us (x, A3, c3) rfl HU.out.1 (by have := HU.out.2.2.2; have := HVM.out; omega) w7 (fun k hk => Nat.lt_of_lt_of_le (HFF.out k hk) (HB.out.trans (HB67.out.mono HB.out.size)).size) (HU.out.2.1.below HB67.out) HU.out.2.2.1.srt (HVAL.out rfl)
                    unfold entV at hrl
                    have HRL := Lib.hid hrl
                    clear hk1 hxs hrd hokc hoks hrl
                    go_wp2_with fail
                    refine HRL.out.mono ?_
                    rintro e w8 ⟨us2, A9, c9, hus2, rfl, hc9, he9, hb8⟩
                    have HU2 : Hid (us2.length ≤ c9 ∧ EnN (AndB F w.heap.size) w8 A9 us2 ∧ OkT (us2.map Prod.fst) ∧ us2.length ≤ 70000 + (j + 1)) := Lib.hid ⟨hc9, he9, by rw [hus2]; exact HOKS.out, by
                      have h1 := congrArg List.length hus2
                      have h2 := lay_len (us.map Prod.fst) x
                      have h3 := HU.out.2.2.2
                      simp only [List.length_map] at h1 h2
                      omega⟩
                    have HRD3 : Hid (readCs ((vs.map rcOf).drop (j + 1)) (us2.map Prod.fst) = Q) := Lib.hid (by rw [hus2]; exact HRD2.out)
                    have hb68 : Below wr.heap.size wr w8 := HB67.out.trans (hb8.mono HB67.out.size)
                    have HB8 : Hid (Below w0.heap.size w0 w8) := Lib.hid (HB.out.trans (hb68.mono HB.out.size))
                    have HB84 : Hid (Below w4.heap.size w4 w8) := Lib.hid (HB4.out.trans (hb68.mono HB4.out.size))
                    clear hus2 hc9 he9 hb8 hb68 d0 d1 d2 d3 d4 d5 k0' b3' hw7
                    go_wp2
                    go_roundw
                    case rel => exact ⟨j + 1, us2, A9, c9, by omega, rfl, by go_num, HU2, HRD3, HB8, HB84⟩
                    case measure => simp [intOf]; omega
                  · have hxs : ¬ (x.s ≠ 0) := by simpa using hsn
                    have HKR := Lib.hid (HBK.out.below (HB.out.trans (HB67.out.mono HB.out.size)) HBK.out.lt)
                    have HF := Lib.hid (set8_fin HKR.out (.slice none 0 0) (.slice none 0 0) (.int .i64 0) (.slice none 0 0) (.int .i64 0) (.slice none 0 0) (.slice none 0 0) (.slice none 0 0))
                    have HEB := Lib.hid ((HB.out.trans (HB67.out.mono HB.out.size)))
                    have HNO : Hid (Q = none) := Lib.hid (by rw [← hrd, if_neg (fun h => hxs (hokc.1 h).2.2)])
                    have HZ : w.heap.size < w7.heap.size := HKR.out.lt
                    have r0 := HKR.out.cell 0
                    have z0 := HKR.out.frozen 0
                    have r1 := HKR.out.cell 1
                    have z1 := HKR.out.frozen 1
                    have r2 := HKR.out.cell 2
                    have z2 := HKR.out.frozen 2
                    have r3 := HKR.out.cell 3
                    have z3 := HKR.out.frozen 3
                    have r4 := HKR.out.cell 4
                    have z4 := HKR.out.frozen 4
                    have r5 := HKR.out.cell 5
                    have z5 := HKR.out.frozen 5
                    have r6 := HKR.out.cell 6
                    have z6 := HKR.out.frozen 6
                    have r7 := HKR.out.cell 7
                    have z7 := HKR.out.frozen 7
                    go_wp2
                    obtain ⟨W8, hW8⟩ : ∃ W, set8 w7 w.heap.size (.slice none 0 0) (.slice none 0 0) (.int .i64 0) (.slice none 0 0) (.int .i64 0) (.slice none 0 0) (.slice none 0 0) (.slice none 0 0) = W := ⟨_, rfl⟩
                    rw [hW8] at HF
                    unfold set8 at hW8
                    rw [hW8]
                    have g0 := HF.out.1.cell 0
                    have g1 := HF.out.1.cell 1
                    have g2 := HF.out.1.cell 2
                    have g3 := HF.out.1.cell 3
                    have g4 := HF.out.1.cell 4
                    have g5 := HF.out.1.cell 5
                    have g6 := HF.out.1.cell 6
                    have g7 := HF.out.1.cell 7
                    (try simp only [Exit.inBlock, Exit.then])
                    refine bodyPost_ret (v := .tuple #[.agg #[.slice none 0 0, .slice none 0 0, .int .i64 0, .slice none 0 0, .int .i64 0, .slice none 0 0, .slice none 0 0, .slice none 0 0], .int .i64 0, .int .i64 11]) (by simp [results, Tryz.results58, go_sem, g0, g1, g2, g3, g4, g5, g6, g7]) rfl ?_
                    exact Or.inr ⟨HQ.out.trans HNO.out, rfl, HF.out.2.2.1 _ (HB00.out.trans (HEB.out.mono HB00.out.size)) (Nat.le_refl _)⟩
                · have hkb : ((kd.toNat : Int) != 1) = true := by
                    simp only [bne_iff_ne, ne_eq]
                    intro h
                    exact hk1 (by apply UInt8.toNat_inj.1; have : (1 : UInt8).toNat = 1 := rfl; omega)
                  have HKR := Lib.hid (HBK.out.below (HB.out.trans (HB67.out.mono HB.out.size)) HBK.out.lt)
                  have HF := Lib.hid (set8_fin HKR.out (.slice none 0 0) (.slice none 0 0) (.int .i64 0) (.slice none 0 0) (.int .i64 0) (.slice none 0 0) (.slice none 0 0) (.slice none 0 0))
                  have HEB := Lib.hid ((HB.out.trans (HB67.out.mono HB.out.size)))
                  have HNO : Hid (Q = none) := Lib.hid (by rw [← hrd, if_neg (fun h => hk1 (hokc.1 h).1)])
                  have HZ : w.heap.size < w7.heap.size := HKR.out.lt
                  have r0 := HKR.out.cell 0
                  have z0 := HKR.out.frozen 0
                  have r1 := HKR.out.cell 1
                  have z1 := HKR.out.frozen 1
                  have r2 := HKR.out.cell 2
                  have z2 := HKR.out.frozen 2
                  have r3 := HKR.out.cell 3
                  have z3 := HKR.out.frozen 3
                  have r4 := HKR.out.cell 4
                  have z4 := HKR.out.frozen 4
                  have r5 := HKR.out.cell 5
                  have z5 := HKR.out.frozen 5
                  have r6 := HKR.out.cell 6
                  have z6 := HKR.out.frozen 6
                  have r7 := HKR.out.cell 7
                  have z7 := HKR.out.frozen 7
                  go_wp2
                  obtain ⟨W8, hW8⟩ : ∃ W, set8 w7 w.heap.size (.slice none 0 0) (.slice none 0 0) (.int .i64 0) (.slice none 0 0) (.int .i64 0) (.slice none 0 0) (.slice none 0 0) (.slice none 0 0) = W := ⟨_, rfl⟩
                  rw [hW8] at HF
                  unfold set8 at hW8
                  rw [hW8]
                  have g0 := HF.out.1.cell 0
                  have g1 := HF.out.1.cell 1
                  have g2 := HF.out.1.cell 2
                  have g3 := HF.out.1.cell 3
                  have g4 := HF.out.1.cell 4
                  have g5 := HF.out.1.cell 5
                  have g6 := HF.out.1.cell 6
                  have g7 := HF.out.1.cell 7
                  (try simp only [Exit.inBlock, Exit.then])
                  refine bodyPost_ret (v := .tuple #[.agg #[.slice none 0 0, .slice none 0 0, .int .i64 0, .slice none 0 0, .int .i64 0, .slice none 0 0, .slice none 0 0, .slice none 0 0], .int .i64 0, .int .i64 11]) (by simp [results, Tryz.results58, go_sem, g0, g1, g2, g3, g4, g5, g6, g7]) rfl ?_
                  exact Or.inr ⟨HQ.out.trans HNO.out, rfl, HF.out.2.2.1 _ (HB00.out.trans (HEB.out.mono HB00.out.size)) (Nat.le_refl _)⟩
              · have e0 : (er != 0) = true := by simpa using h0
                have HKR := Lib.hid (HBK.out.below (HB.out.trans (HB67.out.mono HB.out.size)) HBK.out.lt)
                have HF := Lib.hid (set8_fin HKR.out (.slice none 0 0) (.slice none 0 0) (.int .i64 0) (.slice none 0 0) (.int .i64 0) (.slice none 0 0) (.slice none 0 0) (.slice none 0 0))
                have HEB := Lib.hid ((HB.out.trans (HB67.out.mono HB.out.size)))
                have HNO : Hid (Q = none) := Lib.hid (by rw [← hrd, if_neg (fun h => h0 (hokc.1 h).2.1)])
                have HZ : w.heap.size < w7.heap.size := HKR.out.lt
                have r0 := HKR.out.cell 0
                have z0 := HKR.out.frozen 0
                have r1 := HKR.out.cell 1
                have z1 := HKR.out.frozen 1
                have r2 := HKR.out.cell 2
                have z2 := HKR.out.frozen 2
                have r3 := HKR.out.cell 3
                have z3 := HKR.out.frozen 3
                have r4 := HKR.out.cell 4
                have z4 := HKR.out.frozen 4
                have r5 := HKR.out.cell 5
                have z5 := HKR.out.frozen 5
                have r6 := HKR.out.cell 6
                have z6 := HKR.out.frozen 6
                have r7 := HKR.out.cell 7
                have z7 := HKR.out.frozen 7
                go_wp2
                obtain ⟨W8, hW8⟩ : ∃ W, set8 w7 w.heap.size (.slice none 0 0) (.slice none 0 0) (.int .i64 0) (.slice none 0 0) (.int .i64 0) (.slice none 0 0) (.slice none 0 0) (.slice none 0 0) = W := ⟨_, rfl⟩
                rw [hW8] at HF
                unfold set8 at hW8
                rw [hW8]
                have g0 := HF.out.1.cell 0
                have g1 := HF.out.1.cell 1
                have g2 := HF.out.1.cell 2
                have g3 := HF.out.1.cell 3
                have g4 := HF.out.1.cell 4
                have g5 := HF.out.1.cell 5
                have g6 := HF.out.1.cell 6
                have g7 := HF.out.1.cell 7
                (try simp only [Exit.inBlock, Exit.then])
                refine bodyPost_ret (v := .tuple #[.agg #[.slice none 0 0, .slice none 0 0, .int .i64 0, .slice none 0 0, .int .i64 0, .slice none 0 0, .slice none 0 0, .slice none 0 0], .int .i64 0, .int .i64 11]) (by simp [results, Tryz.results58, go_sem, g0, g1, g2, g3, g4, g5, g6, g7]) rfl ?_
                exact Or.inr ⟨HQ.out.trans HNO.out, rfl, HF.out.2.2.1 _ (HB00.out.trans (HEB.out.mono HB00.out.size)) (Nat.le_refl _)⟩
            · obtain rfl : j = vs.length := by omega
              have hrd := HRD.out
              rw [List.drop_of_length_le (by rw [List.length_map]; exact Nat.le_refl _)] at hrd
              have HQS : Hid (Q = some (us.map Prod.fst)) := Lib.hid hrd.symm
              have hji2 : ¬ (vs.length : Int) < (vs.length : Int) := by omega
              have HKR := Lib.hid (HBK.out.below HB.out HBK.out.lt)
              have HF := Lib.hid (set8_fin HKR.out (.slice AL s cL) (.slice none 0 0) (.int .i64 0) (.slice R vs.length cR) (.int .i64 (vs.length : Int)) (.slice A8 us.length c8) (.slice A8 us.length c8) (.slice none 0 0))
              have HZ : w.heap.size < wr.heap.size := HKR.out.lt
              have r0 := HKR.out.cell 0
              have z0 := HKR.out.frozen 0
              have r1 := HKR.out.cell 1
              have z1 := HKR.out.frozen 1
              have r2 := HKR.out.cell 2
              have z2 := HKR.out.frozen 2
              have r3 := HKR.out.cell 3
              have z3 := HKR.out.frozen 3
              have r4 := HKR.out.cell 4
              have z4 := HKR.out.frozen 4
              have r5 := HKR.out.cell 5
              have z5 := HKR.out.frozen 5
              have r6 := HKR.out.cell 6
              have z6 := HKR.out.frozen 6
              have r7 := HKR.out.cell 7
              have z7 := HKR.out.frozen 7
              clear hrd
              go_wp2
              have HTC : Hid (Touch (AndB F w.heap.size) wr (set8 wr w.heap.size (.slice AL s cL) (.slice none 0 0) (.int .i64 0) (.slice R vs.length cR) (.int .i64 (vs.length : Int)) (.slice A8 us.length c8) (.slice A8 us.length c8) (.slice none 0 0))) := Lib.hid (set8_touch _ _ _ _ _ _ _ _)
              obtain ⟨W8, hW8⟩ : ∃ W, set8 wr w.heap.size (.slice AL s cL) (.slice none 0 0) (.int .i64 0) (.slice R vs.length cR) (.int .i64 (vs.length : Int)) (.slice A8 us.length c8) (.slice A8 us.length c8) (.slice none 0 0) = W := ⟨_, rfl⟩
              rw [hW8] at HF HTC
              unfold set8 at hW8
              rw [hW8]
              have g0 := HF.out.1.cell 0
              have g1 := HF.out.1.cell 1
              have g2 := HF.out.1.cell 2
              have g3 := HF.out.1.cell 3
              have g4 := HF.out.1.cell 4
              have g5 := HF.out.1.cell 5
              have g6 := HF.out.1.cell 6
              have g7 := HF.out.1.cell 7
              (try simp only [Exit.inBlock, Exit.then])
              refine bodyPost_ret (v := .tuple #[.agg #[.slice AL s cL, .slice none 0 0, .int .i64 0, .slice R vs.length cR, .int .i64 (vs.length : Int), .slice A8 us.length c8, .slice A8 us.length c8, .slice none 0 0], .int .i64 ((X.length : Int) - (s : Int)), .int .i64 0]) (by simp [results, Tryz.results58, go_sem, g0, g1, g2, g3, g4, g5, g6, g7]) rfl ?_
              refine Or.inl ⟨us, A8, c8, AL, cL, R, cR, vs, HQ.out.trans HQS.out, HVS.out, ?_, HU.out.1, HU.out.2.1.to (fun k hk => Or.inl (Or.inl hk)) HTC.out, ?_, HF.out.2.2.1 _ (HB00.out.trans (HB.out.mono HB00.out.size)) (Nat.le_refl _)⟩
              · rw [HS.out]
              · rw [HS.out]
                exact (HAL.out wr HB4.out).step HTC.out (fun k hk => Or.inl (Or.inl hk))
    · have e0 : (er != 0) = true := by simpa using h0
      have HKR := Lib.hid (HBK.out.below HB05.out HBK.out.lt)
      have HF := Lib.hid (set8_fin HKR.out (.slice none 0 0) (.slice none 0 0) (.int .i64 0) (.slice none 0 0) (.int .i64 0) (.slice none 0 0) (.slice none 0 0) (.slice none 0 0))
      have HEB := Lib.hid (HB05.out)
      have HNO : Hid (Q = none) := Lib.hid (by have := HQV4.out; rw [if_neg h0] at this; exact this.symm)
      have HZ : w.heap.size < w5.heap.size := HKR.out.lt
      have r0 := HKR.out.cell 0
      have z0 := HKR.out.frozen 0
      have r1 := HKR.out.cell 1
      have z1 := HKR.out.frozen 1
      have r2 := HKR.out.cell 2
      have z2 := HKR.out.frozen 2
      have r3 := HKR.out.cell 3
      have z3 := HKR.out.frozen 3
      have r4 := HKR.out.cell 4
      have z4 := HKR.out.frozen 4
      have r5 := HKR.out.cell 5
      have z5 := HKR.out.frozen 5
      have r6 := HKR.out.cell 6
      have z6 := HKR.out.frozen 6
      have r7 := HKR.out.cell 7
      have z7 := HKR.out.frozen 7
      go_wp2
      obtain ⟨W8, hW8⟩ : ∃ W, set8 w5 w.heap.size (.slice none 0 0) (.slice none 0 0) (.int .i64 0) (.slice none 0 0) (.int .i64 0) (.slice none 0 0) (.slice none 0 0) (.slice none 0 0) = W := ⟨_, rfl⟩
      rw [hW8] at HF
      unfold set8 at hW8
      rw [hW8]
      have g0 := HF.out.1.cell 0
      have g1 := HF.out.1.cell 1
      have g2 := HF.out.1.cell 2
      have g3 := HF.out.1.cell 3
      have g4 := HF.out.1.cell 4
      have g5 := HF.out.1.cell 5
      have g6 := HF.out.1.cell 6
      have g7 := HF.out.1.cell 7
      (try simp only [Exit.inBlock, Exit.then])
      refine bodyPost_ret (v := .tuple #[.agg #[.slice none 0 0, .slice none 0 0, .int .i64 0, .slice none 0 0, .int .i64 0, .slice none 0 0, .slice none 0 0, .slice none 0 0], .int .i64 0, .int .i64 11]) (by simp [results, Tryz.results58, go_sem, g0, g1, g2, g3, g4, g5, g6, g7]) rfl ?_
      exact Or.inr ⟨HQ.out.trans HNO.out, rfl, HF.out.2.2.1 _ (HB00.out.trans (HEB.out.mono HB00.out.size)) (Nat.le_refl _)⟩
end Go.Proofs.YtndbggkpobcpjaaGreat
