/- The law TagsBack, walked. -/
import Derived.Test.YtnljljfopelopaaBackQ2
import Derived.Test.YtnljljfopelopaaNewerLaw
namespace Go.Proofs.Ytnljljfopelopaa
open Go.RowKit Mem Be
set_option maxRecDepth 100000
set_option maxHeartbeats 8000000
set_option linter.unusedVariables false
theorem key_back (key : ByteArray) : (⟨(kb key).toArray⟩ : ByteArray) = key := by
  obtain ⟨⟨l⟩⟩ := key; rfl
theorem bytes_put (y : EntP) (h : okE y) (A : Option Addr) (c : Nat) (W : World) (hW : ValOk W y.has A y.v c) :
    Calls Try.prog 23 #[entV ⟨y.k.toArray⟩ y.s y.u y.o y.has A y.v.length c] W (Made2 W.heap.size (putE y) 0 W) := by
  obtain ⟨k, s, u, o, has, v⟩ := y
  have hr : rightE (⟨k.toArray⟩ : ByteArray).size v.length s u o has = 0 := h
  have hk : kb ⟨k.toArray⟩ = k := kb_mk k
  cases has
  · have := bytes_no ⟨k.toArray⟩ s u o A v v.length c rfl hr W hW
    rw [hk] at this; exact this
  · have := bytes_yes ⟨k.toArray⟩ s u o A v v.length c rfl hr W hW
    rw [hk] at this; exact this
/-- What is read of an entry's bytes is that entry. -/
def ReadEnt (key : ByteArray) (s u o : Int) (has : Bool) (xs : List UInt8) (w : World) (E : Ending) (w' : World) : Prop :=
  ∃ A c, E = .returned (.tuple #[entV key s u o has A xs.length c, .int .i64 0]) ∧ w'.ownsRow w.heap.size 5 1 (.slice A xs.length c) xs.length (xs.map byteV) ∧ Below w.heap.size w w'
theorem read_put (key : ByteArray) (s u o : Int) (has : Bool) (xs : List UInt8) (h : okE ⟨kb key, s, u, o, has, xs⟩) (B n c : Nat) (A : Option Addr) (bs : List UInt8) (hbs : bs = putE ⟨kb key, s, u, o, has, xs⟩) (hn : n = bs.length) (hl : n ≤ 1000000) (w : World) (hr : Row w B A (bs.map byteV)) (hB : B ≤ w.heap.size) :
    Calls Try.prog 29 #[.slice A n c] w (ReadEnt key s u o has xs w) := by
  have h1 := read_any B n c A bs hn hl w hr hB
  rw [hbs, readP_put _ h] at h1
  refine h1.mono fun E w' ⟨A1, c1, he, ho, hb⟩ => ⟨A1, c1, ?_, ho, hb⟩
  rw [he]
  simp only [key_back]
theorem refsame_true2 (k : ByteArray) (s u o : Int) (h : Bool) (A A' : Option Addr) (xs : List UInt8) (n n' c c' : Nat) (hn : n = xs.length) (hn' : n' = xs.length) (w : World) (h1 : ValOk w h A xs c) (h2 : ValOk w h A' xs c') :
    Calls Try.prog 34 #[entV k s u o h A n c, entV k s u o h A' n' c'] w (IsB true w) := by
  subst hn; subst hn'; exact refsame_same k s u o h A A' xs c c' w h1 h2
theorem back_walk (key : ByteArray) (s u o : Int) (has : Bool) (A : Option Addr) (xs : List UInt8) (n c : Nat) (hn : n = xs.length) (hc : n ≤ c) (Ab : Option Addr) (bs : List UInt8) (m cb : Nat) (hm : m = bs.length) (d more : Int) (hd0 : 0 ≤ d) (hd1 : d ≤ 65535) (hm0 : 0 ≤ more) (hm1 : more ≤ 255) (w : World) (hr : Row w w.heap.size A (xs.map byteV)) (hrb : Row w w.heap.size Ab (bs.map byteV)) :
    Calls Try.prog 7 #[entV key s u o has A n c, .slice Ab m cb, .int .u16 d, .int .u8 more] w fun e w' => e = .returned (.bool true) ∧ Below w.heap.size w w' := by
  have HB0 : Hid (Below w.heap.size w (w.alloc (entO key s u o has A n c))) := Lib.hid ((Below.refl _ _).alloc (Nat.le_refl _) _)
  have KA := Lib.hid (Blk.new w 43 #[.string key, .int .i64 s, .int .i64 u, .int .i64 o, .bool has, .slice A n c])
  obtain ⟨i0, hi0, hz0, hz1, hz2⟩ := info_parts info_b
  cases hl : longE key.size n
  case true =>
    have HL := Lib.hid hl
    clear hl hn hc hm hr hrb
    go_enter Try.func7, Try.ntmps7
    go_wp2_with fail
    refine (long_val _ _ _ _ _ _ _ _ _ HL _).mono ?_
    rintro e' w1 ⟨rfl, hb⟩
    have HB1 : Hid (Below w.heap.size w w1) := Lib.hid (HB0.out.trans (hb.mono HB0.out.size))
    clear hb
    go_wp2_with fail
    refine (known_any _).mono ?_
    rintro e' w2 ⟨rfl, hb⟩
    have HB2 : Hid (Below w.heap.size w w2) := Lib.hid (HB1.out.trans (hb.mono HB1.out.size))
    clear hb
    go_wp2
    go_ret
    exact ⟨rfl, HB2.out⟩
  have HL := Lib.hid hl
  obtain ⟨hk4, hn4⟩ := longE_no hl
  by_cases hbl : (1500 : Int) < (m : Int)
  · clear hl hn hc hm hr hrb hk4 hn4
    go_enter Try.func7, Try.ntmps7
    go_wp2_with fail
    refine (long_val _ _ _ _ _ _ _ _ _ HL _).mono ?_
    rintro e' w1 ⟨rfl, hb⟩
    have HB1 : Hid (Below w.heap.size w w1) := Lib.hid (HB0.out.trans (hb.mono HB0.out.size))
    clear hb
    go_wp2_with fail
    refine (known_any _).mono ?_
    rintro e' w2 ⟨rfl, hb⟩
    have HB2 : Hid (Below w.heap.size w w2) := Lib.hid (HB1.out.trans (hb.mono HB1.out.size))
    clear hb
    go_wp2
    go_ret
    exact ⟨rfl, HB2.out⟩
  have hml : (m : Int) ≤ 1500 := by omega
  have HML : Hid (m ≤ 1000000) := Lib.hid (by omega)
  have HRB := Lib.hid hrb
  have HM := Lib.hid hm
  obtain ⟨⟨y, ey⟩, hy⟩ : ∃ y, readP bs = y := ⟨_, rfl⟩
  have HY := Lib.hid hy
  have HYC := Lib.hid (readP_back hy)
  have hyv := readP_len bs
  rw [hy] at hyv
  simp only at hyv
  have HYV : Hid (y.v.length ≤ 65536) := Lib.hid hyv
  have VA := Lib.hid ((⟨hr, by omega, by omega⟩ : ValOk w has A xs c).below HB0.out)
  have HN := Lib.hid hn
  have hkl := kb_len key
  have HNI : Hid ((n : Int) ≤ 1073741824) := Lib.hid (by omega)
  have HKI : Hid ((key.size : Int) ≤ 1073741824) := Lib.hid (by omega)
  obtain ⟨rr, hrr⟩ : ∃ r, rightE key.size n s u o has = r := ⟨_, rfl⟩
  rcases rightE_02 key.size n s u o has with hq | hq
  · have hok : okE ⟨kb key, s, u, o, has, xs⟩ := by
      show rightE (kb key).length xs.length s u o has = 0
      rw [hkl, ← hn]; exact hq
    obtain ⟨P, hP⟩ : ∃ P, P = putE ⟨kb key, s, u, o, has, xs⟩ := ⟨_, rfl⟩
    have hPl : P.length ≤ 2000 := by rw [hP]; have := entB_le (kb key) s u o has xs; unfold putE; simp only; omega
    have hP0 : 0 < P.length := by
      rw [hP]; unfold putE entB rowB truthB; simp only [List.length_append, List.length_cons]; omega
    have HBY : Hid (∀ W, ValOk W has A xs c → Calls Try.prog 23 #[entV key s u o has A n c] W (Made2 W.heap.size P 0 W)) := Lib.hid (by
      intro W hW
      rw [hP]
      cases has
      · exact bytes_no key s u o A xs n c hn hq W hW
      · exact bytes_yes key s u o A xs n c hn hq W hW)
    obtain ⟨q, hq2⟩ : ∃ q : Nat, q = (d % (P.length : Int)).toNat := ⟨_, rfl⟩
    have hq0 : d % (P.length : Int) = (q : Int) := by have := Int.emod_nonneg d (b := (P.length : Int)) (by omega); omega
    have hql : q < P.length := by have := Int.emod_lt_of_pos d (show (0 : Int) < (P.length : Int) by omega); omega
    have hPi : (0 : Int) < (P.length : Int) := by omega
    have hPi2 : (P.length : Int) ≤ 2000 := by omega
    have hPe : ((P.length : Int) == 0) = false := by rw [beq_eq_false_iff_ne]; omega
    have hPe2 : (P.length == 0) = false := by rw [beq_eq_false_iff_ne]; omega
    have HPQ : Hid (q < P.length) := Lib.hid hql
    have HPL : Hid (P.length ≤ 2000) := Lib.hid hPl
    have HC12 : Hid (readP (P.take q) = (entP0, 12)) := Lib.hid (by rw [hP]; exact readP_cut _ hok q (by rw [← hP]; exact hql))
    have HC11 : Hid (readP (P ++ [UInt8.ofNat more.toNat]) = (entP0, 11)) := Lib.hid (by rw [hP]; exact readP_more _ hok _)
    have HPP := Lib.hid hP
    have HOK := Lib.hid hok
    have HQI : Hid ((q : Int) < (P.length : Int)) := Lib.hid (by omega)
    clear hl hn hc hm hr hrb hk4 hn4 hbl hy hyv hq hok hP hPl hP0 hrr hq2 hql hkl
    go_enter Try.func7, Try.ntmps7
    go_wp2_with fail
    refine (long_val _ _ _ _ _ _ _ _ _ HL _).mono ?_
    rintro e' w1 ⟨rfl, hb⟩
    have HB1 : Hid (Below w.heap.size w w1) := Lib.hid (HB0.out.trans (hb.mono HB0.out.size))
    have KA1 := Lib.hid (KA.out.below hb KA.out.lt)
    have VA1 := Lib.hid (VA.out.below hb)
    clear hb
    have a0 : w1.cell? ⟨w.heap.size, 0, none⟩ = some (.string key) := KA1.out.cell 0
    have a1 : w1.cell? ⟨w.heap.size, 1, none⟩ = some (.int .i64 s) := KA1.out.cell 1
    have a2 : w1.cell? ⟨w.heap.size, 2, none⟩ = some (.int .i64 u) := KA1.out.cell 2
    have a3 : w1.cell? ⟨w.heap.size, 3, none⟩ = some (.int .i64 o) := KA1.out.cell 3
    have a4 : w1.cell? ⟨w.heap.size, 4, none⟩ = some (.bool has) := KA1.out.cell 4
    have a5 : w1.cell? ⟨w.heap.size, 5, none⟩ = some (.slice A n c) := KA1.out.cell 5
    go_wp2_with fail
    refine (HBY.out _ VA1.out).mono ?_
    rintro e' w2 ⟨A2, c2, rfl, ho, hb⟩
    have HB2 : Hid (Below w.heap.size w w2) := Lib.hid (HB1.out.trans (hb.mono HB1.out.size))
    have KA2 := Lib.hid (KA1.out.below hb KA1.out.lt)
    have VA2 := Lib.hid (VA1.out.below hb)
    have HR2 := Lib.hid (Row.of_own ho)
    have HC2 : Hid (P.length ≤ c2) := Lib.hid (own_cap ho).1
    have hs2 := hb.size
    clear ho hb a0 a1 a2 a3 a4 a5
    go_wp2_with fail
    refine (read_put key s u o has xs HOK.out w2.heap.size P.length c2 A2 P HPP.out rfl (by have := HPL.out; omega) _ HR2.out (Nat.le_refl _)).mono ?_
    rintro e' w3 ⟨A3, c3, rfl, ho, hb⟩
    have HB3 : Hid (Below w.heap.size w w3) := Lib.hid (HB2.out.trans (hb.mono HB2.out.size))
    have HB3a : Hid (Below w.heap.size w (w3.alloc (entO key s u o has A3 xs.length c3))) := Lib.hid (HB3.out.alloc HB3.out.size _)
    have KA3 := Lib.hid ((KA2.out.below hb KA2.out.lt).alloc (entO key s u o has A3 xs.length c3))
    have K11 := Lib.hid (Blk.new w3 43 #[.string key, .int .i64 s, .int .i64 u, .int .i64 o, .bool has, .slice A3 xs.length c3])
    have VA3 := Lib.hid ((VA2.out.below hb).below ((Below.refl _ _).alloc (Nat.le_refl _) (entO key s u o has A3 xs.length c3)))
    have hxl := (VA2.out).len
    have V11 : Hid (ValOk (w3.alloc (entO key s u o has A3 xs.length c3)) has A3 xs c3) := Lib.hid ((val_of_own (has := has) ho hxl).below ((Below.refl _ _).alloc (Nat.le_refl _) (entO key s u o has A3 xs.length c3)))
    have HR3 := Lib.hid ((HR2.out.below hb).alloc (by have := hb.size; omega) (entO key s u o has A3 xs.length c3))
    have hs3 : w2.heap.size ≤ w3.heap.size := hb.size
    clear ho hb hxl
    have hcut := fun W => run_cut_h (P := Try.prog) (w := W) 39 5 _ _ Try.underlying39 info_b A2 P.length c2 q (by have := HPQ.out; have := HC2.out; omega)
    go_wp2_with fail
    refine (read_any w2.heap.size q c2 A2 (P.take q) (by rw [List.length_take]; have := HPQ.out; omega) (by have := HPQ.out; have := HPL.out; omega) _ (by have := take_row HR3.out q; rw [← List.map_take] at this; exact this) (by simp; omega)).mono ?_
    rw [HC12.out]
    rintro e' w4 ⟨A4, c4, rfl, ho, hb⟩
    have HB4 : Hid (Below w.heap.size w w4) := Lib.hid (HB3a.out.trans (hb.mono HB3a.out.size))
    have HB4a : Hid (Below w.heap.size w (w4.alloc (entO ⟨entP0.k.toArray⟩ entP0.s entP0.u entP0.o entP0.has A4 entP0.v.length c4))) := Lib.hid (HB4.out.alloc HB4.out.size _)
    have KA4 := Lib.hid ((KA3.out.below hb KA3.out.lt).alloc (entO ⟨entP0.k.toArray⟩ entP0.s entP0.u entP0.o entP0.has A4 entP0.v.length c4))
    have K114 := Lib.hid ((K11.out.below hb K11.out.lt).alloc (entO ⟨entP0.k.toArray⟩ entP0.s entP0.u entP0.o entP0.has A4 entP0.v.length c4))
    have hb4 : Below (w3.alloc (entO key s u o has A3 xs.length c3)).heap.size (w3.alloc (entO key s u o has A3 xs.length c3)) (w4.alloc (entO ⟨entP0.k.toArray⟩ entP0.s entP0.u entP0.o entP0.has A4 entP0.v.length c4)) := hb.alloc hb.size _
    have VA4 := Lib.hid (VA3.out.below hb4)
    have V114 := Lib.hid (V11.out.below hb4)
    have HR4 := Lib.hid (HR3.out.below (hb4.mono (by simp; omega)))
    have hs4 : w3.heap.size + 1 ≤ w4.heap.size := by have := hb.size; simp at this; omega
    clear ho hb hb4 hcut
    go_wp2_with fail
    refine (copyb_any w2.heap.size c2 P.length A2 P rfl _ HR4.out (by simp; omega) (by have := HPL.out; omega)).mono ?_
    rintro e' w5 ⟨A5, c5, rfl, ho, hb⟩
    have HB5 : Hid (Below w.heap.size w w5) := Lib.hid (HB4a.out.trans (hb.mono HB4a.out.size))
    have KA5 := Lib.hid (KA4.out.below hb KA4.out.lt)
    have K115 := Lib.hid (K114.out.below hb K114.out.lt)
    have VA5 := Lib.hid (VA4.out.below hb)
    have V115 := Lib.hid (V114.out.below hb)
    have HO5 := Lib.hid ho
    have HBB : Hid (Below (w4.alloc (entO ⟨entP0.k.toArray⟩ entP0.s entP0.u entP0.o entP0.has A4 entP0.v.length c4)).heap.size (w4.alloc (entO ⟨entP0.k.toArray⟩ entP0.s entP0.u entP0.o entP0.has A4 entP0.v.length c4)) w5) := Lib.hid hb
    have HS5 : Hid ((w4.alloc (entO ⟨entP0.k.toArray⟩ entP0.s entP0.u entP0.o entP0.has A4 entP0.v.length c4)).heap.size ≤ w5.heap.size) := Lib.hid hb.size
    have hmb : ((UInt8.ofNat more.toNat).toNat : Int) = more := by rw [UInt8.toNat_ofNat']; omega
    obtain ⟨b, hbb⟩ : ∃ b, UInt8.ofNat more.toNat = b := ⟨_, rfl⟩
    rw [hbb] at hmb HC11
    have HMB : Hid ([Value.int .u8 more] = [byteV b]) := Lib.hid (by unfold byteV; rw [hmb])
    clear ho hb hmb hbb
    go_wp2_with (at_builtin; refine wpList_app _ rfl _ _ 39 rfl (w4.alloc (entO ⟨entP0.k.toArray⟩ entP0.s entP0.u entP0.o entP0.has A4 entP0.v.length c4)).heap.size 5 i0 (.int .u8 0) 1 Try.underlying39 hi0 hz0 hz1 hz2 rfl _ _ _ rfl (HO5.out.alloc _) (w5.heap.size + 1) _ 1 1 [byteV b] rfl rfl (row_cells HMB.out) (by simp [byteV, Value.oneCell']) (by have := HPL.out; unfold maxLen; omega) (by have := HPL.out; omega) (by have := HS5.out; simp at this ⊢; omega) ?_)
    intro v' w6 hown hgr _
    obtain ⟨A6, c6, rfl, ho6⟩ := own_of (P ++ [b]) hown (by simp)
    have HB6 : Hid (Below w.heap.size w w6) := Lib.hid (below_own (HB5.out.alloc HB5.out.size _) hgr (HO5.out.alloc _) (Nat.le_refl _) HB4a.out.size)
    have KA6 := Lib.hid (blk_own (KA5.out.alloc _) hgr (HO5.out.alloc _) KA4.out.lt)
    have K116 := Lib.hid (blk_own (K115.out.alloc _) hgr (HO5.out.alloc _) K114.out.lt)
    have RA6 : Hid (Row w6 (w4.alloc (entO ⟨entP0.k.toArray⟩ entP0.s entP0.u entP0.o entP0.has A4 entP0.v.length c4)).heap.size A (xs.map byteV)) := Lib.hid (((VA4.out.row.below (show Below (w4.alloc (entO ⟨entP0.k.toArray⟩ entP0.s entP0.u entP0.o entP0.has A4 entP0.v.length c4)).heap.size (w4.alloc (entO ⟨entP0.k.toArray⟩ entP0.s entP0.u entP0.o entP0.has A4 entP0.v.length c4)) w5 from HBB.out)).alloc (by have := HS5.out; omega) _).grownBy hgr (by have := HS5.out; simp at this ⊢; omega) (fun k hk => (HO5.out.lt k hk).1))
    have R116 : Hid (Row w6 (w4.alloc (entO ⟨entP0.k.toArray⟩ entP0.s entP0.u entP0.o entP0.has A4 entP0.v.length c4)).heap.size A3 (xs.map byteV)) := Lib.hid (((V114.out.row.below (show Below (w4.alloc (entO ⟨entP0.k.toArray⟩ entP0.s entP0.u entP0.o entP0.has A4 entP0.v.length c4)).heap.size (w4.alloc (entO ⟨entP0.k.toArray⟩ entP0.s entP0.u entP0.o entP0.has A4 entP0.v.length c4)) w5 from HBB.out)).alloc (by have := HS5.out; omega) _).grownBy hgr (by have := HS5.out; simp at this ⊢; omega) (fun k hk => (HO5.out.lt k hk).1))
    have HR6 := Lib.hid (Row.of_own ho6)
    have hs6 : (w4.alloc (entO ⟨entP0.k.toArray⟩ entP0.s entP0.u entP0.o entP0.has A4 entP0.v.length c4)).heap.size ≤ w6.heap.size := by have q1 := hgr.size; have q2 := HS5.out; simp at q1 q2 ⊢; omega
    have VA6 : Hid (ValOk w6 has A xs c) := Lib.hid ⟨RA6.out.more hs6, VA4.out.len, VA4.out.cap⟩
    have V116 : Hid (ValOk w6 has A3 xs c3) := Lib.hid ⟨R116.out.more hs6, V114.out.len, V114.out.cap⟩
    clear hown hgr ho6 hs6
    go_wp2_with fail
    refine (read_any w6.heap.size _ c6 A6 (P ++ [b]) (by simp) (by have := HPL.out; simp; omega) _ HR6.out (Nat.le_refl _)).mono ?_
    rw [HC11.out]
    rintro e' w7 ⟨A8, c8, rfl, ho, hb⟩
    have HB7 : Hid (Below w.heap.size w w7) := Lib.hid (HB6.out.trans (hb.mono HB6.out.size))
    have HB7a : Hid (Below w.heap.size w (w7.alloc (entO ⟨entP0.k.toArray⟩ entP0.s entP0.u entP0.o entP0.has A8 entP0.v.length c8))) := Lib.hid (HB7.out.alloc HB7.out.size _)
    have hb7 : Below w6.heap.size w6 (w7.alloc (entO ⟨entP0.k.toArray⟩ entP0.s entP0.u entP0.o entP0.has A8 entP0.v.length c8)) := hb.alloc hb.size _
    have KA7 := Lib.hid (KA6.out.below hb7 KA6.out.lt)
    have K117 := Lib.hid (K116.out.below hb7 K116.out.lt)
    have VA7 := Lib.hid (VA6.out.below hb7)
    have V117 := Lib.hid (V116.out.below hb7)
    clear ho hb hb7
    have a0 : (w7.alloc (entO ⟨entP0.k.toArray⟩ entP0.s entP0.u entP0.o entP0.has A8 entP0.v.length c8)).cell? ⟨w.heap.size, 0, none⟩ = some (.string key) := KA7.out.cell 0
    have a1 : (w7.alloc (entO ⟨entP0.k.toArray⟩ entP0.s entP0.u entP0.o entP0.has A8 entP0.v.length c8)).cell? ⟨w.heap.size, 1, none⟩ = some (.int .i64 s) := KA7.out.cell 1
    have a2 : (w7.alloc (entO ⟨entP0.k.toArray⟩ entP0.s entP0.u entP0.o entP0.has A8 entP0.v.length c8)).cell? ⟨w.heap.size, 2, none⟩ = some (.int .i64 u) := KA7.out.cell 2
    have a3 : (w7.alloc (entO ⟨entP0.k.toArray⟩ entP0.s entP0.u entP0.o entP0.has A8 entP0.v.length c8)).cell? ⟨w.heap.size, 3, none⟩ = some (.int .i64 o) := KA7.out.cell 3
    have a4 : (w7.alloc (entO ⟨entP0.k.toArray⟩ entP0.s entP0.u entP0.o entP0.has A8 entP0.v.length c8)).cell? ⟨w.heap.size, 4, none⟩ = some (.bool has) := KA7.out.cell 4
    have a5 : (w7.alloc (entO ⟨entP0.k.toArray⟩ entP0.s entP0.u entP0.o entP0.has A8 entP0.v.length c8)).cell? ⟨w.heap.size, 5, none⟩ = some (.slice A n c) := KA7.out.cell 5
    have b0 : (w7.alloc (entO ⟨entP0.k.toArray⟩ entP0.s entP0.u entP0.o entP0.has A8 entP0.v.length c8)).cell? ⟨w3.heap.size, 0, none⟩ = some (.string key) := K117.out.cell 0
    have b1 : (w7.alloc (entO ⟨entP0.k.toArray⟩ entP0.s entP0.u entP0.o entP0.has A8 entP0.v.length c8)).cell? ⟨w3.heap.size, 1, none⟩ = some (.int .i64 s) := K117.out.cell 1
    have b2 : (w7.alloc (entO ⟨entP0.k.toArray⟩ entP0.s entP0.u entP0.o entP0.has A8 entP0.v.length c8)).cell? ⟨w3.heap.size, 2, none⟩ = some (.int .i64 u) := K117.out.cell 2
    have b3 : (w7.alloc (entO ⟨entP0.k.toArray⟩ entP0.s entP0.u entP0.o entP0.has A8 entP0.v.length c8)).cell? ⟨w3.heap.size, 3, none⟩ = some (.int .i64 o) := K117.out.cell 3
    have b4 : (w7.alloc (entO ⟨entP0.k.toArray⟩ entP0.s entP0.u entP0.o entP0.has A8 entP0.v.length c8)).cell? ⟨w3.heap.size, 4, none⟩ = some (.bool has) := K117.out.cell 4
    have b5 : (w7.alloc (entO ⟨entP0.k.toArray⟩ entP0.s entP0.u entP0.o entP0.has A8 entP0.v.length c8)).cell? ⟨w3.heap.size, 5, none⟩ = some (.slice A3 xs.length c3) := K117.out.cell 5
    go_wp2_with fail
    refine (refsame_true2 key s u o has A3 A xs xs.length n c3 c rfl HN.out _ V117.out VA7.out).mono ?_
    rintro e' w8 ⟨rfl, hb⟩
    have HB8 : Hid (Below w.heap.size w w8) := Lib.hid (HB7a.out.trans (hb.mono HB7a.out.size))
    clear hb a0 a1 a2 a3 a4 a5 b0 b1 b2 b3 b4 b5
    go_wp2_with fail
    refine (read_any w.heap.size m cb Ab bs HM.out HML.out _ (HRB.out.below HB8.out) HB8.out.size).mono ?_
    rw [HY.out]
    rintro e' t1 ⟨B1, d1, rfl, ho, hb⟩
    have TB1 : Hid (Below w.heap.size w t1) := Lib.hid (HB8.out.trans (hb.mono HB8.out.size))
    have TB1a : Hid (Below w.heap.size w (t1.alloc (entO ⟨y.k.toArray⟩ y.s y.u y.o y.has B1 y.v.length d1))) := Lib.hid (TB1.out.alloc TB1.out.size _)
    rcases HYC.out with ⟨hey, hy0⟩ | ⟨hey, hok, hput⟩
    · have hne : (ey != 0) = true := by simpa using hey
      subst hy0
      clear hey ho hb
      go_wp2_with fail
      refine (known_any _).mono ?_
      rintro e' t2 ⟨rfl, hb⟩
      have TB2 : Hid (Below w.heap.size w t2) := Lib.hid (TB1a.out.trans (hb.mono TB1a.out.size))
      clear hb
      go_wp2
      go_ret
      exact ⟨rfl, TB2.out⟩
    · subst hey
      have VY : Hid (ValOk (t1.alloc (entO ⟨y.k.toArray⟩ y.s y.u y.o y.has B1 y.v.length d1)) y.has B1 y.v d1) := Lib.hid ((val_of_own (has := y.has) ho (by have := HYV.out; show (y.v.length : Int) ≤ _; omega)).below ((Below.refl _ _).alloc (Nat.le_refl _) _))
      have HBY : Hid (∀ W, ValOk W y.has B1 y.v d1 → Calls Try.prog 23 #[entV ⟨y.k.toArray⟩ y.s y.u y.o y.has B1 y.v.length d1] W (Made2 W.heap.size bs 0 W)) := Lib.hid (by
        intro W hW
        have := bytes_put y hok B1 d1 W hW
        rw [hput] at this; exact this)
      clear ho hb hok hput
      go_wp2_with fail
      refine (HBY.out _ VY.out).mono ?_
      rintro e' t2 ⟨B2, d2, rfl, ho, hb⟩
      have TB2 : Hid (Below w.heap.size w t2) := Lib.hid (TB1a.out.trans (hb.mono TB1a.out.size))
      have TR2 := Lib.hid (Row.of_own ho)
      clear ho hb
      go_wp2_with fail
      refine (same_true _ _ _ _ _ _ _ _ bs bs rfl _ TR2.out (HRB.out.below TB2.out) rfl HM.out).mono ?_
      rintro e' w' ⟨rfl, rfl⟩
      go_wp2_with fail
      refine (known_any _).mono ?_
      rintro e' t3 ⟨rfl, hb⟩
      have TB3 : Hid (Below w.heap.size w t3) := Lib.hid (TB2.out.trans (hb.mono TB2.out.size))
      clear hb
      go_wp2
      go_ret
      exact ⟨rfl, TB3.out⟩
  · clear hl hn hc hm hr hrb hk4 hn4 hbl hy hyv hkl hrr
    have HBE : Hid (∀ W, Calls Try.prog 23 #[entV key s u o has A n c] W (Made2 W.heap.size [] 2 W)) := Lib.hid (fun W => bytes_err key s u o has A n c HNI.out HKI.out hq W)
    clear hq
    go_enter Try.func7, Try.ntmps7
    go_wp2_with fail
    refine (long_val _ _ _ _ _ _ _ _ _ HL _).mono ?_
    rintro e' w1 ⟨rfl, hb⟩
    have HB1 : Hid (Below w.heap.size w w1) := Lib.hid (HB0.out.trans (hb.mono HB0.out.size))
    have KA1 := Lib.hid (KA.out.below hb KA.out.lt)
    clear hb
    have a0 : w1.cell? ⟨w.heap.size, 0, none⟩ = some (.string key) := KA1.out.cell 0
    have a1 : w1.cell? ⟨w.heap.size, 1, none⟩ = some (.int .i64 s) := KA1.out.cell 1
    have a2 : w1.cell? ⟨w.heap.size, 2, none⟩ = some (.int .i64 u) := KA1.out.cell 2
    have a3 : w1.cell? ⟨w.heap.size, 3, none⟩ = some (.int .i64 o) := KA1.out.cell 3
    have a4 : w1.cell? ⟨w.heap.size, 4, none⟩ = some (.bool has) := KA1.out.cell 4
    have a5 : w1.cell? ⟨w.heap.size, 5, none⟩ = some (.slice A n c) := KA1.out.cell 5
    go_wp2_with fail
    refine (HBE.out _).mono ?_
    rintro e' w2 ⟨A2, c2, rfl, ho, hb⟩
    have HB2 : Hid (Below w.heap.size w w2) := Lib.hid (HB1.out.trans (hb.mono HB1.out.size))
    clear ho hb a0 a1 a2 a3 a4 a5
    go_wp2_with fail
    refine (read_any w.heap.size m cb Ab bs HM.out HML.out _ (HRB.out.below HB2.out) HB2.out.size).mono ?_
    rw [HY.out]
    rintro e' t1 ⟨B1, d1, rfl, ho, hb⟩
    have TB1 : Hid (Below w.heap.size w t1) := Lib.hid (HB2.out.trans (hb.mono HB2.out.size))
    have TB1a : Hid (Below w.heap.size w (t1.alloc (entO ⟨y.k.toArray⟩ y.s y.u y.o y.has B1 y.v.length d1))) := Lib.hid (TB1.out.alloc TB1.out.size _)
    rcases HYC.out with ⟨hey, hy0⟩ | ⟨hey, hok, hput⟩
    · have hne : (ey != 0) = true := by simpa using hey
      subst hy0
      clear hey ho hb
      go_wp2_with fail
      refine (known_any _).mono ?_
      rintro e' t2 ⟨rfl, hb⟩
      have TB2 : Hid (Below w.heap.size w t2) := Lib.hid (TB1a.out.trans (hb.mono TB1a.out.size))
      clear hb
      go_wp2
      go_ret
      exact ⟨rfl, TB2.out⟩
    · subst hey
      have VY : Hid (ValOk (t1.alloc (entO ⟨y.k.toArray⟩ y.s y.u y.o y.has B1 y.v.length d1)) y.has B1 y.v d1) := Lib.hid ((val_of_own (has := y.has) ho (by have := HYV.out; show (y.v.length : Int) ≤ _; omega)).below ((Below.refl _ _).alloc (Nat.le_refl _) _))
      have HBY : Hid (∀ W, ValOk W y.has B1 y.v d1 → Calls Try.prog 23 #[entV ⟨y.k.toArray⟩ y.s y.u y.o y.has B1 y.v.length d1] W (Made2 W.heap.size bs 0 W)) := Lib.hid (by
        intro W hW
        have := bytes_put y hok B1 d1 W hW
        rw [hput] at this; exact this)
      clear ho hb hok hput
      go_wp2_with fail
      refine (HBY.out _ VY.out).mono ?_
      rintro e' t2 ⟨B2, d2, rfl, ho, hb⟩
      have TB2 : Hid (Below w.heap.size w t2) := Lib.hid (TB1a.out.trans (hb.mono TB1a.out.size))
      have TR2 := Lib.hid (Row.of_own ho)
      clear ho hb
      go_wp2_with fail
      refine (same_true _ _ _ _ _ _ _ _ bs bs rfl _ TR2.out (HRB.out.below TB2.out) rfl HM.out).mono ?_
      rintro e' w' ⟨rfl, rfl⟩
      go_wp2_with fail
      refine (known_any _).mono ?_
      rintro e' t3 ⟨rfl, hb⟩
      have TB3 : Hid (Below w.heap.size w t3) := Lib.hid (TB2.out.trans (hb.mono TB2.out.size))
      clear hb
      go_wp2
      go_ret
      exact ⟨rfl, TB3.out⟩
end Go.Proofs.Ytnljljfopelopaa
