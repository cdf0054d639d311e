/- The law HashBuckets, walked. -/
import Derived.Test.YtmiihakfpldeiaaLawsA
namespace Go.Proofs.Ytmiihakfpldeiaa
open Go.RowKit Mem Be Word
set_option maxRecDepth 100000
set_option maxHeartbeats 4000000
theorem uZ_xor (k : Int) (d : Nat) (hd : d ≤ 255) : uZ (bits .xor .i64 k (d : Int)) = (((uZ k).toNat ^^^ d : Nat) : Int) := by
  have hr := u_range k
  have e1 : (BitVec.ofInt 64 k).toNat = (uZ k).toNat := by
    rw [BitVec.toNat_ofInt]; rfl
  have e2 : (BitVec.ofInt 64 (d : Int)).toNat = d := by
    rw [BitVec.ofInt_natCast, BitVec.toNat_ofNat]; exact Nat.mod_eq_of_lt (by omega)
  have hx : (uZ k).toNat ^^^ d < 2 ^ 64 := Nat.xor_lt_two_pow (by omega) (by omega)
  obtain ⟨t, ht⟩ : ∃ t, (uZ k).toNat ^^^ d = t := ⟨_, rfl⟩
  rw [ht] at hx ⊢
  show uZ (IntKind.i64.wrap ((BitVec.ofInt 64 k ^^^ BitVec.ofInt 64 (d : Int)).toNat : Int)) = _
  rw [BitVec.toNat_xor, e1, e2, ht, IntKind.wrap_i64]
  unfold uZ
  omega
theorem xor_w8 (k : Int) (d : Nat) (h1 : 1 ≤ d) (h2 : d ≤ 255) : ∃ xs a b, w8 k = xs ++ [a] ∧ w8 (bits .xor .i64 k (d : Int)) = xs ++ [b] ∧ a ≠ b := by
  have hr := u_range k
  obtain ⟨U, hU⟩ : ∃ U : Nat, (uZ k).toNat = U := ⟨_, rfl⟩
  have hUZ : uZ k = (U : Int) := by omega
  have hx := uZ_xor k d h2
  rw [hU] at hx
  have q1 : (U ^^^ d) / 256 = U / 256 := by
    have := Nat.shiftRight_xor_distrib (a := U) (b := d) (i := 8)
    rw [Nat.shiftRight_eq_div_pow, Nat.shiftRight_eq_div_pow, Nat.shiftRight_eq_div_pow] at this
    have p : (2 : Nat) ^ 8 = 256 := by decide
    rw [p] at this
    rw [this, Nat.div_eq_of_lt (a := d) (by omega), Nat.xor_zero]
  have q2 : (U ^^^ d) % 256 = U % 256 ^^^ d := by
    have := Nat.xor_mod_two_pow (a := U) (b := d) (n := 8)
    have p : (2 : Nat) ^ 8 = 256 := by decide
    rw [p] at this
    rw [this, Nat.mod_eq_of_lt (a := d) (by omega)]
  have hx8 : U % 256 ^^^ d < 2 ^ 8 := Nat.xor_lt_two_pow (by omega) (by omega)
  have hne : U % 256 ^^^ d ≠ U % 256 := by
    intro e
    have : d = 0 := xor_inj' d 0 (U % 256) (by rw [e, Nat.xor_zero])
    omega
  obtain ⟨y, hy⟩ : ∃ y, U % 256 ^^^ d = y := ⟨_, rfl⟩
  obtain ⟨V, hV⟩ : ∃ V, U ^^^ d = V := ⟨_, rfl⟩
  rw [hV] at q1 q2 hx
  rw [hy] at q2 hx8 hne
  refine ⟨be 7 ((U : Int) / 256), UInt8.ofNat ((U : Int) % 256).toNat, UInt8.ofNat ((V : Int) % 256).toNat, ?_, ?_, ?_⟩
  · unfold w8; rw [hUZ]; rfl
  · unfold w8; rw [hx]
    have e : (V : Int) / 256 = (U : Int) / 256 := by omega
    show be 7 ((V : Int) / 256) ++ _ = _
    rw [e]
  · intro e
    have b1 := byte_back (U : Int)
    have b2 := byte_back (V : Int)
    rw [e] at b1
    omega
theorem basis_sum (bs : List UInt8) : U64 (sumN basisN bs) := sum_lt _ basis_lt _
theorem point_ne (n k : Int) (d : Nat) (h1 : 1 ≤ d) (h2 : d ≤ 255) : pointN n k ≠ pointN n (bits .xor .i64 k (d : Int)) := by
  obtain ⟨xs, a, b, e1, e2, hab⟩ := xor_w8 k d h1 h2
  intro e
  unfold pointN keyN at e
  have := stir_inj _ _ (basis_sum _) (basis_sum _) e
  rw [e1, e2, ← List.append_assoc, ← List.append_assoc] at this
  exact sum_other basisN (w8 n ++ xs) [] a b basis_lt hab this
theorem point_ne' (n k : Int) (d : Nat) (h1 : 1 ≤ d) (h2 : d ≤ 255) : pointN n k ≠ pointN (bits .xor .i64 n (d : Int)) k := by
  obtain ⟨xs, a, b, e1, e2, hab⟩ := xor_w8 n d h1 h2
  intro e
  unfold pointN keyN at e
  have := stir_inj _ _ (basis_sum _) (basis_sum _) e
  rw [e1, e2, List.append_assoc, List.append_assoc, List.singleton_append, List.singleton_append] at this
  exact sum_other basisN xs (w8 k) a b basis_lt hab this
theorem words_ne {x y : Nat} (h : x ≠ y) : ((x : Int) == (y : Int)) = false := by simp; omega
theorem words_ne2 {x y : Nat} (h : x ≠ y) : ((x : Int) != (y : Int)) = true := by simp; omega
theorem buckets_walk (s : ByteArray) (n : Nat) (hn : n ≤ 65535) (node k : Int) (x : Nat) (hx : x ≤ 255) (w : World) :
    Calls Try.prog 9 #[.string s, .int .u16 (n : Int), .int .i64 node, .int .i64 k, .int .u8 (x : Int)] w fun e w' => e = .returned (.bool true) ∧ Below w.heap.size w w' := by
  by_cases h2 : 500 < s.size
  · have hg : (500 : Int) < (s.size : Int) := by omega
    clear h2
    go_enter Try.func9, Try.ntmps9
    go_wp2_with (go_at_call 10; refine (known_any _).mono ?_; rintro e w' ⟨rfl, hb⟩; have HB := Lib.hid hb; clear hb)
    go_ret
    exact ⟨rfl, HB.out⟩
  have hg : (s.size : Int) ≤ 500 := by omega
  have HS : Hid (s.size ≤ 100000) := Lib.hid (by omega)
  obtain ⟨m, hm⟩ : ∃ m : Nat, 1 + n = m := ⟨_, rfl⟩
  have m1 : (1 : Int) + (n : Int) = (m : Int) := by omega
  have m2 : 1 ≤ m := by omega
  have m3 : m ≤ 65536 := by omega
  obtain ⟨a, ha⟩ : ∃ a : Int, (keyN (kb s) : Int) % (m : Int) = a := ⟨_, rfl⟩
  have a0 : 0 ≤ a := by rw [← ha]; exact Int.emod_nonneg _ (by omega)
  have a1 : a < (m : Int) := by rw [← ha]; exact Int.emod_lt_of_pos _ (by omega)
  have HA : Hid (bucketN (keyN (kb s)) (m : Int) = (a, 0)) := Lib.hid (by unfold bucketN; rw [if_pos (by omega), ha])
  have HC : Hid (bucketN (keyN (kb s)) 1 = (0, 0)) := Lib.hid (by unfold bucketN; rw [if_pos (by omega), Int.emod_one])
  obtain ⟨r, hr⟩ : ∃ r : Nat, x % 255 = r := ⟨_, rfl⟩
  obtain ⟨d, hd⟩ : ∃ d : Nat, r + 1 = d := ⟨_, rfl⟩
  have d1 : 1 ≤ d := by omega
  have d2 : d ≤ 255 := by omega
  have g1 : (x : Int).tmod 255 = (r : Int) := by rw [Int.tmod_eq_emod_of_nonneg (by omega)]; omega
  have g2 : (x : Int) % 255 = (r : Int) := by omega
  have g3 : IntKind.u8.wrap (r : Int) = (r : Int) := by rw [IntKind.wrap_u8']; omega
  have g4 : (r : Int) + 1 = (d : Int) := by omega
  have g5 : IntKind.u8.wrap (d : Int) = (d : Int) := by rw [IntKind.wrap_u8']; omega
  have hp1 := point_ne node k d d1 d2
  have hp2 := point_ne' node k d d1 d2
  obtain ⟨k', hk'⟩ : ∃ k', bits .xor .i64 k (d : Int) = k' := ⟨_, rfl⟩
  obtain ⟨node', hn'⟩ : ∃ k', bits .xor .i64 node (d : Int) = k' := ⟨_, rfl⟩
  rw [hk'] at hp1
  rw [hn'] at hp2
  obtain ⟨p0, e0⟩ : ∃ p, pointN node k = p := ⟨_, rfl⟩
  obtain ⟨p1, e1⟩ : ∃ p, pointN node k' = p := ⟨_, rfl⟩
  obtain ⟨p2, e2⟩ : ∃ p, pointN node' k = p := ⟨_, rfl⟩
  rw [e0, e1] at hp1
  rw [e0, e2] at hp2
  have t1 := words_ne2 hp1
  have t2 := words_ne2 hp2
  have E0 := Lib.hid e0
  have E1 := Lib.hid e1
  have E2 := Lib.hid e2
  clear h2 hm ha hr hd hp1 hp2 e0 e1 e2
  go_enter Try.func9, Try.ntmps9
  go_wp2_with fail
  refine (bucket_any s _ HS.out _).mono ?_
  rw [HA.out]
  rintro e w1 ⟨rfl, hb⟩
  have HB1 := Lib.hid hb
  clear hb
  go_wp2_with fail
  refine (bucket_any s _ HS.out _).mono ?_
  rw [HA.out]
  rintro e w2 ⟨rfl, hb⟩
  have HB2 : Hid (Below w.heap.size w w2) := Lib.hid (HB1.out.trans (hb.mono HB1.out.size))
  clear hb
  go_wp2_with fail
  refine (bucket_any s _ HS.out _).mono ?_
  rw [HC.out]
  rintro e w3 ⟨rfl, hb⟩
  have HB3 : Hid (Below w.heap.size w w3) := Lib.hid (HB2.out.trans (hb.mono HB2.out.size))
  clear hb
  go_wp2_with fail
  refine (point_any node k _).mono ?_
  rw [E0.out]
  rintro e w4 ⟨rfl, hb⟩
  have HB4 : Hid (Below w.heap.size w w4) := Lib.hid (HB3.out.trans (hb.mono HB3.out.size))
  clear hb
  go_wp2_with fail
  refine (point_any node k' _).mono ?_
  rw [E1.out]
  rintro e w5 ⟨rfl, hb⟩
  have HB5 : Hid (Below w.heap.size w w5) := Lib.hid (HB4.out.trans (hb.mono HB4.out.size))
  clear hb
  go_wp2_with fail
  refine (point_any node k _).mono ?_
  rw [E0.out]
  rintro e w6 ⟨rfl, hb⟩
  have HB6 : Hid (Below w.heap.size w w6) := Lib.hid (HB5.out.trans (hb.mono HB5.out.size))
  clear hb
  go_wp2_with fail
  refine (point_any node' k _).mono ?_
  rw [E2.out]
  rintro e w7 ⟨rfl, hb⟩
  have HB7 : Hid (Below w.heap.size w w7) := Lib.hid (HB6.out.trans (hb.mono HB6.out.size))
  clear hb
  go_wp2_with fail
  refine (point_any node k _).mono ?_
  rw [E0.out]
  rintro e w8 ⟨rfl, hb⟩
  have HB8 : Hid (Below w.heap.size w w8) := Lib.hid (HB7.out.trans (hb.mono HB7.out.size))
  clear hb
  go_wp2_with fail
  refine (refpoint_any node k _).mono ?_
  rw [E0.out]
  rintro e w9 ⟨rfl, hb⟩
  have HB9 : Hid (Below w.heap.size w w9) := Lib.hid (HB8.out.trans (hb.mono HB8.out.size))
  clear hb
  go_wp2_with fail
  refine (known_any _).mono ?_
  rintro e w10 ⟨rfl, hb⟩
  have HB10 : Hid (Below w.heap.size w w10) := Lib.hid (HB9.out.trans (hb.mono HB9.out.size))
  clear hb
  go_wp2
  go_ret
  exact ⟨rfl, HB10.out⟩
end Go.Proofs.Ytmiihakfpldeiaa
