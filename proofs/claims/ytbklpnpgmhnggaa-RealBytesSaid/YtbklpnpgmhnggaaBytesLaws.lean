/- RealBytes and RealBack return true, whatever the word and the bytes; nothing that was there is changed. -/
import Derived.Test.YtbklpnpgmhnggaaReads
namespace Go.Proofs.Ytbklpnpgmhnggaa
open Go.RowKit Flo Mem
set_option maxRecDepth 10000
set_option maxHeartbeats 400000
theorem rowBA_new (a : Int) (w : World) : Row (w.alloc (.cells (BA a 8) 5)) (w.heap.size + 1) (some ⟨w.heap.size, 0, none⟩) ((bytesZ a).map byteV) :=
  row_BA a (heap_alloc_new w _) (by omega)
theorem bytes_walk (a : Int) (wa : Word a) (A : Option Addr) (bs : List UInt8) (n c : Nat) (hn : n = bs.length) (w : World) (h : Row w w.heap.size A (bs.map byteV)) :
    Calls Try.prog 6 #[.int .u64 a, .slice A n c] w fun e w' => e = .returned (.bool true) ∧ Below w.heap.size w w' := by
  subst hn
  have hf := run_frombits
  by_cases h100 : 100 < bs.length
  · have hg : (100 : Int) < (bs.length : Int) := by omega
    clear h wa h100
    go_enter Try.func6, Try.ntmps6
    go_wp2_with (go_at_call 23; refine (known_any _).mono ?_; rintro e w' ⟨rfl, rfl⟩)
    go_ret
    exact ⟨rfl, Below.refl _ _⟩
  · have hg : ¬ (100 : Int) < (bs.length : Int) := by omega
    have HA := Lib.hid wa
    have HR := Lib.hid h
    have hb := run_bits (valR bs) (word_val bs)
    have H1 := Lib.hid (rowBA_new a w)
    have H2 := Lib.hid (rowBA_new a (w.alloc (.cells (BA a 8) 5)))
    clear h wa h100
    go_enter Try.func6, Try.ntmps6
    go_wp2_with (first
      | (go_at_call 33; refine (read_any _ _ _ _ _ HR.out).mono ?_; rintro e w' ⟨rfl, rfl⟩)
      | (go_at_call 34; refine (refread_any _ _ _ _ _ HR.out).mono ?_; rintro e w' ⟨rfl, rfl⟩)
      | (go_at_call 36; refine (bytes_any _ HA.out _).mono ?_; rintro e w' ⟨rfl, rfl⟩)
      | (go_at_call 37; refine (refbytes_any _ HA.out _).mono ?_; rintro e w' ⟨rfl, rfl⟩)
      | (go_at_call 35; refine (samebytes_any _ _ _ _ _ _ _ _ (bytesZ a) (bytesZ a) _ (H1.out.alloc (by simp) _) (by simpa using H2.out) (bytesZ_len a).symm (bytesZ_len a).symm).mono ?_; rintro e w' ⟨rfl, rfl⟩)
      | (go_at_call 23; refine (known_any _).mono ?_; rintro e w' ⟨rfl, rfl⟩))
    go_ret
    exact ⟨rfl, ((Below.refl _ _).alloc (Nat.le_refl _) _).alloc (by simp) _⟩

theorem rd_bytes_take (a : Int) (h : Word a) (k : Nat) (hk : k ≤ 8) : rdZ ((bytesZ a).take k) = a / 2 ^ (8 * (8 - k)) := by
  induction k with
  | zero =>
    have h1 := h.1; have h2 := h.2
    have e : a / 2 ^ (8 * (8 - 0)) = 0 := Int.ediv_eq_zero_of_lt h1 (by have : (2 : Int) ^ (8 * (8 - 0)) = 18446744073709551616 := by decide
                                                                        omega)
    rw [e]; rfl
  | succ k ih =>
    have hl : k < (bytesZ a).length := by rw [bytesZ_len]; omega
    rw [rd_snoc _ k hl, ih (by omega)]
    have hb : (((bytesZ a)[k].toNat : Nat) : Int) = byteI a k := by
      have := byteI_range a k
      simp only [bytesZ, List.getElem_map, List.getElem_range]
      rw [UInt8.toNat_ofNat']
      omega
    rw [hb]
    have e1 : (2 : Int) ^ (8 * (8 - k)) = 2 ^ (8 * (7 - k)) * 256 := by
      rw [show (256 : Int) = 2 ^ 8 by decide, ← Int.pow_add]; congr 1; omega
    have e2 : 8 * (8 - (k + 1)) = 8 * (7 - k) := by omega
    have hp : 0 ≤ (2 : Int) ^ (8 * (7 - k)) := Int.le_of_lt (Int.pow_pos (by decide))
    rw [e1, e2, ← Int.ediv_ediv_of_nonneg hp]
    unfold byteI
    omega
theorem rd_bytes (a : Int) (h : Word a) : rdZ (bytesZ a) = a := by
  have := rd_bytes_take a h 8 (Nat.le_refl _)
  rw [List.take_of_length_le (by rw [bytesZ_len]; omega)] at this
  simpa using this
theorem rd_inj : ∀ (k : Nat) (xs ys : List UInt8), xs.length = k → ys.length = k → rdZ xs = rdZ ys → xs = ys := by
  intro k
  induction k with
  | zero => intro xs ys h1 h2 _; rw [List.length_eq_zero_iff.1 h1, List.length_eq_zero_iff.1 h2]
  | succ k ih =>
    intro xs ys h1 h2 h
    have s1 := rd_snoc xs k (by omega)
    have s2 := rd_snoc ys k (by omega)
    have b1 := xs[k].toNat_lt
    have b2 := ys[k].toNat_lt
    have e1 := List.take_succ_eq_append_getElem (l := xs) (i := k) (by omega)
    have e2 := List.take_succ_eq_append_getElem (l := ys) (i := k) (by omega)
    rw [List.take_of_length_le (by omega)] at s1 s2 e1 e2
    have hb : xs[k].toNat = ys[k].toNat := by omega
    have ht : rdZ (xs.take k) = rdZ (ys.take k) := by omega
    have := ih (xs.take k) (ys.take k) (by simp; omega) (by simp; omega) ht
    exact e1.trans ((by rw [this, UInt8.toNat_inj.1 hb] : xs.take k ++ [xs[k]] = ys.take k ++ [ys[k]]).trans e2.symm)
theorem bytes_rd (bs : List UInt8) (h : bs.length = 8) : bytesZ (rdZ bs) = bs :=
  rd_inj 8 _ _ (bytesZ_len _) h (rd_bytes _ (rd_word bs h))
theorem canzz (a : Int) : canZ (canZ a) = canZ a := by
  unfold canZ
  by_cases h0 : kindZ a = 0
  · simp only [if_pos h0]; decide
  · by_cases h3 : kindZ a = 3
    · simp only [if_neg h0, if_pos h3]; decide
    · simp only [if_neg h0, if_neg h3]
theorem ok_can (a : Int) (h : Word a) : okR (bytesZ (canZ a)) = true :=
  ok_yes (bytesZ_len _) (by rw [rd_bytes _ (word_can h), canzz]; simp)
theorem cmp_can (a : Int) : cmpZ a (canZ a) = 0 := by unfold cmpZ; rw [canzz]; exact cmp3_eq (Int.le_refl _) (Int.le_refl _)
theorem back_walk (a : Int) (wa : Word a) (A : Option Addr) (bs : List UInt8) (n c : Nat) (hn : n = bs.length) (w : World) (h : Row w w.heap.size A (bs.map byteV)) :
    Calls Try.prog 8 #[.int .u64 a, .slice A n c] w fun e w' => e = .returned (.bool true) ∧ Below w.heap.size w w' := by
  subst hn
  have hf := run_frombits
  have HA := Lib.hid wa
  have HC := Lib.hid (word_can wa)
  have HR := Lib.hid h
  have H1 := Lib.hid (rowBA_new (canZ a) w)
  have hv := (val_yes (ok_can a wa)).1
  rw [rd_bytes _ (word_can wa)] at hv
  have he := (val_yes (ok_can a wa)).2
  have hcc := canzz a
  have hcm := cmp_can a
  have hread : ∀ W, Row W (w.heap.size + 1) (some ⟨w.heap.size, 0, none⟩) ((bytesZ (canZ a)).map byteV) →
      Calls Try.prog 33 #[.slice (some ⟨w.heap.size, 0, none⟩) 8 8] W fun e w' => e = .returned (.tuple #[.float .f64 (fnat (canZ a)), .int .i64 0]) ∧ W = w' := by
    intro W hW
    have := read_any (w.heap.size + 1) 8 (some ⟨w.heap.size, 0, none⟩) (bytesZ (canZ a)) W hW
    rw [bytesZ_len, hv, he] at this
    exact this
  have HD := Lib.hid hread
  clear h wa hv he hread
  by_cases hok : okR bs = true
  · have hl : bs.length = 8 := by
      unfold okR at hok
      simp only [Bool.and_eq_true, beq_iff_eq] at hok
      exact hok.1
    have hv := val_yes hok
    have hval : ∀ W, Row W w.heap.size A (bs.map byteV) → Calls Try.prog 33 #[.slice A bs.length c] W fun e w' => e = .returned (.tuple #[.float .f64 (fnat (rdZ bs)), .int .i64 0]) ∧ W = w' := by
      intro W hW
      have := read_any w.heap.size c A bs W hW
      rw [hv.1, hv.2] at this
      exact this
    have HV := Lib.hid hval
    have HW := Lib.hid (rd_word bs hl)
    have hb := bytes_rd bs hl
    have H2 : Hid (Row ((w.alloc (.cells (BA (canZ a) 8) 5)).alloc (.cells (BA (rdZ bs) 8) 5)) (w.heap.size + 2) (some ⟨w.heap.size + 1, 0, none⟩) (bs.map byteV)) := by
      have := rowBA_new (rdZ bs) (w.alloc (.cells (BA (canZ a) 8) 5))
      rw [hb] at this
      simp only [World.size_alloc] at this
      exact this
    have HL := Lib.hid hl
    clear hv hval hb hl hok
    go_enter Try.func8, Try.ntmps8
    go_wp2_with (first
      | (go_at_call 14; ((with_reducible refine (canon_any a HA.out _).mono ?_); rintro e w' ⟨rfl, rfl⟩))
      | (go_at_call 14; ((with_reducible refine (canon_any (canZ a) HC.out _).mono ?_); rintro e w' ⟨rfl, rfl⟩))
      | (go_at_call 36; ((with_reducible refine (bytes_any (canZ a) HC.out _).mono ?_); rintro e w' ⟨rfl, rfl⟩))
      | (go_at_call 36; ((with_reducible refine (bytes_any (rdZ bs) HW.out _).mono ?_); rintro e w' ⟨rfl, rfl⟩))
      | (go_at_call 33; ((with_reducible refine (HD.out _ H1.out).mono ?_); rintro e w' ⟨rfl, rfl⟩))
      | (go_at_call 33; ((with_reducible refine (HV.out _ (HR.out.alloc (Nat.le_refl _) _)).mono ?_); rintro e w' ⟨rfl, rfl⟩))
      | (go_at_call 22; ((with_reducible refine (same_any _ _ HC.out HC.out _).mono ?_); rintro e w' ⟨rfl, rfl⟩))
      | (go_at_call 20; ((with_reducible refine (compare_any _ _ HA.out HC.out _).mono ?_); rintro e w' ⟨rfl, rfl⟩))
      | (go_at_call 35; refine (samebytes_any _ _ _ _ _ _ _ _ bs bs _ H2.out ((HR.out.alloc (Nat.le_refl _) _).alloc (by simp) _) HL.out.symm rfl).mono ?_; rintro e w' ⟨rfl, rfl⟩)
      | (go_at_call 23; refine (known_any _).mono ?_; rintro e w' ⟨rfl, rfl⟩))
    go_ret
    exact ⟨rfl, ((Below.refl _ _).alloc (Nat.le_refl _) _).alloc (by simp) _⟩
  · have hv := val_no (by simpa using hok)
    have hval : ∀ W, Row W w.heap.size A (bs.map byteV) → Calls Try.prog 33 #[.slice A bs.length c] W fun e w' => e = .returned (.tuple #[.float .f64 (fnat 0), .int .i64 11]) ∧ W = w' := by
      intro W hW
      have := read_any w.heap.size c A bs W hW
      rw [hv.1, hv.2] at this
      exact this
    have HV := Lib.hid hval
    clear hv hval hok
    go_enter Try.func8, Try.ntmps8
    go_wp2_with (first
      | (go_at_call 14; ((with_reducible refine (canon_any a HA.out _).mono ?_); rintro e w' ⟨rfl, rfl⟩))
      | (go_at_call 14; ((with_reducible refine (canon_any (canZ a) HC.out _).mono ?_); rintro e w' ⟨rfl, rfl⟩))
      | (go_at_call 36; ((with_reducible refine (bytes_any (canZ a) HC.out _).mono ?_); rintro e w' ⟨rfl, rfl⟩))
      | (go_at_call 33; ((with_reducible refine (HD.out _ H1.out).mono ?_); rintro e w' ⟨rfl, rfl⟩))
      | (go_at_call 33; ((with_reducible refine (HV.out _ (HR.out.alloc (Nat.le_refl _) _)).mono ?_); rintro e w' ⟨rfl, rfl⟩))
      | (go_at_call 22; ((with_reducible refine (same_any _ _ HC.out HC.out _).mono ?_); rintro e w' ⟨rfl, rfl⟩))
      | (go_at_call 20; ((with_reducible refine (compare_any _ _ HA.out HC.out _).mono ?_); rintro e w' ⟨rfl, rfl⟩))
      | (go_at_call 23; refine (known_any _).mono ?_; rintro e w' ⟨rfl, rfl⟩))
    go_ret
    exact ⟨rfl, (Below.refl _ _).alloc (Nat.le_refl _) _⟩
end Go.Proofs.Ytbklpnpgmhnggaa
