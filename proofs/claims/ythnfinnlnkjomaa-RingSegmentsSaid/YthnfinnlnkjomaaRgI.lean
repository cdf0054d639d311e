/- Numbers laid one behind the other in new memory (Go's slices.Concat); searching, finding, comparing rows of numbers (slices.BinarySearch, Index, Equal). -/
import Derived.Test.YthnfinnlnkjomaaRgL
namespace Go.Proofs.Ythnfinnlnkjomaa
open Go.RowKit Mem Rg
set_option maxRecDepth 100000
set_option maxHeartbeats 4000000
set_option linter.unusedVariables false
def catI (rs : List RowIV) : List Int := rs.flatMap (fun r => r.2.1)
theorem catI_snoc (rs : List RowIV) (k : Nat) (h : k < rs.length) : catI (rs.take (k + 1)) = catI (rs.take k) ++ rs[k].2.1 := by
  unfold catI; rw [List.take_succ_eq_append_getElem h, List.flatMap_append]; simp
theorem catI_le (rs : List RowIV) (k : Nat) : (catI (rs.take k)).length ≤ (catI rs).length := by
  have : catI rs = catI (rs.take k) ++ catI (rs.drop k) := by unfold catI; rw [← List.flatMap_append, List.take_append_drop]
  rw [this, List.length_append]; omega
/-- A slice of no bytes with room of its own. -/
def RoomI (w : World) (e : Ending) (w' : World) : Prop := ∃ A c, e = .returned (.slice A 0 c) ∧ w'.ownsRow w.heap.size 3 1 (.slice A 0 c) 0 [] ∧ Below w.heap.size w w'
theorem growi_any (n : Nat) (hn : n ≤ 1073741824) (w : World) : Calls Try.prog 64 #[.slice none 0 0, .int .i64 n] w (RoomI w) := by
  obtain ⟨i0, hi0, hz0, hz1, hz2⟩ := info_parts info_i
  have hnl : (n : Int) ≤ 1073741824 := by omega
  rcases Nat.eq_zero_or_pos n with h0 | h0
  · subst h0
    go_enter Try.func64, Try.ntmps64
    go_wp2
    go_ret
    exact ⟨none, 0, rfl, World.ownsRow_nil _ _ _ _, Below.refl _ _⟩
  · have hp : (0 : Int) < (n : Int) := by omega
    have hcut1 := fun W => run_cut_h (P := Try.prog) (w := W) 22 3 _ _ Try.underlying22 info_i none 0 0 0 (Nat.le_refl _)
    have hz := fun (w : World) => Lib.run_append_nil_zeros (P := Try.prog) w 22 3 22 3 i0 (.int .i64 0) .i64 .i64 Try.underlying22 Try.underlying3 hi0 hz0 n h0 (by omega) (by omega) (by rw [hz2]; omega)
    have HZ := Lib.hid hz
    have H1 := Lib.hid hz1
    clear hz
    have hcut2 := fun W c => run_cut_h (P := Try.prog) (w := W) 22 3 _ _ Try.underlying22 info_i (some ⟨w.heap.size, 0, none⟩) n c 0 (Nat.zero_le _)
    go_enter Try.func64, Try.ntmps64
    go_wp2_with (at_builtin; refine Lib.wpList_append_run _ rfl _ _ _ _ rfl _ _ rfl rfl _ _ (HZ.out _) ?_)
    go_ret
    have hge := grownCap_ge w n 0 3
    refine ⟨_, _, rfl, ?_, ((Below.refl _ _).alloc (Nat.le_refl _) _).drew⟩
    have := World.ownsRow_made (base := w.heap.size) (e := 3) (size := 1) w (Builtin.zeroCells #[.int .i64 0] n ++ Builtin.zeroCells #[.int .i64 0] (grownCap w n 0 3 - n)) (grownCap w n 0 3) (Nat.le_refl _) (grownCap_le_maxLen w n 0 3 (by unfold maxLen; omega)) (by rw [Array.size_append, size_zeroCells, size_zeroCells]; simp; omega)
    exact this
theorem concati_any (B n c : Nat) (A : Option Addr) (rs : List RowIV) (hn : n = rs.length) (w : World) (h : Row w B A (rs.map rowIV)) (hB : B ≤ w.heap.size) (hx : ∀ r ∈ rs, Row w w.heap.size r.1 (r.2.1.map iV)) (hl : (catI rs).length ≤ 1073741824) (hn2 : n ≤ 1000000) :
    Calls Try.prog 45 #[.slice A n c] w (IntsE (catI rs) w) := by
  obtain ⟨i0, hi0, hz0, hz1, hz2⟩ := info_parts info_i
  have HR := Lib.hid h
  have HX := Lib.hid hx
  have HN := Lib.hid hn
  have HL := Lib.hid hl
  have hnl : (n : Int) ≤ 1000000 := by omega
  clear h hx hn hl
  go_enter Try.func45, Try.ntmps45
  go_wp2
  go_loop [3, 11] (fun z i => ∃ k : Nat, k ≤ n ∧ i = .int .i64 k ∧ z = .int .i64 ((catI (rs.take k)).length : Nat)) (fun _ i => n - (intOf i).toNat)
  case atStart => exact ⟨0, by omega, rfl, rfl⟩
  case round =>
    obtain ⟨k, hk, rfl, rfl⟩ := hrel
    by_cases hlt : k < n
    · have hk1 : k < rs.length := by rw [← HN.out]; exact hlt
      obtain ⟨b, o, rfl, _, hc⟩ := HR.out.open_ (by simp; omega)
      have hcell : w.cell? ⟨b, o + k, none⟩ = some (rowIV rs[k]) := (hc k (by simpa using hk1)).trans (congrArg some (List.getElem_map (f := rowIV) (h := by simpa using hk1)))
      obtain ⟨⟨A1, y1, c1⟩, hy1⟩ : ∃ y, rs[k] = y := ⟨_, rfl⟩
      rw [hy1] at hcell
      unfold rowIV at hcell
      simp only at hcell
      have hs := catI_snoc rs k hk1
      rw [hy1] at hs
      have hle := catI_le rs (k + 1)
      rw [hs, List.length_append] at hle
      obtain ⟨z, hz⟩ : ∃ z, (catI (rs.take k)).length = z := ⟨_, rfl⟩
      have HS : Hid ((catI (rs.take (k + 1))).length = z + y1.length) := Lib.hid (by rw [hs, List.length_append, hz])
      rw [hz] at hle ⊢
      have hle2 : (z : Int) + (y1.length : Int) ≤ 1073741824 := by have := HL.out; simp only at hle; omega
      have hki : (0 : Int) ≤ (k : Int) := by omega
      have hki2 : (k : Int) < (n : Int) := by omega
      clear hc hy1 hs hz hle
      go_wp2
      go_round
      case rel => exact ⟨k + 1, by omega, by go_num, by rw [HS.out]; go_num⟩
      case measure => simp [intOf]; omega
    · obtain rfl : k = n := by omega
      have HT : Hid (rs.take k = rs) := Lib.hid (List.take_of_length_le (by rw [← HN.out]; omega))
      rw [HT.out]
      obtain ⟨z, hz⟩ : ∃ z, (catI rs).length = z := ⟨_, rfl⟩
      rw [hz]
      have hzl : z ≤ 1073741824 := by rw [← hz]; exact HL.out
      clear hz
      go_wp2_with (go_at_call 64; refine (growi_any z hzl _).mono ?_; rintro e w1 ⟨A0, c0, rfl, ho, hb⟩; have HO0 := Lib.hid ho; have HB0 := Lib.hid hb; clear ho hb)
      go_loopw [6, 27] (fun v i wr => ∃ j : Nat, j ≤ k ∧ i = .int .i64 j ∧ wr.ownsRow w.heap.size 3 1 v (catI (rs.take j)).length ((catI (rs.take j)).map iV) ∧ Below w.heap.size w wr) (fun _ i _ => k - (intOf i).toNat)
      case atStart => exact ⟨0, by omega, rfl, HO0.out, HB0.out⟩
      case round =>
        obtain ⟨j, hj, rfl, hown, hbl⟩ := hrel
        have HO := Lib.hid hown
        have HB := Lib.hid hbl
        clear hown hbl
        by_cases hjt : j < k
        · have hj1 : j < rs.length := by rw [← HN.out]; exact hjt
          obtain ⟨b, o, rfl, hbB, hc⟩ := HR.out.open_ (by simp; omega)
          have hcell : wr.cell? ⟨b, o + j, none⟩ = some (rowIV rs[j]) := (HB.out.cell (p := ⟨b, o + j, none⟩) (by show b < w.heap.size; omega)).trans ((hc j (by simpa using hj1)).trans (congrArg some (List.getElem_map (f := rowIV) (h := by simpa using hj1))))
          have hrow := HX.out rs[j] (List.getElem_mem hj1)
          obtain ⟨⟨A1, y1, c1⟩, hy1⟩ : ∃ y, rs[j] = y := ⟨_, rfl⟩
          rw [hy1] at hcell hrow
          unfold rowIV at hcell
          simp only at hcell hrow
          have hs := catI_snoc rs j hj1
          rw [hy1] at hs
          simp only at hs
          have hle := catI_le rs (j + 1)
          have HLE : Hid ((catI (rs.take j)).length + y1.length ≤ 1073741824) := Lib.hid (by rw [hs, List.length_append] at hle; have := HL.out; omega)
          have HS := Lib.hid hs
          have HROW := Lib.hid (hrow.below HB.out)
          have hki : (0 : Int) ≤ (j : Int) := by omega
          have hki2 : (j : Int) < (k : Int) := by omega
          clear hc hy1 hs hle hrow
          go_wp2_with (at_builtin; refine wpList_app _ rfl _ _ 22 rfl w.heap.size 3 i0 (.int .i64 0) 8 Try.underlying22 hi0 hz0 hz1 hz2 rfl _ _ _ rfl HO.out w.heap.size _ y1.length c1 (y1.map iV) rfl (by simp) HROW.out (iV_one y1) (by have := HLE.out; unfold maxLen; omega) (by have := HLE.out; omega) HB.out.size ?_)
          intro v' w2 hown hgr _
          have HO2 : Hid (w2.ownsRow w.heap.size 3 1 v' (catI (rs.take (j + 1))).length ((catI (rs.take (j + 1))).map iV)) := Lib.hid (by rw [HS.out, List.map_append, List.length_append]; exact hown)
          have HB2 : Hid (Below w.heap.size w w2) := Lib.hid (HB.out.grown hgr HB.out.size fun g hg => (HO.out.lt g hg).1)
          clear hown hgr
          go_wp2
          go_roundw
          case rel => exact ⟨j + 1, by omega, by go_num, HO2.out, HB2.out⟩
          case measure => simp [intOf]; omega
        · obtain rfl : j = k := by omega
          go_wp2
          go_ret
          obtain ⟨A3, c3, rfl, _⟩ := ownShape HO.out
          have HRES : Hid (IntsE (catI rs) w (.returned (.slice A3 (catI (rs.take j)).length c3)) wr) := Lib.hid (by
            have h1 := HO.out
            rw [HT.out] at h1 ⊢
            exact ⟨A3, c3, rfl, h1, HB.out⟩)
          exact HRES.out
theorem equali_true (B B' c c' n n' : Nat) (A A' : Option Addr) (xs : List Int) (w : World) (h : Row w B A (xs.map iV)) (h' : Row w B' A' (xs.map iV)) (hn : n = xs.length) (hn' : n' = xs.length) (hl : xs.length ≤ 1000000) :
    Calls Try.prog 47 #[.slice A n c, .slice A' n' c'] w (Quiet (.bool true) w) := by
  subst hn; subst hn'
  have HR := Lib.hid h
  have HR' := Lib.hid h'
  have hnl : (xs.length : Int) ≤ 1000000 := by omega
  clear h h'
  go_enter Try.func47, Try.ntmps47
  go_wp2
  go_loopw [13] (fun i wr => ∃ k : Nat, k ≤ xs.length ∧ i = .int .i64 k ∧ Hid (∃ q, wr = w.drewN q)) (fun i _ => xs.length - (intOf i).toNat)
  case atStart => exact ⟨0, by omega, rfl, Lib.hid ⟨0, rfl⟩⟩
  case round =>
    obtain ⟨k, hk, rfl, HQ⟩ := hrel
    by_cases hlt : k < xs.length
    · obtain ⟨b, o, rfl, _, hc⟩ := (quiet_row HR.out HQ.out).open_ (by simp; omega)
      obtain ⟨b', o', rfl, _, hc'⟩ := (quiet_row HR'.out HQ.out).open_ (by simp; omega)
      have hcell : wr.cell? ⟨b, o + k, none⟩ = some (.int .i64 xs[k]) := (hc k (by simpa using hlt)).trans (congrArg some (List.getElem_map (f := iV) (h := by simpa using hlt)))
      have hcell' : wr.cell? ⟨b', o' + k, none⟩ = some (.int .i64 xs[k]) := (hc' k (by simpa using hlt)).trans (congrArg some (List.getElem_map (f := iV) (h := by simpa using hlt)))
      have hki : (0 : Int) ≤ (k : Int) := by omega
      have hki2 : (k : Int) < (xs.length : Int) := by omega
      clear hc hc'
      go_wp2
      go_quiet (fail)
      go_wp2
      go_roundw
      case rel => exact ⟨k + 1, by omega, by go_num, Lib.hid (by obtain ⟨q, rfl⟩ := HQ.out; exact ⟨_, World.drewN_drewN _ _ _⟩)⟩
      case measure => simp [intOf]; omega
    · go_wp2
      go_ret
      exact ⟨rfl, HQ.out⟩
theorem isnans_any (x : Int) (w : World) : Calls Try.prog 63 #[.int .i64 x] w fun e w' => e = .returned (.bool false) ∧ w = w' := by
  go_enter Try.func63, Try.ntmps63
  go_wp2
  go_ret
  exact ⟨by simp, rfl⟩
theorem less_any (x y : Int) (w : World) : Calls Try.prog 62 #[.int .i64 x, .int .i64 y] w fun e w' => e = .returned (.bool (decide (x < y))) ∧ w = w' := by
  go_enter Try.func62, Try.ntmps62
  go_wp2_with (go_at_call 72; refine (isnani_any _ _).mono ?_; rintro e w' ⟨rfl, rfl⟩)
  go_ret
  exact ⟨rfl, rfl⟩
/-- Where a number would stand. -/
def BsE (ns : List Int) (x : Int) (w : World) (e : Ending) (w' : World) : Prop :=
  ∃ (i : Nat) (f : Bool), e = .returned (.tuple #[.int .i64 i, .bool f]) ∧ i ≤ ns.length ∧ (∀ t (h : t < ns.length), t + 1 = i → ns[t] < x) ∧ (∀ h : i < ns.length, x ≤ ns[i]) ∧ ∃ q, w' = w.drewN q
theorem bsearch_any (B c n : Nat) (A : Option Addr) (ns : List Int) (x : Int) (hn : n = ns.length) (hl : n ≤ 1000000) (w : World) (h : Row w B A (ns.map iV)) :
    Calls Try.prog 43 #[.slice A n c, .int .i64 x] w (BsE ns x w) := by
  have HR := Lib.hid h
  have HN := Lib.hid hn
  have hnl : (n : Int) ≤ 1000000 := by omega
  clear h hn
  go_enter Try.func43, Try.ntmps43
  go_wp2
  go_loopg [7, 8] n (fun g s7 s8 wr => ∃ lo hi q : Nat, s7 = .int .i64 lo ∧ s8 = .int .i64 hi ∧ lo ≤ hi ∧ hi ≤ n ∧ hi - lo ≤ g ∧ Hid (wr = w.drewN q) ∧ Hid (∀ t (h : t < ns.length), t + 1 = lo → ns[t] < x) ∧ Hid (∀ h : hi < ns.length, x ≤ ns[hi]))
  case atStart => exact ⟨0, n, 0, rfl, rfl, Nat.zero_le _, Nat.le_refl _, by omega, Lib.hid rfl, Lib.hid fun t h h2 => by omega, Lib.hid fun h => by have := HN.out; omega⟩
  case round =>
    obtain ⟨lo, hi, q, rfl, rfl, hlh, hin, hg, HQ, H1, H2⟩ := hrel
    by_cases hlt : lo < hi
    · obtain ⟨b, o, rfl, _, hc⟩ := int_cell (quiet_row HR.out ⟨q, HQ.out⟩) (by rw [← HN.out]; omega)
      have cm := hc ((lo + hi) / 2) (by rw [← HN.out]; omega)
      have H1' : Hid (ns[(lo + hi) / 2]'(by rw [← HN.out]; omega) < x → ∀ t (h : t < ns.length), t + 1 = (lo + hi) / 2 + 1 → ns[t] < x) := Lib.hid fun h t ht e => by
        obtain rfl : t = (lo + hi) / 2 := by omega
        exact h
      have H2' : Hid (¬ ns[(lo + hi) / 2]'(by rw [← HN.out]; omega) < x → ∀ h : (lo + hi) / 2 < ns.length, x ≤ ns[(lo + hi) / 2]) := Lib.hid fun h _ => by omega
      obtain ⟨y, hy⟩ : ∃ y, ns[(lo + hi) / 2]'(by rw [← HN.out]; omega) = y := ⟨_, rfl⟩
      rw [hy] at cm H1'
      have H2'' : Hid (¬ y < x → ∀ h : (lo + hi) / 2 < ns.length, x ≤ ns[(lo + hi) / 2]) := Lib.hid fun h => H2'.out (by rw [hy]; exact h)
      clear hc hy H2'
      by_cases hyx : y < x
      · have H3 := Lib.hid (H1'.out hyx)
        clear H1' H2''
        go_wp2_with (go_at_call 62; refine (less_any _ _ _).mono ?_; rintro e w' ⟨rfl, rfl⟩)
        go_roundg (hi - ((lo + hi) / 2 + 1))
        case measure => omega
        case rel => exact ⟨(lo + hi) / 2 + 1, hi, q, by rw [show ((lo : Int) + (hi : Int)) / 2 + 1 = (((lo + hi) / 2 + 1 : Nat) : Int) by omega], rfl, by omega, hin, Nat.le_refl _, HQ, H3, H2⟩
      · have H3 := Lib.hid (H2''.out hyx)
        clear H1' H2''
        go_wp2_with (go_at_call 62; refine (less_any _ _ _).mono ?_; rintro e w' ⟨rfl, rfl⟩)
        go_roundg ((lo + hi) / 2 - lo)
        case measure => omega
        case rel => exact ⟨lo, (lo + hi) / 2, q, rfl, by rw [show ((lo : Int) + (hi : Int)) / 2 = (((lo + hi) / 2 : Nat) : Int) by omega], by omega, by omega, Nat.le_refl _, HQ, H1, H3⟩
    · obtain rfl : lo = hi := by omega
      have HRES : Hid (∀ f : Bool, BsE ns x w (.returned (.tuple #[.int .i64 lo, .bool f])) wr) := Lib.hid fun f => ⟨lo, f, rfl, by rw [← HN.out]; exact hin, H1.out, H2.out, q, HQ.out⟩
      by_cases hln : lo < n
      · obtain ⟨b, o, rfl, _, hc⟩ := int_cell (quiet_row HR.out ⟨q, HQ.out⟩) (by rw [← HN.out]; omega)
        have cm := hc lo (by rw [← HN.out]; omega)
        generalize ns[lo]'(by rw [← HN.out]; omega) = y at cm
        have hl0 : (0 : Int) ≤ (lo : Int) := by omega
        have hl1 : (lo : Int) < (n : Int) := by omega
        clear hc
        by_cases hyx : y = x
        · have hb : (y == x) = true := by simpa using hyx
          clear hyx
          go_wp2_with (go_at_call 63; refine (isnans_any _ _).mono ?_; rintro e w' ⟨rfl, rfl⟩)
          go_ret2
          exact HRES.out true
        · have hb : (y == x) = false := by simpa using hyx
          clear hyx
          go_wp2_with (go_at_call 63; refine (isnans_any _ _).mono ?_; rintro e w' ⟨rfl, rfl⟩)
          go_ret2
          exact HRES.out false
      · have hl1 : ¬ (lo : Int) < (n : Int) := by omega
        go_wp2_with (go_at_call 63; refine (isnans_any _ _).mono ?_; rintro e w' ⟨rfl, rfl⟩)
        go_ret2
        exact HRES.out false
theorem index_some (B c n : Nat) (A : Option Addr) (ns : List Int) (x : Int) (i : Nat) (hn : n = ns.length) (hl : n ≤ 1000000) (hi : i < ns.length) (he : ns[i] = x) (hf : ∀ t (h : t < ns.length), t < i → ns[t] ≠ x) (w : World) (h : Row w B A (ns.map iV)) :
    Calls Try.prog 46 #[.slice A n c, .int .i64 x] w fun e w' => e = .returned (.int .i64 i) ∧ w = w' := by
  obtain ⟨b, o, rfl, _, hc⟩ := int_cell h (by omega)
  have HC := Lib.hid hc
  have HF := Lib.hid hf
  have HN := Lib.hid hn
  have HE := Lib.hid he
  have HI := Lib.hid hi
  have hnl : (n : Int) ≤ 1000000 := by omega
  have hin : i < n := by omega
  clear h hc hf hn he
  go_enter Try.func46, Try.ntmps46
  go_wp2
  go_loop [8] (fun s => ∃ k : Nat, k ≤ i ∧ s = .int .i64 k) (fun s => n - (intOf s).toNat)
  case atStart => exact ⟨0, by omega, rfl⟩
  case round =>
    obtain ⟨k, hk, rfl⟩ := hrel
    have hkl : k < ns.length := by have := HN.out; omega
    have hck := HC.out k hkl
    have hk0 : (0 : Int) ≤ (k : Int) := by omega
    have hk1 : (k : Int) < (n : Int) := by omega
    by_cases hki : k < i
    · have hne := HF.out k hkl hki
      generalize ns[k] = y at hck hne
      have hb : (x == y) = false := by simpa using fun e => hne (by omega)
      clear hne
      go_wp2
      go_round
      case rel => exact ⟨k + 1, by omega, by go_num⟩
      case measure => simp [intOf]; omega
    · obtain rfl : k = i := by omega
      rw [HE.out] at hck
      have hb : (x == x) = true := by simp
      go_wp2
      go_ret
      exact ⟨rfl, rfl⟩
theorem index_none (B c n : Nat) (A : Option Addr) (ns : List Int) (x : Int) (hn : n = ns.length) (hl : n ≤ 1000000) (hf : x ∉ ns) (w : World) (h : Row w B A (ns.map iV)) :
    Calls Try.prog 46 #[.slice A n c, .int .i64 x] w fun e w' => e = .returned (.int .i64 (-1)) ∧ w = w' := by
  have HR := Lib.hid h
  have HF := Lib.hid hf
  have HN := Lib.hid hn
  have hnl : (n : Int) ≤ 1000000 := by omega
  clear h hf hn
  go_enter Try.func46, Try.ntmps46
  go_wp2
  go_loop [8] (fun s => ∃ k : Nat, k ≤ n ∧ s = .int .i64 k) (fun s => n - (intOf s).toNat)
  case atStart => exact ⟨0, by omega, rfl⟩
  case round =>
    obtain ⟨k, hk, rfl⟩ := hrel
    by_cases hkn : k < n
    · have hkl : k < ns.length := by have := HN.out; omega
      obtain ⟨b, o, rfl, _, hc⟩ := int_cell HR.out (by omega)
      have hck := hc k hkl
      have hne : ns[k] ≠ x := fun e => HF.out (by rw [← e]; exact List.getElem_mem hkl)
      have hk0 : (0 : Int) ≤ (k : Int) := by omega
      have hk1 : (k : Int) < (n : Int) := by omega
      generalize ns[k] = y at hck hne
      have hb : (x == y) = false := by simpa using fun e => hne (by omega)
      clear hne hc
      go_wp2
      go_round
      case rel => exact ⟨k + 1, by omega, by go_num⟩
      case measure => simp [intOf]; omega
    · have hk1 : ¬ (k : Int) < (n : Int) := by omega
      go_wp2
      go_ret
      exact ⟨rfl, rfl⟩
end Go.Proofs.Ythnfinnlnkjomaa
