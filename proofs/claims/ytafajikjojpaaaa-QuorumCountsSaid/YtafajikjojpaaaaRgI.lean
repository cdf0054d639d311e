/- Numbers laid one behind the other in new memory (Go's slices.Concat); searching, finding, comparing rows of numbers (slices.BinarySearch, Index, Equal). -/
import Derived.Test.YtafajikjojpaaaaRgL
namespace Go.Proofs.Ytafajikjojpaaaa
open Go.RowKit Mem Rg
set_option maxRecDepth 100000
set_option maxHeartbeats 4000000
set_option linter.unusedVariables false
def catI (rs : List RowIV) : List Int := rs.flatMap (fun r => r.2.1)
theorem catI_snoc (rs : List RowIV) (k : Nat) (h : k < rs.length) : catI (rs.take (k + 1)) = catI (rs.take k) ++ rs[k].2.1 := by
  unfold catI; rw [List.take_succ_eq_append_getElem h, List.flatMap_append]; simp
theorem catI_le (rs : List RowIV) (k : Nat) : (catI (rs.take k)).length ≤ (catI rs).length := by
  have : catI rs = catI (rs.take k) ++ catI (rs.drop k) := by unfold catI; rw [← List.flatMap_append, List.take_append_drop]
  rw [this, List.length_append]; omega
/-- A slice of no bytes with room of its own. -/
def RoomI (w : World) (e : Ending) (w' : World) : Prop := ∃ A c, e = .returned (.slice A 0 c) ∧ w'.ownsRow w.heap.size 3 1 (.slice A 0 c) 0 [] ∧ Below w.heap.size w w'
/-- Where a number would stand. -/
def BsE (ns : List Int) (x : Int) (w : World) (e : Ending) (w' : World) : Prop :=
  ∃ (i : Nat) (f : Bool), e = .returned (.tuple #[.int .i64 i, .bool f]) ∧ i ≤ ns.length ∧ (∀ t (h : t < ns.length), t + 1 = i → ns[t] < x) ∧ (∀ h : i < ns.length, x ≤ ns[i]) ∧ ∃ q, w' = w.drewN q
theorem bsearch_any (B c n : Nat) (A : Option Addr) (ns : List Int) (x : Int) (hn : n = ns.length) (hl : n ≤ 1000000) (w : World) (h : Row w B A (ns.map iV)) :
    Calls Try.prog 42 #[.slice A n c, .int .i64 x] w (BsE ns x w) := by
  have HR := Lib.hid h
  have HN := Lib.hid hn
  have hnl : (n : Int) ≤ 1000000 := by omega
  clear h hn
  go_enter Try.func42, Try.ntmps42
  go_wp2
  go_loopg [7, 8] n (fun g s7 s8 wr => ∃ lo hi q : Nat, s7 = .int .i64 lo ∧ s8 = .int .i64 hi ∧ lo ≤ hi ∧ hi ≤ n ∧ hi - lo ≤ g ∧ Hid (wr = w.drewN q) ∧ Hid (∀ t (h : t < ns.length), t + 1 = lo → ns[t] < x) ∧ Hid (∀ h : hi < ns.length, x ≤ ns[hi]))
  case atStart => exact ⟨0, n, 0, rfl, rfl, Nat.zero_le _, Nat.le_refl _, by omega, Lib.hid rfl, Lib.hid fun t h h2 => by omega, Lib.hid fun h => by have := HN.out; omega⟩
  case round =>
    obtain ⟨lo, hi, q, rfl, rfl, hlh, hin, hg, HQ, H1, H2⟩ := hrel
    by_cases hlt : lo < hi
    · obtain ⟨b, o, rfl, _, hc⟩ := int_cell (quiet_row HR.out ⟨q, HQ.out⟩) (by rw [← HN.out]; omega)
      have cm := hc ((lo + hi) / 2) (by rw [← HN.out]; omega)
      have H1' : Hid (ns[(lo + hi) / 2]'(by rw [← HN.out]; omega) < x → ∀ t (h : t < ns.length), t + 1 = (lo + hi) / 2 + 1 → ns[t] < x) := Lib.hid fun h t ht e => by
        obtain rfl : t = (lo + hi) / 2 := by omega
        exact h
      have H2' : Hid (¬ ns[(lo + hi) / 2]'(by rw [← HN.out]; omega) < x → ∀ h : (lo + hi) / 2 < ns.length, x ≤ ns[(lo + hi) / 2]) := Lib.hid fun h _ => by omega
      obtain ⟨y, hy⟩ : ∃ y, ns[(lo + hi) / 2]'(by rw [← HN.out]; omega) = y := ⟨_, rfl⟩
      rw [hy] at cm H1'
      have H2'' : Hid (¬ y < x → ∀ h : (lo + hi) / 2 < ns.length, x ≤ ns[(lo + hi) / 2]) := Lib.hid fun h => H2'.out (by rw [hy]; exact h)
      clear hc hy H2'
      by_cases hyx : y < x
      · have H3 := Lib.hid (H1'.out hyx)
        clear H1' H2''
        go_wp2_with (go_at_call 50; refine (less_any _ _ _).mono ?_; rintro e w' ⟨rfl, rfl⟩)
        go_roundg (hi - ((lo + hi) / 2 + 1))
        case measure => omega
        case rel => exact ⟨(lo + hi) / 2 + 1, hi, q, by rw [show ((lo : Int) + (hi : Int)) / 2 + 1 = (((lo + hi) / 2 + 1 : Nat) : Int) by omega], rfl, by omega, hin, Nat.le_refl _, HQ, H3, H2⟩
      · have H3 := Lib.hid (H2''.out hyx)
        clear H1' H2''
        go_wp2_with (go_at_call 50; refine (less_any _ _ _).mono ?_; rintro e w' ⟨rfl, rfl⟩)
        go_roundg ((lo + hi) / 2 - lo)
        case measure => omega
        case rel => exact ⟨lo, (lo + hi) / 2, q, rfl, by rw [show ((lo : Int) + (hi : Int)) / 2 = (((lo + hi) / 2 : Nat) : Int) by omega], by omega, by omega, Nat.le_refl _, HQ, H1, H3⟩
    · obtain rfl : lo = hi := by omega
      have HRES : Hid (∀ f : Bool, BsE ns x w (.returned (.tuple #[.int .i64 lo, .bool f])) wr) := Lib.hid fun f => ⟨lo, f, rfl, by rw [← HN.out]; exact hin, H1.out, H2.out, q, HQ.out⟩
      by_cases hln : lo < n
      · obtain ⟨b, o, rfl, _, hc⟩ := int_cell (quiet_row HR.out ⟨q, HQ.out⟩) (by rw [← HN.out]; omega)
        have cm := hc lo (by rw [← HN.out]; omega)
        generalize ns[lo]'(by rw [← HN.out]; omega) = y at cm
        have hl0 : (0 : Int) ≤ (lo : Int) := by omega
        have hl1 : (lo : Int) < (n : Int) := by omega
        clear hc
        by_cases hyx : y = x
        · have hb : (y == x) = true := by simpa using hyx
          clear hyx
          go_wp2_with (go_at_call 51; refine (isnans_any _ _).mono ?_; rintro e w' ⟨rfl, rfl⟩)
          go_ret2
          exact HRES.out true
        · have hb : (y == x) = false := by simpa using hyx
          clear hyx
          go_wp2_with (go_at_call 51; refine (isnans_any _ _).mono ?_; rintro e w' ⟨rfl, rfl⟩)
          go_ret2
          exact HRES.out false
      · have hl1 : ¬ (lo : Int) < (n : Int) := by omega
        go_wp2_with (go_at_call 51; refine (isnans_any _ _).mono ?_; rintro e w' ⟨rfl, rfl⟩)
        go_ret2
        exact HRES.out false
theorem index_some (B c n : Nat) (A : Option Addr) (ns : List Int) (x : Int) (i : Nat) (hn : n = ns.length) (hl : n ≤ 1000000) (hi : i < ns.length) (he : ns[i] = x) (hf : ∀ t (h : t < ns.length), t < i → ns[t] ≠ x) (w : World) (h : Row w B A (ns.map iV)) :
    Calls Try.prog 39 #[.slice A n c, .int .i64 x] w fun e w' => e = .returned (.int .i64 i) ∧ w = w' := by
  obtain ⟨b, o, rfl, _, hc⟩ := int_cell h (by omega)
  have HC := Lib.hid hc
  have HF := Lib.hid hf
  have HN := Lib.hid hn
  have HE := Lib.hid he
  have HI := Lib.hid hi
  have hnl : (n : Int) ≤ 1000000 := by omega
  have hin : i < n := by omega
  clear h hc hf hn he
  go_enter Try.func39, Try.ntmps39
  go_wp2
  go_loop [8] (fun s => ∃ k : Nat, k ≤ i ∧ s = .int .i64 k) (fun s => n - (intOf s).toNat)
  case atStart => exact ⟨0, by omega, rfl⟩
  case round =>
    obtain ⟨k, hk, rfl⟩ := hrel
    have hkl : k < ns.length := by have := HN.out; omega
    have hck := HC.out k hkl
    have hk0 : (0 : Int) ≤ (k : Int) := by omega
    have hk1 : (k : Int) < (n : Int) := by omega
    by_cases hki : k < i
    · have hne := HF.out k hkl hki
      generalize ns[k] = y at hck hne
      have hb : (x == y) = false := by simpa using fun e => hne (by omega)
      clear hne
      go_wp2
      go_round
      case rel => exact ⟨k + 1, by omega, by go_num⟩
      case measure => simp [intOf]; omega
    · obtain rfl : k = i := by omega
      rw [HE.out] at hck
      have hb : (x == x) = true := by simp
      go_wp2
      go_ret
      exact ⟨rfl, rfl⟩
theorem index_none (B c n : Nat) (A : Option Addr) (ns : List Int) (x : Int) (hn : n = ns.length) (hl : n ≤ 1000000) (hf : x ∉ ns) (w : World) (h : Row w B A (ns.map iV)) :
    Calls Try.prog 39 #[.slice A n c, .int .i64 x] w fun e w' => e = .returned (.int .i64 (-1)) ∧ w = w' := by
  have HR := Lib.hid h
  have HF := Lib.hid hf
  have HN := Lib.hid hn
  have hnl : (n : Int) ≤ 1000000 := by omega
  clear h hf hn
  go_enter Try.func39, Try.ntmps39
  go_wp2
  go_loop [8] (fun s => ∃ k : Nat, k ≤ n ∧ s = .int .i64 k) (fun s => n - (intOf s).toNat)
  case atStart => exact ⟨0, by omega, rfl⟩
  case round =>
    obtain ⟨k, hk, rfl⟩ := hrel
    by_cases hkn : k < n
    · have hkl : k < ns.length := by have := HN.out; omega
      obtain ⟨b, o, rfl, _, hc⟩ := int_cell HR.out (by omega)
      have hck := hc k hkl
      have hne : ns[k] ≠ x := fun e => HF.out (by rw [← e]; exact List.getElem_mem hkl)
      have hk0 : (0 : Int) ≤ (k : Int) := by omega
      have hk1 : (k : Int) < (n : Int) := by omega
      generalize ns[k] = y at hck hne
      have hb : (x == y) = false := by simpa using fun e => hne (by omega)
      clear hne hc
      go_wp2
      go_round
      case rel => exact ⟨k + 1, by omega, by go_num⟩
      case measure => simp [intOf]; omega
    · have hk1 : ¬ (k : Int) < (n : Int) := by omega
      go_wp2
      go_ret
      exact ⟨rfl, rfl⟩
end Go.Proofs.Ytafajikjojpaaaa
