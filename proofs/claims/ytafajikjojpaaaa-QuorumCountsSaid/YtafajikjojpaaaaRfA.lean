/- The document's own answers (1): is a number among some; how two points stand; may a ring be; where a word begins; are two rings the same, are lists. -/
import Derived.Test.YtafajikjojpaaaaRgL
namespace Go.Proofs.Ytafajikjojpaaaa
open Go.RowKit Mem Rg
set_option maxRecDepth 100000
set_option maxHeartbeats 4000000
set_option linter.unusedVariables false
theorem has_any (B c n : Nat) (A : Option Addr) (ns : List Int) (x : Int) (hn : n = ns.length) (hl : n ≤ 1000000) (w : World) (h : Row w B A (ns.map iV)) :
    Calls Try.prog 21 #[.slice A n c, .int .i64 x] w fun e w' => e = .returned (.bool (isIn x ns)) ∧ w = w' := by
  have HR := Lib.hid h
  have HN := Lib.hid hn
  have hnl : (n : Int) ≤ 1000000 := by omega
  clear h hn
  go_enter Try.func21, Try.ntmps21
  go_wp2
  go_loop [5] (fun s => ∃ k : Nat, k ≤ n ∧ s = .int .i64 k ∧ Hid (∀ t (h : t < ns.length), t < k → ns[t] ≠ x)) (fun s => n - (intOf s).toNat)
  case atStart => exact ⟨0, by omega, rfl, Lib.hid fun t _ h => absurd h (Nat.not_lt_zero _)⟩
  case round =>
    obtain ⟨k, hk, rfl, HALL⟩ := hrel
    by_cases hkn : k < n
    · have hkl : k < ns.length := by have := HN.out; omega
      obtain ⟨b, o, rfl, _, hc⟩ := int_cell HR.out (by omega)
      have hck := hc k hkl
      have HY : Hid (ns[k] = x → isIn x ns = true) := Lib.hid fun e => by unfold isIn; exact decide_eq_true (by rw [← e]; exact List.getElem_mem hkl)
      have HZ : Hid (ns[k] ≠ x → ∀ t (h : t < ns.length), t < k + 1 → ns[t] ≠ x) := Lib.hid fun e t ht htk => by
        rcases Nat.lt_or_ge t k with h1 | h1
        · exact HALL.out t ht h1
        · obtain rfl : t = k := by omega
          exact e
      obtain ⟨y, hy⟩ : ∃ y, ns[k] = y := ⟨_, rfl⟩
      rw [hy] at hck HY HZ
      have hk0 : (0 : Int) ≤ (k : Int) := by omega
      have hk1 : (k : Int) < (n : Int) := by omega
      clear hc hy
      by_cases hyx : y = x
      · have hb : (y == x) = true := by simpa using hyx
        have HY2 := Lib.hid (HY.out hyx)
        clear hyx
        go_wp2
        go_ret
        rw [HY2.out]
        exact ⟨rfl, rfl⟩
      · have hb : (y == x) = false := by simpa using hyx
        have HZ2 := Lib.hid (HZ.out hyx)
        clear hyx
        go_wp2
        go_round
        case rel => exact ⟨k + 1, by omega, by go_num, HZ2⟩
        case measure => simp [intOf]; omega
    · have hk1 : ¬ (k : Int) < (n : Int) := by omega
      have HF : Hid (isIn x ns = false) := Lib.hid (by
        unfold isIn
        refine decide_eq_false fun hm => ?_
        obtain ⟨t, ht, e⟩ := List.getElem_of_mem hm
        exact HALL.out t ht (by have := HN.out; omega) e)
      go_wp2
      go_ret
      rw [HF.out]
      exact ⟨rfl, rfl⟩
def ltB (p q : Pt) : Bool := decide (ltP p q)
theorem refless_any (p q : Pt) (w : World) : Calls Try.prog 57 #[.agg #[.int .u64 (p.1 : Int), .int .i64 p.2], .agg #[.int .u64 (q.1 : Int), .int .i64 q.2]] w fun e w' => e = .returned (.bool (ltB p q)) ∧ Below w.heap.size w w' := by
  obtain ⟨a, b⟩ := p
  obtain ⟨c, d⟩ := q
  have HB : Hid (Below w.heap.size w ((w.alloc (.cells #[.int .u64 (a : Int), .int .i64 b] 77)).alloc (.cells #[.int .u64 (c : Int), .int .i64 d] 77))) := Lib.hid (((Below.refl _ _).alloc (Nat.le_refl _) _).alloc (by simp) _)
  simp only
  by_cases h1 : (a : Int) < (c : Int)
  · have e : ltB (a, b) (c, d) = true := decide_eq_true (Or.inl (by omega))
    rw [e]
    go_enter Try.func57, Try.ntmps57
    go_wp2
    go_ret
    exact ⟨rfl, HB.out⟩
  · by_cases h2 : (a : Int) = (c : Int)
    · have h2b : ((a : Int) == (c : Int)) = true := by simpa using h2
      by_cases h3 : b < d
      · have e : ltB (a, b) (c, d) = true := decide_eq_true (Or.inr ⟨by omega, h3⟩)
        rw [e]
        clear h2 e
        go_enter Try.func57, Try.ntmps57
        go_wp2
        go_ret
        exact ⟨rfl, HB.out⟩
      · have e : ltB (a, b) (c, d) = false := decide_eq_false (by unfold ltP; simp only; omega)
        rw [e]
        clear h2 e
        go_enter Try.func57, Try.ntmps57
        go_wp2
        go_ret
        exact ⟨rfl, HB.out⟩
    · have h2b : ((a : Int) == (c : Int)) = false := by simpa using h2
      have e : ltB (a, b) (c, d) = false := decide_eq_false (by unfold ltP; simp only; omega)
      rw [e]
      clear h2 e
      go_enter Try.func57, Try.ntmps57
      go_wp2
      go_ret
      exact ⟨rfl, HB.out⟩
theorem cnt_first {l : List Pt} (hs : SL l) (h i : Nat) (hi : i ≤ l.length) (h1 : ∀ j (hj : j < l.length), j < i → l[j].1 < h) (h2 : ∀ hj : i < l.length, h ≤ l[i].1) : cntP l h = i := by
  have hc := cntP_le l h
  have hcut := sl_cut hs h
  rcases Nat.lt_trichotomy (cntP l h) i with hlt | heq | hgt
  · exfalso
    have hlt2 : cntP l h < l.length := by omega
    have hm : l[cntP l h] ∈ l.drop (cntP l h) := List.mem_drop_iff_getElem.2 ⟨0, by omega, by simp⟩
    rw [hcut.2] at hm
    have := (List.mem_filter.1 hm).2
    have := h1 _ hlt2 hlt
    simp at *
    omega
  · exact heq
  · exfalso
    have hm : l[i] ∈ l.take (cntP l h) := List.mem_take_iff_getElem.2 ⟨i, by omega, rfl⟩
    rw [hcut.1] at hm
    have := (List.mem_filter.1 hm).2
    have := h2 (by omega)
    simp at *
    omega
theorem reffirst_any (l : List Pt) (hs : SL l) (h : Nat) (B n c : Nat) (A : Option Addr) (hn : n = l.length) (hp : 0 < n) (hl : n ≤ 1000000) (w : World) (hr : Row w B A (ptsC l)) :
    Calls Try.prog 58 #[.slice A n c, .int .u64 (h : Int)] w fun e w' => e = .returned (.int .i64 (firstP l h : Nat)) ∧ w = w' := by
  obtain ⟨b, o, rfl, _, hc⟩ := pts_open hr (by omega)
  have HC := Lib.hid hc
  have HN := Lib.hid hn
  have HS := Lib.hid hs
  have hnl : (n : Int) ≤ 1000000 := by omega
  clear hc hn hs hr
  go_enter Try.func58, Try.ntmps58
  go_wp2
  go_loop [5] (fun s => ∃ k : Nat, k ≤ n ∧ s = .int .i64 k ∧ Hid (∀ j (hj : j < l.length), j < k → l[j].1 < h)) (fun s => n - (intOf s).toNat)
  case atStart => exact ⟨0, by omega, rfl, Lib.hid fun t _ h => absurd h (Nat.not_lt_zero _)⟩
  case round =>
    obtain ⟨k, hk, rfl, HALL⟩ := hrel
    by_cases hkn : k < n
    · have hkl : k < l.length := by have := HN.out; omega
      have hck := (HC.out k hkl).1
      have HY : Hid (h ≤ l[k].1 → firstP l h = k) := Lib.hid fun e => by
        rw [firstP_eq, cnt_first HS.out h k (by omega) HALL.out fun _ => e, if_neg (by omega)]
      have HZ : Hid (l[k].1 < h → ∀ j (hj : j < l.length), j < k + 1 → l[j].1 < h) := Lib.hid fun e t ht htk => by
        rcases Nat.lt_or_ge t k with h1 | h1
        · exact HALL.out t ht h1
        · obtain rfl : t = k := by omega
          exact e
      obtain ⟨y, hy⟩ : ∃ y, l[k].1 = y := ⟨_, rfl⟩
      rw [hy] at hck HY HZ
      have hk0 : (0 : Int) ≤ (k : Int) := by omega
      have hk1 : (k : Int) < (n : Int) := by omega
      clear hy
      by_cases hyx : (h : Int) ≤ (y : Int)
      · have HY2 := Lib.hid (HY.out (by omega))
        go_wp2
        go_ret
        rw [HY2.out]
        exact ⟨rfl, rfl⟩
      · have HZ2 := Lib.hid (HZ.out (by omega))
        go_wp2
        go_round
        case rel => exact ⟨k + 1, by omega, by go_num, HZ2⟩
        case measure => simp [intOf]; omega
    · have hk1 : ¬ (k : Int) < (n : Int) := by omega
      have HF : Hid (firstP l h = 0) := Lib.hid (by
        rw [firstP_eq, cnt_first HS.out h k (by have := HN.out; omega) HALL.out fun hj => by have := HN.out; omega, if_pos (by have := HN.out; omega)])
      go_wp2
      go_ret
      rw [HF.out]
      exact ⟨rfl, rfl⟩
end Go.Proofs.Ytafajikjojpaaaa
