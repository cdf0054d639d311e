/- Whether a number is in a list, by the program's own function values. -/
import Derived.Test.YtafajikjojpaaaaQmA
namespace Go.Proofs.Ytafajikjojpaaaa
open Go.RowKit Mem Rg
set_option maxRecDepth 100000
set_option maxHeartbeats 4000000
set_option linter.unusedVariables false
/-- Some of the blocks of a world stand in another one as they were. -/
def KeptB (K : Nat → Prop) (w w' : World) : Prop := w.heap.size ≤ w'.heap.size ∧ ∀ k, K k → w'.heap[k]? = w.heap[k]?
theorem cell_kept {w w' : World} {p : Addr} (h : w'.heap[p.block]? = w.heap[p.block]?) : w'.cell? p = w.cell? p := by unfold World.cell?; rw [h]
/-- A list in memory, copied and sorted, by a function value's captured variable g; its memory is among K. -/
def Fnd (K : Nat → Prop) (w : World) (g : Nat) (l : List Int) : Prop :=
  ∃ (A : Option Addr) (c : Nat) (s : List Int), Blk w g 22 #[.slice A s.length c] ∧ Row w w.heap.size A (s.map iV) ∧ s.Pairwise (· ≤ ·) ∧ (∀ x, x ∈ s ↔ x ∈ l) ∧ s.length ≤ 1000000 ∧ (∀ k, K k → k < w.heap.size) ∧ K g ∧ (∀ b o, A = some ⟨b, o, none⟩ → s ≠ [] → K b)
theorem Fnd.keep {K : Nat → Prop} {w w' : World} {g : Nat} {l : List Int} (h : Fnd K w g l) (hk : KeptB K w w') : Fnd K w' g l := by
  obtain ⟨A, c, s, h1, h2, h3, h4, h5, h6, h7, h8⟩ := h
  refine ⟨A, c, s, (hk.2 g h7).trans h1, ?_, h3, h4, h5, fun k hK => Nat.lt_of_lt_of_le (h6 k hK) hk.1, h7, h8⟩
  rcases h2 with h2 | ⟨b, o, rfl, hb, hc⟩
  · exact Or.inl h2
  · by_cases hs : s = []
    · subst hs; exact Or.inl rfl
    · have hKb := h8 b o rfl hs
      exact Or.inr ⟨b, o, rfl, Nat.lt_of_lt_of_le hb hk.1, fun j hj => (cell_kept (p := ⟨b, o + j, none⟩) (hk.2 b hKb)).trans (hc j hj)⟩
theorem Fnd.below {K : Nat → Prop} {w w' : World} {g : Nat} {l : List Int} (h : Fnd K w g l) (hb : Below w.heap.size w w') : Fnd K w' g l := by
  have h2 := h
  obtain ⟨A, c, s, _, _, _, _, _, h6, _⟩ := h2
  exact h.keep ⟨hb.size, fun k hK => hb.block k (h6 k hK)⟩
theorem Fnd.drewN {K : Nat → Prop} {w : World} {g : Nat} {l : List Int} (h : Fnd K w g l) (q : Nat) : Fnd K (w.drewN q) g l := h.below (below_drew' _ _ _)
/-- Where a number stands in a list in order, or would. -/
theorem found_any (B c n : Nat) (A : Option Addr) (ns : List Int) (x : Int) (hn : n = ns.length) (hl : n ≤ 1000000) (hs : ns.Pairwise (· ≤ ·)) (w : World) (h : Row w B A (ns.map iV)) :
    Calls Try.prog 42 #[.slice A n c, .int .i64 x] w fun e w' => (∃ i : Nat, e = .returned (.tuple #[.int .i64 i, .bool (isIn x ns)])) ∧ ∃ q, w' = w.drewN q := by
  have HR := Lib.hid h
  have HN := Lib.hid hn
  have HSO : Hid (∀ i j (hi : i < ns.length) (hj : j < ns.length), i ≤ j → ns[i] ≤ ns[j]) := Lib.hid fun i j hi hj hij => by
    rcases Nat.lt_or_ge i j with h | h
    · exact List.pairwise_iff_getElem.1 hs i j hi hj h
    · obtain rfl : i = j := by omega
      exact Int.le_refl _
  have hnl : (n : Int) ≤ 1000000 := by omega
  clear h hn hs
  go_enter Try.func42, Try.ntmps42
  go_wp2
  go_loopg [7, 8] n (fun g s7 s8 wr => ∃ lo hi q : Nat, s7 = .int .i64 lo ∧ s8 = .int .i64 hi ∧ lo ≤ hi ∧ hi ≤ n ∧ hi - lo ≤ g ∧ Hid (wr = w.drewN q) ∧ Hid (∀ t (h : t < ns.length), t < lo → ns[t] < x) ∧ Hid (∀ h : hi < ns.length, x ≤ ns[hi]))
  case atStart => exact ⟨0, n, 0, rfl, rfl, Nat.zero_le _, Nat.le_refl _, by omega, Lib.hid rfl, Lib.hid fun t h h2 => by omega, Lib.hid fun h => by have := HN.out; omega⟩
  case round =>
    obtain ⟨lo, hi, q, rfl, rfl, hlh, hin, hg, HQ, H1, H2⟩ := hrel
    by_cases hlt : lo < hi
    · obtain ⟨b, o, rfl, _, hc⟩ := int_cell (quiet_row HR.out ⟨q, HQ.out⟩) (by rw [← HN.out]; omega)
      have cm := hc ((lo + hi) / 2) (by rw [← HN.out]; omega)
      have H1' : Hid (ns[(lo + hi) / 2]'(by rw [← HN.out]; omega) < x → ∀ t (h : t < ns.length), t < (lo + hi) / 2 + 1 → ns[t] < x) := Lib.hid fun h t ht e => by
        have := HSO.out t ((lo + hi) / 2) ht (by rw [← HN.out]; omega) (by omega)
        omega
      have H2' : Hid (¬ ns[(lo + hi) / 2]'(by rw [← HN.out]; omega) < x → ∀ h : (lo + hi) / 2 < ns.length, x ≤ ns[(lo + hi) / 2]) := Lib.hid fun h _ => by omega
      obtain ⟨y, hy⟩ : ∃ y, ns[(lo + hi) / 2]'(by rw [← HN.out]; omega) = y := ⟨_, rfl⟩
      rw [hy] at cm H1'
      have H2'' : Hid (¬ y < x → ∀ h : (lo + hi) / 2 < ns.length, x ≤ ns[(lo + hi) / 2]) := Lib.hid fun h => H2'.out (by rw [hy]; exact h)
      clear hc hy H2'
      by_cases hyx : y < x
      · have H3 := Lib.hid (H1'.out hyx)
        clear H1' H2''
        go_wp2_with (go_at_call 50; refine (less_any _ _ _).mono ?_; rintro e w' ⟨rfl, rfl⟩)
        go_roundg (hi - ((lo + hi) / 2 + 1))
        case measure => omega
        case rel => exact ⟨(lo + hi) / 2 + 1, hi, q, by rw [show ((lo : Int) + (hi : Int)) / 2 + 1 = (((lo + hi) / 2 + 1 : Nat) : Int) by omega], rfl, by omega, hin, Nat.le_refl _, HQ, H3, H2⟩
      · have H3 := Lib.hid (H2''.out hyx)
        clear H1' H2''
        go_wp2_with (go_at_call 50; refine (less_any _ _ _).mono ?_; rintro e w' ⟨rfl, rfl⟩)
        go_roundg ((lo + hi) / 2 - lo)
        case measure => omega
        case rel => exact ⟨lo, (lo + hi) / 2, q, rfl, by rw [show ((lo : Int) + (hi : Int)) / 2 = (((lo + hi) / 2 : Nat) : Int) by omega], by omega, by omega, Nat.le_refl _, HQ, H1, H3⟩
    · obtain rfl : lo = hi := by omega
      by_cases hln : lo < n
      · have hll : lo < ns.length := by rw [← HN.out]; exact hln
        obtain ⟨b, o, rfl, _, hc⟩ := int_cell (quiet_row HR.out ⟨q, HQ.out⟩) (by rw [← HN.out]; omega)
        have cm := hc lo hll
        have HEQ : Hid (isIn x ns = (ns[lo] == x)) := Lib.hid (by
          rw [Bool.eq_iff_iff, isIn_iff, beq_iff_eq]
          refine ⟨fun hm => ?_, fun h => h ▸ List.getElem_mem hll⟩
          obtain ⟨t, ht, e⟩ := List.getElem_of_mem hm
          have h2 := H2.out hll
          rcases Nat.lt_or_ge t lo with h | h
          · have := H1.out t ht h; omega
          · have := HSO.out lo t hll ht h; omega)
        obtain ⟨y, hy⟩ : ∃ y, ns[lo] = y := ⟨_, rfl⟩
        rw [hy] at cm HEQ
        have hl0 : (0 : Int) ≤ (lo : Int) := by omega
        have hl1 : (lo : Int) < (n : Int) := by omega
        clear hc hy
        by_cases hyx : y = x
        · have hb : (y == x) = true := by simpa using hyx
          have HRR : Hid (isIn x ns = true) := Lib.hid (HEQ.out.trans hb)
          clear hyx
          go_wp2_with (go_at_call 51; refine (isnans_any _ _).mono ?_; rintro e w' ⟨rfl, rfl⟩)
          go_ret2
          rw [HRR.out]
          exact ⟨⟨lo, rfl⟩, _, HQ.out⟩
        · have hb : (y == x) = false := by simpa using hyx
          have HRR : Hid (isIn x ns = false) := Lib.hid (HEQ.out.trans hb)
          clear hyx
          go_wp2_with (go_at_call 51; refine (isnans_any _ _).mono ?_; rintro e w' ⟨rfl, rfl⟩)
          go_ret2
          rw [HRR.out]
          exact ⟨⟨lo, rfl⟩, _, HQ.out⟩
      · obtain rfl : lo = n := by omega
        have HEQ : Hid (isIn x ns = false) := Lib.hid (isIn_false fun hm => by
          obtain ⟨t, ht, e⟩ := List.getElem_of_mem hm
          have := H1.out t ht (by rw [HN.out]; exact ht)
          omega)
        go_wp2
        go_ret2
        rw [HEQ.out]
        exact ⟨⟨lo, rfl⟩, _, HQ.out⟩
theorem in_any (K : Nat → Prop) (g : Nat) (l : List Int) (x : Int) (w : World) (h : Fnd K w g l) :
    Calls Try.prog 41 #[.int .i64 x, .pointer (some ⟨g, 0, none⟩)] w fun e w' => e = .returned (.bool (isIn x l)) ∧ ∃ q, w' = w.drewN q := by
  obtain ⟨A, c, s, h1, h2, h3, h4, h5, h6, h7, h8⟩ := h
  have c0 : w.cell? ⟨g, 0, none⟩ = some (.slice A s.length c) := h1.cell 0
  have HF := Lib.hid fun W (hW : ∃ q, W = w.drewN q) => found_any w.heap.size c s.length A s x rfl h5 h3 W (quiet_row h2 hW)
  have e : isIn x s = isIn x l := isIn_congr (h4 x)
  rw [e] at HF
  clear h1 h2 h3 h4 h5 h6 h7 h8 e
  go_enter Try.func41, Try.ntmps41
  go_wp2_with fail
  refine (HF.out _ ⟨0, rfl⟩).mono ?_
  rintro e w' ⟨⟨i, rfl⟩, q, rfl⟩
  go_wp2
  go_ret
  exact ⟨rfl, q, rfl⟩
theorem notin_any (K : Nat → Prop) (g g2 : Nat) (l : List Int) (x : Int) (w : World) (h : Fnd K w g l) (hc : w.cell? ⟨g2, 0, none⟩ = some (.func (.func 41) #[] #[.pointer (some ⟨g, 0, none⟩)])) :
    Calls Try.prog 35 #[.int .i64 x, .pointer (some ⟨g2, 0, none⟩)] w fun e w' => e = .returned (.bool (!isIn x l)) ∧ ∃ q, w' = w.drewN q := by
  have HI := Lib.hid fun W (hW : ∃ q, W = w.drewN q) => in_any K g l x W (by obtain ⟨q, rfl⟩ := hW; exact h.drewN q)
  clear h
  go_enter Try.func35, Try.ntmps35
  go_wp2_with fail
  refine (HI.out _ ⟨0, rfl⟩).mono ?_
  rintro e w' ⟨rfl, q, rfl⟩
  go_wp2
  go_ret
  exact ⟨rfl, q, rfl⟩
end Go.Proofs.Ytafajikjojpaaaa
