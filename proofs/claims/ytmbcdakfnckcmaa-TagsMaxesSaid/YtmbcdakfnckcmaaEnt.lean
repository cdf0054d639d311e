/- Entries: which may be, how many bytes they have: by the program and by the document, one contract each. -/
import Derived.Test.YtmbcdakfnckcmaaNextT
namespace Go.Proofs.Ytmbcdakfnckcmaa
open Go.RowKit Mem
set_option maxRecDepth 10000
set_option maxHeartbeats 2000000
abbrev entV (key : ByteArray) (s u o : Int) (has : Bool) (A : Option Addr) (m c : Nat) : Value := .agg #[.string key, .int .i64 s, .int .i64 u, .int .i64 o, .bool has, .slice A m c]
abbrev valV (has : Bool) (A : Option Addr) (m c : Nat) : Value := .agg #[.bool has, .slice A m c]
abbrev entO (key : ByteArray) (s u o : Int) (has : Bool) (A : Option Addr) (m c : Nat) : Obj := .cells #[.string key, .int .i64 s, .int .i64 u, .int .i64 o, .bool has, .slice A m c] 38
def rightE (k m : Nat) (s u o : Int) (has : Bool) : Int := if 0 < k ∧ k ≤ 250 ∧ m ≤ 60000 ∧ (has = true ∨ m = 0) ∧ checkT s u o = 0 ∧ ¬ (s = 0 ∧ has = true) then 0 else 2
theorem rightE_02 (k m : Nat) (s u o : Int) (has : Bool) : rightE k m s u o has = 0 ∨ rightE k m s u o has = 2 := by unfold rightE; split <;> simp
theorem rightE_no {k m : Nat} {s u o : Int} {has : Bool} (h : ¬ (0 < k ∧ k ≤ 250 ∧ m ≤ 60000 ∧ (has = true ∨ m = 0) ∧ checkT s u o = 0 ∧ ¬ (s = 0 ∧ has = true))) : rightE k m s u o has = 2 := if_neg h
theorem rightE_yes {k m : Nat} {s u o : Int} {has : Bool} (h : rightE k m s u o has = 0) : 0 < k ∧ k ≤ 250 ∧ m ≤ 60000 ∧ (has = true ∨ m = 0) ∧ checkT s u o = 0 ∧ ¬ (s = 0 ∧ has = true) := by
  unfold rightE at h; split at h
  · assumption
  · exact absurd h (by decide)
theorem rightE_check {k m : Nat} {s u o : Int} {has : Bool} (h : 0 < k ∧ k ≤ 250 ∧ m ≤ 60000 ∧ (has = true ∨ m = 0) ∧ ¬ (s = 0 ∧ has = true)) : rightE k m s u o has = checkT s u o := by
  obtain ⟨h1, h2, h3, h4, h5⟩ := h
  rcases checkT_02 s u o with h0 | h0
  · rw [h0]; exact if_pos ⟨h1, h2, h3, h4, h0, h5⟩
  · rw [h0]; exact rightE_no (by rintro ⟨_, _, _, _, h, _⟩; omega)
theorem isI_ret {n m : Int} {w w' : World} {e : Ending} (he : e = .returned (.int .i64 n)) (h : n = m) (hb : Below w.heap.size w w') : IsI m w e w' := ⟨by rw [he, h], hb⟩
/-- The ways to be parted: the key's length, the value's, whether there is one, whether the tag is nothing. -/
theorem ways (k m : Nat) (has : Bool) : ((k : Int) ≤ 0 ∨ (250 : Int) < (k : Int) ∨ ((0 : Int) < (k : Int) ∧ (k : Int) ≤ 250)) ∧
    ((60000 : Int) < (m : Int) ∨ ((m : Int) ≤ 60000 ∧ has = true) ∨ ((m : Int) ≤ 0 ∧ m = 0 ∧ has = false) ∨ ((m : Int) ≤ 60000 ∧ (0 : Int) < (m : Int) ∧ has = false)) := by
  refine ⟨by omega, ?_⟩
  cases has
  · by_cases h : 60000 < m
    · left; omega
    · by_cases h2 : m = 0
      · right; right; left; exact ⟨by omega, h2, rfl⟩
      · right; right; right; exact ⟨by omega, by omega, rfl⟩
  · by_cases h : 60000 < m
    · left; omega
    · right; left; exact ⟨by omega, rfl⟩
theorem none_ways (s : Int) : Hid ((s == 0) = true) ∨ Hid ((s == 0) = false) := by
  cases h : (s == 0)
  · exact Or.inr (Lib.hid rfl)
  · exact Or.inl (Lib.hid rfl)
theorem hid_nought {s : Int} (h : Hid ((s == 0) = true)) : s = 0 := by have := h.out; simpa using this
theorem hid_some {s : Int} (h : Hid ((s == 0) = false)) : s ≠ 0 := by have := h.out; simpa using this
theorem right_any (key : ByteArray) (s u o : Int) (has : Bool) (A : Option Addr) (m c : Nat) (hm : (m : Int) ≤ 1073741824) (hsz : (key.size : Int) ≤ 1073741824) (w : World) :
    Calls Try.prog 26 #[entV key s u o has A m c] w (IsI (rightE key.size m s u o has) w) := by
  have HB : Hid (Below w.heap.size w (w.alloc (entO key s u o has A m c))) := Lib.hid ((Below.refl _ _).alloc (Nat.le_refl _) _)
  obtain ⟨hk, hv⟩ := ways key.size m has
  have hs := none_ways s
  rcases hk with hk | hk | ⟨hk, hk2⟩ <;> rcases hv with hv | ⟨hv, rfl⟩ | ⟨hv, rfl, rfl⟩ | ⟨hv, hv2, rfl⟩ <;> rcases hs with hs | hs
  all_goals try (cases has)
  all_goals
    go_enter Try.func26, Try.ntmps26
    go_wp2_with (first
      | (go_at_call 11; refine (none_val _ _ _ _ (by assumption) _).mono ?_; rintro e w2 ⟨rfl, hb⟩; obtain ⟨hc, hf⟩ := bcell hb; have HB2 := Lib.hid (HB.out.trans (hb.mono HB.out.size)); clear hb)
      | (go_at_call 16; refine (check_any _ _ _ _).mono ?_; rintro e w3 ⟨rfl, hb⟩; have HB3 := Lib.hid (HB2.out.trans (hb.mono HB2.out.size)); clear hb))
    go_ret
    first
      | exact isI_of (rightE_check (by refine ⟨by omega, by omega, by omega, by simp, ?_⟩; rintro ⟨h1, h2⟩; first | exact hid_some hs h1 | simp at h2)).symm HB3.out
      | exact isI_of (rightE_no (by rintro ⟨h1, h2, h3, h4, h5, h6⟩; first | omega | (simp at h4; omega) | exact h6 ⟨hid_nought hs, rfl⟩)).symm HB2.out
end Go.Proofs.Ytmbcdakfnckcmaa
