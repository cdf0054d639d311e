/- What layer 2 reads of a number below a bound, of a row and of a truth; what the document reads of a number and of a row. -/
import Derived.Test.YtmbcdakfnckcmaaDec
namespace Go.Proofs.Ytmbcdakfnckcmaa
open Go.RowKit Mem Be
set_option maxRecDepth 10000
set_option maxHeartbeats 1000000
namespace Be
def getB (m : Int) (bs : List UInt8) : Int × Nat × Int := if (getN bs).2.2 = 0 ∧ ((getN bs).1 < 0 ∨ m ≤ (getN bs).1) then (0, 0, 11) else getN bs
def getR (bs : List UInt8) : List UInt8 × Nat × Int :=
  if ¬ (getN bs).2.2 = 0 then ([], 0, (getN bs).2.2)
  else if (getN bs).1 < 0 ∨ 65537 ≤ (getN bs).1 then ([], 0, 11)
  else if (bs.length : Int) - (getN bs).2.1 < (getN bs).1 then ([], 0, 12)
  else ((bs.drop (getN bs).2.1).take (getN bs).1.toNat, (getN bs).2.1 + (getN bs).1.toNat, 0)
def getT (bs : List UInt8) : Bool × Nat × Int :=
  if bs.length = 0 then (false, 0, 12) else if 1 < (bs.headD 0).toNat then (false, 0, 11) else ((bs.headD 0).toNat == 1, 1, 0)
theorem getB_err (m : Int) (bs : List UInt8) : ((getB m bs).2.2 = 0 ∧ 1 ≤ (getB m bs).2.1 ∧ (getB m bs).2.1 ≤ bs.length ∧ 0 ≤ (getB m bs).1 ∧ (getB m bs).1 < m ∧ getB m bs = getN bs) ∨ ((getB m bs).1 = 0 ∧ (getB m bs).2.1 = 0 ∧ ((getB m bs).2.2 = 11 ∨ (getB m bs).2.2 = 12)) := by
  unfold getB
  by_cases h : (getN bs).2.2 = 0 ∧ ((getN bs).1 < 0 ∨ m ≤ (getN bs).1)
  · rw [if_pos h]; right; simp
  · rw [if_neg h]
    rcases getN_err bs with h1 | h1
    · left; refine ⟨h1.1, h1.2.1, h1.2.2, ?_, ?_, rfl⟩ <;> omega
    · right; exact h1
theorem getR_err (bs : List UInt8) : ((getR bs).2.2 = 0 ∧ 1 ≤ (getR bs).2.1 ∧ (getR bs).2.1 ≤ bs.length) ∨ ((getR bs).1 = [] ∧ (getR bs).2.1 = 0 ∧ ((getR bs).2.2 = 11 ∨ (getR bs).2.2 = 12)) := by
  have hn := getN_err bs
  unfold getR
  by_cases h : (getN bs).2.2 = 0
  · rw [if_neg (by simpa using h)]
    by_cases h2 : (getN bs).1 < 0 ∨ 65537 ≤ (getN bs).1
    · rw [if_pos h2]; simp
    · rw [if_neg h2]
      by_cases h3 : (bs.length : Int) - (getN bs).2.1 < (getN bs).1
      · rw [if_pos h3]; simp
      · rw [if_neg h3]; left; refine ⟨rfl, ?_, ?_⟩ <;> simp only <;> omega
  · rw [if_pos h]; right; simp only; exact ⟨trivial, trivial, by omega⟩
theorem getT_err (bs : List UInt8) : ((getT bs).2.2 = 0 ∧ (getT bs).2.1 = 1 ∧ 1 ≤ bs.length) ∨ ((getT bs).1 = false ∧ (getT bs).2.1 = 0 ∧ ((getT bs).2.2 = 11 ∨ (getT bs).2.2 = 12)) := by
  unfold getT
  by_cases h : bs.length = 0
  · rw [if_pos h]; simp
  · rw [if_neg h]
    by_cases h2 : 1 < (bs.headD 0).toNat
    · rw [if_pos h2]; simp
    · rw [if_neg h2]; left; exact ⟨rfl, rfl, by omega⟩
end Be
theorem num3_same {r : Int × Nat × Int} {w w1 : World} {n : Nat} (h : w1 = w.drewN n) : Num3 r w (three r.1 r.2.1 r.2.2) w1 := ⟨rfl, n, h⟩
theorem below_any (B c : Nat) (A : Option Addr) (bs : List UInt8) (m : Int) (w : World) (h : Row w B A (bs.map byteV)) (hc : bs.length ≤ c) (hm : c ≤ maxLen) :
    Calls Try.prog 33 #[.slice A bs.length c, .int .i64 m] w (Num3 (getB m bs) w) := by
  have HR := Lib.hid h
  have he := getN_err bs
  obtain ⟨x, k, e, hg⟩ : ∃ x k e, getN bs = (x, k, e) := ⟨_, _, _, rfl⟩
  have hB : getB m bs = if e = 0 ∧ (x < 0 ∨ m ≤ x) then (0, 0, 11) else (x, k, e) := by unfold getB; rw [hg]
  have HG := Lib.hid hg
  have HB := Lib.hid hB
  rw [hg] at he
  have HE := Lib.hid he
  clear h hg hB he
  have hcall : ∀ W, W = w → Calls Try.prog 38 #[.slice A bs.length c] W (Num3 (x, k, e) w) := fun W hW => by
    rw [hW, ← HG.out]; exact number_any B c A bs w HR.out hc hm
  have HC := Lib.hid hcall
  clear hcall hc hm
  by_cases h0 : e = 0
  · subst h0
    have HB1 := HB.out
    by_cases hx : x < 0
    · rw [if_pos ⟨rfl, Or.inl hx⟩] at HB1
      have HB2 := Lib.hid HB1; clear HB1
      go_enter Try.func33, Try.ntmps33
      go_wp2_with (go_at_call 38; refine (HC.out _ rfl).mono ?_; rintro e w' ⟨rfl, nq, rfl⟩; unfold three)
      go_ret3
      exact num3_end HB2.out rfl rfl w _
    · by_cases hx2 : m ≤ x
      · rw [if_pos ⟨rfl, Or.inr hx2⟩] at HB1
        have HB2 := Lib.hid HB1; clear HB1
        go_enter Try.func33, Try.ntmps33
        go_wp2_with (go_at_call 38; refine (HC.out _ rfl).mono ?_; rintro e w' ⟨rfl, nq, rfl⟩; unfold three)
        go_ret3
        exact num3_end HB2.out rfl rfl w _
      · rw [if_neg (by rintro ⟨_, h | h⟩; exact hx h; exact hx2 h)] at HB1
        have HB2 := Lib.hid HB1; clear HB1
        go_enter Try.func33, Try.ntmps33
        go_wp2_with (go_at_call 38; refine (HC.out _ rfl).mono ?_; rintro e w' ⟨rfl, nq, rfl⟩; unfold three)
        go_ret3
        exact num3_end HB2.out rfl rfl w _
  · have HB1 := HB.out
    rw [if_neg (by rintro ⟨h, _⟩; exact h0 h)] at HB1
    have HB2 := Lib.hid HB1; clear HB1
    have hne : (e == 0) = false := by simpa using h0
    have HN := Lib.hid h0
    clear h0
    go_enter Try.func33, Try.ntmps33
    go_wp2_with (go_at_call 38; refine (HC.out _ rfl).mono ?_; rintro e w' ⟨rfl, nq, rfl⟩; unfold three)
    go_ret3
    exact num3_end HB2.out rfl rfl w _

def Bool3 (r : Bool × Nat × Int) : Ending := .returned (.tuple #[.bool r.1, .int .i64 r.2.1, .int .i64 r.2.2])
theorem truth_any (B c : Nat) (A : Option Addr) (bs : List UInt8) (w : World) (h : Row w B A (bs.map byteV)) :
    Calls Try.prog 37 #[.slice A bs.length c] w fun e w' => e = Bool3 (getT bs) ∧ w = w' := by
  match bs, h with
  | [], _ =>
    go_enter Try.func37, Try.ntmps37
    go_wp2
    go_ret3
    exact ⟨rfl, rfl⟩
  | b0 :: rest, h =>
    obtain ⟨b, o, rfl, _, hcell⟩ := h.open_ (by simp)
    have h0 : w.cell? ⟨b, o, none⟩ = some (.int .u8 (b0.toNat : Int)) := hcell 0 (by simp)
    have hb := b0.toNat_lt
    clear hcell h
    by_cases h1 : 1 < b0.toNat
    · have HG : Hid (getT (b0 :: rest) = (false, 0, 11)) := Lib.hid (by unfold getT; rw [if_neg (by simp), if_pos (by simpa using h1)])
      have hl : (1 : Int) < (b0.toNat : Int) := by omega
      go_enter Try.func37, Try.ntmps37
      go_wp2
      go_ret3
      exact ⟨by rw [HG.out]; rfl, rfl⟩
    · have HG : Hid (getT (b0 :: rest) = (b0.toNat == 1, 1, 0)) := Lib.hid (by unfold getT; rw [if_neg (by simp), if_neg (by simpa using h1)]; rfl)
      have hl : (b0.toNat : Int) ≤ 1 := by omega
      go_enter Try.func37, Try.ntmps37
      go_wp2
      go_ret3
      refine ⟨?_, rfl⟩
      rw [HG.out]
      have e : (((b0.toNat : Int)) == 1) = (b0.toNat == 1) := by rw [Bool.eq_iff_iff]; simp; omega
      unfold Bool3
      simp [e]
end Go.Proofs.Ytmbcdakfnckcmaa
