/- What the document reads of a number below a bound, of a truth. -/
import Derived.Test.YtnljljfopelopaaGetE
import Derived.Test.YtnljljfopelopaaGet
namespace Go.Proofs.Ytnljljfopelopaa
open Go.RowKit Mem Be
set_option maxRecDepth 10000
set_option maxHeartbeats 4000000
theorem getB_of {m : Int} {bs : List UInt8} {x : Int} {k : Nat} {e : Int} (hg : getN bs = (x, k, e)) : getB m bs = if e = 0 ∧ (x < 0 ∨ m ≤ x) then (0, 0, 11) else (x, k, e) := by unfold getB; rw [hg]
theorem refgetnum_any (B c n at_ : Nat) (m : Int) (A : Option Addr) (bs : List UInt8) (w : World) (h : Row w B A (bs.map byteV)) (hn : n = bs.length) (hl : n ≤ 1073741824) :
    Calls Try.prog 62 #[.slice A n c, .int .i64 at_, .int .i64 m] w (At3 (getB (m + 1) (bs.drop at_)) at_ w) := by
  obtain ⟨x, k, e, hg⟩ : ∃ x k e, getN (bs.drop at_) = (x, k, e) := ⟨_, _, _, rfl⟩
  have HC : Hid (Calls Try.prog 72 #[.slice A n c, .int .i64 at_] w (At3 (x, k, e) at_ w)) := Lib.hid (by rw [← hg]; exact refget_any B c n at_ A bs w h hn hl)
  have hB := getB_of (m := m + 1) hg
  clear hg h hn
  by_cases h0 : e = 0
  · subst h0
    cases hr : inR x m
    · have HB : Hid (getB (m + 1) (bs.drop at_) = (0, 0, 11)) := Lib.hid (by rw [hB, if_pos ⟨rfl, by have := inR_no hr; omega⟩])
      have HR := Lib.hid hr
      clear hB hr
      go_enter Try.func62, Try.ntmps62
      go_wp2_with (first | (go_at_call 72; refine HC.out.mono ?_; rintro e w' ⟨rfl, rfl⟩; unfold three) | (go_at_call 45; refine (within_val _ _ _ (by assumption) _).mono ?_; rintro e w' ⟨rfl, rfl⟩))
      go_ret3
      exact at3_end HB.out rfl (by omega) w
    · have HB : Hid (getB (m + 1) (bs.drop at_) = (x, k, 0)) := Lib.hid (by rw [hB, if_neg (by rintro ⟨_, h⟩; have := inR_yes hr; omega)])
      have HR := Lib.hid hr
      clear hB hr
      go_enter Try.func62, Try.ntmps62
      go_wp2_with (first | (go_at_call 72; refine HC.out.mono ?_; rintro e w' ⟨rfl, rfl⟩; unfold three) | (go_at_call 45; refine (within_val _ _ _ (by assumption) _).mono ?_; rintro e w' ⟨rfl, rfl⟩))
      go_ret3
      exact at3_end HB.out rfl rfl w
  · have HB : Hid (getB (m + 1) (bs.drop at_) = (x, k, e)) := Lib.hid (by rw [hB, if_neg (by rintro ⟨h, _⟩; exact h0 h)])
    have hb : (e == 0) = false := by simpa using h0
    clear hB h0
    go_enter Try.func62, Try.ntmps62
    go_wp2_with (go_at_call 72; refine HC.out.mono ?_; rintro e w' ⟨rfl, rfl⟩; unfold three)
    go_ret3
    exact at3_end HB.out rfl rfl w
/-- A truth at a place. -/
def AtT (r : Bool × Nat × Int) (at_ : Nat) (w : World) (e : Ending) (w' : World) : Prop := e = .returned (.tuple #[.bool r.1, .int .i64 ((at_ + r.2.1 : Nat) : Int), .int .i64 r.2.2]) ∧ w = w'
theorem att_end {r : Bool × Nat × Int} {b : Bool} {k : Nat} {e : Int} (hr : r = (b, k, e)) {at_ : Nat} {b' : Bool} {k' : Int} (h1 : b' = b) (h2 : k' = ((at_ + k : Nat) : Int)) (w : World) : AtT r at_ w (.returned (.tuple #[.bool b', .int .i64 k', .int .i64 e])) w := by
  subst hr; subst h1; subst h2; exact ⟨rfl, rfl⟩
theorem refgettruth_any (B c n at_ : Nat) (A : Option Addr) (bs : List UInt8) (w : World) (h : Row w B A (bs.map byteV)) (hn : n = bs.length) (hl : n ≤ 1073741824) :
    Calls Try.prog 63 #[.slice A n c, .int .i64 at_] w (AtT (getT (bs.drop at_)) at_ w) := by
  subst hn
  rcases Nat.lt_or_ge at_ bs.length with ha | ha
  · obtain ⟨b, o, rfl, _, hcell⟩ := h.open_ (by simp; omega)
    have h0 : w.cell? ⟨b, o + at_, none⟩ = some (.int .u8 (bs[at_].toNat : Int)) := (hcell at_ (by simpa using ha)).trans (congrArg some (by rw [List.getElem_map]; rfl))
    obtain ⟨b0, rest, hd⟩ : ∃ b0 rest, bs.drop at_ = b0 :: rest := ⟨_, _, List.drop_eq_getElem_cons ha⟩
    have hb0 : bs[at_] = b0 := by
      have := List.drop_eq_getElem_cons ha
      rw [hd] at this
      exact (List.cons.inj this).1.symm
    rw [hb0] at h0
    rw [hd]
    have hai : (at_ : Int) < (bs.length : Int) := by omega
    have hal : (bs.length : Int) ≤ 1073741824 := by omega
    have hlt := b0.toNat_lt
    clear hcell h hd hb0
    by_cases h1 : 1 < b0.toNat
    · have HG : Hid (getT (b0 :: rest) = (false, 0, 11)) := Lib.hid (by unfold getT; rw [if_neg (by simp), if_pos (by simpa using h1)])
      have hl2 : (1 : Int) < (b0.toNat : Int) := by omega
      clear h1
      go_enter Try.func63, Try.ntmps63
      go_wp2
      go_ret3
      exact att_end HG.out rfl (by omega) w
    · have HG : Hid (getT (b0 :: rest) = (b0.toNat == 1, 1, 0)) := Lib.hid (by unfold getT; rw [if_neg (by simp), if_neg (by simpa using h1)]; rfl)
      have hl2 : (b0.toNat : Int) ≤ 1 := by omega
      clear h1
      go_enter Try.func63, Try.ntmps63
      go_wp2
      go_ret3
      have e : (((b0.toNat : Int)) == 1) = (b0.toNat == 1) := by rw [Bool.eq_iff_iff]; simp; omega
      exact att_end HG.out e (by omega) w
  · rw [List.drop_of_length_le ha]
    have hai : (bs.length : Int) ≤ (at_ : Int) := by omega
    clear h
    go_enter Try.func63, Try.ntmps63
    go_wp2
    go_ret3
    exact att_end (show getT [] = (false, 0, 12) from rfl) rfl (by omega) w
end Go.Proofs.Ytnljljfopelopaa
