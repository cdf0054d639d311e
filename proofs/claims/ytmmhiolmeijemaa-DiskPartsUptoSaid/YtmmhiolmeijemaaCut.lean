/- A slice cut out of a slice that is only read; conversions; whether two rows of bytes are the same. -/
import Derived.Test.YtmmhiolmeijemaaApp
import Derived.Test.YtmmhiolmeijemaaRows
namespace Go.Proofs.Ytmmhiolmeijemaa
open Go.RowKit Mem
namespace Mem
def cutA (A : Option Addr) (k c : Nat) : Option Addr := if c = k then A else A.map (·.add k)
theorem add_zero' (a : Addr) : a.add 0 = a := by simp [Addr.add]
theorem cutA_zero (A : Option Addr) (c : Nat) : cutA A 0 c = A := by
  unfold cutA
  split
  · rfl
  · cases A <;> simp [add_zero']
theorem cutA_some (b o k c : Nat) (h : k < c) : cutA (some ⟨b, o, none⟩) k c = some ⟨b, o + k, none⟩ := by
  unfold cutA
  rw [if_neg (by omega)]
  show some ((⟨b, o, none⟩ : Addr).add k) = _
  unfold Addr.add
  split
  · subst_vars; rfl
  · rfl
theorem cut_row {w : World} {B : Nat} {A : Option Addr} {xs : List Value} (h : Row w B A xs) (k c : Nat) (hc : xs.length ≤ c) : Row w B (cutA A k c) (xs.drop k) := by
  rcases Nat.lt_or_ge k xs.length with hk | hk
  · obtain ⟨b, o, rfl, hb, hcell⟩ := h.open_ (by omega)
    rw [cutA_some b o k c (by omega)]
    refine Or.inr ⟨b, o + k, rfl, hb, fun j hj => ?_⟩
    rw [List.length_drop] at hj
    have := hcell (k + j) (by omega)
    rw [Nat.add_assoc, this, List.getElem_drop]
  · rw [List.drop_of_length_le hk]; exact Row.nil _ _ _
theorem take_row {w : World} {B : Nat} {A : Option Addr} {xs : List Value} (h : Row w B A xs) (k : Nat) : Row w B A (xs.take k) := by
  rcases h with h | ⟨b, o, e, hb, hc⟩
  · rw [h]; exact Or.inl (by simp)
  · refine Or.inr ⟨b, o, e, hb, fun j hj => ?_⟩
    rw [List.length_take] at hj
    rw [hc j (by omega), List.getElem_take]
section
variable {P : Program} {w : World} (t e : TypeId) (z : Value) (bytes : Nat) (ht : P.underlying t = some (.slice e)) (hinfo : (P.info? e).map (fun i => (i.zero, i.size, i.bytes)) = some (some z, 1, bytes))
include ht hinfo
theorem run_cut_l (A : Option Addr) (n c k : Nat) (h : k ≤ n) : (Instr.slice t (.slice A n c) (some (.int .i64 (k : Int))) none none).run P w = .ok (.slice (cutA A k c) (n - k) (c - k)) w := by
  obtain ⟨i, hi, hz⟩ := Option.map_eq_some_iff.1 hinfo
  simp only [Prod.mk.injEq] at hz
  obtain ⟨_, hs, _⟩ := hz
  simp [Instr.slice, run_underlying ht, Instr.sliceBounds, Instr.sliceBound, asIntOf, sizeOf, typeInfo, hi, hs, cutA, h]
theorem run_cut_h (A : Option Addr) (n c k : Nat) (h : k ≤ c) : (Instr.slice t (.slice A n c) none (some (.int .i64 (k : Int))) none).run P w = .ok (.slice A k c) w := by
  obtain ⟨i, hi, hz⟩ := Option.map_eq_some_iff.1 hinfo
  simp only [Prod.mk.injEq] at hz
  obtain ⟨_, hs, _⟩ := hz
  have hA : (if c = 0 then A else Option.map (fun x => x.add 0) A) = A := cutA_zero A c
  simp [Instr.slice, run_underlying ht, Instr.sliceBounds, Instr.sliceBound, asIntOf, sizeOf, typeInfo, hi, h]
  simpa using hA
theorem run_cut_lh (A : Option Addr) (n c k m : Nat) (h : k ≤ m) (h' : m ≤ c) : (Instr.slice t (.slice A n c) (some (.int .i64 (k : Int))) (some (.int .i64 (m : Int))) none).run P w = .ok (.slice (cutA A k c) (m - k) (c - k)) w := by
  obtain ⟨i, hi, hz⟩ := Option.map_eq_some_iff.1 hinfo
  simp only [Prod.mk.injEq] at hz
  obtain ⟨_, hs, _⟩ := hz
  simp [Instr.slice, run_underlying ht, Instr.sliceBounds, Instr.sliceBound, asIntOf, sizeOf, typeInfo, hi, hs, cutA, h, h']
end
end Mem
theorem same_any (B B' c c' n n' : Nat) (A A' : Option Addr) (xs ys : List UInt8) (w : World) (h : Row w B A (xs.map byteV)) (h' : Row w B' A' (ys.map byteV)) (hn : n = xs.length) (hn' : n' = ys.length) :
    Calls Try.prog 18 #[.slice A n c, .slice A' n' c'] w fun e w' => e = .returned (.bool (xs == ys)) ∧ w = w' := by
  subst hn; subst hn'
  have h1 := conv_row (P := Try.prog) c 22 9 5 Try.underlying22 Try.underlying5 Try.underlying9 h
  have h2 := conv_row (P := Try.prog) c' 22 9 5 Try.underlying22 Try.underlying5 Try.underlying9 h'
  clear h h'
  go_enter Try.func18, Try.ntmps18
  go_wp2
  go_ret
  exact ⟨rfl, rfl⟩
end Go.Proofs.Ytmmhiolmeijemaa
