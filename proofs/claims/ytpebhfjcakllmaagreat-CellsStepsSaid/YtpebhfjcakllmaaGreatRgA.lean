/- Whether a ring may be, by the program and by the document; how two points stand, by the program and by the document. -/
import Derived.Test.YtpebhfjcakllmaaGreatCore
import Derived.Test.YtpebhfjcakllmaaGreatSames
import Derived.Test.YtpebhfjcakllmaaGreatRng
import Derived.IntWalk
import Derived.Deep.QuietTactic
import Derived.BigQuiet
namespace Go.Proofs.YtpebhfjcakllmaaGreat
open Go.RowKit Mem Rg
set_option maxRecDepth 100000
set_option maxHeartbeats 2000000
set_option linter.unusedVariables false
theorem inc_of : ∀ (l : List Int), (∀ i (h : i + 1 < l.length), l[i] < l[i + 1]) → l.Pairwise (· < ·)
  | [], _ => List.Pairwise.nil
  | [a], _ => by simp
  | a :: b :: l, h => by
    have ih := inc_of (b :: l) (fun i hi => h (i + 1) (by simpa using hi))
    have h0 : a < b := h 0 (by simp)
    refine List.pairwise_cons.2 ⟨fun x hx => ?_, ih⟩
    rcases List.mem_cons.1 hx with rfl | hx
    · exact h0
    · have := (List.pairwise_cons.1 ih).1 x hx
      omega
theorem inc_at {l : List Int} (h : l.Pairwise (· < ·)) (i j : Nat) (hi : i < l.length) (hj : j < l.length) (hij : i < j) : l[i] < l[j] :=
  List.pairwise_iff_getElem.1 h i j hi hj hij
/-- A ring that may be. -/
def OkR (ns : List Int) (e k : Int) : Prop := 1 ≤ ns.length ∧ ns.length ≤ 64 ∧ 1 ≤ e ∧ e ≤ 64 ∧ 1 ≤ k ∧ k ≤ ns.length ∧ (∀ x ∈ ns, 0 ≤ x ∧ x ≤ 1048575) ∧ ns.Pairwise (· < ·)
instance (ns : List Int) (e k : Int) : Decidable (OkR ns e k) := inferInstanceAs (Decidable (_ ∧ _))
theorem int_cell {w : World} {B : Nat} {A : Option Addr} {ns : List Int} (h : Row w B A (ns.map iV)) (hn : 0 < ns.length) :
    ∃ b o, A = some ⟨b, o, none⟩ ∧ b < B ∧ ∀ i (hi : i < ns.length), w.cell? ⟨b, o + i, none⟩ = some (.int .i64 ns[i]) := by
  obtain ⟨b, o, hA, hb, hc⟩ := h.open_ (by rw [List.length_map]; exact hn)
  exact ⟨b, o, hA, hb, fun i hi => (hc i (by rw [List.length_map]; exact hi)).trans (congrArg some (List.getElem_map (f := iV) (h := by simpa using hi)))⟩
end Go.Proofs.YtpebhfjcakllmaaGreat
