/- BtI: The contracts that the statements' walks take: whatever beats there are, asked whenever. -/
import Derived.Test.YtkfapcigfgfeaaaBtH
namespace Go.Proofs.Ytkfapcigfgfeaaa
open Go.RowKit Flo Mem
set_option maxRecDepth 100000
set_option maxHeartbeats 1000000
set_option linter.unusedVariables false
def usV (last : Int) (xs : List Int) : Int := if OkB last xs then usZ xs else 0
def scV (last : Int) (xs : List Int) (now : Int) : Int := if rgtE last xs now = 0 then scZ xs (now - last) else 0
def suV (last : Int) (xs : List Int) (now most : Int) : Bool := if rgtE last xs now = 0 then susV xs (now - last) most else false
def suE (last : Int) (xs : List Int) (now most : Int) : Int := if rgtE last xs now = 0 then susE most else 2
theorem usV_facts {last : Int} {xs : List Int} (hw : ∀ x ∈ xs, Word x) : 0 ≤ usV last xs ∧ usV last xs ≤ 9218868437227405312 := by
  unfold usV; split
  · rename_i ok; have := us_facts hw ok; exact ⟨this.1, this.2.1⟩
  · omega
theorem scV_facts {last : Int} {xs : List Int} (hw : ∀ x ∈ xs, Word x) (now : Int) : 0 ≤ scV last xs now ∧ scV last xs now ≤ 9218868437227405312 := by
  unfold scV; split
  · rename_i hr
    rcases rgt_cases last xs now with ⟨_, ok, h1, h2⟩ | h
    · exact sc_facts hw ok (by omega) (by have := ok.1; omega)
    · omega
  · omega
theorem suE_cases (last : Int) (xs : List Int) (now most : Int) : suE last xs now most = 0 ∨ suE last xs now most = 2 ∨ suE last xs now most = 10 := by
  unfold suE susE; split
  · split
    · exact Or.inr (Or.inr rfl)
    · exact Or.inl rfl
  · exact Or.inr (Or.inl rfl)
theorem chk_bad {last : Int} {xs : List Int} (h : ¬ OkB last xs) : chkE last xs = 2 := if_neg h
theorem chk_good {last : Int} {xs : List Int} (h : OkB last xs) : chkE last xs = 0 := if_pos h
section
variable (last : Int) (xs : List Int) (n c : Nat) (A : Option Addr) (hn : n = xs.length) (hl : xs.length ≤ 200) (hw : ∀ x ∈ xs, Word x)
include hn hl hw
theorem usual_all (w : World) (h : Row w w.heap.size A (xs.map fv)) : Calls Try.prog 11 #[.agg (bC last A n c)] w (Ret (.tuple #[.float .f64 (fnat (usV last xs)), .int .i64 (chkE last xs)]) w) := by
  by_cases ok : OkB last xs
  · have := usual_ok last xs n c A hn hl hw ok w h
    rw [chk_good ok]; unfold usV; rw [if_pos ok]; exact this
  · have := usual_bad last xs n c A hn hl hw ok w h
    rw [chk_bad ok]; unfold usV; rw [if_neg ok]; exact this
theorem refusual_all (w : World) (h : Row w w.heap.size A (xs.map fv)) : Calls Try.prog 12 #[.agg (bC last A n c)] w (Ret (.tuple #[.float .f64 (fnat (usV last xs)), .int .i64 (chkE last xs)]) w) := by
  by_cases ok : OkB last xs
  · have := refusual_ok last xs n c A hn hl hw ok w h
    rw [chk_good ok]; unfold usV; rw [if_pos ok]; exact this
  · have := refusual_bad last xs n c A hn hl hw ok w h
    rw [chk_bad ok]; unfold usV; rw [if_neg ok]; exact this
theorem score_all (now : Int) (w : World) (h : Row w w.heap.size A (xs.map fv)) : Calls Try.prog 13 #[.agg (bC last A n c), .int .i64 now] w (Ret (.tuple #[.float .f64 (fnat (scV last xs now)), .int .i64 (rgtE last xs now)]) w) := by
  rcases rgt_cases last xs now with ⟨h0, _⟩ | h0
  · have := score_ok last xs n c A hn hl hw now h0 w h
    unfold scV; rw [if_pos h0, h0]; exact this
  · have := score_bad last xs n c A hn hl hw now h0 w h
    unfold scV; rw [if_neg (by omega), h0]; exact this
theorem refscore_all (now : Int) (w : World) (h : Row w w.heap.size A (xs.map fv)) : Calls Try.prog 14 #[.agg (bC last A n c), .int .i64 now] w (Ret (.tuple #[.float .f64 (fnat (scV last xs now)), .int .i64 (rgtE last xs now)]) w) := by
  rcases rgt_cases last xs now with ⟨h0, _⟩ | h0
  · have := refscore_ok last xs n c A hn hl hw now h0 w h
    unfold scV; rw [if_pos h0, h0]; exact this
  · have := refscore_bad last xs n c A hn hl hw now h0 w h
    unfold scV; rw [if_neg (by omega), h0]; exact this
theorem suspect_all (now most : Int) (hm : Word most) (w : World) (h : Row w w.heap.size A (xs.map fv)) : Calls Try.prog 15 #[.agg (bC last A n c), .int .i64 now, .float .f64 (fnat most)] w (Ret (.tuple #[.bool (suV last xs now most), .int .i64 (suE last xs now most)]) w) := by
  rcases rgt_cases last xs now with ⟨h0, _⟩ | h0
  · have := suspect_ok last xs n c A hn hl hw now most hm h0 w h
    unfold suV suE; rw [if_pos h0, if_pos h0]; exact this
  · have := suspect_bad last xs n c A hn hl hw now most h0 w h
    unfold suV suE; rw [if_neg (by omega), if_neg (by omega)]; exact this
end
theorem words_of {l : List Int} (h : ∀ x ∈ l, (Lit.int .u64 x).wf = true) : ∀ x ∈ l, Word x := fun x hx => word_wf (h x hx)
end Go.Proofs.Ytkfapcigfgfeaaa
