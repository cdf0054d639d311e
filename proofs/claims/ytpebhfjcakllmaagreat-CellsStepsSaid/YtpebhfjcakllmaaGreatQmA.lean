/- How many are needed, whether two sets must meet, by the program and by the document; a copy of a row; those of a row, each once. -/
import Derived.Test.YtpebhfjcakllmaaGreatQrm
import Derived.Maps.OwnOps
import Derived.Maps.Views
namespace Go.Proofs.YtpebhfjcakllmaaGreat
open Go.RowKit Mem Rg Go.Maps
set_option maxRecDepth 100000
set_option maxHeartbeats 4000000
set_option linter.unusedVariables false
def needZ (n : Int) : Int := if n < 1 then 0 else n / 2 + 1
theorem needZ_nat (n : Nat) : needZ (n : Int) = ((need n : Nat) : Int) := by
  unfold needZ need
  by_cases h : n = 0
  · rw [if_pos h, if_pos (by omega)]; rfl
  · rw [if_neg h, if_neg (by omega)]; omega
theorem need_le (n : Nat) : need n ≤ n + 1 := by unfold need; split <;> omega
/-- A copy of numbers. -/
theorem clonei_any (B c n : Nat) (A : Option Addr) (xs : List Int) (hn : n = xs.length) (w : World) (h : Row w B A (xs.map iV)) (hB : B ≤ w.heap.size) (hl : n ≤ 17592186044416) :
    Calls Tryz.prog 38 #[.slice A n c] w (IntsE xs w) := by
  subst hn
  obtain ⟨i0, hi0, hz0, hz1, hz2⟩ := info_parts info_i
  rcases A with _ | a
  · have hb : xs = [] := by
      rcases h with h | ⟨b, o, e, _⟩
      · simpa using h
      · cases e
    subst hb
    clear h
    have he := fun W => Lib.run_eql_slice_nil (P := Tryz.prog) W 32 3 none 0 c 0 0 Tryz.underlying32
    go_enter Tryz.func38, Tryz.ntmps38
    go_wp2
    go_ret
    exact ⟨none, 0, rfl, World.ownsRow_nil _ _ _ _, Below.refl _ _⟩
  · have HR := Lib.hid (h.alloc hB (.cells #[] 3))
    have HO : Hid ((w.alloc (.cells #[] 3)).ownsRow w.heap.size 3 1 (.slice (some ⟨w.heap.size, 0, none⟩) 0 0) 0 []) := Lib.hid (World.ownsRow_made w #[] 0 (Nat.le_refl _) (by unfold maxLen; omega) rfl)
    clear h
    have he := fun W => Lib.run_eql_slice_nil (P := Tryz.prog) W 32 3 (some a) xs.length c 0 0 Tryz.underlying32
    go_enter Tryz.func38, Tryz.ntmps38
    go_wp2_with (at_builtin; refine wpList_app _ rfl _ _ 32 rfl w.heap.size 3 i0 (.int .i64 0) 8 Tryz.underlying32 hi0 hz0 hz1 hz2 rfl _ 0 [] rfl HO.out B _ xs.length c (xs.map iV) rfl (by simp) HR.out (iV_one xs) (by unfold maxLen; omega) (by omega) (by simp) ?_)
    intro v' w1 hown hg _
    have hown2 : OwnI w.heap.size xs v' w1 := by simpa [OwnI] using hown
    have hbl : Below w.heap.size w w1 := ((Below.refl _ _).alloc (Nat.le_refl _) _).grown hg (by simp) (fun g hg => by simp [Value.ownBlock] at hg; omega)
    obtain ⟨A1, c1, rfl⟩ := ownI_shape hown2
    have HRES : Hid (IntsE xs w (.returned (.slice A1 xs.length c1)) w1) := Lib.hid ⟨A1, c1, rfl, hown2, hbl⟩
    clear hown hg hown2 hbl
    go_wp2
    go_ret
    exact HRES.out
theorem own_ne_base {W : World} {g s n : Nat} {e : TypeId} {v : Value} {xs : List Value} (h : W.ownsRow (g + 1) e s v n xs) : v.ownBlock = none ∨ v.ownBlock ≠ some g := by
  by_cases hv : v.ownBlock = some g
  · have := (h.lt g hv).1; omega
  · exact Or.inr hv
theorem keyI : Keyed Tryz.prog 3 := int_keyed Tryz.underlying3
theorem zeroI (w : World) : (zeroValue 3).run Tryz.prog w = .ok (.int .i64 0) w := by kernel_rfl
/-- Block g is a map that says of each number how often it is among some. -/
def CntM (w : World) (g q : Nat) (l : List Int) : Prop := ∃ D : DataW Unit, w.ownsMap Tryz.prog 3 (plainElem Tryz.prog 3) g q D ∧ IsMap D ∧ ∀ x : Int, D.atKey (.int .i64 x) (.lit (.int .i64 0)) = .lit (.int .i64 (l.count x : Nat))
theorem cntM_made (w : World) : CntM (w.alloc (.map #[] 0)) w.heap.size 0 [] := ⟨.map [], World.ownsMap_made _ _ _ _, ⟨[], rfl⟩, fun x => rfl⟩
/-- Numbers that are of 64 bits. -/
def WfI (l : List Int) : Prop := ∀ x ∈ l, (Lit.int .i64 x).wf = true
end Go.Proofs.YtpebhfjcakllmaaGreat
