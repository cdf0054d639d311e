/- Two lists of numbers, or of rows, that are the same, are told to be. -/
import Derived.Test.YtlecbhnopokmnaaCore
import Derived.Deep.QuietTactic
import Derived.BigQuiet
namespace Go.Proofs.Ytlecbhnopokmnaa
open Go.RowKit Mem
set_option maxRecDepth 10000
set_option maxHeartbeats 1000000
def iV (x : Int) : Value := .int .i64 x
theorem below_drew' (w : World) (n B : Nat) : Below B w (w.drewN n) := ⟨rfl, rfl, rfl, Nat.le_refl _, fun _ _ => rfl⟩
def Quiet (v : Value) (w : World) (e : Ending) (w' : World) : Prop := e = .returned v ∧ ∃ q, w' = w.drewN q
theorem quiet_row {w w' : World} {B : Nat} {A : Option Addr} {xs : List Value} (h : Row w B A xs) (hq : ∃ q, w' = w.drewN q) : Row w' B A xs := by
  obtain ⟨q, rfl⟩ := hq; exact h
theorem quiet_below {w w' : World} {B : Nat} (hq : ∃ q, w' = w.drewN q) : Below B w w' := by
  obtain ⟨q, rfl⟩ := hq; exact below_drew' w q B
theorem sameints_true (B B' c c' n n' : Nat) (A A' : Option Addr) (xs : List Int) (w : World) (h : Row w B A (xs.map iV)) (h' : Row w B' A' (xs.map iV)) (hn : n = xs.length) (hn' : n' = xs.length) (hl : xs.length ≤ 1000000) :
    Calls Try.prog 27 #[.slice A n c, .slice A' n' c'] w (Quiet (.bool true) w) := by
  subst hn; subst hn'
  have HR := Lib.hid h
  have HR' := Lib.hid h'
  have hnl : (xs.length : Int) ≤ 1000000 := by omega
  clear h h'
  go_enter Try.func27, Try.ntmps27
  go_wp2
  go_loopw [5] (fun i wr => ∃ k : Nat, k ≤ xs.length ∧ i = .int .i64 k ∧ Hid (∃ q, wr = w.drewN q)) (fun i _ => xs.length - (intOf i).toNat)
  case atStart => exact ⟨0, by omega, rfl, Lib.hid ⟨0, rfl⟩⟩
  case round =>
    obtain ⟨k, hk, rfl, HQ⟩ := hrel
    by_cases hlt : k < xs.length
    · obtain ⟨b, o, rfl, _, hc⟩ := (quiet_row HR.out HQ.out).open_ (by simp; omega)
      obtain ⟨b', o', rfl, _, hc'⟩ := (quiet_row HR'.out HQ.out).open_ (by simp; omega)
      have hcell : wr.cell? ⟨b, o + k, none⟩ = some (.int .i64 xs[k]) := (hc k (by simpa using hlt)).trans (congrArg some (List.getElem_map (f := iV) (h := by simpa using hlt)))
      have hcell' : wr.cell? ⟨b', o' + k, none⟩ = some (.int .i64 xs[k]) := (hc' k (by simpa using hlt)).trans (congrArg some (List.getElem_map (f := iV) (h := by simpa using hlt)))
      have hki : (0 : Int) ≤ (k : Int) := by omega
      have hki2 : (k : Int) < (xs.length : Int) := by omega
      clear hc hc'
      go_wp2
      go_quiet (fail)
      go_wp2
      go_roundw
      case rel => exact ⟨k + 1, by omega, by go_num, Lib.hid (by obtain ⟨q, rfl⟩ := HQ.out; exact ⟨_, World.drewN_drewN _ _ _⟩)⟩
      case measure => simp [intOf]; omega
    · go_wp2
      go_ret
      exact ⟨rfl, HQ.out⟩
end Go.Proofs.Ytlecbhnopokmnaa
