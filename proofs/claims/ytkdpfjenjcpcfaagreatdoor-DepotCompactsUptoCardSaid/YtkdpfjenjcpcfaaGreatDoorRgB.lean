/- How two numbers stand, and the first that is not nought, by Go's package cmp. -/
import Derived.Test.YtkdpfjenjcpcfaaGreatDoorRgA
import Derived.Test.YtkdpfjenjcpcfaaGreatDoorHsh
namespace Go.Proofs.YtkdpfjenjcpcfaaGreatDoor
open Go.RowKit Mem Rg
set_option maxRecDepth 100000
set_option maxHeartbeats 2000000
set_option linter.unusedVariables false
def cmpZ (x y : Int) : Int := if x < y then -1 else if y < x then 1 else 0
theorem isnani_any (x : Int) (w : World) : Calls Tryz.prog 167 #[.int .i64 x] w fun e w' => e = .returned (.bool false) ∧ w = w' := by
  go_enter Tryz.func167, Tryz.ntmps167
  go_wp2
  go_ret
  exact ⟨by simp, rfl⟩
theorem cmpi_any (x y : Int) (w : World) : Calls Tryz.prog 143 #[.int .i64 x, .int .i64 y] w fun e w' => e = .returned (.int .i64 (cmpZ x y)) ∧ w = w' := by
  unfold cmpZ
  by_cases h1 : x < y
  · rw [if_pos h1]
    go_enter Tryz.func143, Tryz.ntmps143
    go_wp2_with (go_at_call 167; refine (isnani_any _ _).mono ?_; rintro e w' ⟨rfl, rfl⟩)
    go_ret
    exact ⟨rfl, rfl⟩
  · rw [if_neg h1]
    by_cases h2 : y < x
    · rw [if_pos h2]
      go_enter Tryz.func143, Tryz.ntmps143
      go_wp2_with (go_at_call 167; refine (isnani_any _ _).mono ?_; rintro e w' ⟨rfl, rfl⟩)
      go_ret
      exact ⟨rfl, rfl⟩
    · rw [if_neg h2]
      go_enter Tryz.func143, Tryz.ntmps143
      go_wp2_with (go_at_call 167; refine (isnani_any _ _).mono ?_; rintro e w' ⟨rfl, rfl⟩)
      go_ret
      exact ⟨rfl, rfl⟩
/-- Of two numbers the first that is not nought. -/
def orZ (x y : Int) : Int := if x = 0 then y else x
theorem or2_any (x y : Int) (b : Nat) (w : World) (h0 : w.cell? ⟨b, 0, none⟩ = some (.int .i64 x)) (h1 : w.cell? ⟨b, 1, none⟩ = some (.int .i64 y)) :
    Calls Tryz.prog 142 #[.slice (some ⟨b, 0, none⟩) 2 2] w fun e w' => e = .returned (.int .i64 (orZ x y)) ∧ w = w' := by
  unfold orZ
  by_cases hx : x = 0
  · subst hx
    rw [if_pos rfl]
    by_cases hy : y = 0
    · subst hy
      go_enter Tryz.func142, Tryz.ntmps142
      go_wp2
      go_loop [8] (fun i => i = .int .i64 0 ∨ i = .int .i64 1 ∨ i = .int .i64 2) (fun i => 2 - (intOf i).toNat)
      case atStart => exact Or.inl rfl
      case round =>
        rcases hrel with rfl | rfl | rfl
        · go_wp2
          go_round
          case rel => exact Or.inr (Or.inl rfl)
          case measure => simp [intOf]
        · go_wp2
          go_round
          case rel => exact Or.inr (Or.inr rfl)
          case measure => simp [intOf]
        · go_wp2
          go_ret
          exact ⟨rfl, rfl⟩
    · have hy2 : (y != 0) = true := by simpa using hy
      go_enter Tryz.func142, Tryz.ntmps142
      go_wp2
      go_loop [8] (fun i => i = .int .i64 0 ∨ i = .int .i64 1) (fun i => 2 - (intOf i).toNat)
      case atStart => exact Or.inl rfl
      case round =>
        rcases hrel with rfl | rfl
        · go_wp2
          go_round
          case rel => exact Or.inr rfl
          case measure => simp [intOf]
        · go_wp2
          go_ret
          exact ⟨rfl, rfl⟩
  · rw [if_neg hx]
    have hx2 : (x != 0) = true := by simpa using hx
    go_enter Tryz.func142, Tryz.ntmps142
    go_wp2
    go_loop [8] (fun i => i = .int .i64 0) (fun i => 2 - (intOf i).toNat)
    case atStart => exact rfl
    case round =>
      subst hrel
      go_wp2
      go_ret
      exact ⟨rfl, rfl⟩
def ptV (p : Pt) : Value := .agg #[.int .u64 (p.1 : Int), .int .i64 p.2]
def ptC (p : Pt) : List Value := [.int .u64 (p.1 : Int), .int .i64 p.2]
abbrev ptsC (l : List Pt) : List Value := l.flatMap ptC
theorem ptsC_len (l : List Pt) : (ptsC l).length = l.length * 2 := by
  induction l with
  | nil => rfl
  | cons p l ih => simp only [ptsC, List.flatMap_cons, List.length_append, ptC, List.length_cons, List.length_nil]; have := ih; unfold ptsC at this; omega
theorem ptsC_at (l : List Pt) (i : Nat) (h : i < l.length) (j : Nat) (hj : j < 2) : (ptsC l)[i * 2 + j]? = (ptC l[i])[j]? := by
  induction l generalizing i with
  | nil => simp at h
  | cons p l ih =>
    have hc : ptsC (p :: l) = ptC p ++ ptsC l := rfl
    rw [hc]
    have hl : (ptC p).length = 2 := rfl
    rcases i with _ | i
    · rw [List.getElem?_append_left (by omega), Nat.zero_mul, Nat.zero_add]; rfl
    · rw [List.getElem?_append_right (by omega), hl, show (i + 1) * 2 + j - 2 = i * 2 + j by omega, ih i (by simpa using h)]
      rfl
theorem pts_open {w : World} {B : Nat} {A : Option Addr} {l : List Pt} (h : Row w B A (ptsC l)) (hn : 0 < l.length) :
    ∃ b o, A = some ⟨b, o, none⟩ ∧ b < B ∧ ∀ i (hi : i < l.length), w.cell? ⟨b, o + i * 2, none⟩ = some (.int .u64 (l[i].1 : Int)) ∧ w.cell? ⟨b, o + i * 2 + 1, none⟩ = some (.int .i64 l[i].2) := by
  obtain ⟨b, o, hA, hb, hc⟩ := h.open_ (by rw [ptsC_len]; omega)
  refine ⟨b, o, hA, hb, fun i hi => ?_⟩
  have key : ∀ j, j < 2 → w.cell? ⟨b, o + i * 2 + j, none⟩ = (ptC l[i])[j]? := fun j hj => by
    have hlt : i * 2 + j < (ptsC l).length := by rw [ptsC_len]; omega
    rw [show o + i * 2 + j = o + (i * 2 + j) by omega, hc (i * 2 + j) hlt, ← ptsC_at l i hi j hj, List.getElem?_eq_getElem hlt]
  exact ⟨key 0 (by omega), key 1 (by omega)⟩
theorem info_i : (Tryz.prog.info? 3).map (fun i => (i.zero, i.size, i.bytes)) = some (some (.int .i64 0), 1, 8) := by kernel_rfl
theorem iV_one (l : List Int) : ∀ u ∈ l.map iV, u.oneCell' = true := by
  intro u hu
  obtain ⟨b, _, rfl⟩ := List.mem_map.1 hu
  rfl
def OwnI (b : Nat) (l : List Int) (v : Value) (w : World) : Prop := w.ownsRow b 3 1 v l.length (l.map iV)
def IntsE (l : List Int) (w : World) (x : Ending) (w' : World) : Prop := ∃ A c, x = .returned (.slice A l.length c) ∧ OwnI w.heap.size l (.slice A l.length c) w' ∧ Below w.heap.size w w'
theorem ownI_shape {b : Nat} {l : List Int} {v : Value} {w : World} (h : OwnI b l v w) : ∃ A c, v = .slice A l.length c := by
  obtain ⟨A, c, hv, _⟩ := ownShape h
  exact ⟨A, c, hv⟩
theorem int_row (w : World) (x : Int) : Row (w.alloc (.cells #[.int .i64 x] 3)) (w.heap.size + 1) (some ⟨w.heap.size, 0, none⟩) ([x].map iV) :=
  row_cells (xs := [x].map iV) rfl
def isIn (x : Int) (l : List Int) : Bool := decide (x ∈ l)
theorem isIn_true {x : Int} {l : List Int} (h : x ∈ l) : isIn x l = true := decide_eq_true h
theorem isIn_false {x : Int} {l : List Int} (h : x ∉ l) : isIn x l = false := decide_eq_false h
end Go.Proofs.YtkdpfjenjcpcfaaGreatDoor
