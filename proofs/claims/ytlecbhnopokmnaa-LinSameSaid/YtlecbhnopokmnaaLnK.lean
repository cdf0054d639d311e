/- LnK: The examples' two deeds; what the chapter's examples fix. -/
import Derived.Test.YtlecbhnopokmnaaLnN
import Derived.Test.YtlecbhnopokmnaaLnH
import Derived.Test.YtlecbhnopokmnaaSames
import Derived.Lib.SlBytesConst
namespace Go.Proofs.Ytlecbhnopokmnaa
open Go.RowKit Mem
set_option maxRecDepth 100000
set_option maxHeartbeats 4000000
set_option linter.unusedVariables false
set_option linter.unusedSimpArgs false
open Ln
def twoL (fr : Int) (g : Nat) : List DdL := [⟨2, some ⟨g, 0, none⟩, [120], 1, 0, 2, true, false, none, [], 0⟩, ⟨1, none, [], 0, fr, 4, true, false, none, [], 0⟩]
def twoP (fr : Int) : List DeedP := [⟨2, [120], 0, 2, true, false, []⟩, ⟨1, [], fr, 4, true, false, []⟩]
theorem two_p (fr : Int) (g : Nat) : (twoL fr g).map DdL.p = twoP fr := rfl
theorem two1_order {out : List Nat} (h : ∀ i ∈ out, i < 2) (hh : holdsP (twoP 1) (out.map Int.ofNat) = true) : out = [1, 0] := by
  match out, h, hh with
  | [], _, hh => exact absurd hh (by decide)
  | [a], h, hh =>
    have ha := h a (by simp)
    match a, ha with
    | 0, _ => exact absurd hh (by decide)
    | 1, _ => exact absurd hh (by decide)
  | a :: b :: r, h, hh =>
    have ha := h a (by simp)
    have hb := h b (by simp)
    match a, b, ha, hb with
    | 0, 0, _, _ => exact absurd hh (by rw [show holdsP (twoP 1) ((0 :: 0 :: r).map Int.ofNat) = false from rfl]; decide)
    | 0, 1, _, _ => exact absurd hh (by rw [show holdsP (twoP 1) ((0 :: 1 :: r).map Int.ofNat) = false from rfl]; decide)
    | 1, 1, _, _ => exact absurd hh (by rw [show holdsP (twoP 1) ((1 :: 1 :: r).map Int.ofNat) = false from rfl]; decide)
    | 1, 0, _, _ =>
      match r, h, hh with
      | [], _, _ => rfl
      | c :: r, h, hh =>
        have hc := h c (by simp)
        match c, hc with
        | 0, _ => exact absurd hh (by rw [show holdsP (twoP 1) ((1 :: 0 :: 0 :: r).map Int.ofNat) = false from rfl]; decide)
        | 1, _ => exact absurd hh (by rw [show holdsP (twoP 1) ((1 :: 0 :: 1 :: r).map Int.ofNat) = false from rfl]; decide)
theorem two3_order {out : List Nat} (h : ∀ i ∈ out, i < 2) : holdsP (twoP 3) (out.map Int.ofNat) = false := by
  match out, h with
  | [], _ => decide
  | [a], h =>
    have ha := h a (by simp)
    match a, ha with
    | 0, _ => decide
    | 1, _ => decide
  | a :: b :: r, h =>
    have ha := h a (by simp)
    have hb := h b (by simp)
    match a, b, ha, hb with
    | 0, 0, _, _ => rfl
    | 0, 1, _, _ => rfl
    | 1, 1, _, _ => rfl
    | 1, 0, _, _ => rfl
theorem two_yes : holdsP (twoP 1) [1, 0] = true := by decide
theorem two_not : holdsP (twoP 1) [0, 1] = false := by decide
/-- Two deeds, as they lie. -/
def TwP (fr : Int) (w : World) (e : Ending) (w' : World) : Prop :=
  ∃ (g c : Nat) (A : Option Addr), e = .returned (.slice A 2 c) ∧ Row w' w'.heap.size A (ddsC (twoL fr g)) ∧ Dds_ w' w'.heap.size (twoL fr g) ∧ Below w.heap.size w w'
theorem x_row {o : Obj} (w : World) : Row ((w.alloc (.cells #[.int .u8 120] 5 (1, 2))).alloc o) ((w.alloc (.cells #[.int .u8 120] 5 (1, 2))).alloc o).heap.size (some ⟨w.heap.size, 0, none⟩) (([120] : List UInt8).map byteV) := by
  have h1 : Row (w.alloc (.cells #[.int .u8 120] 5 (1, 2))) (w.heap.size + 1) (some ⟨w.heap.size, 0, none⟩) (([120] : List UInt8).map byteV) := Or.inr ⟨w.heap.size, 0, rfl, by omega, fun j hj => by
    have := cell_of_row (w.alloc (.cells #[.int .u8 120] 5 (1, 2))) w.heap.size j #[.int .u8 120] 5 (1, 2) (heap_alloc_new w _)
    rw [Nat.zero_add, this]
    obtain rfl : j = 0 := by simpa using hj
    rfl⟩
  exact (h1.below ((Below.refl _ _).alloc (by simp) _)).more (by simp)
theorem two_any (fr : Int) (w : World) : Calls Try.prog 26 #[.int .i64 fr] w (TwP fr w) := by
  have kc := fun (w : World) (C : Array Value) (n c : Nat) => Lib.run_convert_bytes_const (P := Try.prog) w 43 5 C n c Try.underlying43 Try.underlying5
  have HRES : Hid (∀ W : World, W = (w.alloc (.cells #[.int .u8 120] 5 (1, 2))).alloc (.cells #[.int .i64 2, .slice (some ⟨w.heap.size, 0, none⟩) 1 1, .int .i64 0, .int .i64 2, .bool true, .bool false, .slice none 0 0, .int .i64 1, .slice none 0 0, .int .i64 fr, .int .i64 4, .bool true, .bool false, .slice none 0 0] 47) → TwP fr w (.returned (.slice (some ⟨w.heap.size + 1, 0, none⟩) 2 2)) W) := Lib.hid fun W hW => by
    subst hW
    refine ⟨w.heap.size, 2, _, rfl, ?_, ?_, ((Below.refl _ _).alloc (Nat.le_refl _) _).alloc (by simp) _⟩
    · have := row_cells (w := w.alloc (.cells #[.int .u8 120] 5 (1, 2))) (t := 47) (cs := #[.int .i64 2, .slice (some ⟨w.heap.size, 0, none⟩) 1 1, .int .i64 0, .int .i64 2, .bool true, .bool false, .slice none 0 0, .int .i64 1, .slice none 0 0, .int .i64 fr, .int .i64 4, .bool true, .bool false, .slice none 0 0]) (xs := ddsC (twoL fr w.heap.size)) rfl
      simpa using this
    · intro r hr
      rcases (by simpa [twoL] using hr : r = ⟨2, some ⟨w.heap.size, 0, none⟩, [120], 1, 0, 2, true, false, none, [], 0⟩ ∨ r = ⟨1, none, [], 0, fr, 4, true, false, none, [], 0⟩) with rfl | rfl
      · exact ⟨x_row w, Or.inl rfl⟩
      · exact ⟨Or.inl rfl, Or.inl rfl⟩
  obtain ⟨Q, hQ⟩ : ∃ Q, TwP fr w = Q := ⟨_, rfl⟩
  rw [hQ] at HRES ⊢
  clear hQ
  go_enter Try.func26, Try.ntmps26
  go_wp2
  exact HRES.out _ rfl
/-- Their order. -/
theorem two_order1 (g c : Nat) (A : Option Addr) (W : World) (hr : Row W W.heap.size A (ddsC (twoL 1 g))) (hd : Dds_ W W.heap.size (twoL 1 g)) :
    Calls Try.prog 22 #[.slice A 2 c] W fun e w' => ∃ (A' : Option Addr) (c' : Nat), e = .returned (.tuple #[.slice A' 2 c', .int .i64 0]) ∧ Row w' w'.heap.size A' (([1, 0] : List Int).map iV) ∧ Below W.heap.size W w' := by
  refine (order_full (twoL 1 g) (by simp [twoL]) W.heap.size c A W hr (Nat.le_refl _) hd (by simp [twoL, minI])).mono ?_
  rintro e w' ⟨hb, ⟨h, _⟩ | ⟨_, h, _⟩ | ⟨_, out, A', c', h1, h2, _, rfl, ho⟩⟩
  · exact absurd h (by simp [twoL])
  · have := h [1, 0]
    rw [two_p, two_yes] at this
    exact absurd this (by decide)
  · rw [two_p] at h1
    obtain rfl := two1_order h2 h1
    exact ⟨A', c', rfl, Row.of_own ho, hb⟩
theorem two_order3 (g c : Nat) (A : Option Addr) (W : World) (hr : Row W W.heap.size A (ddsC (twoL 3 g))) (hd : Dds_ W W.heap.size (twoL 3 g)) :
    Calls Try.prog 22 #[.slice A 2 c] W fun e w' => e = .returned (.tuple #[.slice none 0 0, .int .i64 4]) ∧ Below W.heap.size W w' := by
  refine (order_full (twoL 3 g) (by simp [twoL]) W.heap.size c A W hr (Nat.le_refl _) hd (by simp [twoL, minI])).mono ?_
  rintro e w' ⟨hb, ⟨h, _⟩ | ⟨_, _, h⟩ | ⟨_, out, A', c', h1, h2, _, rfl, ho⟩⟩
  · exact absurd h (by simp [twoL])
  · exact ⟨h, hb⟩
  · rw [two_p, two3_order h2] at h1
    exact absurd h1 (by decide)
theorem two_holds (g c m c' : Nat) (A A' : Option Addr) (o : List Int) (ho : o.length = 2) (b : Bool) (hb : holdsP (twoP 1) o = b) (W : World) (hr : Row W W.heap.size A (ddsC (twoL 1 g))) (hd : Dds_ W W.heap.size (twoL 1 g)) (hr' : Row W W.heap.size A' (o.map iV8)) :
    Calls Try.prog 23 #[.slice A 2 c, .slice A' 2 c'] W (IsB18 b W) := by
  have := holds_any (twoL 1 g) (by simp [twoL]) o (by omega) W.heap.size c 2 c' A A' ho.symm W hr (Nat.le_refl _) hd hr'
  rw [two_p, hb] at this
  exact this
end Go.Proofs.Ytlecbhnopokmnaa
