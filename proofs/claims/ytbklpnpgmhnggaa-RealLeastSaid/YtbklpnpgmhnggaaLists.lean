/- Lists of words made into lists of numbers, and back: what the statements' own helpers give. -/
import Derived.Test.YtbklpnpgmhnggaaMean
namespace Go.Proofs.Ytbklpnpgmhnggaa
open Go.RowKit Flo Mem
set_option maxRecDepth 10000
set_option maxHeartbeats 800000
def iv (x : Int) : Value := .int .u64 x
theorem info_f : (Try.prog.info? 23).map (fun i => (i.zero, i.size, i.bytes)) = some (some (.float .f64 0), 1, 8) := by kernel_rfl
theorem info_u : (Try.prog.info? 22).map (fun i => (i.zero, i.size, i.bytes)) = some (some (.int .u64 0), 1, 8) := by kernel_rfl
theorem own_shape {w : World} {base : Nat} {e : TypeId} {v : Value} {n : Nat} {ys : List Value} (h : w.ownsRow base e 1 v n ys) : ∃ A c, v = .slice A n c ∧ (n = 0 ∨ ∀ a, A = some a → base ≤ a.block) := by
  rcases h.2 with ⟨rfl, rfl⟩ | ⟨g, cap, cur, rfl, hb, _⟩
  · exact ⟨none, 0, rfl, Or.inl rfl⟩
  · exact ⟨_, cap, rfl, Or.inr fun a ha => by injection ha with ha; subst ha; exact hb⟩
theorem all_step {xs : List Int} {k : Nat} (h : k < xs.length) (f : Int → Value) : (xs.take (k + 1)).map f = (xs.take k).map f ++ [f xs[k]] := by
  rw [List.take_succ_eq_append_getElem h, List.map_append]; rfl
theorem all_any (B c : Nat) (A : Option Addr) (xs : List Int) (w : World) (h : Row w B A (xs.map iv)) (hB : B ≤ w.heap.size) (hl : xs.length ≤ 200) :
    Calls Try.prog 24 #[.slice A xs.length c] w fun e w' => ∃ v, e = .returned v ∧ w'.ownsRow w.heap.size 23 1 v xs.length (xs.map fv) ∧ Below w.heap.size w w' := by
  obtain ⟨i0, hi0, hz0, hz1, hz2⟩ := info_parts info_f
  have HR := Lib.hid h
  have hf := run_frombits
  clear h
  go_enter Try.func24, Try.ntmps24
  go_wp2
  go_loopw [3, 4] (fun v i wr => ∃ k : Nat, k ≤ xs.length ∧ i = .int .i64 k ∧ wr.ownsRow w.heap.size 23 1 v k ((xs.take k).map fv) ∧ Below w.heap.size w wr) (fun _ i _ => xs.length - (intOf i).toNat)
  case atStart => exact ⟨0, by omega, rfl, World.ownsRow_nil _ _ _ _, Below.refl _ _⟩
  case round =>
    obtain ⟨k, hk, rfl, hown, hbl⟩ := hrel
    by_cases hlt : k < xs.length
    · obtain ⟨b, o, rfl, hbB, hc⟩ := HR.out.open_ (by simp; omega)
      have hcell := (hbl.cell (p := ⟨b, o + k, none⟩) (by show b < w.heap.size; omega)).trans ((hc k (by simpa using hlt)).trans (congrArg some (List.getElem_map (f := iv) (h := by simpa using hlt))))
      unfold iv at hcell
      have HOWN := Lib.hid hown
      have HBL := Lib.hid hbl
      clear hc hbl hown
      go_wp2_with (at_builtin; refine wpList_append_own _ rfl _ _ 34 rfl w.heap.size 23 i0 (.float .f64 0) 1 8 Try.underlying34 hi0 hz0 hz1 hz2 rfl (by decide) _ k _ rfl (HOWN.out.alloc _) ⟨_, 0, none⟩ 1 1 [fv xs[k]] rfl rfl ?c1 ?c2 ?c3 ?c4 ?c5 ?_)
      case c1 =>
        intro j u hj
        match j, hj with
        | 0, hj => simp at hj; subst hj; simp [Addr.add, fv]
      case c2 => intro u hu; simp at hu; subst hu; rfl
      case c3 => unfold maxLen; omega
      case c4 => omega
      case c5 => have := HBL.out.size; simp; omega
      · intro v' w1 hown' hgrow _
        have R : Hid (w1.ownsRow w.heap.size 23 1 v' (k + 1) ((xs.take (k + 1)).map fv) ∧ Below w.heap.size w w1) := by
          refine ⟨by rw [all_step hlt, List.map_take]; exact hown', ?_⟩
          refine ((HBL.out.alloc HBL.out.size _).grown hgrow (by have := HBL.out.size; simp; omega) fun g hg => ?_)
          exact (HOWN.out.lt g hg).1
        clear hown' hgrow
        go_wp2
        go_roundw
        case rel => exact ⟨k + 1, by omega, by go_num, R.out.1, R.out.2⟩
        case measure => simp [intOf]; omega
    · have e : k = xs.length := by omega
      go_wp2
      go_ret
      subst e
      rw [List.take_length] at hown
      exact ⟨_, rfl, hown, hbl⟩
theorem bits_any (B c : Nat) (A : Option Addr) (xs : List Int) (w : World) (h : Row w B A (xs.map fv)) (hB : B ≤ w.heap.size) (hl : xs.length ≤ 200) (hw : ∀ x ∈ xs, Word x) :
    Calls Try.prog 29 #[.slice A xs.length c] w fun e w' => ∃ v, e = .returned v ∧ w'.ownsRow w.heap.size 22 1 v xs.length (xs.map iv) ∧ Below w.heap.size w w' := by
  obtain ⟨i0, hi0, hz0, hz1, hz2⟩ := info_parts info_u
  have HR := Lib.hid h
  have HW := Lib.hid hw
  clear h hw
  go_enter Try.func29, Try.ntmps29
  go_wp2
  go_loopw [3, 4] (fun v i wr => ∃ k : Nat, k ≤ xs.length ∧ i = .int .i64 k ∧ wr.ownsRow w.heap.size 22 1 v k ((xs.take k).map iv) ∧ Below w.heap.size w wr) (fun _ i _ => xs.length - (intOf i).toNat)
  case atStart => exact ⟨0, by omega, rfl, World.ownsRow_nil _ _ _ _, Below.refl _ _⟩
  case round =>
    obtain ⟨k, hk, rfl, hown, hbl⟩ := hrel
    by_cases hlt : k < xs.length
    · obtain ⟨b, o, rfl, hbB, hc⟩ := HR.out.open_ (by simp; omega)
      have hcell := (hbl.cell (p := ⟨b, o + k, none⟩) (by show b < w.heap.size; omega)).trans ((hc k (by simpa using hlt)).trans (congrArg some (List.getElem_map (f := fv) (h := by simpa using hlt))))
      unfold fv at hcell
      have hbits := run_bits xs[k] (HW.out _ (List.getElem_mem hlt))
      have HOWN := Lib.hid hown
      have HBL := Lib.hid hbl
      clear hc hbl hown
      go_wp2_with (at_builtin; refine wpList_append_own _ rfl _ _ 33 rfl w.heap.size 22 i0 (.int .u64 0) 1 8 Try.underlying33 hi0 hz0 hz1 hz2 rfl (by decide) _ k _ rfl (HOWN.out.alloc _) ⟨_, 0, none⟩ 1 1 [iv xs[k]] rfl rfl ?c1 ?c2 ?c3 ?c4 ?c5 ?_)
      case c1 =>
        intro j u hj
        match j, hj with
        | 0, hj => simp at hj; subst hj; simp [Addr.add, iv]
      case c2 => intro u hu; simp at hu; subst hu; rfl
      case c3 => unfold maxLen; omega
      case c4 => omega
      case c5 => have := HBL.out.size; simp; omega
      · intro v' w1 hown' hgrow _
        have R : Hid (w1.ownsRow w.heap.size 22 1 v' (k + 1) ((xs.take (k + 1)).map iv) ∧ Below w.heap.size w w1) := by
          refine ⟨by rw [all_step hlt, List.map_take]; exact hown', ?_⟩
          refine ((HBL.out.alloc HBL.out.size _).grown hgrow (by have := HBL.out.size; simp; omega) fun g hg => ?_)
          exact (HOWN.out.lt g hg).1
        clear hown' hgrow
        go_wp2
        go_roundw
        case rel => exact ⟨k + 1, by omega, by go_num, R.out.1, R.out.2⟩
        case measure => simp [intOf]; omega
    · have e : k = xs.length := by omega
      go_wp2
      go_ret
      subst e
      rw [List.take_length] at hown
      exact ⟨_, rfl, hown, hbl⟩
/-- As above, the value's shape and the row that it leads to said besides. -/
theorem all_row (B c : Nat) (A : Option Addr) (xs : List Int) (w : World) (h : Row w B A (xs.map iv)) (hB : B ≤ w.heap.size) (hl : xs.length ≤ 200) :
    Calls Try.prog 24 #[.slice A xs.length c] w fun e w' => ∃ A' c', e = .returned (.slice A' xs.length c') ∧ w'.ownsRow w.heap.size 23 1 (.slice A' xs.length c') xs.length (xs.map fv) ∧ Row w' w'.heap.size A' (xs.map fv) ∧ Below w.heap.size w w' :=
  (all_any B c A xs w h hB hl).mono fun _ _ ⟨v, he, ho, hb⟩ => by
    obtain ⟨A', c', rfl, _⟩ := own_shape ho
    exact ⟨A', c', he, ho, Row.of_own ho, hb⟩
theorem bits_row (B c : Nat) (A : Option Addr) (xs : List Int) (w : World) (h : Row w B A (xs.map fv)) (hB : B ≤ w.heap.size) (hl : xs.length ≤ 200) (hw : ∀ x ∈ xs, Word x) :
    Calls Try.prog 29 #[.slice A xs.length c] w fun e w' => ∃ A' c', e = .returned (.slice A' xs.length c') ∧ Below w.heap.size w w' :=
  (bits_any B c A xs w h hB hl hw).mono fun _ _ ⟨v, he, ho, hb⟩ => by
    obtain ⟨A', c', rfl, _⟩ := own_shape ho
    exact ⟨A', c', he, hb⟩
end Go.Proofs.Ytbklpnpgmhnggaa
