/- The document's own answers (3): are two rings the same; are two rows of rows of numbers. -/
import Derived.Test.YthnfinnlnkjomaaRfA
namespace Go.Proofs.Ythnfinnlnkjomaa
open Go.RowKit Mem Rg
set_option maxRecDepth 100000
set_option maxHeartbeats 4000000
set_option linter.unusedVariables false
theorem refsame_any (A A' : Option Addr) (n n' c c' : Nat) (ns : List Int) (e k : Int) (hn : n = ns.length) (hn' : n' = ns.length) (hl : n ≤ 1000000) (w : World) (h : Row w w.heap.size A (ns.map iV)) (h' : Row w w.heap.size A' (ns.map iV)) :
    Calls Try.prog 30 #[.agg #[.slice A n c, .int .i64 e, .int .i64 k], .agg #[.slice A' n' c', .int .i64 e, .int .i64 k]] w fun x w' => x = .returned (.bool true) ∧ Below w.heap.size w w' := by
  have HE := Lib.hid fun W (hb : Below w.heap.size w W) => sameints_true _ _ c c' n n' A A' ns W (h.below hb) (h'.below hb) hn hn' (by omega)
  have HB0 : Hid (Below w.heap.size w ((w.alloc (.cells #[.slice A n c, .int .i64 e, .int .i64 k] 24)).alloc (.cells #[.slice A' n' c', .int .i64 e, .int .i64 k] 24))) := Lib.hid (((Below.refl _ _).alloc (Nat.le_refl _) _).alloc (by simp) _)
  have h1 : (e == e) = true := by simp
  have h2 : (k == k) = true := by simp
  clear h h' hn hn' hl
  go_enter Try.func30, Try.ntmps30
  go_wp2_with fail
  refine (HE.out _ HB0.out).mono ?_
  rintro e1 w1 ⟨rfl, q, rfl⟩
  go_wp2
  go_ret
  exact ⟨rfl, HB0.out.trans (below_drew' _ _ _)⟩
theorem refsamelists_any (A A' : Option Addr) (c c' n n' : Nat) (rs rs' : List RowIV) (he : rs.map (fun r => r.2.1) = rs'.map (fun r => r.2.1)) (hn : n = rs.length) (hn' : n' = rs'.length) (hl : n ≤ 1000000) (hll : ∀ r ∈ rs, r.2.1.length ≤ 1000000) (w : World)
    (h : Row w w.heap.size A (rs.map rowIV)) (h' : Row w w.heap.size A' (rs'.map rowIV)) (hx : ∀ r ∈ rs, Row w w.heap.size r.1 (r.2.1.map iV)) (hx' : ∀ r ∈ rs', Row w w.heap.size r.1 (r.2.1.map iV)) :
    Calls Try.prog 24 #[.slice A n c, .slice A' n' c'] w (Quiet (.bool true) w) := by
  have hlen : rs.length = rs'.length := by have := congrArg List.length he; simpa using this
  have hnn : n' = n := by omega
  subst hnn
  have HR := Lib.hid h
  have HR' := Lib.hid h'
  have HX := Lib.hid hx
  have HX' := Lib.hid hx'
  have HE := Lib.hid he
  have HN := Lib.hid (And.intro hn hlen)
  have HLL := Lib.hid hll
  have hnl : (n' : Int) ≤ 1000000 := by omega
  clear h h' hx hx' he hn hn' hlen hll
  go_enter Try.func24, Try.ntmps24
  go_wp2
  go_loopw [5] (fun i wr => ∃ k : Nat, k ≤ n' ∧ i = .int .i64 k ∧ Hid (∃ q, wr = w.drewN q)) (fun i _ => n' - (intOf i).toNat)
  case atStart => exact ⟨0, by omega, rfl, Lib.hid ⟨0, rfl⟩⟩
  case round =>
    obtain ⟨k, hk, rfl, HQ⟩ := hrel
    by_cases hlt : k < n'
    · have hk1 : k < rs.length := by rw [← HN.out.1]; exact hlt
      have hk2 : k < rs'.length := by rw [← HN.out.2]; exact hk1
      obtain ⟨b, o, rfl, _, hc⟩ := (quiet_row HR.out HQ.out).open_ (by rw [List.length_map]; omega)
      obtain ⟨b', o', rfl, _, hc'⟩ := (quiet_row HR'.out HQ.out).open_ (by rw [List.length_map]; omega)
      have hcell : wr.cell? ⟨b, o + k, none⟩ = some (rowIV rs[k]) := (hc k (by rw [List.length_map]; exact hk1)).trans (congrArg some (List.getElem_map (f := rowIV) (h := by simpa using hk1)))
      have hcell' : wr.cell? ⟨b', o' + k, none⟩ = some (rowIV rs'[k]) := (hc' k (by rw [List.length_map]; exact hk2)).trans (congrArg some (List.getElem_map (f := rowIV) (h := by simpa using hk2)))
      have hbb : rs'[k].2.1 = rs[k].2.1 := by
        have h1 : (rs.map (fun r => r.2.1))[k]? = (rs'.map (fun r => r.2.1))[k]? := by rw [HE.out]
        rw [List.getElem?_map, List.getElem?_map, List.getElem?_eq_getElem hk1, List.getElem?_eq_getElem hk2] at h1
        simpa using h1.symm
      have hr1 := quiet_row (HX.out _ (List.getElem_mem hk1)) HQ.out
      have hr2 := quiet_row (HX'.out _ (List.getElem_mem hk2)) HQ.out
      have hle := HLL.out _ (List.getElem_mem hk1)
      rw [hbb] at hr2
      obtain ⟨⟨A1, y1, c1⟩, hy1⟩ : ∃ y, rs[k] = y := ⟨_, rfl⟩
      obtain ⟨⟨A2, y2, c2⟩, hy2⟩ : ∃ y, rs'[k] = y := ⟨_, rfl⟩
      rw [hy1] at hcell hbb hr1 hr2 hle
      rw [hy2] at hcell' hbb hr2
      simp only at hbb hr1 hr2 hle
      subst hbb
      unfold rowIV at hcell hcell'
      simp only at hcell hcell'
      have HS := Lib.hid fun q => sameints_true w.heap.size w.heap.size c1 c2 y2.length y2.length A1 A2 y2 (wr.drewN q) hr1 hr2 rfl rfl hle
      have hki : (0 : Int) ≤ (k : Int) := by omega
      have hki2 : (k : Int) < (n' : Int) := by omega
      clear hc hc' hr1 hr2 hy1 hy2 hle
      go_wp2
      go_quiet ((go_at_call 17; exact Calls.quiet_of ((HS.out _).mono fun _ _ h => h)))
      go_wp2
      go_roundw
      case rel => exact ⟨k + 1, by omega, by go_num, Lib.hid (by obtain ⟨q, rfl⟩ := HQ.out; exact ⟨_, World.drewN_drewN _ _ _⟩)⟩
      case measure => simp [intOf]; omega
    · have hki2 : ¬ (k : Int) < (n' : Int) := by omega
      go_wp2
      go_ret
      exact ⟨rfl, HQ.out⟩
end Go.Proofs.Ythnfinnlnkjomaa
