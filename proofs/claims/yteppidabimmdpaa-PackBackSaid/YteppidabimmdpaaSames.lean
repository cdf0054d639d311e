/- Two lists of numbers, or of rows, that are the same, are told to be. -/
import Derived.Test.YteppidabimmdpaaRefAll
namespace Go.Proofs.Yteppidabimmdpaa
open Go.RowKit Mem Be
set_option maxRecDepth 10000
set_option maxHeartbeats 1000000
def Quiet (v : Value) (w : World) (e : Ending) (w' : World) : Prop := e = .returned v ∧ ∃ q, w' = w.drewN q
theorem quiet_row {w w' : World} {B : Nat} {A : Option Addr} {xs : List Value} (h : Row w B A xs) (hq : ∃ q, w' = w.drewN q) : Row w' B A xs := by
  obtain ⟨q, rfl⟩ := hq; exact h
theorem quiet_below {w w' : World} {B : Nat} (hq : ∃ q, w' = w.drewN q) : Below B w w' := by
  obtain ⟨q, rfl⟩ := hq; exact below_drew w q B
theorem sameints_true (B B' c c' n n' : Nat) (A A' : Option Addr) (xs : List Int) (w : World) (h : Row w B A (xs.map iV)) (h' : Row w B' A' (xs.map iV)) (hn : n = xs.length) (hn' : n' = xs.length) (hl : xs.length ≤ 1000000) :
    Calls Try.prog 20 #[.slice A n c, .slice A' n' c'] w (Quiet (.bool true) w) := by
  subst hn; subst hn'
  have HR := Lib.hid h
  have HR' := Lib.hid h'
  have hnl : (xs.length : Int) ≤ 1000000 := by omega
  clear h h'
  go_enter Try.func20, Try.ntmps20
  go_wp2
  go_loopw [5] (fun i wr => ∃ k : Nat, k ≤ xs.length ∧ i = .int .i64 k ∧ Hid (∃ q, wr = w.drewN q)) (fun i _ => xs.length - (intOf i).toNat)
  case atStart => exact ⟨0, by omega, rfl, Lib.hid ⟨0, rfl⟩⟩
  case round =>
    obtain ⟨k, hk, rfl, HQ⟩ := hrel
    by_cases hlt : k < xs.length
    · obtain ⟨b, o, rfl, _, hc⟩ := (quiet_row HR.out HQ.out).open_ (by simp; omega)
      obtain ⟨b', o', rfl, _, hc'⟩ := (quiet_row HR'.out HQ.out).open_ (by simp; omega)
      have hcell : wr.cell? ⟨b, o + k, none⟩ = some (.int .i64 xs[k]) := (hc k (by simpa using hlt)).trans (congrArg some (List.getElem_map (f := iV) (h := by simpa using hlt)))
      have hcell' : wr.cell? ⟨b', o' + k, none⟩ = some (.int .i64 xs[k]) := (hc' k (by simpa using hlt)).trans (congrArg some (List.getElem_map (f := iV) (h := by simpa using hlt)))
      have hki : (0 : Int) ≤ (k : Int) := by omega
      have hki2 : (k : Int) < (xs.length : Int) := by omega
      clear hc hc'
      go_wp2
      go_quiet (fail)
      go_wp2
      go_roundw
      case rel => exact ⟨k + 1, by omega, by go_num, Lib.hid (by obtain ⟨q, rfl⟩ := HQ.out; exact ⟨_, World.drewN_drewN _ _ _⟩)⟩
      case measure => simp [intOf]; omega
    · go_wp2
      go_ret
      exact ⟨rfl, HQ.out⟩
theorem samelists_true (B B' c c' n n' : Nat) (A A' : Option Addr) (rs rs' : List RowV) (w : World) (h : Row w B A (rs.map rowV)) (h' : Row w B' A' (rs'.map rowV)) (he : rs.map (fun x => x.2.1) = rs'.map (fun x => x.2.1))
    (hx : ∀ x ∈ rs, ∃ B, Row w B x.1 (x.2.1.map byteV)) (hx' : ∀ x ∈ rs', ∃ B, Row w B x.1 (x.2.1.map byteV)) (hn : n = rs.length) (hn' : n' = rs'.length) (hl : rs.length ≤ 1000000) :
    Calls Try.prog 21 #[.slice A n c, .slice A' n' c'] w (Quiet (.bool true) w) := by
  have hlen : rs.length = rs'.length := by have := congrArg List.length he; simpa using this
  have hn2 : n' = n := by omega
  subst hn2
  have HR := Lib.hid h
  have HR' := Lib.hid h'
  have HX := Lib.hid hx
  have HX' := Lib.hid hx'
  have HE := Lib.hid he
  have HLEN := Lib.hid hlen
  have HN := Lib.hid hn
  have hnl : (n' : Int) ≤ 1000000 := by omega
  clear h h' hx hx' he hlen hn hn'
  go_enter Try.func21, Try.ntmps21
  go_wp2
  go_loopw [5] (fun i wr => ∃ k : Nat, k ≤ n' ∧ i = .int .i64 k ∧ Hid (∃ q, wr = w.drewN q)) (fun i _ => n' - (intOf i).toNat)
  case atStart => exact ⟨0, by omega, rfl, Lib.hid ⟨0, rfl⟩⟩
  case round =>
    obtain ⟨k, hk, rfl, HQ⟩ := hrel
    by_cases hlt : k < n'
    · have hk1 : k < rs.length := by rw [← HN.out]; exact hlt
      have hk2 : k < rs'.length := by rw [← HLEN.out]; exact hk1
      obtain ⟨b, o, rfl, _, hc⟩ := (quiet_row HR.out HQ.out).open_ (by simp; omega)
      obtain ⟨b', o', rfl, _, hc'⟩ := (quiet_row HR'.out HQ.out).open_ (by simp; omega)
      have hcell : wr.cell? ⟨b, o + k, none⟩ = some (rowV rs[k]) := (hc k (by simpa using hk1)).trans (congrArg some (List.getElem_map (f := rowV) (h := by simpa using hk1)))
      have hcell' : wr.cell? ⟨b', o' + k, none⟩ = some (rowV rs'[k]) := (hc' k (by simpa using hk2)).trans (congrArg some (List.getElem_map (f := rowV) (h := by simpa using hk2)))
      have hbb : rs'[k].2.1 = rs[k].2.1 := by
        have h1 : (rs.map (fun x => x.2.1))[k]? = (rs'.map (fun x => x.2.1))[k]? := by rw [HE.out]
        rw [List.getElem?_map, List.getElem?_map, List.getElem?_eq_getElem hk1, List.getElem?_eq_getElem hk2] at h1
        simpa using h1.symm
      obtain ⟨B1, hr1⟩ := HX.out _ (List.getElem_mem hk1)
      obtain ⟨B2, hr2⟩ := HX'.out _ (List.getElem_mem hk2)
      have hr1' := quiet_row hr1 HQ.out
      have hr2' := quiet_row hr2 HQ.out
      rw [hbb] at hr2'
      obtain ⟨⟨A1, y1, c1⟩, hy1⟩ : ∃ y, rs[k] = y := ⟨_, rfl⟩
      obtain ⟨⟨A2, y2, c2⟩, hy2⟩ : ∃ y, rs'[k] = y := ⟨_, rfl⟩
      rw [hy1] at hcell hbb hr1' hr2'
      rw [hy2] at hcell' hbb hr2'
      simp only at hbb hr1' hr2'
      subst hbb
      have hv1 : ∀ q, (convert 22 9 (.slice A1 y2.length c1)).run Try.prog (wr.drewN q) = .ok (.string ⟨y2.toArray⟩) (wr.drewN q) := fun q =>
        conv_row (P := Try.prog) (w := wr.drewN q) c1 22 9 5 Try.underlying22 Try.underlying5 Try.underlying9 (hr1'.drewN q)
      have hv2 : ∀ q, (convert 22 9 (.slice A2 y2.length c2)).run Try.prog (wr.drewN q) = .ok (.string ⟨y2.toArray⟩) (wr.drewN q) := fun q =>
        conv_row (P := Try.prog) (w := wr.drewN q) c2 22 9 5 Try.underlying22 Try.underlying5 Try.underlying9 (hr2'.drewN q)
      have hv1' := hv1 0
      have hv2' := hv2 0
      rw [World.drewN_zero] at hv1' hv2'
      unfold rowV at hcell hcell'
      simp only at hcell hcell'
      have hki : (0 : Int) ≤ (k : Int) := by omega
      have hki2 : (k : Int) < (n' : Int) := by omega
      clear hc hc' hr1 hr2 hr1' hr2' hy1 hy2
      go_wp2
      go_quiet (fail)
      go_wp2
      go_roundw
      case rel => exact ⟨k + 1, by omega, by go_num, Lib.hid (by obtain ⟨q, rfl⟩ := HQ.out; exact ⟨_, World.drewN_drewN _ _ _⟩)⟩
      case measure => simp [intOf]; omega
    · go_wp2
      go_ret
      exact ⟨rfl, HQ.out⟩
end Go.Proofs.Yteppidabimmdpaa
