/- The tag that comes next, by the program and by the document. -/
import Derived.Test.YtmbcdakfnckcmaaTag2
namespace Go.Proofs.Ytmbcdakfnckcmaa
open Go.RowKit Mem
set_option maxRecDepth 10000
set_option maxHeartbeats 1000000
/-- The next tag, and the error. -/
def nextT (s u o who op : Int) : Int × Int × Int × Int :=
  if checkT s u o ≠ 0 then (0, 0, 0, 2) else if inR who 1048575 = false ∨ inR op 1048575 = false then (0, 0, 0, 2) else if s = 1099511627775 then (0, 0, 0, 3) else (s + 1, who, op, 0)
def IsTE (r : Int × Int × Int × Int) (w : World) (e : Ending) (w' : World) : Prop := e = .returned (.tuple #[tagV r.1 r.2.1 r.2.2.1, .int .i64 r.2.2.2]) ∧ Below w.heap.size w w'
theorem isTE_of {r : Int × Int × Int × Int} {a b c e : Int} (h : r = (a, b, c, e)) {w w' : World} (hb : Below w.heap.size w w') : IsTE r w (.returned (.tuple #[tagV a b c, .int .i64 e])) w' := ⟨by rw [h], hb⟩
theorem checkT_02 (s u o : Int) : checkT s u o = 0 ∨ checkT s u o = 2 := by unfold checkT; split <;> simp
theorem check_seq {s u o : Int} (h : checkT s u o = 0) : 0 ≤ s ∧ s ≤ 1099511627775 := by
  cases h1 : inR s 1099511627775
  · rw [checkT_1 h1] at h; exact absurd h (by decide)
  · exact inR_yes h1
theorem check_val (s u o n : Int) (h : Hid (checkT s u o = n)) (w : World) : Calls Try.prog 16 #[tagV s u o] w (IsI n w) := by
  have := check_any s u o w
  rw [h.out] at this; exact this
theorem next_any (s u o who op : Int) (w : World) : Calls Try.prog 9 #[tagV s u o, .int .i64 who, .int .i64 op] w (IsTE (nextT s u o who op) w) := by
  rcases checkT_02 s u o with h0 | h0
  · have hn : nextT s u o who op = if inR who 1048575 = false ∨ inR op 1048575 = false then (0, 0, 0, 2) else if s = 1099511627775 then (0, 0, 0, 3) else (s + 1, who, op, 0) := if_neg (by rw [h0]; simp)
    have hs : 0 ≤ s ∧ s ≤ 1099511627775 := check_seq h0
    obtain ⟨hs0, hs1⟩ := hs
    have H0 := Lib.hid h0
    clear h0
    cases h1 : inR who 1048575
    · have HN : Hid (nextT s u o who op = (0, 0, 0, 2)) := Lib.hid (hn.trans (if_pos (Or.inl h1)))
      have H1 := Lib.hid h1
      clear h1 hn
      go_enter Try.func9, Try.ntmps9
      go_wp2_with (first | (go_at_call 16; refine (check_val _ _ _ _ (by assumption) _).mono ?_; rintro e w2 ⟨rfl, hb⟩; obtain ⟨hc, hf⟩ := bcell hb; have HB := Lib.hid hb; clear hb) | (go_at_call 17; refine (upto_val _ _ _ (by assumption) _).mono ?_; rintro e w' ⟨rfl, rfl⟩))
      exact bodyPost_ret (v := .tuple #[(tagV 0 0 0), .int .i64 2]) (by simp [results, Try.results9, go_sem, hc]) rfl (isTE_of HN.out (below_set (below_set (below_set (below_after2 HB.out) (by omega) _ _) (by omega) _ _) (by omega) _ _))
    cases h2 : inR op 1048575
    · have HN : Hid (nextT s u o who op = (0, 0, 0, 2)) := Lib.hid (hn.trans (if_pos (Or.inr h2)))
      have H1 := Lib.hid h1
      have H2 := Lib.hid h2
      clear h1 h2 hn
      go_enter Try.func9, Try.ntmps9
      go_wp2_with (first | (go_at_call 16; refine (check_val _ _ _ _ (by assumption) _).mono ?_; rintro e w2 ⟨rfl, hb⟩; obtain ⟨hc, hf⟩ := bcell hb; have HB := Lib.hid hb; clear hb) | (go_at_call 17; refine (upto_val _ _ _ (by assumption) _).mono ?_; rintro e w' ⟨rfl, rfl⟩))
      exact bodyPost_ret (v := .tuple #[(tagV 0 0 0), .int .i64 2]) (by simp [results, Try.results9, go_sem, hc]) rfl (isTE_of HN.out (below_set (below_set (below_set (below_after2 HB.out) (by omega) _ _) (by omega) _ _) (by omega) _ _))
    have hn2 := hn.trans (if_neg (by rw [h1, h2]; simp))
    have H1 := Lib.hid h1
    have H2 := Lib.hid h2
    clear h1 h2 hn
    by_cases h3 : s = 1099511627775
    · have HN : Hid (nextT s u o who op = (0, 0, 0, 3)) := Lib.hid (hn2.trans (if_pos h3))
      have hq : (s == 1099511627775) = true := by simpa using h3
      clear hn2 h3
      go_enter Try.func9, Try.ntmps9
      go_wp2_with (first | (go_at_call 16; refine (check_val _ _ _ _ (by assumption) _).mono ?_; rintro e w2 ⟨rfl, hb⟩; obtain ⟨hc, hf⟩ := bcell hb; have HB := Lib.hid hb; clear hb) | (go_at_call 17; refine (upto_val _ _ _ (by assumption) _).mono ?_; rintro e w' ⟨rfl, rfl⟩))
      exact bodyPost_ret (v := .tuple #[(tagV 0 0 0), .int .i64 3]) (by simp [results, Try.results9, go_sem, hc]) rfl (isTE_of HN.out (below_set (below_set (below_set (below_after2 HB.out) (by omega) _ _) (by omega) _ _) (by omega) _ _))
    · have HN : Hid (nextT s u o who op = (s + 1, who, op, 0)) := Lib.hid (hn2.trans (if_neg h3))
      have hq : (s == 1099511627775) = false := by simpa using h3
      clear hn2 h3
      go_enter Try.func9, Try.ntmps9
      go_wp2_with (first | (go_at_call 16; refine (check_val _ _ _ _ (by assumption) _).mono ?_; rintro e w2 ⟨rfl, hb⟩; obtain ⟨hc, hf⟩ := bcell hb; have HB := Lib.hid hb; clear hb) | (go_at_call 17; refine (upto_val _ _ _ (by assumption) _).mono ?_; rintro e w' ⟨rfl, rfl⟩))
      exact bodyPost_ret (v := .tuple #[(tagV (s + 1) who op), .int .i64 0]) (by simp [results, Try.results9, go_sem, hc]) rfl (isTE_of HN.out (below_set (below_set (below_set (below_after2 HB.out) (by omega) _ _) (by omega) _ _) (by omega) _ _))
  · have HN : Hid (nextT s u o who op = (0, 0, 0, 2)) := Lib.hid (if_pos (by rw [h0]; simp))
    have H0 := Lib.hid h0
    clear h0
    go_enter Try.func9, Try.ntmps9
    go_wp2_with (first | (go_at_call 16; refine (check_val _ _ _ _ (by assumption) _).mono ?_; rintro e w2 ⟨rfl, hb⟩; obtain ⟨hc, hf⟩ := bcell hb; have HB := Lib.hid hb; clear hb) | (go_at_call 17; refine (upto_val _ _ _ (by assumption) _).mono ?_; rintro e w' ⟨rfl, rfl⟩))
    exact bodyPost_ret (v := .tuple #[(tagV 0 0 0), .int .i64 2]) (by simp [results, Try.results9, go_sem, hc]) rfl (isTE_of HN.out (below_set (below_set (below_set (below_after2 HB.out) (by omega) _ _) (by omega) _ _) (by omega) _ _))
end Go.Proofs.Ytmbcdakfnckcmaa
