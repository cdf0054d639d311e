/- A key's entry among some, told by the reference; the newer one laid among them. -/
import Derived.Test.YtdmoogbmaodfnaaGreatSameAll8
import Derived.Deep.RegionHeld3
namespace Go.Proofs.YtdmoogbmaodfnaaGreat
open Go.RowKit Go.ChangeShapes Mem Be Word Frm Go.Maps
set_option maxRecDepth 100000
set_option maxHeartbeats 4000000
set_option linter.unusedVariables false
/-- An entry that is handed out, its bytes wherever they lie. -/
def RefE (x : EntP) (w : World) (e : Ending) (w' : World) : Prop :=
  ∃ A c, e = .returned (entV ⟨x.k.toArray⟩ x.s x.u x.o x.has A x.v.length c) ∧ ValOk w' x.has A x.v c ∧ Below w.heap.size w w'
theorem ofT_none {T : List EntP} {k : List UInt8} (h : ∀ x ∈ T, x.k ≠ k) : ofT T k = entN k := by
  unfold ofT; rw [(get_none (key := kE)).2 h]; rfl
theorem ofT_first {T : List EntP} {k : List UInt8} {j : Nat} (hj : j < T.length) (hk : T[j].k = k) (h : ∀ i, ∀ hi : i < T.length, i < j → T[i].k ≠ k) : ofT T k = T[j] := by
  unfold ofT getK
  have : T.find? (fun x => kE x == k) = some T[j] := by
    rw [List.find?_eq_some_iff_getElem]
    refine ⟨by simpa using hk, j, hj, rfl, fun i hi => ?_⟩
    have := h i (by omega) hi
    simpa using this
  rw [this]; rfl
theorem refof_any (n c : Nat) (A : Option Addr) (us : List EV) (k : List UInt8) (hn : n = us.length) (hl : n ≤ 1073741824) (w : World) (h : EnV w A us) :
    Calls Tryz.prog 14 #[.slice A n c, .string ⟨k.toArray⟩] w (RefE (ofT (us.map Prod.fst) k) w) := by
  have HN := Lib.hid hn
  have HE := Lib.hid h
  have hal : Below w.heap.size w (w.alloc (.cells #[.string ⟨#[]⟩, .int .i64 0, .int .i64 0, .int .i64 0, .bool false, .slice none 0 0] 45)) := (Below.refl _ _).alloc (Nat.le_refl _) _
  have HAL := Lib.hid hal
  have HE1 := Lib.hid (h.below hal)
  have hni : (n : Int) ≤ 1073741824 := by omega
  have hni0 : (0 : Int) ≤ (n : Int) := by omega
  obtain ⟨R, hR⟩ : ∃ R, ofT (us.map Prod.fst) k = R := ⟨_, rfl⟩
  have HR := Lib.hid hR
  rw [hR]
  clear h hn hl hal hR
  go_enter Tryz.func14, Tryz.ntmps14
  go_wp2_with fail
  go_loop [5] (fun i => ∃ j : Nat, j ≤ n ∧ i = .int .i64 j ∧ Hid (∀ i, ∀ hi : i < us.length, i < j → us[i].1.k ≠ k)) (fun i => n - (intOf i).toNat)
  case atStart => exact ⟨0, Nat.zero_le _, rfl, Lib.hid fun i _ h => by omega⟩
  case round =>
    obtain ⟨j, hj, rfl, HNO⟩ := hrel
    by_cases hlt : j < n
    · have hj1 : j < us.length := by rw [← HN.out]; exact hlt
      obtain ⟨b, o, rfl, hb, hc⟩ := ents_open HE1.out.row (by omega)
      obtain ⟨a0, a1, a2, a3, a4, a5⟩ := hc j hj1
      have hv := HE.out.val us[j] (List.getElem_mem hj1)
      have hstep : us[j].1.k ≠ k → ∀ i, ∀ hi : i < us.length, i < j + 1 → us[i].1.k ≠ k := fun hne i hi h1 => by
        by_cases hij : i = j
        · subst hij; exact hne
        · exact HNO.out i hi (by omega)
      have hyes : us[j].1.k = k → us[j].1 = R := fun he => by
        have h1 := ofT_first (T := us.map Prod.fst) (k := k) (j := j) (by simpa using hj1) (by simpa using he) (fun i hi h2 => by simpa using HNO.out i (by simpa using hi) h2)
        rw [HR.out] at h1
        simpa using h1.symm
      obtain ⟨⟨x, xA, xc⟩, hx⟩ : ∃ p, us[j]'hj1 = p := ⟨_, rfl⟩
      rw [hx] at a0 a1 a2 a3 a4 a5 hv hstep hyes
      simp only at a0 a1 a2 a3 a4 a5 hv hstep hyes
      have HV := Lib.hid hv
      have hji : (0 : Int) ≤ (j : Int) := by omega
      have hji2 : (j : Int) < (n : Int) := by omega
      clear hc hx hv
      by_cases hkey : x.k = k
      · obtain rfl := hyes hkey
        subst hkey
        clear hstep hyes
        go_wp2_with fail
        refine bodyPost_ret (v := entV ⟨x.k.toArray⟩ x.s x.u x.o x.has xA x.v.length xc) (by simp [results, Tryz.results14, go_sem]) rfl ⟨xA, xc, rfl, ?_, ?_⟩
        · exact HV.out.below ((Below.refl _ _).alloc (Nat.le_refl _) _)
        · exact (Below.refl _ _).alloc (Nat.le_refl _) _
      · have hb2 : ((⟨x.k.toArray⟩ : ByteArray).toList == (⟨k.toArray⟩ : ByteArray).toList) = false := list_ne (fun e => hkey (by
          injection e with e
          have := congrArg Array.toList e
          simpa using this))
        have hb3 : (x.k == k) = false := by simpa using hkey
        have HNX := Lib.hid (hstep hkey)
        clear hkey hstep hyes
        go_wp2
        go_round
        case rel => exact ⟨j + 1, by omega, by go_num, HNX⟩
        case measure => simp [intOf]; omega
    · obtain rfl : j = n := by omega
      have hR2 : R = entN k := by
        rw [← HR.out]
        refine ofT_none fun x hx => ?_
        obtain ⟨y, hy, rfl⟩ := List.mem_map.1 hx
        obtain ⟨i, hi, rfl⟩ := List.mem_iff_getElem.1 hy
        exact HNO.out i hi (by rw [HN.out]; exact hi)
      subst hR2
      go_wp2
      refine bodyPost_ret (v := entV ⟨k.toArray⟩ 0 0 0 false none 0 0) (by simp [results, Tryz.results14, go_sem]) rfl ⟨none, 0, rfl, ?_, ?_⟩
      · exact ⟨Row.nil _ _ _, by simp [entN], Nat.le_refl _⟩
      · exact (Below.refl _ _).alloc (Nat.le_refl _) _
end Go.Proofs.YtdmoogbmaodfnaaGreat
