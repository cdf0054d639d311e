/- Whether rows of entries are the same, told by the reference. -/
import Derived.Test.YtdmoogbmaodfnaaGreatLaw8
namespace Go.Proofs.YtdmoogbmaodfnaaGreat
open Go.RowKit Go.ChangeShapes Mem Be Word Frm Go.Maps
set_option maxRecDepth 100000
set_option maxHeartbeats 4000000
set_option linter.unusedVariables false
/-- Entries that lie in a row, each with its value. -/
structure EnV (w : World) (A : Option Addr) (us : List EV) : Prop where
  row : Row w w.heap.size A (entsC us)
  val : ∀ x ∈ us, ValOk w x.1.has x.2.1 x.1.v x.2.2
theorem EnV.below {w w' : World} {A : Option Addr} {us : List EV} (h : EnV w A us) (hb : Below w.heap.size w w') : EnV w' A us := ⟨(h.row.below hb).more hb.size, fun x hx => (h.val x hx).below hb⟩
theorem enV_of {w : World} {B B' n c : Nat} {A : Option Addr} {us : List EV} (ho : w.ownsRow B 45 6 (.slice A n c) n (entsC us)) (he : EntsO w B' us) (hl : ∀ x ∈ us, x.1.v.length ≤ 60000) : EnV w A us :=
  ⟨ownRow ho, fun x hx => ownE_val (he x hx) (by have := hl x hx; omega)⟩
theorem sameall_true (n c m c' : Nat) (A A' : Option Addr) (us vs : List EV) (hn : n = us.length) (hm : m = vs.length) (he : us.map Prod.fst = vs.map Prod.fst) (hl : n ≤ 1073741824) (w : World) (h : EnV w A us) (h' : EnV w A' vs) :
    Calls Tryz.prog 30 #[.slice A n c, .slice A' m c'] w (IsT true w) := by
  have hlen : vs.length = us.length := by have := congrArg List.length he; simpa using this.symm
  have hmn : m = n := by omega
  subst hmn
  have HN := Lib.hid hn
  have HM := Lib.hid hm
  have HE := Lib.hid he
  have HU := Lib.hid h
  have HV := Lib.hid h'
  have hni : (m : Int) ≤ 1073741824 := by omega
  have hni0 : (0 : Int) ≤ (m : Int) := by omega
  clear hn hm he h h' hl hlen
  go_enter Tryz.func30, Tryz.ntmps30
  go_wp2
  go_loopw [5] (fun i wr => ∃ k : Nat, k ≤ m ∧ i = .int .i64 k ∧ Hid (Below w.heap.size w wr)) (fun i _ => m - (intOf i).toNat)
  case atStart => exact ⟨0, by omega, rfl, Lib.hid (Below.refl _ _)⟩
  case round =>
    obtain ⟨k, hk, rfl, HB⟩ := hrel
    by_cases hlt : k < m
    · have hk1 : k < us.length := by rw [← HN.out]; exact hlt
      have hk2 : k < vs.length := by rw [← HM.out]; exact hlt
      obtain ⟨b, o, rfl, hb, hc⟩ := ents_open (HU.out.below HB.out).row (by omega)
      obtain ⟨b', o', rfl, hb', hc'⟩ := ents_open (HV.out.below HB.out).row (by omega)
      obtain ⟨a0, a1, a2, a3, a4, a5⟩ := hc k hk1
      obtain ⟨b0, b1, b2, b3, b4, b5⟩ := hc' k hk2
      have v1 := (HU.out.below HB.out).val us[k] (List.getElem_mem hk1)
      have v2 := (HV.out.below HB.out).val vs[k] (List.getElem_mem hk2)
      have hee : (us[k]).1 = (vs[k]).1 := by
        have := List.getElem_of_eq HE.out (i := k) (by simpa using hk1)
        simpa using this
      obtain ⟨⟨x, A1, c1⟩, hx⟩ : ∃ p, us[k]'hk1 = p := ⟨_, rfl⟩
      obtain ⟨⟨y, A2, c2⟩, hy⟩ : ∃ p, vs[k]'hk2 = p := ⟨_, rfl⟩
      rw [hx] at a0 a1 a2 a3 a4 a5 v1 hee
      rw [hy] at b0 b1 b2 b3 b4 b5 v2 hee
      simp only at a0 a1 a2 a3 a4 a5 b0 b1 b2 b3 b4 b5 v1 v2 hee
      subst hee
      have HC := Lib.hid (fun p : Later wr => refsame_true ⟨x.k.toArray⟩ x.s x.u x.o x.has A1 A2 x.v c1 c2 x.v.length x.v.length rfl rfl p.world (v1.below p.bel) (v2.below p.bel))
      have l0 := later_cell a0
      have l1 := later_cell a1
      have l2 := later_cell a2
      have l3 := later_cell a3
      have l4 := later_cell a4
      have l5 := later_cell a5
      have m0 := later_cell b0
      have m1 := later_cell b1
      have m2 := later_cell b2
      have m3 := later_cell b3
      have m4 := later_cell b4
      have m5 := later_cell b5
      have hki : (0 : Int) ≤ (k : Int) := by omega
      have hki2 : (k : Int) < (m : Int) := by omega
      clear hc hc' a0 a1 a2 a3 a4 a5 b0 b1 b2 b3 b4 b5 hx hy v1 v2
      go_wp2_with fail
      refine wp_region_later (by kernel_rfl) (by kernel_rfl) ?_
      repeat (go_big_quiet_step (first
        | (go_at_call 12; exact later_of (HC.out _))))
      refine wpQuiet_nil ?_
      intro w' hw'
      obtain ⟨p, rfl⟩ := hw'
      go_wp2
      go_roundw
      case rel => exact ⟨k + 1, by omega, by go_num, Lib.hid (HB.out.trans (p.bel.mono HB.out.size))⟩
      case measure => simp [intOf]; omega
    · obtain rfl : k = m := by omega
      go_wp2
      go_ret
      exact ⟨rfl, HB.out⟩
end Go.Proofs.YtdmoogbmaodfnaaGreat
