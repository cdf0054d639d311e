/- The reference's records of one kind. -/
import Derived.Test.YtkagfjjocmjeoaaRefLog7
namespace Go.Proofs.Ytkagfjjocmjeoaa
open Go.RowKit Mem Be Word Frm
set_option maxRecDepth 100000
set_option maxHeartbeats 4000000
set_option linter.unusedVariables false
def recR (k : UInt8) (ls : List RowV) : List RecV := ls.map fun r => (k, r)
theorem recR_len (k : UInt8) (ls : List RowV) : (recR k ls).length = ls.length := by unfold recR; rw [List.length_map]
theorem recR_rc (k : UInt8) (ls : List RowV) : (recR k ls).map rcOf = newR k (bytesR ls) := by unfold recR newR bytesR; rw [List.map_map, List.map_map]; rfl
theorem recR_snoc (k : UInt8) (ls : List RowV) (j : Nat) (h : j < ls.length) : recR k (ls.take (j + 1)) = recR k (ls.take j) ++ [(k, ls[j])] := by
  unfold recR; rw [List.take_succ_eq_append_getElem h, List.map_append]; rfl
theorem refrecords_any (k : UInt8) (n c : Nat) (A0 : Option Addr) (ls : List RowV) (hn : n = ls.length) (hnl : n ≤ 100000) (w : World) (hr : Row w w.heap.size A0 (ls.map rowV)) :
    Calls Try.prog 56 #[.int .u8 (k.toNat : Int), .slice A0 n c] w (fun e w' => ∃ A c', e = .returned (.slice A n c') ∧ w'.ownsRow w.heap.size 64 2 (.slice A n c') n (recsC (recR k ls)) ∧ Below w.heap.size w w') := by
  have HR := Lib.hid hr
  have HN := Lib.hid hn
  have hni : (n : Int) ≤ 100000 := by omega
  have HNL := Lib.hid hnl
  clear hr hn hnl
  go_enter Try.func56, Try.ntmps56
  go_wp2
  go_loopw [5, 6] (fun z i wr => ∃ (j : Nat) (A : Option Addr) (c : Nat), j ≤ n ∧ i = .int .i64 j ∧ z = .slice A j c ∧ Hid (wr.ownsRow w.heap.size 64 2 (.slice A j c) j (recsC (recR k (ls.take j)))) ∧ Hid (Below w.heap.size w wr)) (fun _ i _ => n - (intOf i).toNat)
  case atStart => exact ⟨0, none, 0, by omega, rfl, rfl, Lib.hid (World.ownsRow_nil _ _ _ _), Lib.hid (Below.refl _ _)⟩
  case round =>
    obtain ⟨j, A, cA, hj, rfl, rfl, HO, HB⟩ := hrel
    by_cases hlt : j < n
    · have hj1 : j < ls.length := by rw [← HN.out]; exact hlt
      obtain ⟨b, o, rfl, hbl, hc⟩ := HR.out.open_ (by simp; omega)
      have hcell0 : w.cell? ⟨b, o + j, none⟩ = some (rowV ls[j]) := (hc j (by simpa using hj1)).trans (congrArg some (List.getElem_map (f := rowV) (h := by simpa using hj1)))
      have hcell : wr.cell? ⟨b, o + j, none⟩ = some (rowV ls[j]) := (HB.out.cell (p := ⟨b, o + j, none⟩) hbl).trans hcell0
      have HSN := Lib.hid (recR_snoc k ls j hj1)
      obtain ⟨⟨A1, y, c1⟩, hy⟩ : ∃ y, ls[j] = y := ⟨_, rfl⟩
      rw [hy] at hcell HSN
      unfold rowV at hcell
      simp only at hcell
      have hji : (0 : Int) ≤ (j : Int) := by omega
      have hji2 : (j : Int) < (n : Int) := by omega
      have HB2 : Hid (∀ o, Below w.heap.size w (wr.alloc o)) := Lib.hid fun o => HB.out.alloc HB.out.size o
      have HO2 : Hid (∀ o, (wr.alloc o).ownsRow w.heap.size 64 2 (.slice A j cA) j (recsC (recR k (ls.take j)))) := Lib.hid fun o => ownLater HO.out ((Below.refl _ _).alloc (Nat.le_refl _) o)
      have hsz : w.heap.size ≤ wr.heap.size := HB.out.size
      clear hc hcell0 hy HO
      go_wp2_with (at_builtin; refine wpList_appR rfl _ _ rfl w.heap.size _ j (recR k (ls.take j)) rfl (HO2.out _) (wr.heap.size + 1) _ 1 1 [(k, A1, y, c1)] rfl rfl (rec_lit (r := (k, A1, y, c1)) rfl rfl rfl) (by have := HNL.out; omega) (by simp; omega) ?_)
      intro A3 c3 w3 hown hgr
      have HB3 : Hid (Below w.heap.size w w3) := Lib.hid ((HB2.out _).grown hgr (HB2.out _).size fun g hg => ((HO2.out (.cells #[.int .u8 (k.toNat : Int), .slice A1 y.length c1] 64)).lt g hg).1)
      have HO3 := Lib.hid hown
      clear hown hgr HB2 HO2 HB
      go_wp2
      go_roundw
      case rel => exact ⟨j + 1, A3, c3, by omega, by go_num, rfl, Lib.hid (by rw [HSN.out]; simpa [recsC, List.flatMap_append] using HO3.out), HB3⟩
      case measure => simp [intOf]; omega
    · obtain rfl : j = n := by omega
      have ht : ls.take j = ls := List.take_of_length_le (by rw [← HN.out]; omega)
      rw [ht] at HO
      clear ht
      go_wp2
      go_ret
      exact ⟨A, cA, rfl, HO.out, HB.out⟩
end Go.Proofs.Ytkagfjjocmjeoaa
