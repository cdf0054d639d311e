/- Who keeps a word, and a key; from which point on; of each point: by the program. -/
import Derived.Test.YthnfinnlnkjomaaRgF
namespace Go.Proofs.Ythnfinnlnkjomaa
open Go.RowKit Mem Rg
set_option maxRecDepth 100000
set_option maxHeartbeats 4000000
set_option linter.unusedVariables false
theorem pts_len_ok {ns : List Int} {e k : Nat} (ok : OkR ns e k) : (ptsP fP ns e).length ≤ 4096 ∧ 0 < (ptsP fP ns e).length ∧ ns.Nodup ∧ 1 ≤ k ∧ k ≤ 64 ∧ k ≤ ns.length ∧ 0 < e := by
  obtain ⟨o1, o2, o3, o4, o5, o6, o7, o8⟩ := ok
  have h1 := ptsP_len fP ns e
  have h2 : ns.length * e ≤ 64 * 64 := Nat.mul_le_mul o2 (by omega)
  exact ⟨by omega, ptsP_pos fP ns e (by omega) (by omega), o8.imp fun h => by omega, by omega, by omega, by omega, by omega⟩
theorem points_bad (A : Option Addr) (n c : Nat) (ns : List Int) (e k : Int) (hn : n = ns.length) (hl : n ≤ maxLen) (bad : ¬ OkR ns e k) (w : World) (h : Row w w.heap.size A (ns.map iV)) :
    Calls Try.prog 22 #[.agg #[.slice A n c, .int .i64 e, .int .i64 k]] w fun x w' => x = .returned (.tuple #[.slice none 0 0, .int .i64 2]) ∧ Below w.heap.size w w' := by
  have HCK := Lib.hid fun W (hb : Below w.heap.size w W) => check_bad A n c ns e k hn hl bad W ((h.below hb).more hb.size)
  clear h hn bad hl
  go_enter Try.func22, Try.ntmps22
  go_wp2_with fail
  refine (HCK.out _ ((Below.refl _ _).alloc (Nat.le_refl _) _)).mono ?_
  rintro e1 w1 ⟨rfl, hb1⟩
  have HB1 := Lib.hid (below_after1 hb1)
  clear hb1
  go_wp2
  go_ret2
  exact ⟨rfl, HB1.out⟩
def IntsE2 (l : List Int) (w : World) (x : Ending) (w' : World) : Prop := ∃ A c, x = .returned (.tuple #[.slice A l.length c, .int .i64 0]) ∧ OwnI w.heap.size l (.slice A l.length c) w' ∧ Below w.heap.size w w'
theorem at_ok (A : Option Addr) (n c : Nat) (ns : List Int) (e k h : Nat) (hn : n = ns.length) (ok : OkR ns e k) (w : World) (hr : Row w w.heap.size A (ns.map iV)) :
    Calls Try.prog 12 #[.agg #[.slice A n c, .int .i64 (e : Int), .int .i64 (k : Int)], .int .u64 (h : Int)] w (IntsE2 (keepP (ptsP fP ns e) h k) w) := by
  have HP := Lib.hid fun W (hb : Below w.heap.size w W) => points_ok A n c ns e k hn ok W ((hr.below hb).more hb.size)
  obtain ⟨p1, p2, p3, p4, p5, p6, p7⟩ := pts_len_ok ok
  have HF := Lib.hid fun W (A' : Option Addr) (c' : Nat) (h2 : Row W W.heap.size A' (ptsC (ptsP fP ns e))) => following_any (ptsP fP ns e) (ptsP_sl _ _ _) h k p4 p5 _ c' A' rfl p2 p1 W h2
  clear p1 p2 p3 p4 p5 p6 p7 hn ok hr
  generalize keepP (ptsP fP ns e) h k = L at HF ⊢
  generalize ptsP fP ns e = l at HF HP
  go_enter Try.func12, Try.ntmps12
  go_wp2_with fail
  refine (HP.out _ ((Below.refl _ _).alloc (Nat.le_refl _) _)).mono ?_
  rintro e1 w1 ⟨A1, c1, rfl, hr1, hb1⟩
  have HB1 := Lib.hid (below_after1 hb1)
  have hk1 := (Blk.new w 24 #[.slice A n c, .int .i64 (e : Int), .int .i64 (k : Int)]).below hb1 (by simp)
  have c2 : w1.cell? ⟨w.heap.size, 2, none⟩ = some (.int .i64 (k : Int)) := hk1.cell 2
  have HR1 := Lib.hid hr1
  clear hb1 hr1 hk1
  go_wp2_with fail
  refine (HF.out _ A1 c1 HR1.out).mono ?_
  rintro e2 w2 ⟨A2, c3, rfl, hr2, hb2⟩
  have HR2 : Hid (OwnI w.heap.size L (.slice A2 L.length c3) w2) := Lib.hid (ownBase hr2 HB1.out.size)
  have HB2 := Lib.hid (HB1.out.trans (hb2.mono HB1.out.size))
  clear hr2 hb2
  go_wp2
  go_ret2
  exact ⟨A2, c3, rfl, HR2.out, HB2.out⟩
theorem at_bad (A : Option Addr) (n c : Nat) (ns : List Int) (e k : Int) (h : Nat) (hn : n = ns.length) (hl : n ≤ maxLen) (bad : ¬ OkR ns e k) (w : World) (hr : Row w w.heap.size A (ns.map iV)) :
    Calls Try.prog 12 #[.agg #[.slice A n c, .int .i64 e, .int .i64 k], .int .u64 (h : Int)] w fun x w' => x = .returned (.tuple #[.slice none 0 0, .int .i64 2]) ∧ Below w.heap.size w w' := by
  have HP := Lib.hid fun W (hb : Below w.heap.size w W) => points_bad A n c ns e k hn hl bad W ((hr.below hb).more hb.size)
  clear hr hn bad hl
  go_enter Try.func12, Try.ntmps12
  go_wp2_with fail
  refine (HP.out _ ((Below.refl _ _).alloc (Nat.le_refl _) _)).mono ?_
  rintro e1 w1 ⟨rfl, hb1⟩
  have HB1 := Lib.hid (below_after1 hb1)
  clear hb1
  go_wp2
  go_ret2
  exact ⟨rfl, HB1.out⟩
theorem segr_ok (A : Option Addr) (n c : Nat) (ns : List Int) (e k h : Nat) (hn : n = ns.length) (ok : OkR ns e k) (w : World) (hr : Row w w.heap.size A (ns.map iV)) :
    Calls Try.prog 14 #[.agg #[.slice A n c, .int .i64 (e : Int), .int .i64 (k : Int)], .int .u64 (h : Int)] w fun x w' => x = .returned (.tuple #[.int .i64 (firstP (ptsP fP ns e) h : Nat), .int .i64 0]) ∧ Below w.heap.size w w' := by
  have HP := Lib.hid fun W (hb : Below w.heap.size w W) => points_ok A n c ns e k hn ok W ((hr.below hb).more hb.size)
  obtain ⟨p1, p2, p3, p4, p5, p6, p7⟩ := pts_len_ok ok
  have HF := Lib.hid fun W (A' : Option Addr) (c' : Nat) (h2 : Row W W.heap.size A' (ptsC (ptsP fP ns e))) => segment_any (ptsP fP ns e) (ptsP_sl _ _ _) h _ c' A' rfl p2 (by omega) W h2
  clear p1 p2 p3 p4 p5 p6 p7 hn ok hr
  generalize firstP (ptsP fP ns e) h = L at HF ⊢
  generalize ptsP fP ns e = l at HF HP
  go_enter Try.func14, Try.ntmps14
  go_wp2_with fail
  refine (HP.out _ ((Below.refl _ _).alloc (Nat.le_refl _) _)).mono ?_
  rintro e1 w1 ⟨A1, c1, rfl, hr1, hb1⟩
  have HB1 := Lib.hid (below_after1 hb1)
  have HR1 := Lib.hid hr1
  clear hb1 hr1
  go_wp2_with fail
  refine (HF.out _ A1 c1 HR1.out).mono ?_
  rintro e2 w2 ⟨rfl, hb2⟩
  have HB2 := Lib.hid (HB1.out.trans (hb2.mono HB1.out.size))
  clear hb2
  go_wp2
  go_ret2
  exact ⟨rfl, HB2.out⟩
theorem segr_bad (A : Option Addr) (n c : Nat) (ns : List Int) (e k : Int) (h : Nat) (hn : n = ns.length) (hl : n ≤ maxLen) (bad : ¬ OkR ns e k) (w : World) (hr : Row w w.heap.size A (ns.map iV)) :
    Calls Try.prog 14 #[.agg #[.slice A n c, .int .i64 e, .int .i64 k], .int .u64 (h : Int)] w fun x w' => x = .returned (.tuple #[.int .i64 0, .int .i64 2]) ∧ Below w.heap.size w w' := by
  have HP := Lib.hid fun W (hb : Below w.heap.size w W) => points_bad A n c ns e k hn hl bad W ((hr.below hb).more hb.size)
  clear hr hn bad hl
  go_enter Try.func14, Try.ntmps14
  go_wp2_with fail
  refine (HP.out _ ((Below.refl _ _).alloc (Nat.le_refl _) _)).mono ?_
  rintro e1 w1 ⟨rfl, hb1⟩
  have HB1 := Lib.hid (below_after1 hb1)
  clear hb1
  go_wp2
  go_ret2
  exact ⟨rfl, HB1.out⟩
end Go.Proofs.Ythnfinnlnkjomaa
