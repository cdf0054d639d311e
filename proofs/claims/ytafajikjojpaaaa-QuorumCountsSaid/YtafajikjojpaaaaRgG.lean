/- Who keeps a word, and a key; from which point on; of each point: by the program. -/
import Derived.Test.YtafajikjojpaaaaRgF
namespace Go.Proofs.Ytafajikjojpaaaa
open Go.RowKit Mem Rg
set_option maxRecDepth 100000
set_option maxHeartbeats 4000000
set_option linter.unusedVariables false
theorem pts_len_ok {ns : List Int} {e k : Nat} (ok : OkR ns e k) : (ptsP fP ns e).length ≤ 4096 ∧ 0 < (ptsP fP ns e).length ∧ ns.Nodup ∧ 1 ≤ k ∧ k ≤ 64 ∧ k ≤ ns.length ∧ 0 < e := by
  obtain ⟨o1, o2, o3, o4, o5, o6, o7, o8⟩ := ok
  have h1 := ptsP_len fP ns e
  have h2 : ns.length * e ≤ 64 * 64 := Nat.mul_le_mul o2 (by omega)
  exact ⟨by omega, ptsP_pos fP ns e (by omega) (by omega), o8.imp fun h => by omega, by omega, by omega, by omega, by omega⟩
theorem points_bad (A : Option Addr) (n c : Nat) (ns : List Int) (e k : Int) (hn : n = ns.length) (hl : n ≤ maxLen) (bad : ¬ OkR ns e k) (w : World) (h : Row w w.heap.size A (ns.map iV)) :
    Calls Try.prog 44 #[.agg #[.slice A n c, .int .i64 e, .int .i64 k]] w fun x w' => x = .returned (.tuple #[.slice none 0 0, .int .i64 2]) ∧ Below w.heap.size w w' := by
  have HCK := Lib.hid fun W (hb : Below w.heap.size w W) => check_bad A n c ns e k hn hl bad W ((h.below hb).more hb.size)
  clear h hn bad hl
  go_enter Try.func44, Try.ntmps44
  go_wp2_with fail
  refine (HCK.out _ ((Below.refl _ _).alloc (Nat.le_refl _) _)).mono ?_
  rintro e1 w1 ⟨rfl, hb1⟩
  have HB1 := Lib.hid (below_after1 hb1)
  clear hb1
  go_wp2
  go_ret2
  exact ⟨rfl, HB1.out⟩
def IntsE2 (l : List Int) (w : World) (x : Ending) (w' : World) : Prop := ∃ A c, x = .returned (.tuple #[.slice A l.length c, .int .i64 0]) ∧ OwnI w.heap.size l (.slice A l.length c) w' ∧ Below w.heap.size w w'
end Go.Proofs.Ytafajikjojpaaaa
