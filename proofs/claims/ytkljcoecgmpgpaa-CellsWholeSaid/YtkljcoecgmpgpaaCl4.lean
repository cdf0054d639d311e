/- Cl4: What a table tells when it is asked twice. -/
import Derived.Test.YtkljcoecgmpgpaaCl3
namespace Go.Proofs.Ytkljcoecgmpgpaa
open Go.RowKit Go.ChangeShapes Mem Be Word Rg Go.Maps
set_option maxRecDepth 10000
set_option maxHeartbeats 1000000
set_option linter.unusedVariables false
theorem query_eq {S : Cl} {k : List UInt8} (h0 : k ≠ []) (h1 : k.length ≤ 250) : queryS S k = match getK kP S.T k with | none => (S, ⟨entN k, tokK S k == 0, tokK S k⟩, 0) | some x => (useS S x, ⟨x.e, x.wh, tokK S k⟩, 0) := by
  unfold queryS
  rw [if_neg (by intro h; rcases h with h | h; exact h0 h; omega)]
  cases getK kP S.T k <;> rfl
theorem use_same {S : Cl} {x : CP} (ok : OkC S) (hx : x ∈ S.T) : (useS S x).T.length = S.T.length ∧ sumC (useS S x).T = sumC S.T ∧ getK kP (useS S x).T x.e.k = some { x with us := S.us + 1 } ∧ OkC (useS S x) := by
  refine ⟨?_, sum_put_same ok.srt hx rfl, ?_, ok_used ok hx rfl⟩
  · show (putK kP S.T { x with us := S.us + 1 }).length = _
    rw [len_put, (del_cons ok.srt hx).1]
  · show getK kP (putK kP S.T { x with us := S.us + 1 }) x.e.k = _
    rw [get_put]
    exact if_pos rfl
theorem query_twice {S : Cl} (ok : OkC S) {k : List UInt8} (h0 : k ≠ []) (h1 : k.length ≤ 250) : ∃ (S2 : Cl) (s u o : Int) (has wh : Bool) (v : List UInt8) (t : Int), queryS S k = ((queryS S k).1, ⟨⟨k, s, u, o, has, v⟩, wh, t⟩, 0) ∧ queryS (queryS S k).1 k = (S2, ⟨⟨k, s, u, o, has, v⟩, wh, t⟩, 0) ∧ S2.T.length = S.T.length ∧ sumC S2.T = sumC S.T ∧ (∀ c ∈ S2.T, c.e.k = k → c.e = ⟨k, s, u, o, has, v⟩) ∧ ((∀ c ∈ S2.T, c.e.k ≠ k) → s = 0 ∧ has = false) ∧ v.length ≤ 60000 := by
  cases hg : getK kP S.T k with
  | none =>
    have e1 : queryS S k = (S, ⟨entN k, tokK S k == 0, tokK S k⟩, 0) := by rw [query_eq h0 h1, hg]
    refine ⟨S, 0, 0, 0, false, tokK S k == 0, [], tokK S k, ?_, ?_, rfl, rfl, ?_, ?_, by simp⟩
    · rw [e1]; rfl
    · rw [e1]; exact e1
    · exact fun c hc he => absurd he (get_none.1 hg c hc)
    · exact fun _ => ⟨rfl, rfl⟩
  | some x =>
    obtain ⟨hx, hk⟩ := get_some hg
    have e1 : queryS S k = (useS S x, ⟨x.e, x.wh, tokK S k⟩, 0) := by rw [query_eq h0 h1, hg]
    obtain ⟨l1, s1, g1, ok1⟩ := use_same ok hx
    obtain ⟨y, hy⟩ : ∃ y : CP, y = { x with us := S.us + 1 } := ⟨_, rfl⟩
    rw [← hy] at g1
    have hye : y.e = x.e := by rw [hy]
    have hyw : y.wh = x.wh := by rw [hy]
    have hkk : x.e.k = k := hk
    rw [hkk] at g1
    obtain ⟨hy1, hy2⟩ := get_some g1
    obtain ⟨l2, s2, g2, ok2⟩ := use_same ok1 hy1
    have e2 : queryS (useS S x) k = (useS (useS S x) y, ⟨y.e, y.wh, tokK S k⟩, 0) := by rw [query_eq h0 h1, g1]; rfl
    obtain ⟨e, wh, cl, us⟩ := x
    obtain ⟨xk, s, u, o, has, v⟩ := e
    simp only at hkk
    subst hkk
    refine ⟨useS (useS S ⟨⟨xk, s, u, o, has, v⟩, wh, cl, us⟩) y, s, u, o, has, wh, v, tokK S xk, ?_, ?_, ?_, ?_, ?_, ?_, ?_⟩
    · rw [e1]
    · rw [e1, e2, hye, hyw]
    · rw [l2, l1]
    · rw [s2, s1]
    · intro c hc he
      have h3 := get_mem ok2.srt hc
      have h4 : kP c = y.e.k := by show c.e.k = y.e.k; rw [he, hye]
      rw [h4, g2] at h3
      rw [← Option.some.inj h3]
      exact hye
    · intro hn
      have h3 := get_some g2
      have h5 := hn _ h3.1
      exact absurd (show y.e.k = xk by rw [hye]) h5
    · exact (sizE_le (ok.ok _ hx)).2.2.1
theorem Tb1.size {w0 w : World} {F : Nat → Prop} {g b tk q : Nat} {S : Cl} (h : Tb1 w0 w F g b tk S q) (x y : Int) (hx : (S.T.length : Int) = x) (hy : (sumC S.T : Int) = y) :
    Calls Try.prog 15 #[.pointer (some ⟨g, 0, none⟩)] w (IsII0 x y w) := by
  rw [← hx, ← hy]
  exact sizeT_any w h.at_
theorem Tb1.queryX {w0 w : World} {F : Nat → Prop} {g b tk q : Nat} {S : Cl} (h : Tb1 w0 w F g b tk S q) {k : List UInt8} (hk : k.length ≤ maxLen) (hq : q ≤ 100000000000000) {S1 : Cl} {s u o : Int} {has wh : Bool} {v : List UInt8} {t : Int} (hR : queryS S k = (S1, ⟨⟨k, s, u, o, has, v⟩, wh, t⟩, 0)) :
    Calls Try.prog 25 #[.pointer (some ⟨g, 0, none⟩), .string ⟨k.toArray⟩] w (fun e w' => ∃ A c, e = .returned (.tuple #[.agg #[.string ⟨k.toArray⟩, .int .i64 s, .int .i64 u, .int .i64 o, .bool has, .slice A v.length c, .bool wh, .int .i64 t], .int .i64 0]) ∧ RowN (Own3 g b tk) w' A (v.map byteV) ∧ (v.length ≤ c ∧ c ≤ maxLen) ∧ Tb1 w0 w' F g b tk S1 (q + 1) ∧ Touch (Own3 g b tk) w w') := by
  have := h.query k hk hq
  rw [hR] at this
  exact this
end Go.Proofs.Ytkljcoecgmpgpaa
