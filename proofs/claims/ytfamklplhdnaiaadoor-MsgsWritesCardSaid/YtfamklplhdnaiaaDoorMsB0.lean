/- MsB0: What the walks of the reference's Bytes share. -/
import Derived.Test.YtfamklplhdnaiaaDoorMsCk
import Derived.Test.YtfamklplhdnaiaaDoorMsBk
namespace Go.Proofs.YtfamklplhdnaiaaDoor
open Go.RowKit Mem Be Rg
set_option maxRecDepth 100000
set_option maxHeartbeats 16000000
set_option linter.unusedVariables false
set_option linter.unusedSimpArgs false
theorem refbytes_put12 (y : EntP) (h : okE y) (A : Option Addr) (c : Nat) (W : World) (hW : ValOk W y.has A y.v c) :
    Calls Tryd.prog 41 #[.agg #[.string ⟨y.k.toArray⟩, .int .i64 y.s, .int .i64 y.u, .int .i64 y.o, .bool y.has, .slice A y.v.length c]] W (Made2 W.heap.size (putE y) 0 W) := by
  obtain ⟨k, s, u, o, has, v⟩ := y
  have hr : rightE (⟨k.toArray⟩ : ByteArray).size v.length s u o has = 0 := h
  have hk : kb ⟨k.toArray⟩ = k := kb_mk k
  cases has
  · have := refbytes_no ⟨k.toArray⟩ s u o A v v.length c rfl hr W hW
    rw [hk] at this; exact this
  · have := refbytes_yes ⟨k.toArray⟩ s u o A v v.length c rfl hr W hW
    rw [hk] at this; exact this
/-- Bytes of the call's own, and more behind them, laid into their own room or a new one. -/
theorem out_more12 {W w w' : World} {v' : Value} {A : Option Addr} {c : Nat} {bs xs bx : List UInt8} (hbx : bs ++ xs = bx) (hW : Below W.heap.size W w) (ho : w.ownsRow W.heap.size 5 1 (.slice A bs.length c) bs.length (bs.map byteV))
    (hown : w'.ownsRow W.heap.size 5 1 v' (bs.length + xs.length) (bs.map byteV ++ xs.map byteV)) (hgr : w.grownBy w' (Value.slice A bs.length c).ownBlock) :
    Below W.heap.size W w' ∧ ∃ A' c', v' = .slice A' bx.length c' ∧ w'.ownsRow W.heap.size 5 1 (.slice A' bx.length c') bx.length (bx.map byteV) := by
  subst hbx
  refine ⟨hW.grown hgr hW.size fun g hg => (ho.lt g hg).1, ?_⟩
  obtain ⟨A', c', rfl, _, _⟩ := ownShape hown
  rw [List.length_append, List.map_append]
  exact ⟨A', c', rfl, hown⟩
theorem own_ints12 {w : World} (B : Nat) (hB : B ≤ w.heap.size) (ns : List Int) (cs : Array Value) (h : cs.toList = ns.map iV) (hm : ns.length ≤ 1000000) : (w.alloc (.cells cs 3)).ownsRow B 3 1 (.slice (some ⟨w.heap.size, 0, none⟩) ns.length ns.length) ns.length (ns.map iV) := by
  have hs : cs.size = ns.length * 1 := by rw [← Array.length_toList, h, List.length_map, Nat.mul_one]
  have := World.ownsRow_lit (base := B) (e := 3) (size := 1) w cs ns.length hB (by unfold maxLen; omega) hs
  rw [h] at this; exact this
theorem putM_gen (f : Int → List UInt8) (P : EntP → List UInt8) (t : Bool → List UInt8) (m : MsgP) (e1 : numB = f) (e2 : putE = P) (e3 : truthB = t) : putM m = f m.kind ++ (f m.fr ++ (f m.dst ++ (f m.ep ++ (f m.op ++ ((if hasN m.kind = true then f m.n else []) ++ ((if hasF m.kind = true then t m.flag else []) ++ ((if hasE m.kind = true then P m.e else []) ++ ((if hasL m.kind = true then f (m.l.length : Int) ++ m.l.flatMap P else []) ++ (if hasR m.kind = true then f m.each ++ (f m.keep ++ (f (m.ns.length : Int) ++ m.ns.flatMap f)) else []))))))))) := by
  subst e1; subst e2; subst e3
  unfold putM listB ringB
  rfl
end Go.Proofs.YtfamklplhdnaiaaDoor
