/- Rows of bytes that lie in a world; the bytes of a string. -/
import Derived.Test.YtmmhiolmeijemaaClone
import Derived.Test.YtmmhiolmeijemaaOpen
import Derived.Lib.ConvBytes
namespace Go.Proofs.Ytmmhiolmeijemaa
open Go.RowKit Mem
set_option maxRecDepth 10000
set_option maxHeartbeats 2000000
/-- The bytes of a string. -/
def kb (s : ByteArray) : List UInt8 := s.data.toList
theorem kb_len (s : ByteArray) : (kb s).length = s.size := by unfold kb; rw [Array.length_toList]; rfl
theorem kb_mk (xs : List UInt8) : kb ⟨xs.toArray⟩ = xs := by simp [kb]
theorem kb_inj {a b : ByteArray} (h : kb a = kb b) : a = b := by
  obtain ⟨⟨x⟩⟩ := a
  obtain ⟨⟨y⟩⟩ := b
  simp [kb] at h
  rw [h]
theorem bytes_row_new (w : World) (e : TypeId) (s : ByteArray) : Row (Lib.bytesWorld w e s) (w.heap.size + 1) (some ⟨w.heap.size, 0, none⟩) ((kb s).map byteV) := by
  refine Or.inr ⟨w.heap.size, 0, rfl, by omega, fun j hj => ?_⟩
  have hj' : j < s.size := by rw [List.length_map, kb_len] at hj; exact hj
  have hj2 : j < (kb s).length := by rw [kb_len]; exact hj'
  rw [Nat.zero_add, Lib.bytesWorld_cell w e s j hj', List.getElem_map]
  have : s.data.toList.getD j 0 = (kb s)[j] := by
    show (kb s).getD j 0 = _
    rw [List.getD_eq_getElem?_getD, List.getElem?_eq_getElem hj2]; rfl
  rw [this]; rfl
theorem bytes_below (w : World) (e : TypeId) (s : ByteArray) : Below w.heap.size w (Lib.bytesWorld w e s) := by
  refine ⟨?_, ?_, ?_, by rw [Lib.bytesWorld_size]; omega, fun k hk => Lib.bytesWorld_at_old w e s k hk⟩
  all_goals (simp [Lib.bytesWorld, World.freeze, World.alloc, World.drew, -World.alloc_eq, -World.drew_eq])
theorem wpList_conv {P : Program} (w : World) {ops : Array Oper} {rest : List Oper} {o : Oper} {a : Act} {Q : Exit → Act → World → Prop} (hgd : o.guard = none) (x : Operand) (src dst e : TypeId)
    (ho : o.op = .convert src dst x) (s : ByteArray) (hx : a.eval x = .string s) (hs : P.underlying src = some .string) (hd : P.underlying dst = some (.slice e)) (he : P.underlying e = some (.int .u8))
    (h : ∀ A c w', Row w' w'.heap.size A ((kb s).map byteV) → Below w.heap.size w w' → s.size ≤ c → wpList P ops Q rest (a.put o.dst (.slice A s.size c)) w') : wpList P ops Q (o :: rest) a w := by
  refine wpList_plain hgd fun K hK => ?_
  unfold Oper.wp execOp
  have hr := Lib.run_convert_string_bytes w src dst e s hs hd he
  simp only [ho, hx, Sem.run_bind, hr, Result.andThen_ok, Sem.run_pure]
  refine hK _ _ (h _ _ _ ?_ (bytes_below w e s) (grownCap_ge w s.size 0 e))
  rw [Lib.bytesWorld_size]
  exact bytes_row_new w e s
def catB (rs : List RowV) : List UInt8 := rs.flatMap (fun r => r.2.1)
theorem catB_snoc (rs : List RowV) (k : Nat) (h : k < rs.length) : catB (rs.take (k + 1)) = catB (rs.take k) ++ rs[k].2.1 := by
  unfold catB; rw [List.take_succ_eq_append_getElem h, List.flatMap_append]; simp
theorem catB_le (rs : List RowV) (k : Nat) : (catB (rs.take k)).length ≤ (catB rs).length := by
  have : catB rs = catB (rs.take k) ++ catB (rs.drop k) := by unfold catB; rw [← List.flatMap_append, List.take_append_drop]
  rw [this, List.length_append]; omega
theorem own_later {w w' : World} {B n : Nat} {e : TypeId} {v : Value} {xs : List Value} (h : w.ownsRow B e 1 v n xs) (hb : Below w.heap.size w w') : w'.ownsRow B e 1 v n xs :=
  h.kept (grown_below hb (Nat.le_refl _) none) (Classical.em _)
/-- Rows that lie in a world, one more with each call. -/
def Rows_ (w : World) (rs : List RowV) : Prop := ∀ r ∈ rs, Row w w.heap.size r.1 (r.2.1.map byteV)
theorem rows_nil (w : World) : Rows_ w [] := fun r h => by cases h
theorem rows_below {w w' : World} {rs : List RowV} (h : Rows_ w rs) (hb : Below w.heap.size w w') : Rows_ w' rs := fun r hr => ((h r hr).below hb).more hb.size
theorem rows_add {w w' : World} {rs : List RowV} {B : Nat} {A : Option Addr} {xs : List UInt8} {c : Nat} (h : Rows_ w rs) (hb : Below w.heap.size w w') (ho : w'.ownsRow B 5 1 (.slice A xs.length c) xs.length (xs.map byteV)) : Rows_ w' (rs ++ [(A, xs, c)]) := fun r hr => by
  rcases List.mem_append.1 hr with hr | hr
  · exact rows_below h hb r hr
  · have : r = (A, xs, c) := by simpa using hr
    subst this
    exact Row.of_own ho
theorem rows_alloc {w : World} {rs : List RowV} (h : Rows_ w rs) (o : Obj) : Rows_ (w.alloc o) rs := rows_below h ((Below.refl _ _).alloc (Nat.le_refl _) _)
theorem row_cells {w : World} {t : TypeId} {cs : Array Value} {xs : List Value} (h : cs.toList = xs) : Row (w.alloc (.cells cs t)) (w.heap.size + 1) (some ⟨w.heap.size, 0, none⟩) xs := by
  refine Or.inr ⟨w.heap.size, 0, rfl, by omega, fun j hj => ?_⟩
  have := cell_of_row (w.alloc (.cells cs t)) w.heap.size j cs t (0, 0) (heap_alloc_new w _)
  rw [Nat.zero_add, this]
  subst h
  simp
theorem rows_perm {w : World} {rs rs' : List RowV} (h : Rows_ w rs) (hs : ∀ r ∈ rs', r ∈ rs) : Rows_ w rs' := fun r hr => h r (hs r hr)
theorem rows_none {w : World} {rs : List RowV} (h : Rows_ w rs) : Rows_ w (rs ++ [(none, [], 0)]) := fun r hr => by
  rcases List.mem_append.1 hr with hr | hr
  · exact h r hr
  · have : r = (none, [], 0) := by simpa using hr
    subst this
    exact Row.nil _ _ _
end Go.Proofs.Ytmmhiolmeijemaa
