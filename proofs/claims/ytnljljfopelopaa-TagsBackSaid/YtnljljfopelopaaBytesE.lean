/- The bytes of an entry, by the program. -/
import Derived.Test.YtnljljfopelopaaNewer
import Derived.Test.YtnljljfopelopaaConcat
import Derived.Deep.RegionHeld3
namespace Go.Proofs.Ytnljljfopelopaa
open Go.RowKit Mem Be
set_option maxRecDepth 10000
set_option maxHeartbeats 4000000
def tagB (s u o : Int) : List UInt8 := numB s ++ (numB u ++ numB o)
theorem tagB_le (s u o : Int) : (tagB s u o).length ≤ 27 := by
  have := numB_le s; have := numB_le u; have := numB_le o
  unfold tagB; rw [List.length_append, List.length_append]; omega
def entB (k : List UInt8) (s u o : Int) (has : Bool) (xs : List UInt8) : List UInt8 := rowB k ++ (tagB s u o ++ (truthB has ++ (if has = true then rowB xs else [])))
theorem entB_le (k : List UInt8) (s u o : Int) (has : Bool) (xs : List UInt8) : (entB k s u o has xs).length ≤ k.length + xs.length + 46 := by
  have h1 := numB_le (k.length : Int); have h2 := numB_le (xs.length : Int); have h3 := tagB_le s u o
  unfold entB rowB truthB
  cases has <;> simp only [List.length_append, List.length_cons, List.length_nil, if_true, Bool.false_eq_true, if_false] <;> omega
def bytesE (k : List UInt8) (s u o : Int) (has : Bool) (xs : List UInt8) : List UInt8 × Int := if rightE k.length xs.length s u o has = 0 then (entB k s u o has xs, 0) else ([], 2)
/-- Rows that lie in a world, one more with each call. -/
def Rows_ (w : World) (rs : List RowV) : Prop := ∀ r ∈ rs, Row w w.heap.size r.1 (r.2.1.map byteV)
theorem rows_nil (w : World) : Rows_ w [] := fun r h => by cases h
theorem rows_below {w w' : World} {rs : List RowV} (h : Rows_ w rs) (hb : Below w.heap.size w w') : Rows_ w' rs := fun r hr => ((h r hr).below hb).more hb.size
theorem rows_add {w w' : World} {rs : List RowV} {B : Nat} {A : Option Addr} {xs : List UInt8} {c : Nat} (h : Rows_ w rs) (hb : Below w.heap.size w w') (ho : w'.ownsRow B 5 1 (.slice A xs.length c) xs.length (xs.map byteV)) : Rows_ w' (rs ++ [(A, xs, c)]) := fun r hr => by
  rcases List.mem_append.1 hr with hr | hr
  · exact rows_below h hb r hr
  · have : r = (A, xs, c) := by simpa using hr
    subst this
    exact Row.of_own ho
theorem rows_alloc {w : World} {rs : List RowV} (h : Rows_ w rs) (o : Obj) : Rows_ (w.alloc o) rs := rows_below h ((Below.refl _ _).alloc (Nat.le_refl _) _)
theorem row_cells {w : World} {t : TypeId} {cs : Array Value} {xs : List Value} (h : cs.toList = xs) : Row (w.alloc (.cells cs t)) (w.heap.size + 1) (some ⟨w.heap.size, 0, none⟩) xs := by
  refine Or.inr ⟨w.heap.size, 0, rfl, by omega, fun j hj => ?_⟩
  have := cell_of_row (w.alloc (.cells cs t)) w.heap.size j cs t (0, 0) (heap_alloc_new w _)
  rw [Nat.zero_add, this]
  subst h
  simp
theorem rows_perm {w : World} {rs rs' : List RowV} (h : Rows_ w rs) (hs : ∀ r ∈ rs', r ∈ rs) : Rows_ w rs' := fun r hr => h r (hs r hr)
theorem rows_none {w : World} {rs : List RowV} (h : Rows_ w rs) : Rows_ w (rs ++ [(none, [], 0)]) := fun r hr => by
  rcases List.mem_append.1 hr with hr | hr
  · exact h r hr
  · have : r = (none, [], 0) := by simpa using hr
    subst this
    exact Row.nil _ _ _
theorem concat_to (bs : List UInt8) (B n c : Nat) (A : Option Addr) (rs : List RowV) (hn : n = rs.length) (w : World) (h : Row w B A (rs.map rowV)) (hB : B ≤ w.heap.size) (hx : Rows_ w rs) (hc : catB rs = bs) (hl : bs.length ≤ 1073741824) (hn2 : n ≤ 1000000) :
    Calls Try.prog 50 #[.slice A n c] w (Made w.heap.size bs w) := by
  subst hc
  exact concat_any B n c A rs hn w h hB hx hl hn2
theorem bytes_err (key : ByteArray) (s u o : Int) (has : Bool) (A : Option Addr) (m c : Nat) (hm : (m : Int) ≤ 1073741824) (hsz : (key.size : Int) ≤ 1073741824) (hr : rightE key.size m s u o has = 2) (w : World) :
    Calls Try.prog 23 #[entV key s u o has A m c] w (Made2 w.heap.size [] 2 w) := by
  have HR : Hid (∀ W, Calls Try.prog 26 #[entV key s u o has A m c] W (IsI 2 W)) := Lib.hid fun W => by
    rw [← hr]; exact right_any key s u o has A m c hm hsz W
  clear hr
  go_enter Try.func23, Try.ntmps23
  go_wp2_with fail
  refine (HR.out _).mono ?_
  rintro e w1 ⟨rfl, hb⟩
  have HB := Lib.hid (below_after1 hb)
  clear hb
  go_wp2
  go_ret2
  exact ⟨none, 0, rfl, World.ownsRow_nil _ _ _ _, HB.out⟩
theorem bytes_yes (key : ByteArray) (s u o : Int) (A : Option Addr) (xs : List UInt8) (n c : Nat) (hn : n = xs.length) (hr : rightE key.size n s u o true = 0) (w : World) (h : ValOk w true A xs c) :
    Calls Try.prog 23 #[entV key s u o true A n c] w (Made2 w.heap.size (entB (kb key) s u o true xs) 0 w) := by
  have hyes := rightE_yes hr
  have HK : Hid (key.size ≤ 250) := Lib.hid hyes.2.1
  have HX : Hid (xs.length ≤ 60000) := Lib.hid (by omega)
  have HR : Hid (∀ W, Calls Try.prog 26 #[entV key s u o true A n c] W (IsI 0 W)) := Lib.hid fun W => by
    rw [← hr]; exact right_any key s u o true A n c (by omega) (by omega) W
  have HV := Lib.hid h
  have HN := Lib.hid hn
  clear hr h hn hyes
  have hblk := Blk.new w 43 #[.string key, .int .i64 s, .int .i64 u, .int .i64 o, .bool true, .slice A n c]
  have HBK := Lib.hid hblk
  clear hblk
  go_enter Try.func23, Try.ntmps23
  go_wp2_with fail
  refine (HR.out _).mono ?_
  rintro e w1 ⟨rfl, hb⟩
  have HB1 := Lib.hid (below_after1 hb)
  have HK1 := Lib.hid (HBK.out.below hb (by simp))
  have k0 : w1.cell? ⟨w.heap.size, 0, none⟩ = some (.string key) := HK1.out.cell 0
  clear hb
  go_wp2_with (with_reducible refine wpList_conv _ rfl _ _ _ _ rfl key rfl Try.underlying9 Try.underlying39 Try.underlying5 ?_)
  intro A1 c1 w2 hrow hb _
  have HB2 : Hid (Below w.heap.size w w2) := Lib.hid (HB1.out.trans (hb.mono HB1.out.size))
  have HK2 := Lib.hid (HK1.out.below hb HK1.out.lt)
  have HRO := Lib.hid hrow
  clear k0 hrow hb
  go_wp2_with fail
  refine (row_any _ c1 _ A1 (kb key) (kb_len key).symm _ HRO.out (Nat.le_refl _) (by rw [kb_len]; have := HK.out; omega)).mono ?_
  rintro e w3 ⟨A3, c3, rfl, ho, hb⟩
  have HB3 : Hid (Below w.heap.size w w3) := Lib.hid (HB2.out.trans (hb.mono HB2.out.size))
  have HK3 := Lib.hid (HK2.out.below hb HK2.out.lt)
  have HS1 := Lib.hid (rows_add (rows_nil w2) hb ho)
  have s1 : w3.cell? ⟨w.heap.size, 1, none⟩ = some (.int .i64 s) := HK3.out.cell 1
  have s2 : w3.cell? ⟨w.heap.size, 2, none⟩ = some (.int .i64 u) := HK3.out.cell 2
  have s3 : w3.cell? ⟨w.heap.size, 3, none⟩ = some (.int .i64 o) := HK3.out.cell 3
  clear ho hb
  go_wp2_with fail
  have HA : Hid (Below w3.heap.size w3 w3.drew) := Lib.hid (Below.refl _ _).drew
  have HS2 : Hid (Rows_ w3.drew []) := Lib.hid (rows_nil _)
  have hlt : w.heap.size < w3.heap.size := HK3.out.lt
  go_region_held3 (fun w' => w'.cell? ⟨w.heap.size, 1, none⟩ = some (.int .i64 s) ∧ w'.cell? ⟨w.heap.size, 2, none⟩ = some (.int .i64 u) ∧ w'.cell? ⟨w.heap.size, 3, none⟩ = some (.int .i64 o))
    (first | go_keep | exact ⟨(HA.out.cell (p := ⟨w.heap.size, 1, none⟩) hlt).trans s1, (HA.out.cell (p := ⟨w.heap.size, 2, none⟩) hlt).trans s2, (HA.out.cell (p := ⟨w.heap.size, 3, none⟩) hlt).trans s3⟩)
    (first
      | (go_at_call 51; refine (num_any _ _).mono ?_; rintro e w4 ⟨A4, c4, rfl, ho, hb⟩; have HS2 := Lib.hid (rows_add HS2.out hb ho); have HA := Lib.hid (HA.out.trans (hb.mono HA.out.size)); clear ho hb)
      | (go_at_call 50; refine (concat_to (tagB s u o) _ _ _ _ _ rfl _ (row_cells rfl) (by simp) (rows_alloc HS2.out _) (by simp [catB, tagB]) (by have := tagB_le s u o; omega) (by simp)).mono ?_; rintro e w5 ⟨A5, c5, rfl, ho, hb⟩; have HO5 := Lib.hid ho; have HA := Lib.hid (HA.out.trans (below_after1 hb |>.mono HA.out.size)); clear ho hb))
  have HA3 : Hid (Below w3.heap.size w3 w5) := HA
  have HB5 : Hid (Below w.heap.size w w5) := Lib.hid (HB3.out.trans (HA3.out.mono HB3.out.size))
  have HK5 := Lib.hid (HK3.out.below HA3.out HK3.out.lt)
  have HS5 := Lib.hid (rows_add HS1.out HA3.out HO5.out)
  clear s1 s2 s3
  have s4 : w5.cell? ⟨w.heap.size, 4, none⟩ = some (.bool true) := HK5.out.cell 4
  have s5 : w5.cell? ⟨w.heap.size, 5, none⟩ = some (.slice A n c) := HK5.out.cell 5
  go_wp2_with fail
  refine (row_any w.heap.size c n A xs HN.out _ (HV.out.row.below HB5.out) HB5.out.size (by have := HX.out; omega)).mono ?_
  rintro e w6 ⟨A6, c6, rfl, ho, hb⟩
  have HB6 : Hid (Below w.heap.size w w6) := Lib.hid (HB5.out.trans (hb.mono HB5.out.size))
  have HK6 := Lib.hid (HK5.out.below hb HK5.out.lt)
  have HS6 := Lib.hid (rows_add HS5.out hb ho)
  have q4 : w6.cell? ⟨w.heap.size, 4, none⟩ = some (.bool true) := HK6.out.cell 4
  clear ho hb s4 s5
  go_wp2_with fail
  refine (puttruth_any true _).mono ?_
  rintro e w7 ⟨A7, c7, rfl, ho, hb⟩
  have HB7 : Hid (Below w.heap.size w w7) := Lib.hid (HB6.out.trans (hb.mono HB6.out.size))
  have HS7 := Lib.hid (rows_add HS6.out hb ho)
  clear ho hb
  go_wp2_with fail
  refine (concat_to (entB (kb key) s u o true xs) _ _ _ _ [(A3, rowB (kb key), c3), (A5, tagB s u o, c5), (A7, truthB true, c7), (A6, rowB xs, c6)] rfl _ (row_cells rfl) (by simp) (rows_alloc (rows_perm HS7.out (by intro r hr; simp at hr ⊢; rcases hr with h | h | h | h <;> simp [h])) _) (by simp [catB, entB]) (by have := entB_le (kb key) s u o true xs; have := HK.out; have := HX.out; have := kb_len key; omega) (by simp)).mono ?_
  rintro e w8 ⟨A8, c8, rfl, ho, hb⟩
  have HB8 : Hid (Below w.heap.size w w8) := Lib.hid (HB7.out.trans ((below_after1 hb).mono HB7.out.size))
  have HO8 := Lib.hid (own_base ho (Nat.le_trans HB7.out.size (by simp) : w.heap.size ≤ _))
  clear ho hb
  go_wp2
  go_ret2
  exact ⟨A8, c8, rfl, HO8.out, HB8.out⟩
theorem bytes_no (key : ByteArray) (s u o : Int) (A : Option Addr) (xs : List UInt8) (n c : Nat) (hn : n = xs.length) (hr : rightE key.size n s u o false = 0) (w : World) (h : ValOk w false A xs c) :
    Calls Try.prog 23 #[entV key s u o false A n c] w (Made2 w.heap.size (entB (kb key) s u o false xs) 0 w) := by
  have hyes := rightE_yes hr
  have HK : Hid (key.size ≤ 250) := Lib.hid hyes.2.1
  have HX : Hid (xs.length ≤ 60000) := Lib.hid (by omega)
  have HR : Hid (∀ W, Calls Try.prog 26 #[entV key s u o false A n c] W (IsI 0 W)) := Lib.hid fun W => by
    rw [← hr]; exact right_any key s u o false A n c (by omega) (by omega) W
  have HV := Lib.hid h
  have HN := Lib.hid hn
  clear hr h hn hyes
  have hblk := Blk.new w 43 #[.string key, .int .i64 s, .int .i64 u, .int .i64 o, .bool false, .slice A n c]
  have HBK := Lib.hid hblk
  clear hblk
  go_enter Try.func23, Try.ntmps23
  go_wp2_with fail
  refine (HR.out _).mono ?_
  rintro e w1 ⟨rfl, hb⟩
  have HB1 := Lib.hid (below_after1 hb)
  have HK1 := Lib.hid (HBK.out.below hb (by simp))
  have k0 : w1.cell? ⟨w.heap.size, 0, none⟩ = some (.string key) := HK1.out.cell 0
  clear hb
  go_wp2_with (with_reducible refine wpList_conv _ rfl _ _ _ _ rfl key rfl Try.underlying9 Try.underlying39 Try.underlying5 ?_)
  intro A1 c1 w2 hrow hb _
  have HB2 : Hid (Below w.heap.size w w2) := Lib.hid (HB1.out.trans (hb.mono HB1.out.size))
  have HK2 := Lib.hid (HK1.out.below hb HK1.out.lt)
  have HRO := Lib.hid hrow
  clear k0 hrow hb
  go_wp2_with fail
  refine (row_any _ c1 _ A1 (kb key) (kb_len key).symm _ HRO.out (Nat.le_refl _) (by rw [kb_len]; have := HK.out; omega)).mono ?_
  rintro e w3 ⟨A3, c3, rfl, ho, hb⟩
  have HB3 : Hid (Below w.heap.size w w3) := Lib.hid (HB2.out.trans (hb.mono HB2.out.size))
  have HK3 := Lib.hid (HK2.out.below hb HK2.out.lt)
  have HS1 := Lib.hid (rows_add (rows_nil w2) hb ho)
  have s1 : w3.cell? ⟨w.heap.size, 1, none⟩ = some (.int .i64 s) := HK3.out.cell 1
  have s2 : w3.cell? ⟨w.heap.size, 2, none⟩ = some (.int .i64 u) := HK3.out.cell 2
  have s3 : w3.cell? ⟨w.heap.size, 3, none⟩ = some (.int .i64 o) := HK3.out.cell 3
  clear ho hb
  go_wp2_with fail
  have HA : Hid (Below w3.heap.size w3 w3.drew) := Lib.hid (Below.refl _ _).drew
  have HS2 : Hid (Rows_ w3.drew []) := Lib.hid (rows_nil _)
  have hlt : w.heap.size < w3.heap.size := HK3.out.lt
  go_region_held3 (fun w' => w'.cell? ⟨w.heap.size, 1, none⟩ = some (.int .i64 s) ∧ w'.cell? ⟨w.heap.size, 2, none⟩ = some (.int .i64 u) ∧ w'.cell? ⟨w.heap.size, 3, none⟩ = some (.int .i64 o))
    (first | go_keep | exact ⟨(HA.out.cell (p := ⟨w.heap.size, 1, none⟩) hlt).trans s1, (HA.out.cell (p := ⟨w.heap.size, 2, none⟩) hlt).trans s2, (HA.out.cell (p := ⟨w.heap.size, 3, none⟩) hlt).trans s3⟩)
    (first
      | (go_at_call 51; refine (num_any _ _).mono ?_; rintro e w4 ⟨A4, c4, rfl, ho, hb⟩; have HS2 := Lib.hid (rows_add HS2.out hb ho); have HA := Lib.hid (HA.out.trans (hb.mono HA.out.size)); clear ho hb)
      | (go_at_call 50; refine (concat_to (tagB s u o) _ _ _ _ _ rfl _ (row_cells rfl) (by simp) (rows_alloc HS2.out _) (by simp [catB, tagB]) (by have := tagB_le s u o; omega) (by simp)).mono ?_; rintro e w5 ⟨A5, c5, rfl, ho, hb⟩; have HO5 := Lib.hid ho; have HA := Lib.hid (HA.out.trans (below_after1 hb |>.mono HA.out.size)); clear ho hb))
  have HA3 : Hid (Below w3.heap.size w3 w5) := HA
  have HB5 : Hid (Below w.heap.size w w5) := Lib.hid (HB3.out.trans (HA3.out.mono HB3.out.size))
  have HK5 := Lib.hid (HK3.out.below HA3.out HK3.out.lt)
  have HS5 := Lib.hid (rows_add HS1.out HA3.out HO5.out)
  clear s1 s2 s3
  have s4 : w5.cell? ⟨w.heap.size, 4, none⟩ = some (.bool false) := HK5.out.cell 4
  have HB6 := HB5
  have HS6 := Lib.hid (rows_none HS5.out)
  go_wp2_with fail
  refine (puttruth_any false _).mono ?_
  rintro e w7 ⟨A7, c7, rfl, ho, hb⟩
  have HB7 : Hid (Below w.heap.size w w7) := Lib.hid (HB6.out.trans (hb.mono HB6.out.size))
  have HS7 := Lib.hid (rows_add HS6.out hb ho)
  clear ho hb
  go_wp2_with fail
  refine (concat_to (entB (kb key) s u o false xs) _ _ _ _ [(A3, rowB (kb key), c3), (A5, tagB s u o, c5), (A7, truthB false, c7), (none, [], 0)] rfl _ (row_cells rfl) (by simp) (rows_alloc (rows_perm HS7.out (by intro r hr; simp at hr ⊢; rcases hr with h | h | h | h <;> simp [h])) _) (by simp [catB, entB]) (by have := entB_le (kb key) s u o false xs; have := HK.out; have := HX.out; have := kb_len key; omega) (by simp)).mono ?_
  rintro e w8 ⟨A8, c8, rfl, ho, hb⟩
  have HB8 : Hid (Below w.heap.size w w8) := Lib.hid (HB7.out.trans ((below_after1 hb).mono HB7.out.size))
  have HO8 := Lib.hid (own_base ho (Nat.le_trans HB7.out.size (by simp) : w.heap.size ≤ _))
  clear ho hb
  go_wp2
  go_ret2
  exact ⟨A8, c8, rfl, HO8.out, HB8.out⟩
end Go.Proofs.Ytnljljfopelopaa
