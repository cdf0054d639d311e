/- Rings that are covered, points that are lost; whether two sets must meet. -/
import Derived.Test.YtafajikjojpaaaaQmD
import Derived.Test.YtafajikjojpaaaaRgH
namespace Go.Proofs.Ytafajikjojpaaaa
open Go.RowKit Mem Rg
set_option maxRecDepth 100000
set_option maxHeartbeats 8000000
set_option linter.unusedVariables false
def covP (LL : List (List Int)) (got : List Int) : Bool := decide (∀ L ∈ LL, enO L got = true)
theorem covP_lack (LL : List (List Int)) (got : List Int) : covP LL got = (((lackP got LL).length : Int) == 0) := by
  unfold covP
  rw [Bool.eq_iff_iff, decide_eq_true_eq, ← lackP_zero]
  simp
theorem keepP_le (l : List Pt) (h k : Nat) : (keepP l h k).length ≤ k := by unfold keepP; rw [List.length_take]; omega
theorem keepP_nodup (l : List Pt) (h k : Nat) : (keepP l h k).Nodup := (List.take_sublist _ _).nodup (ddn _)
theorem listsP_le {l : List Pt} {k : Nat} {L : List Int} (h : L ∈ listsP l k) : L.length ≤ k := by
  obtain ⟨p, _, rfl⟩ := List.mem_map.1 h
  exact keepP_le _ _ _
theorem listsP_nodup {l : List Pt} {k : Nat} {L : List Int} (h : L ∈ listsP l k) : L.Nodup := by
  obtain ⟨p, _, rfl⟩ := List.mem_map.1 h
  exact keepP_nodup _ _ _
/-- The lists of a ring. -/
abbrev ringL (ns : List Int) (e k : Nat) : List (List Int) := listsP (ptsP fP ns e) k
def TwoE (v : Value) (q : Int) (w : World) (x : Ending) (w' : World) : Prop := x = .returned (.tuple #[v, .int .i64 q]) ∧ Below w.heap.size w w'
theorem covers_ok (A A2 : Option Addr) (n c n2 c2 : Nat) (ns got : List Int) (e k : Nat) (hn : n = ns.length) (ok : OkR ns e k) (hn2 : n2 = got.length) (hl2 : n2 ≤ 1000000) (w : World) (h1 : Row w w.heap.size A (ns.map iV)) (h2 : Row w w.heap.size A2 (got.map iV)) :
    Calls Try.prog 18 #[.agg #[.slice A n c, .int .i64 (e : Int), .int .i64 (k : Int)], .slice A2 n2 c2] w (TwoE (.bool (covP (ringL ns e k) got)) 0 w) := by
  have HP := Lib.hid fun W (hb : Below w.heap.size w W) => ringlists_ok A n c ns e k hn ok W ((h1.below hb).more hb.size)
  obtain ⟨p1, p2, p3, p4, p5, p6, p7⟩ := pts_len_ok ok
  have hLL : (ringL ns e k).length ≤ 4096 := by show (List.map _ _).length ≤ 4096; rw [List.length_map]; exact p1
  have hLx : ∀ L ∈ ringL ns e k, L.length ≤ 64 := fun L h => Nat.le_trans (listsP_le h) p5
  have HLK := Lib.hid fun W (hb : Below w.heap.size w W) A3 c3 (rs : List RowIV) (hrs : rowsL rs = ringL ns e k) (hr : Row W W.heap.size A3 (rs.map rowIV)) (hrw : RowsI W rs) =>
    lacking_any n2 c2 (ringL ns e k).length c3 A2 A3 got rs hn2 hl2 (by rw [← hrs, List.length_map]) (by omega) W ((h2.below hb).more hb.size) hr (fun r h => rowsI_row hrw r h) (fun r h => by
      have := hLx r.2.1 (by rw [← hrs]; exact List.mem_map.2 ⟨r, h, rfl⟩)
      omega)
  have HCV := Lib.hid (covP_lack (ringL ns e k) got)
  have hle := lackP_le got (ringL ns e k)
  obtain ⟨LL, hL⟩ : ∃ LL, ringL ns e k = LL := ⟨_, rfl⟩
  have HP2 : Hid (∀ W, Below w.heap.size w W → Calls Try.prog 36 #[.agg #[.slice A n c, .int .i64 (e : Int), .int .i64 (k : Int)]] W (ListsE2 LL W)) := Lib.hid fun W hb => by rw [← hL]; exact HP.out W hb
  rw [hL] at HLK HCV hle hLL ⊢
  clear p1 p2 p3 p4 p5 p6 p7 h1 h2 hn ok hn2 hl2 hLx HP hL
  go_enter Try.func18, Try.ntmps18
  go_wp2_with fail
  refine (HP2.out _ ((Below.refl _ _).alloc (Nat.le_refl _) _)).mono ?_
  rintro e1 w1 ⟨A3, c3, rs, rfl, hrs, hr1, hri, hb1⟩
  have HB1 := Lib.hid (below_after1 hb1)
  have HL1 := Lib.hid (HLK.out w1 HB1.out A3 c3 rs hrs hr1 hri)
  rw [show rowsL rs = LL from hrs] at HL1
  clear hrs hr1 hri hb1
  go_wp2_with fail
  refine HL1.out.mono ?_
  rintro e2 w2 ⟨A4, c4, rfl, ho2, hb2⟩
  have HB2 := Lib.hid (HB1.out.trans (hb2.mono HB1.out.size))
  obtain ⟨z, hz⟩ : ∃ z, (lackP got LL).length = z := ⟨_, rfl⟩
  rw [hz] at HCV hle ⊢
  have HC2 := Lib.hid HCV.out.symm
  have hzz := HC2.out
  clear ho2 hb2 hz
  go_wp2
  go_ret2
  exact ⟨rfl, HB2.out⟩
theorem covers_bad (A A2 : Option Addr) (n c n2 c2 : Nat) (ns : List Int) (e k : Int) (hn : n = ns.length) (hl : n ≤ maxLen) (bad : ¬ OkR ns e k) (w : World) (h1 : Row w w.heap.size A (ns.map iV)) :
    Calls Try.prog 18 #[.agg #[.slice A n c, .int .i64 e, .int .i64 k], .slice A2 n2 c2] w (TwoE (.bool false) 2 w) := by
  have HP := Lib.hid fun W (hb : Below w.heap.size w W) => ringlists_bad A n c ns e k hn hl bad W ((h1.below hb).more hb.size)
  clear h1 hn hl bad
  go_enter Try.func18, Try.ntmps18
  go_wp2_with fail
  refine (HP.out _ ((Below.refl _ _).alloc (Nat.le_refl _) _)).mono ?_
  rintro e1 w1 ⟨rfl, hb1⟩
  have HB1 := Lib.hid (below_after1 hb1)
  clear hb1
  go_wp2
  go_ret2
  exact ⟨rfl, HB1.out⟩
theorem lost_bad (A A2 : Option Addr) (n c n2 c2 : Nat) (ns : List Int) (e k : Int) (hn : n = ns.length) (hl : n ≤ maxLen) (bad : ¬ OkR ns e k) (w : World) (h1 : Row w w.heap.size A (ns.map iV)) :
    Calls Try.prog 19 #[.agg #[.slice A n c, .int .i64 e, .int .i64 k], .slice A2 n2 c2] w (TwoE (.slice none 0 0) 2 w) := by
  have HP := Lib.hid fun W (hb : Below w.heap.size w W) => ringlists_bad A n c ns e k hn hl bad W ((h1.below hb).more hb.size)
  clear h1 hn hl bad
  go_enter Try.func19, Try.ntmps19
  go_wp2_with fail
  refine (HP.out _ ((Below.refl _ _).alloc (Nat.le_refl _) _)).mono ?_
  rintro e1 w1 ⟨rfl, hb1⟩
  have HB1 := Lib.hid (below_after1 hb1)
  clear hb1
  go_wp2
  go_ret2
  exact ⟨rfl, HB1.out⟩
theorem lost_ok (A A2 : Option Addr) (n c n2 c2 : Nat) (ns dead : List Int) (e k : Nat) (hn : n = ns.length) (ok : OkR ns e k) (hn2 : n2 = dead.length) (hl2 : n2 ≤ 1000000) (w : World) (h1 : Row w w.heap.size A (ns.map iV)) (h2 : Row w w.heap.size A2 (dead.map iV)) :
    Calls Try.prog 19 #[.agg #[.slice A n c, .int .i64 (e : Int), .int .i64 (k : Int)], .slice A2 n2 c2] w (IntsE2 (lackP (outs ns dead) (ringL ns e k)) w) := by
  have HP := Lib.hid fun W (hb : Below w.heap.size w W) => ringlists_ok A n c ns e k hn ok W ((h1.below hb).more hb.size)
  obtain ⟨p1, p2, p3, p4, p5, p6, p7⟩ := pts_len_ok ok
  have hn64 : n ≤ 64 := by have := ok.2.1; omega
  have hLL : (ringL ns e k).length ≤ 4096 := by show (List.map _ _).length ≤ 4096; rw [List.length_map]; exact p1
  have hLx : ∀ L ∈ ringL ns e k, L.length ≤ 64 := fun L h => Nat.le_trans (listsP_le h) p5
  have HCL := Lib.hid fun W (hb : Below w.heap.size w W) => clonei_any W.heap.size c n A ns hn W ((h1.below hb).more hb.size) (Nat.le_refl _) (by omega)
  have HWI := Lib.hid fun W (hb : Below w.heap.size w W) => within_any n2 c2 W.heap.size A2 dead hn2 hl2 W ((h2.below hb).more hb.size) (Nat.le_refl _)
  have HNL : Hid (ns.length ≤ 64) := Lib.hid (by omega)
  obtain ⟨LL, hL⟩ : ∃ LL, ringL ns e k = LL := ⟨_, rfl⟩
  have HP2 : Hid (∀ W, Below w.heap.size w W → Calls Try.prog 36 #[.agg #[.slice A n c, .int .i64 (e : Int), .int .i64 (k : Int)]] W (ListsE2 LL W)) := Lib.hid fun W hb => by rw [← hL]; exact HP.out W hb
  rw [hL] at hLL hLx ⊢
  have HLL := Lib.hid hLL
  have HLX := Lib.hid hLx
  clear p1 p2 p3 p4 p5 p6 p7 h1 h2 hn ok hn2 hl2 hLx HP hL hLL hn64
  go_enter Try.func19, Try.ntmps19
  go_wp2_with fail
  refine (HP2.out _ ((Below.refl _ _).alloc (Nat.le_refl _) _)).mono ?_
  rintro e1 w1 ⟨A3, c3, rs, rfl, hrs, hr1, hri, hb1⟩
  have HB1 := Lib.hid (below_after1 hb1)
  have hk1 := (Blk.new w 30 #[.slice A n c, .int .i64 (e : Int), .int .i64 (k : Int)]).below hb1 (by simp)
  have c0 : w1.cell? ⟨w.heap.size, 0, none⟩ = some (.slice A n c) := hk1.cell 0
  have HRS : Hid (rowsL rs = LL) := Lib.hid hrs
  have HR1 := Lib.hid hr1
  have HRI := Lib.hid hri
  clear hrs hr1 hri hb1 hk1
  go_wp2_with fail
  refine (HCL.out _ HB1.out).mono ?_
  rintro e2 w2 ⟨A4, c4, rfl, ho2, hb2⟩
  have HB2 := Lib.hid (HB1.out.trans (hb2.mono HB1.out.size))
  have HO2 := Lib.hid ho2
  have HB12 := Lib.hid hb2
  clear ho2 hb2 c0
  go_wp2_with fail
  refine (HWI.out _ HB2.out).mono ?_
  rintro e3 w3 ⟨g, rfl, hf3, hb3⟩
  have HB3 := Lib.hid (HB2.out.trans (hb3.mono HB2.out.size))
  have ho3 := ownLater HO2.out hb3
  have hs12 := HB12.out.size
  have hs23 := hb3.size
  have HDEL := Lib.hid (deli_any _ c4 41 #[.pointer (some ⟨g, 0, none⟩)] (enters_of Try.func41 (by kernel_rfl) rfl) (fun x => isIn x dead) A4 ns w3 ho3 (by omega) (by have := HNL.out; omega)
    (fun W x hk => in_any _ g dead x W (hf3.keep ⟨hk.1, fun k hK => hk.2 k ⟨hK.2, fun g' e => by have := (HO2.out.lt g' (by rw [e]; rfl)).2; omega⟩⟩)))
  have HB13 := Lib.hid (HB12.out.trans (hb3.mono HB12.out.size))
  clear hf3 hb3 ho3 hs12 hs23
  go_wp2_with fail
  refine HDEL.out.mono ?_
  rintro e4 w4 ⟨⟨c5, rfl⟩, hr4, hb4⟩
  have HB4 := Lib.hid (HB3.out.trans (hb4.mono HB1.out.size))
  have hb14 := HB13.out.trans hb4
  have hfl : (ns.filter fun x => !isIn x dead).length ≤ 64 := Nat.le_trans (List.length_filter_le _ _) HNL.out
  have HLK := Lib.hid (lacking_any (ns.filter fun x => !isIn x dead).length c5 LL.length c3 A4 A3 (ns.filter fun x => !isIn x dead) rs rfl (by omega) (by rw [← HRS.out, List.length_map]) (by have := HLL.out; omega) w4 hr4 ((HR1.out.below hb14).more hb14.size)
    (fun r h => rowsI_row (rowsI_below HRI.out hb14) r h) (fun r h => by
      have := HLX.out r.2.1 (by rw [← HRS.out]; exact List.mem_map.2 ⟨r, h, rfl⟩)
      omega))
  rw [HRS.out] at HLK
  clear hr4 hb4 hb14 hfl
  go_wp2_with fail
  refine HLK.out.mono ?_
  rintro e5 w5 ⟨A6, c6, rfl, ho5, hb5⟩
  have HRES : Hid (IntsE2 (lackP (outs ns dead) LL) w (.returned (.tuple #[.slice A6 (lackP (ns.filter fun x => !isIn x dead) LL).length c6, .int .i64 0])) w5) := Lib.hid ⟨A6, c6, rfl, ownBase ho5 HB4.out.size, HB4.out.trans (hb5.mono HB4.out.size)⟩
  clear ho5 hb5
  go_wp2
  go_ret2
  exact HRES.out
theorem meet_any (n a b : Nat) (hn : n ≤ 1000000) (ha : a ≤ n) (hb : b ≤ n) (w : World) : Calls Try.prog 24 #[.int .i64 (n : Int), .int .i64 (a : Int), .int .i64 (b : Int)] w fun e w' => e = .returned (.bool (decide (n < a + b))) ∧ w = w' := by
  have h1 : decide ((a : Int) < 0) = false := by simp
  have h2 : decide ((n : Int) < (a : Int)) = false := by simp; omega
  have h2' : decide (n < a) = false := by simp; omega
  have h3 : decide ((b : Int) < 0) = false := by simp
  have h4 : decide ((n : Int) < (b : Int)) = false := by simp; omega
  have h4' : decide (n < b) = false := by simp; omega
  obtain ⟨z, hz⟩ : ∃ z, (n : Int) - (b : Int) = z := ⟨_, rfl⟩
  have h5 : decide (z < (a : Int)) = decide (n < a + b) := by rw [decide_eq_decide]; omega
  have hz1 : z ≤ 1000000 := by omega
  have hz0 : 0 ≤ z := by omega
  rw [← h5]
  clear h5 ha hb
  go_enter Try.func24, Try.ntmps24
  go_wp2
  go_ret
  exact ⟨rfl, rfl⟩
end Go.Proofs.Ytafajikjojpaaaa
