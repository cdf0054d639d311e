/- An entry read from bytes, by the program and by the document. -/
import Derived.Test.YtmbcdakfnckcmaaStepRef
namespace Go.Proofs.Ytmbcdakfnckcmaa
open Go.RowKit Mem Be
set_option maxRecDepth 10000
set_option maxHeartbeats 4000000
def ReadGot (r : EntP × Int) (w : World) (E : Ending) (w' : World) : Prop :=
  ∃ A c, E = .returned (.tuple #[entV ⟨r.1.k.toArray⟩ r.1.s r.1.u r.1.o r.1.has A r.1.v.length c, .int .i64 r.2]) ∧ w'.ownsRow w.heap.size 5 1 (.slice A r.1.v.length c) r.1.v.length (r.1.v.map byteV) ∧ Below w.heap.size w w'
theorem readgot_err {r : EntP × Int} {e : Int} (hr : r = (entP0, e)) {w w5 : World} {v0 v1 v2 v3 v4 v5 : Value} {o5 : Obj} (hb : Below w.heap.size w w5) : ReadGot r w (.returned (.tuple #[entV ⟨#[]⟩ 0 0 0 false none 0 0, .int .i64 e])) (((((((w5.setCell ⟨w.heap.size, 0, none⟩ v0).setCell ⟨w.heap.size, 1, none⟩ v1).setCell ⟨w.heap.size, 2, none⟩ v2).setCell ⟨w.heap.size, 3, none⟩ v3).setCell ⟨w.heap.size, 4, none⟩ v4).setCell ⟨w.heap.size, 5, none⟩ v5).alloc o5) := by
  subst hr; exact ⟨none, 0, rfl, World.ownsRow_nil _ _ _ _, (below_res5 hb).alloc (below_res5 hb).size _⟩
theorem readgot_ok {r : EntP × Int} {x : EntP} (hr : r = (x, 0)) {w w5 : World} {A : Option Addr} {c : Nat} {v0 v1 v2 v3 v4 v5 : Value} {o5 : Obj} (ho : w5.ownsRow (w.heap.size + 1) 5 1 (.slice A x.v.length c) x.v.length (x.v.map byteV)) (hb : Below w.heap.size w w5) :
    ReadGot r w (.returned (.tuple #[entV ⟨x.k.toArray⟩ x.s x.u x.o x.has A x.v.length c, .int .i64 0])) (((((((w5.setCell ⟨w.heap.size, 0, none⟩ v0).setCell ⟨w.heap.size, 1, none⟩ v1).setCell ⟨w.heap.size, 2, none⟩ v2).setCell ⟨w.heap.size, 3, none⟩ v3).setCell ⟨w.heap.size, 4, none⟩ v4).setCell ⟨w.heap.size, 5, none⟩ v5).alloc o5) := by
  subst hr
  exact ⟨A, c, rfl, (own_base (own_put (own_put (own_put (own_put (own_put (own_put ho (by omega) _ _) (by omega) _ _) (by omega) _ _) (by omega) _ _) (by omega) _ _) (by omega) _ _) (by omega)).alloc _, (below_res5 hb).alloc (below_res5 hb).size _⟩
theorem read_any (B n c : Nat) (A : Option Addr) (bs : List UInt8) (hn : n = bs.length) (hl : n ≤ 1000000) (w : World) (h : Row w B A (bs.map byteV)) (hB : B ≤ w.heap.size) :
    Calls Try.prog 10 #[.slice A n c] w (ReadGot (readP bs) w) := by
  have HR0 := Lib.hid (h.below ((Below.refl w.heap.size w).alloc (Nat.le_refl _) (.cells zeroC 38) |>.mono hB))
  have HN := Lib.hid hn
  have HL : Hid (bs.length ≤ 1073741824) := Lib.hid (by omega)
  have HBK := Lib.hid (Blk.new w 38 zeroC)
  obtain ⟨⟨x, rest, e⟩, hs⟩ : ∃ y, stepE bs 0 = y := ⟨_, rfl⟩
  have HS := Lib.hid hs
  have hP : readP bs = if endZ rest e = 0 then (x, 0) else (entP0, endZ rest e) := by unfold readP; rw [hs]
  clear h hn hl hs
  obtain ⟨ez, hez⟩ : ∃ z, endZ rest e = z := ⟨_, rfl⟩
  rw [hez] at hP
  have HEZ := Lib.hid hez
  clear hez
  obtain ⟨R, hR⟩ : ∃ R, readP bs = R := ⟨_, rfl⟩
  rw [hR] at hP ⊢
  have HP := Lib.hid hP
  clear hP hR
  go_enter Try.func10, Try.ntmps10
  go_wp2_with fail
  refine (new_any B c n A bs HN.out _ HR0.out (by simp; omega) HL.out).mono ?_
  rintro e w1 ⟨g, rfl, hg, hrd, hb⟩
  have HB1 := Lib.hid (below_after1 hb)
  have HK1 := Lib.hid (HBK.out.below hb (by simp))
  have HD1 := Lib.hid hrd
  have hg0 : w.heap.size + 1 ≤ g := by simpa using hg
  clear hg hb hrd
  go_wp2_with fail
  refine (get_any g bs 0 _ HD1.out).mono ?_
  rw [HS.out]
  rintro e w2 ⟨A2, c2, rfl, ho, hrd, hgr⟩
  have HD2 := Lib.hid hrd
  have HB2 : Hid (Below w.heap.size w w2) := Lib.hid (below_grown HB1.out hgr HB1.out.size (by omega))
  have HR2 := Lib.hid (HK1.out.grown hgr (fun e => by injection e with e; omega))
  have HO2 := Lib.hid (own_base (B' := w.heap.size + 1) ho HK1.out.lt)
  clear ho hrd hgr
  have r0 : w2.cell? ⟨w.heap.size, 0, none⟩ = some (.string ⟨#[]⟩) := HR2.out.cell 0
  have r1 : w2.cell? ⟨w.heap.size, 1, none⟩ = some (.int .i64 0) := HR2.out.cell 1
  have r2 : w2.cell? ⟨w.heap.size, 2, none⟩ = some (.int .i64 0) := HR2.out.cell 2
  have r3 : w2.cell? ⟨w.heap.size, 3, none⟩ = some (.int .i64 0) := HR2.out.cell 3
  have r4 : w2.cell? ⟨w.heap.size, 4, none⟩ = some (.bool false) := HR2.out.cell 4
  have r5 : w2.cell? ⟨w.heap.size, 5, none⟩ = some (.slice none 0 0) := HR2.out.cell 5
  have z0 := HR2.out.frozen 0
  have z1 := HR2.out.frozen 1
  have z2 := HR2.out.frozen 2
  have z3 := HR2.out.frozen 3
  have z4 := HR2.out.frozen 4
  have z5 := HR2.out.frozen 5
  have HZ : w.heap.size < w2.heap.size := HR2.out.lt
  go_wp2_with fail
  refine (end_any g rest _ _ (rd_alloc HD2.out _)).mono ?_
  rw [HEZ.out]
  rintro e w' ⟨rfl, rfl⟩
  by_cases h0 : ez = 0
  · have hb : (ez != 0) = false := by simpa using h0
    have HV : Hid (R = (x, 0)) := Lib.hid (HP.out.trans (if_pos h0))
    clear h0
    go_wp2
    exact bodyPost_ret (v := .tuple #[entV ⟨x.k.toArray⟩ x.s x.u x.o x.has A2 x.v.length c2, .int .i64 0]) (by simp [results, Try.results10, go_sem, r0, r1, r2, r3, r4, r5, HZ]) rfl (readgot_ok HV.out HO2.out HB2.out)
  · have hb : (ez != 0) = true := by simpa using h0
    have HV : Hid (R = (entP0, ez)) := Lib.hid (HP.out.trans (if_neg h0))
    clear h0
    go_wp2
    exact bodyPost_ret (v := .tuple #[entV ⟨#[]⟩ 0 0 0 false none 0 0, .int .i64 ez]) (by simp [results, Try.results10, go_sem, r0, r1, r2, r3, r4, r5, HZ]) rfl (readgot_err HV.out HB2.out)
end Go.Proofs.Ytmbcdakfnckcmaa
