/- MsK: The table of kinds, out of the row's condition. -/
import Derived.Test.YtgmennblbeefhaaDoorMsA
import Derived.LaidMore
import Derived.OpenShut
import Derived.MakeChecks
import Derived.FnData
namespace Go.Proofs.YtgmennblbeefhaaDoor
open Go.RowKit Go.ChangeShapes Go.WideShapes Mem
set_option maxRecDepth 100000
set_option linter.unusedVariables false
def laid12 : List (String × DataW Unit) := [("icehouse/msgs.kinds", Rows.laid_icehouse_msgs_kinds)]
theorem kinds_data : (Rows.laid_icehouse_msgs_kinds : DataW Unit) = .agg ((List.range 18).map fun i => .agg ((List.range 5).map fun j => .lit (.bool (kBits.getD (i * 5 + j) false)))) := rfl
theorem gKinds : Tryd.prog.globalNamed "icehouse/msgs.kinds" = some 0 := by kernel_rfl
theorem tKinds : (Tryd.prog.globals[0]?).map (·.type) = some 107 := by kernel_rfl
theorem kt_of_laid {W : World} (h : laidMetH Tryd.prog laid12 W) : KT W := by
  rw [MakeChecks.laidMetH_plain _ _ _ (by kernel_rfl)] at h
  obtain ⟨ps, ⟨g0, t0, cs0, f0, p0, q0, hg0, ht0, hv0, hd0, _, _⟩, _, _⟩ := h
  obtain rfl := Option.some.inj (gKinds.symm.trans hg0)
  obtain rfl := Option.some.inj (tKinds.symm.trans ht0)
  have hcell := fun i => World.var?_cell gKinds hv0 i
  clear hg0 ht0 hv0
  obtain ⟨l⟩ := cs0
  obtain ⟨xs, m1, _, hx1, hlen, hn, hel⟩ := DataW.trod_array Tryd.underlying107 hd0
  have c5 : Tryd.prog.cellsOf 71 = 5 := by kernel_rfl
  have c1 : Tryd.prog.cellsOf 4 = 1 := by kernel_rfl
  have hx2 := (Prod.mk.inj hx1).1
  rw [kinds_data] at hx2
  injection hx2 with hL
  rw [c5] at hel
  intro i hi
  have hr := hel (i / 5) (by omega)
  have hi2 : i / 5 < xs.length := by omega
  rw [List.getElem?_eq_getElem hi2] at hr
  have hd : (xs[i / 5]).1 = .agg ((List.range 5).map fun j => .lit (.bool (kBits.getD (i / 5 * 5 + j) false))) := by
    have h1 : (xs.map (·.1))[i / 5]? = some (xs[i / 5]).1 := by rw [List.getElem?_map, List.getElem?_eq_getElem hi2]; rfl
    rw [← hL, List.getElem?_map, List.getElem?_range (by omega)] at h1
    exact (Option.some.inj h1).symm
  obtain ⟨ys, m2, _, hy1, hlen2, hn2, hel2⟩ := DataW.trod_array Tryd.underlying71 hr
  rw [hy1] at hd
  simp only [DataW.agg.injEq] at hd
  rw [c1] at hel2
  have hb := hel2 (i % 5) (by omega)
  have hi3 : i % 5 < ys.length := by omega
  rw [List.getElem?_eq_getElem hi3] at hb
  obtain ⟨b, hcs, hyb⟩ := DataW.trod_bool Tryd.underlying4 hb
  have hdb : (ys[i % 5]).1 = .lit (.bool (kBits.getD i false)) := by
    have h1 : (ys.map (·.1))[i % 5]? = some (ys[i % 5]).1 := by rw [List.getElem?_map, List.getElem?_eq_getElem hi3]; rfl
    rw [hd, List.getElem?_map, List.getElem?_range (by omega)] at h1
    have h2 := (Option.some.inj h1).symm
    simp only at h2
    rw [show i / 5 * 5 + i % 5 = i by omega] at h2
    exact h2
  have hbb : b = kBits.getD i false := by
    rw [hyb] at hdb
    simpa using hdb
  rw [hcell i, ← hbb]
  have h3 : ((l.drop (i / 5 * 5)).take 5).drop (i % 5 * 1) = (l.drop i).take (5 - i % 5) := by
    rw [List.drop_take, List.drop_drop, Nat.mul_one, show i / 5 * 5 + i % 5 = i by omega]
  simp only at hcs
  rw [h3] at hcs
  have h4 : (((l.drop i).take (5 - i % 5)).take 1)[0]? = some (.bool b) := by rw [hcs]; rfl
  rw [List.getElem?_take_of_lt (by omega), List.getElem?_take_of_lt (by omega), List.getElem?_drop, Nat.add_zero] at h4
  simpa using h4
theorem door_met12 (os : Os) (args : Array Value) : laidMetH Tryd.prog laid12 ((World.doorLaid Tryd.prog 31 os).forCall (fun _ _ => 0) ⟨#[], args, []⟩).memory :=
  laidMetH_of_parts3 (fuel := 8) (laidMet_of_run' 8 (by kernel_rfl) (by kernel_rfl)) (by kernel_rfl) (by kernel_rfl)
end Go.Proofs.YtgmennblbeefhaaDoor
