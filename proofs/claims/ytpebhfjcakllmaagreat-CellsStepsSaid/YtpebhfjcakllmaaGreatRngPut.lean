/- RngPut: A range over a map under way, and a store at a key that is there: the range goes on as it was. No dump is imported here. -/
import Derived.Maps.RangeWalk
import Derived.Maps.OwnSet
import Derived.Maps.Keyed
namespace Go.Proofs.YtpebhfjcakllmaaGreat
open Go Go.ChangeMaps Go.MapKept Go.WideShapes
open Go.WideElems (Fit rd rg pl rd_key rd_val rg_of other_key rd_mk)
open Go.Maps (Keyed)
set_option linter.unusedVariables false
theorem leftOf_len (a : Array MapEntry) (seen : Array Nat) : (leftOf a seen).size = ((a.toList.map fun e => e.born).filter fun n => !seen.contains n).length := by
  rw [List.filter_map, List.length_map]
  unfold leftOf
  rw [← Array.length_toList, Array.toList_filter]
  rfl
theorem map_set_self {α β : Type} (f : α → β) : ∀ (l : List α) (j : Nat) (e y : α), l[j]? = some e → f y = f e → (l.set j y).map f = l.map f
  | [], _, _, _, h, _ => by simp at h
  | x :: r, 0, e, y, h, hf => by
    simp at h; subst h
    simp [hf]
  | x :: r, j + 1, e, y, h, hf => by
    simp at h
    simp [map_set_self f r j e y h hf]
theorem ranges_store {H : Type} {P : Program} {k : TypeId} {R : Value → Option (DataW H × List MemPlace)} {w : World} {b r n : Nat} {D : DataW H} {left : Lit → Bool} {cnt : Nat} {t e : TypeId}
    (h : w.ranges P k R b r n D left cnt) (K : Keyed P k) (ht : P.underlying t = some (.map k e)) (hn : n < maxLen) {key val : Value} {kl : Lit} {d : DataW H} {ps : List MemPlace} (hkey : keyOf P k key = some kl) (hv : R val = some (d, ps)) (hh : Maps.has D kl = true) :
    ∃ w', (Instr.mapUpdate t (.map (some b)) key val).run P w = .ok () w' ∧ w'.ranges P k R b r n (D.put kl d) left cnt ∧ w.mapTurned w' b := by
  have hne := h.ne
  obtain ⟨es, clock, since, seen, c0, hb, F, hs, rfl, hr, hold, rfl, hl1, hl2, hsc, hsk⟩ := h
  obtain ⟨es', clock', hrun, F', hput, _⟩ := Maps.fit_store (R' := R) K ht hb F (Nat.lt_of_le_of_lt hs hn) (fun _ _ _ _ hz => hz) hkey hv
  rcases K.find w hkey es.toList F.keys with ⟨h1, h2⟩ | ⟨j, e0, h1, h2, h3⟩
  · exfalso
    obtain ⟨p, hp, hpk⟩ := List.any_eq_true.1 (by rw [Maps.has_eq] at hh; exact hh)
    obtain ⟨x, hx, rfl⟩ := List.mem_map.1 (mem_sorted.1 hp)
    obtain ⟨y, hy⟩ := F.reads x hx
    have e1 : (rg P k R x).1 = kl := WideAt.sameKey_eq hpk
    rw [rg_of hy] at e1
    exact h2 x hx (K.inj (e1 ▸ rd_key hy) hkey)
  · have hj : es[j]? = some e0 := by simpa using h2
    have hlist : (es.modify j (fun e' => { e' with key := key, val := val })).toList = es.toList.set j { e0 with key := key, val := val } := by rw [Array.toList_modify, modify_eq_set _ _ _ _ h2]
    have hrun2 : (Instr.mapUpdate t (.map (some b)) key val).run P w = .ok () (setBlock w b (.map (es.modify j (fun e' => { e' with key := key, val := val })) clock)) := by
      simp [Instr.mapUpdate, run_underlying ht, MapKept.run_getObj_map hb, K.check w false hkey, h1, hj, h3, K.stays w hkey, MapKept.run_setObj_map _ hb, Result.andThen, setBlock]
    have heq := hrun.symm.trans hrun2
    injection heq with _ heq
    have hbk : some (Obj.map es' clock') = some (Obj.map (es.modify j (fun e' => { e' with key := key, val := val })) clock) := by
      rw [← heap_setBlock_same hb (Obj.map es' clock'), heq, heap_setBlock_same hb]
    injection hbk with hbk
    injection hbk with he hc
    subst hc
    rw [← he] at hlist
    obtain ⟨y0, hy0⟩ := F.reads e0 (List.mem_of_getElem? h2)
    have hk0 : (rg P k R e0).1 = kl := by
      have m1 := rd_key hy0
      rw [h3, hkey] at m1
      rw [rg_of hy0, Option.some.inj m1]
    have hmap : es'.toList.map (fun x => (x.born, (rg P k R x).1)) = es.toList.map (fun x => (x.born, (rg P k R x).1)) := by
      rw [hlist]
      refine map_set_self _ _ j e0 _ h2 ?_
      rw [hk0, rg_of (rd_mk hkey hv)]
    have hborn : es'.toList.map (fun x => x.born) = es.toList.map (fun x => x.born) := by
      have := congrArg (List.map Prod.fst) hmap
      rw [List.map_map, List.map_map] at this
      exact this
    have hto : ∀ x' ∈ es'.toList, ∃ x ∈ es.toList, x.born = x'.born ∧ (rg P k R x).1 = (rg P k R x').1 := fun x' hx' => by
      have : (x'.born, (rg P k R x').1) ∈ es.toList.map (fun x => (x.born, (rg P k R x).1)) := by rw [← hmap]; exact List.mem_map_of_mem (f := fun x => (x.born, (rg P k R x).1)) hx'
      obtain ⟨x, hx, e1⟩ := List.mem_map.1 this
      simp only [Prod.mk.injEq] at e1
      exact ⟨x, hx, e1.1, e1.2⟩
    have hfro : ∀ x ∈ es.toList, ∃ x' ∈ es'.toList, (rg P k R x').1 = (rg P k R x).1 := fun x hx => by
      have : (x.born, (rg P k R x).1) ∈ es'.toList.map (fun x => (x.born, (rg P k R x).1)) := by rw [hmap]; exact List.mem_map_of_mem (f := fun x => (x.born, (rg P k R x).1)) hx
      obtain ⟨x', hx', e1⟩ := List.mem_map.1 this
      simp only [Prod.mk.injEq] at e1
      exact ⟨x', hx', e1.2⟩
    refine ⟨_, hrun, ⟨es', clock', since, seen, c0, heap_setBlock_same hb _, F', ?_, by rw [DataW.put_eq, hput], (heap_setBlock_other hb _ hne).trans hr, fun x' hx' => ?_, ?_, fun x' hx' => ?_, fun kl' hkl => ?_, hsc, hsk⟩, ⟨es, clock', es', clock', hb, rfl⟩⟩
    · have := congrArg List.length hborn
      simp at this
      omega
    · obtain ⟨x, hx, e1, _⟩ := hto x' hx'
      rw [← e1]; exact hold x hx
    · rw [leftOf_len, leftOf_len, hborn]
    · obtain ⟨x, hx, e1, e2⟩ := hto x' hx'
      rw [← e2, ← e1]; exact hl1 x hx
    · obtain ⟨x, hx, e1⟩ := hl2 kl' hkl
      obtain ⟨x', hx', e2⟩ := hfro x hx
      exact ⟨x', hx', e2.trans e1⟩
end Go.Proofs.YtpebhfjcakllmaaGreat
