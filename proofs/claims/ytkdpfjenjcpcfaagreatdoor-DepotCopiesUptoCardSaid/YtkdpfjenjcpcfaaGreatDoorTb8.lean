/- Tbl: Tables: rows by rising keys; what is put, taken off, asked for; two that tell the same are one.
   Tab: A map of entries in memory: which entries it has, by rising keys; asking, storing, taking off, at the operations.
   TabA: Package store's table: set, of.
   Srt: slices.Sorted(maps.Keys(m)) at a table: its keys, by rising keys, in new memory.
   App8: Appends of structs; rows of entries, and of acks.
   TabS: Package store's table: sorted.
   TabC: Ranging over a table; maps.Copy. -/
import Derived.Test.YtkdpfjenjcpcfaaGreatDoorAppS
import Derived.Test.YtkdpfjenjcpcfaaGreatDoorRows
import Derived.Sort.KeysCollected
import Derived.Test.YtkdpfjenjcpcfaaGreatDoorTg
import Derived.Test.YtkdpfjenjcpcfaaGreatDoorTgB
import Derived.Test.YtkdpfjenjcpcfaaGreatDoorDk
import Derived.Test.YtkdpfjenjcpcfaaGreatDoorEvc
import Derived.Maps.RangeWalk
import Derived.Deep.RegionLaw
import Derived.WalkSpells
import Derived.Test.YtkdpfjenjcpcfaaGreatDoorIter8
import Derived.OwnWalk
import Derived.LoopN
namespace Go.Proofs.YtkdpfjenjcpcfaaGreatDoor
set_option linter.unusedVariables false
section
variable {α : Type} (key : α → List UInt8)
def insK (x : α) : List α → List α
  | [] => [x]
  | y :: r => if bytesBefore (key x) (key y) = true then x :: y :: r else y :: insK x r
def delK (k : List UInt8) (T : List α) : List α := T.filter fun x => !(key x == k)
def putK (T : List α) (x : α) : List α := insK key x (delK key (key x) T)
def getK (T : List α) (k : List UInt8) : Option α := T.find? fun x => key x == k
def SortT (T : List α) : Prop := T.Pairwise fun a b => bytesBefore (key a) (key b) = true
variable {key}
theorem bb_trans {a b c : List UInt8} (h1 : bytesBefore a b = true) (h2 : bytesBefore b c = true) : bytesBefore a c = true := WideShapes.bytes_trans a b c h1 h2
theorem bb_ne {a b : List UInt8} (h : bytesBefore a b = true) : a ≠ b := by rintro rfl; rw [WideAt.bytes_irrefl] at h; cases h
theorem mem_ins {x z : α} : ∀ {T : List α}, z ∈ insK key x T ↔ z = x ∨ z ∈ T
  | [] => by simp [insK]
  | y :: r => by
    unfold insK
    split
    · simp
    · rw [List.mem_cons, mem_ins (T := r), List.mem_cons]; exact ⟨fun h => by rcases h with h | h | h <;> simp [h], fun h => by rcases h with h | h | h <;> simp [h]⟩
theorem mem_del {k : List UInt8} {z : α} {T : List α} : z ∈ delK key k T ↔ z ∈ T ∧ key z ≠ k := by unfold delK; simp
theorem mem_put {x z : α} {T : List α} : z ∈ putK key T x ↔ z = x ∨ (z ∈ T ∧ key z ≠ key x) := by unfold putK; rw [mem_ins, mem_del]
theorem mem_put_of {x z : α} {T : List α} (h : z ∈ putK key T x) : z = x ∨ z ∈ T := by rcases mem_put.1 h with h | h; exact Or.inl h; exact Or.inr h.1
theorem ins_sort {x : α} : ∀ {T : List α}, SortT key T → (∀ y ∈ T, key y ≠ key x) → SortT key (insK key x T)
  | [], _, _ => by unfold insK SortT; simp
  | y :: r, h, hn => by
    obtain ⟨h1, h2⟩ := List.pairwise_cons.1 h
    unfold insK
    split
    · rename_i hb
      refine List.pairwise_cons.2 ⟨fun z hz => ?_, h⟩
      rcases List.mem_cons.1 hz with rfl | hz
      · exact hb
      · exact bb_trans hb (h1 z hz)
    · rename_i hb
      have hyx : bytesBefore (key y) (key x) = true := by
        rcases WideAt.bytes_total _ _ (hn y (by simp)) with h' | h'
        · exact h'
        · exact absurd h' hb
      refine List.pairwise_cons.2 ⟨fun z hz => ?_, ins_sort h2 fun z hz => hn z (by simp [hz])⟩
      rcases mem_ins.1 hz with rfl | hz
      · exact hyx
      · exact h1 z hz
theorem del_sort {k : List UInt8} {T : List α} (h : SortT key T) : SortT key (delK key k T) := h.filter _
theorem put_sort {x : α} {T : List α} (h : SortT key T) : SortT key (putK key T x) := ins_sort (del_sort h) fun y hy => (mem_del.1 hy).2
theorem sort_nil : SortT key ([] : List α) := List.Pairwise.nil
theorem get_nil (k : List UInt8) : getK key ([] : List α) k = none := rfl
theorem get_some {T : List α} {k : List UInt8} {x : α} (h : getK key T k = some x) : x ∈ T ∧ key x = k := by
  unfold getK at h
  exact ⟨List.mem_of_find?_eq_some h, by simpa using List.find?_some h⟩
theorem get_none {T : List α} {k : List UInt8} : getK key T k = none ↔ ∀ x ∈ T, key x ≠ k := by unfold getK; simp
theorem sort_inj {T : List α} (h : SortT key T) {x y : α} (hx : x ∈ T) (hy : y ∈ T) (he : key x = key y) : x = y := by
  induction T with
  | nil => cases hx
  | cons a r ih =>
    obtain ⟨h1, h2⟩ := List.pairwise_cons.1 h
    rcases List.mem_cons.1 hx with ex | hx <;> rcases List.mem_cons.1 hy with ey | hy
    · rw [ex, ey]
    · exact absurd (by rw [← ex]; exact he) (bb_ne (h1 y hy))
    · exact absurd (by rw [← ey]; exact he.symm) (bb_ne (h1 x hx))
    · exact ih h2 hx hy
theorem get_mem {T : List α} (h : SortT key T) {x : α} (hx : x ∈ T) : getK key T (key x) = some x := by
  cases hg : getK key T (key x) with
  | none => exact absurd rfl (get_none.1 hg x hx)
  | some y =>
    obtain ⟨h1, h2⟩ := get_some hg
    rw [sort_inj h h1 hx h2]
theorem get_iff {T : List α} (h : SortT key T) {k : List UInt8} {x : α} : getK key T k = some x ↔ x ∈ T ∧ key x = k := ⟨get_some, fun ⟨h1, h2⟩ => h2 ▸ get_mem h h1⟩
/-- Two tables that tell the same are one. -/
theorem ext_tab : ∀ {T T' : List α}, SortT key T → SortT key T' → (∀ k, getK key T k = getK key T' k) → T = T' := by
  have hm : ∀ {T T' : List α}, SortT key T → SortT key T' → (∀ k, getK key T k = getK key T' k) → ∀ x ∈ T, x ∈ T' := fun h h' he x hx => by
    have := get_mem h hx
    rw [he] at this
    exact (get_some this).1
  have main : ∀ {T T' : List α}, SortT key T → SortT key T' → (∀ x, x ∈ T ↔ x ∈ T') → T = T' := by
    intro T
    induction T with
    | nil => intro T' _ _ h; exact (List.eq_nil_iff_forall_not_mem.2 fun x hx => by cases (h x).2 hx).symm
    | cons a r ih =>
      intro T' h h' hi
      cases T' with
      | nil => exact absurd ((hi a).1 (by simp)) (by simp)
      | cons b r' =>
        obtain ⟨h1, h2⟩ := List.pairwise_cons.1 h
        obtain ⟨h3, h4⟩ := List.pairwise_cons.1 h'
        have hab : a = b := by
          rcases List.mem_cons.1 ((hi a).1 (by simp)) with e | e
          · exact e
          · rcases List.mem_cons.1 ((hi b).2 (by simp)) with e' | e'
            · exact e'.symm
            · exact absurd rfl (bb_ne (bb_trans (h3 a e) (h1 b e')))
        subst hab
        refine congrArg _ (ih h2 h4 fun x => ?_)
        constructor
        · intro hx
          rcases List.mem_cons.1 ((hi x).1 (by simp [hx])) with e | e
          · exact absurd (congrArg key e.symm) (bb_ne (h1 x hx))
          · exact e
        · intro hx
          rcases List.mem_cons.1 ((hi x).2 (by simp [hx])) with e | e
          · exact absurd (congrArg key e.symm) (bb_ne (h3 x hx))
          · exact e
  intro T T' h h' he
  exact main h h' fun x => ⟨hm h h' he x, hm h' h (fun k => (he k).symm) x⟩
theorem get_ins {x : α} {k : List UInt8} : ∀ {T : List α}, (∀ y ∈ T, key y ≠ key x) → getK key (insK key x T) k = if key x = k then some x else getK key T k
  | [], _ => by unfold insK getK; by_cases h : key x = k <;> simp [h]
  | y :: r, hn => by
    have ih := get_ins (x := x) (k := k) (T := r) fun z hz => hn z (by simp [hz])
    unfold insK
    split
    · unfold getK; rw [List.find?_cons]
      by_cases h : key x = k
      · simp [h]
      · rw [if_neg h, show (key x == k) = false by simpa using h]
    · unfold getK at ih ⊢
      rw [List.find?_cons, List.find?_cons, ih]
      by_cases hy : key y = k
      · have : key x ≠ k := fun e => hn y (by simp) (hy.trans e.symm)
        simp [hy, this]
      · have : (key y == k) = false := by simpa using hy
        rw [this]
theorem get_del {k k' : List UInt8} {T : List α} : getK key (delK key k T) k' = if k = k' then none else getK key T k' := by
  by_cases h : k = k'
  · subst h
    rw [if_pos rfl, get_none]
    exact fun x hx => (mem_del.1 hx).2
  · rw [if_neg h]
    unfold getK delK
    rw [List.find?_filter]
    refine congrArg (fun f => List.find? f T) (funext fun x => ?_)
    by_cases hx : key x = k'
    · have : ¬ k' = k := fun e => h e.symm
      simp [hx, this]
    · simp [hx]
theorem get_put {x : α} {k : List UInt8} {T : List α} : getK key (putK key T x) k = if key x = k then some x else getK key T k := by
  unfold putK
  rw [get_ins (fun y hy => (mem_del.1 hy).2), get_del]
  split <;> rfl
theorem ins_len (x : α) : ∀ T : List α, (insK key x T).length = T.length + 1
  | [] => rfl
  | y :: r => by
    unfold insK
    split
    · rfl
    · rw [List.length_cons, ins_len x r, List.length_cons]
theorem put_len (x : α) (T : List α) : (putK key T x).length ≤ T.length + 1 := by
  unfold putK; rw [ins_len]
  have := List.length_filter_le (fun z => !(key z == key x)) T
  unfold delK; omega
theorem put_len_pos (x : α) (T : List α) : 0 < (putK key T x).length := by unfold putK; rw [ins_len]; omega
theorem del_of_none {k : List UInt8} {T : List α} (h : ∀ x ∈ T, key x ≠ k) : delK key k T = T := by
  unfold delK
  exact List.filter_eq_self.2 fun x hx => by simpa using h x hx
/-- A key that stands behind all others is laid at the end. -/
theorem put_last {x : α} {T : List α} (h : ∀ y ∈ T, bytesBefore (key y) (key x) = true) : putK key T x = T ++ [x] := by
  unfold putK
  rw [del_of_none fun y hy => bb_ne (h y hy)]
  induction T with
  | nil => rfl
  | cons y r ih =>
    have hy := h y (by simp)
    unfold insK
    rw [if_neg (fun e => absurd rfl (bb_ne (bb_trans hy e))), ih fun z hz => h z (by simp [hz])]
    rfl
/-- Laid one by one, a table comes to itself. -/
theorem fold_sort {T : List α} (h : SortT key T) : T.foldl (putK key) [] = T := by
  have : ∀ (R Q : List α), SortT key (Q ++ R) → R.foldl (putK key) Q = Q ++ R := by
    intro R
    induction R with
    | nil => intro Q _; simp
    | cons x r ih =>
      intro Q hq
      rw [List.foldl_cons, put_last (fun y hy => (List.pairwise_append.1 hq).2.2 y hy x (by simp)), ih (Q ++ [x]) (by simpa using hq)]
      simp
  simpa using this T [] (by simpa using h)
/-- Those of another table in place of this one's. -/
def mergeT (key : α → List UInt8) (L F : List α) : List α := F.foldl (putK key) L
theorem merge_sort {F : List α} : ∀ {L : List α}, SortT key L → SortT key (mergeT key L F) := by
  induction F with
  | nil => intro L h; exact h
  | cons x r ih => intro L h; exact ih (put_sort h)
theorem get_merge {k : List UInt8} {F : List α} : ∀ {L : List α}, SortT key F → getK key (mergeT key L F) k = (getK key F k).or (getK key L k) := by
  induction F with
  | nil => intro L _; rfl
  | cons x r ih =>
    intro L h
    obtain ⟨h1, h2⟩ := List.pairwise_cons.1 h
    have := ih (L := putK key L x) h2
    unfold mergeT at this ⊢
    rw [List.foldl_cons, this, get_put]
    by_cases hx : key x = k
    · have : getK key r k = none := get_none.2 fun y hy e => bb_ne (h1 y hy) (hx.trans e.symm)
      rw [this]
      unfold getK
      simp [hx]
    · have e : getK key (x :: r) k = getK key r k := by unfold getK; rw [List.find?_cons, show (key x == k) = false by simpa using hx]
      rw [e, if_neg hx]
theorem merge_nil {L : List α} : mergeT key L [] = L := rfl
theorem merge_mem {x : α} {F : List α} : ∀ {L : List α}, x ∈ mergeT key L F → x ∈ F ∨ x ∈ L := by
  induction F with
  | nil => intro L h; exact Or.inr h
  | cons y r ih =>
    intro L h
    rcases ih (L := putK key L y) h with h | h
    · exact Or.inl (by simp [h])
    · rcases mem_put_of h with h | h
      · exact Or.inl (by simp [h])
      · exact Or.inr h
theorem merge_len {F : List α} : ∀ {L : List α}, (mergeT key L F).length ≤ L.length + F.length := by
  induction F with
  | nil => intro L; simp [mergeT]
  | cons y r ih =>
    intro L
    have h1 := ih (L := putK key L y)
    have h2 := put_len (key := key) y L
    unfold mergeT at h1 ⊢
    rw [List.foldl_cons]
    simp only [List.length_cons]
    omega
/-- One that is put behind the merge is one that is put into what is merged. -/
theorem merge_put {L F : List α} {x : α} (hL : SortT key L) (hF : SortT key F) : mergeT key L (putK key F x) = putK key (mergeT key L F) x := by
  refine ext_tab (merge_sort hL) (put_sort (merge_sort hL)) fun k => ?_
  rw [get_merge (put_sort hF), get_put, get_put, get_merge hF]
  split <;> rfl
end
/- A table seen through its rows. -/
section
variable {α β : Type} {key : α → List UInt8} {key' : β → List UInt8} {f : α → β}
theorem ins_map (hf : ∀ x, key' (f x) = key x) (x : α) : ∀ T : List α, (insK key x T).map f = insK key' (f x) (T.map f)
  | [] => rfl
  | y :: r => by
    simp only [insK, List.map_cons, hf]
    split
    · rfl
    · rw [List.map_cons, ins_map hf x r]
theorem del_map (hf : ∀ x, key' (f x) = key x) (k : List UInt8) (T : List α) : (delK key k T).map f = delK key' k (T.map f) := by
  unfold delK
  rw [List.filter_map]
  refine congrArg (List.map f) (congrArg (fun g => List.filter g T) (funext fun x => ?_))
  simp [hf]
theorem put_map (hf : ∀ x, key' (f x) = key x) (x : α) (T : List α) : (putK key T x).map f = putK key' (T.map f) (f x) := by unfold putK; rw [ins_map hf, del_map hf, hf]
theorem sort_map (hf : ∀ x, key' (f x) = key x) {T : List α} : SortT key T ↔ SortT key' (T.map f) := by unfold SortT; rw [List.pairwise_map]; simp [hf]
theorem get_map (hf : ∀ x, key' (f x) = key x) (T : List α) (k : List UInt8) : getK key' (T.map f) k = (getK key T k).map f := by
  unfold getK
  rw [List.find?_map]
  refine congrArg (Option.map f) (congrArg (fun g => List.find? g T) (funext fun x => ?_))
  simp [hf]
theorem merge_map (hf : ∀ x, key' (f x) = key x) (F : List α) : ∀ L : List α, (mergeT key L F).map f = mergeT key' (L.map f) (F.map f) := by
  induction F with
  | nil => intro L; rfl
  | cons x r ih => intro L; unfold mergeT at ih ⊢; rw [List.map_cons, List.foldl_cons, List.foldl_cons, ih, put_map hf]
end
/-- The order of bytes is the lists' own. -/
theorem bb_lt : ∀ {a b : List UInt8}, bytesBefore a b = true → a ≤ b := by
  have : ∀ {a b : List UInt8}, bytesBefore a b = true → a < b := by
    intro a
    induction a with
    | nil => intro b h; cases b with
      | nil => cases h
      | cons y s => exact List.Lex.nil
    | cons x r ih =>
      intro b h
      cases b with
      | nil => cases h
      | cons y s =>
        simp only [bytesBefore, Bool.or_eq_true, Bool.and_eq_true, decide_eq_true_eq, beq_iff_eq] at h
        rcases h with h | ⟨rfl, h⟩
        · exact List.Lex.rel h
        · exact List.Lex.cons (ih h)
  intro a b h
  exact List.le_of_lt (this h)
theorem sorted_keys {α : Type} {key : α → List UInt8} {T : List α} (h : SortT key T) {ss : List (List UInt8)} (hp : ss.Perm (T.map key)) : (ss.mergeSort fun x y => decide (x ≤ y)) = T.map key := by
  rw [show (ss.mergeSort fun x y => decide (x ≤ y)) = ((T.map key).mergeSort fun x y => decide (x ≤ y)) from mergeSort_of_perm hp]
  refine List.mergeSort_of_pairwise ?_
  rw [List.pairwise_map]
  exact h.imp fun hab => by simpa using bb_lt hab
theorem less_before : ∀ a b : List UInt8, Op.bytesLess a b = bytesBefore a b
  | [], [] => rfl
  | [], _ :: _ => rfl
  | _ :: _, [] => rfl
  | a :: x, b :: y => by simp only [Op.bytesLess, bytesBefore, less_before x y]
end Go.Proofs.YtkdpfjenjcpcfaaGreatDoor
namespace Go.Proofs.YtkdpfjenjcpcfaaGreatDoor
open Go.RowKit Mem Be Go.Maps
set_option maxRecDepth 10000
set_option maxHeartbeats 1000000
set_option linter.unusedVariables false
abbrev kE (x : EntP) : List UInt8 := x.k
abbrev kV (x : EV) : List UInt8 := x.1.k
def ofT (T : List EntP) (k : List UInt8) : EntP := (getK kE T k).getD (entN k)
def ofV (T : List EV) (k : List UInt8) : EV := (getK kV T k).getD (evN k)
theorem ofV_ent (T : List EV) (k : List UInt8) : (ofV T k).1 = ofT (T.map Prod.fst) k := by
  unfold ofV ofT
  rw [get_map (key := kV) (key' := kE) (f := Prod.fst) (fun x => rfl)]
  cases getK kV T k <;> rfl
theorem ofT_key (T : List EntP) (k : List UInt8) : (ofT T k).k = k := by
  unfold ofT
  cases h : getK kE T k with
  | none => rfl
  | some x => exact (get_some h).2
def Rv (v : Value) : Option (DataW Value × List MemPlace) := some (.held v, [])
def tbP (x : EV) : Lit × DataW Value := (.string x.1.k, .held (evV x))
def tbD (T : List EV) : DataW Value := .map (T.map tbP)
theorem law8 : Keyed Tryz.prog 9 := string_keyed Tryz.underlying9
theorem tb_any (T : List EV) (k : List UInt8) : Maps.has (tbD T) (.string k) = (getK kV T k).isSome := by
  unfold tbD getK
  rw [Maps.has_eq, List.any_map]
  induction T with
  | nil => rfl
  | cons x r ih =>
    rw [List.any_cons, List.find?_cons]
    cases h : (x.1.k == k)
    · rw [show ((fun p : Lit × DataW Value => p.1.sameKey (.string k)) ∘ tbP) x = false from h, ih]; rfl
    · rw [show ((fun p : Lit × DataW Value => p.1.sameKey (.string k)) ∘ tbP) x = true from h]; rfl
theorem tb_at (T : List EV) (k : List UInt8) (z : DataW Value) : (tbD T).atKey (.string k) z = match getK kV T k with | some x => .held (evV x) | none => z := by
  unfold tbD getK DataW.atKey
  simp only
  induction T with
  | nil => rfl
  | cons x r ih =>
    rw [List.map_cons, List.find?_cons, List.find?_cons]
    cases h : (x.1.k == k)
    · rw [show (tbP x).1.sameKey (.string k) = false from h]
      exact ih
    · rw [show (tbP x).1.sameKey (.string k) = true from h]; rfl
theorem tb_ins (x : EV) : ∀ T : List EV, DataW.insert (tbP x) (T.map tbP) = (insK kV x T).map tbP
  | [] => rfl
  | y :: r => by
    rw [List.map_cons]
    unfold DataW.insert insK
    rw [show (tbP x).1.before (tbP y).1 = bytesBefore x.1.k y.1.k from rfl]
    split
    · rfl
    · rw [tb_ins x r]; rfl
theorem tb_strike (k : List UInt8) (T : List EV) : ((T.map tbP).filter fun p => !p.1.sameKey (.string k)) = (delK kV k T).map tbP := by
  unfold delK
  rw [List.filter_map]
  rfl
theorem tb_put (T : List EV) (x : EV) : (tbD T).put (.string x.1.k) (.held (evV x)) = tbD (putK kV T x) := by
  show DataW.map (DataW.insert (tbP x) ((T.map tbP).filter fun p => !p.1.sameKey (.string x.1.k))) = _
  rw [tb_strike, tb_ins]; rfl
theorem tb_del (T : List EV) (k : List UInt8) : (tbD T).del (.string k) = tbD (delK kV k T) := by
  show DataW.map ((T.map tbP).filter fun p => !p.1.sameKey (.string k)) = _
  rw [tb_strike]; rfl
theorem tb_size (T : List EV) : Maps.size (tbD T) = T.length := by unfold tbD; rw [Maps.size_eq, List.length_map]
theorem tb_keys (T : List EV) : strKeys (tbD T) = T.map kV := by
  unfold tbD strKeys
  simp only [List.map_map]
  rfl
/-- Block b is a map that has the entries of T. -/
def TabB (w : World) (b : Nat) (T : List EV) : Prop := w.ownsMap Tryz.prog 9 Rv b T.length (tbD T)
/-- A map, or nil, that has the entries of T. -/
def TabM (w : World) (mo : Option Nat) (T : List EV) : Prop := (mo = none ∧ T = []) ∨ ∃ b, mo = some b ∧ TabB w b T
theorem own_tight {w : World} {b n : Nat} {T : List EV} (h : w.ownsMap Tryz.prog 9 Rv b n (tbD T)) : TabB w b T := by
  obtain ⟨es, clock, hb, hF, hs, hD⟩ := h
  refine ⟨es, clock, hb, hF, ?_, hD⟩
  have := congrArg Maps.size hD
  rw [tb_size, Maps.size_eq, length_sorted, List.length_map] at this
  simp only [Array.length_toList] at this
  omega
theorem TabB.lt {w : World} {b : Nat} {T : List EV} (h : TabB w b T) : b < w.heap.size := World.ownsMap.lt h
theorem TabB.keep {w w' : World} {b : Nat} {T : List EV} (h : TabB w b T) (hk : w'.heap[b]? = w.heap[b]?) : TabB w' b T := by
  obtain ⟨es, clock, hb, r⟩ := h
  exact ⟨es, clock, hk.trans hb, r⟩
theorem TabM.keep {w w' : World} {mo : Option Nat} {T : List EV} (h : TabM w mo T) (hk : ∀ b, mo = some b → w'.heap[b]? = w.heap[b]?) : TabM w' mo T := by
  rcases h with h | ⟨b, h1, h2⟩
  · exact Or.inl h
  · exact Or.inr ⟨b, h1, h2.keep (hk b h1)⟩
theorem TabM.lt {w : World} {mo : Option Nat} {T : List EV} (h : TabM w mo T) : ∀ b, mo = some b → b < w.heap.size := by
  rcases h with ⟨h, _⟩ | ⟨b, h1, h2⟩
  · intro b hb; rw [h] at hb; cases hb
  · intro b' hb; rw [h1] at hb; injection hb with hb; subst hb; exact h2.lt
theorem TabM.below {w w' : World} {mo : Option Nat} {T : List EV} (h : TabM w mo T) (hb : Below w.heap.size w w') : TabM w' mo T := h.keep fun b he => hb.block b (h.lt b he)
theorem TabB.made (w : World) : TabB (w.alloc (.map #[] 0)) w.heap.size [] := World.ownsMap_made w Tryz.prog 9 Rv
/-- A map's block is no block of cells. -/
theorem TabB.ne {w : World} {b g : Nat} {T : List EV} {cs : Array Value} {t : TypeId} {f : Nat × Nat} (h : TabB w b T) (hg : w.heap[g]? = some (.cells cs t f)) : b ≠ g := by
  obtain ⟨es, clock, hb, _⟩ := h
  rintro rfl
  rw [hb] at hg; cases hg
theorem zeroE8 (w : World) : (zeroValue 46).run Tryz.prog w = .ok (evV (evN [])) w := by kernel_rfl
/-- What a look-up gives. -/
def lookV (T : List EV) (k : List UInt8) : Value := match getK kV T k with | some x => evV x | none => evV (evN [])
theorem look_run {w : World} {mo : Option Nat} {T : List EV} (h : TabM w mo T) {k : List UInt8} (hk : k.length ≤ maxLen) (c : Bool) :
    (Instr.lookup 106 (.map mo) (.string ⟨k.toArray⟩) c).run Tryz.prog w = .ok (if c then .tuple #[lookV T k, .bool (getK kV T k).isSome] else lookV T k) w := by
  have hkey : keyOf Tryz.prog 9 (.string ⟨k.toArray⟩) = some (.string k) := by
    have := Go.WideMaps.keyOf_string_mk (P := Tryz.prog) (k := 9) Tryz.underlying9 (s := ⟨k.toArray⟩) (by show k.toArray.size ≤ maxLen; simpa using hk)
    simpa using this
  rcases h with ⟨rfl, rfl⟩ | ⟨b, rfl, h⟩
  · have := Maps.look_nil (P := Tryz.prog) (w := w) (t := 106) (e := 46) c law8 Tryz.underlying106 (zeroE8 w) hkey
    exact this
  · have hinj : ∀ {v : Value} {ps : List MemPlace}, Rv v = some ((tbD T).atKey (.string k) (.held (evV (evN []))), ps) → v = lookV T k := fun {v ps} hv => by
      unfold Rv at hv
      injection hv with hv
      injection hv with hv _
      rw [tb_at] at hv
      unfold lookV
      cases hg : getK kV T k with
      | none => rw [hg] at hv; injection hv
      | some x => rw [hg] at hv; injection hv
    cases c
    · obtain ⟨v, ps, hrun, hv⟩ := World.ownsMap.lookup (t := 106) (e := 46) h law8 Tryz.underlying106 (zeroE8 w) (zd := .held (evV (evN []))) (zp := []) rfl hkey
      rw [hrun, hinj hv]; rfl
    · obtain ⟨v, ps, hrun, hv⟩ := World.ownsMap.look_ok (t := 106) (e := 46) h law8 Tryz.underlying106 (zeroE8 w) (zd := .held (evV (evN []))) (zp := []) rfl hkey
      rw [hrun, hinj hv, tb_any]; rfl
theorem key_run {k : List UInt8} (hk : k.length ≤ maxLen) : keyOf Tryz.prog 9 (.string ⟨k.toArray⟩) = some (.string k) := by
  have := Go.WideMaps.keyOf_string_mk (P := Tryz.prog) (k := 9) Tryz.underlying9 (s := ⟨k.toArray⟩) (by show k.toArray.size ≤ maxLen; simpa using hk)
  simpa using this
theorem put_run {w : World} {b : Nat} {T : List EV} (h : TabB w b T) (x : EV) (hk : x.1.k.length ≤ maxLen) (hn : T.length < maxLen) :
    ∃ w', (Instr.mapUpdate 106 (.map (some b)) (.string ⟨x.1.k.toArray⟩) (evV x)).run Tryz.prog w = .ok () w' ∧ TabB w' b (putK kV T x) ∧ w.mapTurned w' b := by
  obtain ⟨w', h1, h2, h3⟩ := World.ownsMap.store (t := 106) (e := 46) h law8 Tryz.underlying106 hn (key_run hk) (val := evV x) (d := .held (evV x)) (ps := []) rfl
  rw [tb_put] at h2
  exact ⟨w', h1, own_tight h2, h3⟩
/-- A store into a map within a region that draws. -/
theorem step_put {ops : Array Oper} {o : Oper} {a : Act} {K : Act → World → Prop} {Q : Exit → Act → World → Prop} {E : Prop} {w : World} (hgd : o.guard = none) (m x v : Operand) (ho : o.op = Op.mapUpdate 106 m x v)
    (b : Nat) (T : List EV) (h : TabB w b T) (y : EV) (hk : y.1.k.length ≤ maxLen) (hn : T.length < maxLen) (hm : a.eval m = .map (some b)) (hx : a.eval x = .string ⟨y.1.k.toArray⟩) (hv : a.eval v = evV y)
    (hK : ∀ w', TabB w' b (putK kV T y) → w.mapTurned w' b → K (a.put o.dst undef) w') :
    if Region.wanted o (yielded ops a.tmps) = true then Oper.wp Tryz.prog o a w K Q else E := by
  have hw : Region.wanted o (yielded ops a.tmps) = true := by simp [Region.wanted, hgd]
  rw [if_pos hw]
  obtain ⟨w', hrun, h2, h3⟩ := put_run h y hk hn
  unfold Oper.wp execOp
  simp only [ho, hm, hx, hv, hrun, Sem.run_bind, Sem.run_pure, Result.andThen_ok]
  exact hK w' h2 h3
theorem touch_turned {w w' : World} {b : Nat} (h : w.mapTurned w' b) : Touch (fun k => k = b) w w' := ⟨h.grown.os, h.grown.tape, h.grown.output, h.grown.size, fun k hk hn => h.grown.block k hk fun e => hn (by injection e)⟩
end Go.Proofs.YtkdpfjenjcpcfaaGreatDoor
namespace Go.Proofs.YtkdpfjenjcpcfaaGreatDoor
open Go.RowKit Mem Be Go.Maps
set_option maxRecDepth 10000
set_option maxHeartbeats 2000000
set_option linter.unusedVariables false
/-- What a table's set leaves: its map, or a new one in the cell. -/
def SetP (g i : Nat) (mo : Option Nat) (T : List EV) (y : EV) (w : World) (e : Ending) (w' : World) : Prop :=
  e = .returned (.tuple #[]) ∧ ((∃ b, mo = some b ∧ TabB w' b (putK kV T y) ∧ Touch (fun k => k = b) w w') ∨
    (mo = none ∧ ∃ b, w.heap.size ≤ b ∧ TabB w' b (putK kV T y) ∧ Touch (fun _ => False) (w.setCell ⟨g, i, none⟩ (.map (some b))) w'))
theorem blk_not_map {w : World} {b g i : Nat} {T : List EV} {v : Value} (h : TabB w b T) (hc : w.cell? ⟨g, i, none⟩ = some v) : b ≠ g := by
  obtain ⟨es, clock, hb, _⟩ := h
  rintro rfl
  simp [World.cell?, hb] at hc
theorem set_some (T : List EV) (b g i : Nat) (y : EV) (hk : y.1.k.length ≤ 250) (hn : T.length ≤ 100000000) (w : World) (hc : w.cell? ⟨g, i, none⟩ = some (.map (some b))) (hT : TabB w b T) :
    Calls Tryz.prog 124 #[.pointer (some ⟨g, i, none⟩), evV y] w (SetP g i (some b) T y w) := by
  have HK := Lib.hid hk
  have HN := Lib.hid hn
  have hgl : g < w.heap.size := block_lt hc
  have HT : Hid (TabB (w.alloc (entO ⟨y.1.k.toArray⟩ y.1.s y.1.u y.1.o y.1.has y.2.1 y.1.v.length y.2.2)) b T) := Lib.hid (hT.keep (((Below.refl _ w).alloc (Nat.le_refl _) _).block b hT.lt))
  have HA : Hid (Below w.heap.size w (w.alloc (entO ⟨y.1.k.toArray⟩ y.1.s y.1.u y.1.o y.1.has y.2.1 y.1.v.length y.2.2))) := Lib.hid ((Below.refl _ w).alloc (Nat.le_refl _) _)
  have heq := fun W => run_eql_map_nil (P := Tryz.prog) W 106 9 46 (some b) Tryz.underlying106
  obtain ⟨w', hrun, hX1, hX2⟩ := put_run (w := (w.alloc (entO ⟨y.1.k.toArray⟩ y.1.s y.1.u y.1.o y.1.has y.2.1 y.1.v.length y.2.2)).drew) (b := b) (T := T) HT.out y (by unfold maxLen; omega) (by unfold maxLen; omega)
  have HX := Lib.hid (And.intro hX1 ((Touch.ofBelow (Below.refl _ _).drew).trans (touch_turned hX2) fun k hk => Or.inl hk))
  clear hk hn hT hX1 hX2
  unfold evV at hrun ⊢
  unfold entV at hrun
  go_enter Tryz.func124, Tryz.ntmps124
  go_wp2_with fail
  go_region_law (fail)
  all_goals
    go_end0
    refine ⟨rfl, Or.inl ⟨b, rfl, HX.out.1, (Touch.ofBelow HA.out).trans HX.out.2 fun k hk => Or.inl hk⟩⟩
theorem set_none (g i : Nat) (y : EV) (hk : y.1.k.length ≤ 250) (w : World) (hc : w.cell? ⟨g, i, none⟩ = some (.map none)) (hz : w.frozen? ⟨g, i, none⟩ = false) :
    Calls Tryz.prog 124 #[.pointer (some ⟨g, i, none⟩), evV y] w (SetP g i none [] y w) := by
  have HK := Lib.hid hk
  have hgl : g < w.heap.size := block_lt hc
  have hmm := @run_makeMap Tryz.prog
  have heq := fun W => run_eql_map_nil (P := Tryz.prog) W 106 9 46 none Tryz.underlying106
  have hsz : (w.setCell ⟨g, i, none⟩ (.map (some (w.heap.size + 1)))).heap.size = w.heap.size := by simp [World.setCell]
  have HA : Hid (Below (w.setCell ⟨g, i, none⟩ (.map (some (w.heap.size + 1)))).heap.size (w.setCell ⟨g, i, none⟩ (.map (some (w.heap.size + 1)))) ((((w.setCell ⟨g, i, none⟩ (.map (some (w.heap.size + 1)))).alloc (entO ⟨y.1.k.toArray⟩ y.1.s y.1.u y.1.o y.1.has y.2.1 y.1.v.length y.2.2)).alloc (.map #[] 0)).drew)) := Lib.hid ((((Below.refl _ _).alloc (Nat.le_refl _) _).alloc (by simp) _).drew)
  have HT := TabB.made ((w.setCell ⟨g, i, none⟩ (.map (some (w.heap.size + 1)))).alloc (entO ⟨y.1.k.toArray⟩ y.1.s y.1.u y.1.o y.1.has y.2.1 y.1.v.length y.2.2))
  rw [show ((w.setCell ⟨g, i, none⟩ (.map (some (w.heap.size + 1)))).alloc (entO ⟨y.1.k.toArray⟩ y.1.s y.1.u y.1.o y.1.has y.2.1 y.1.v.length y.2.2)).heap.size = w.heap.size + 1 by simp [hsz]] at HT
  obtain ⟨w', hrun, hX1, hX2⟩ := put_run (w := (((w.setCell ⟨g, i, none⟩ (.map (some (w.heap.size + 1)))).alloc (entO ⟨y.1.k.toArray⟩ y.1.s y.1.u y.1.o y.1.has y.2.1 y.1.v.length y.2.2)).alloc (.map #[] 0)).drew) (b := w.heap.size + 1) (T := []) HT y (by unfold maxLen; omega) (by unfold maxLen; simp)
  have HX := Lib.hid (And.intro hX1 ((Touch.ofBelow (F := fun k => k = w.heap.size + 1) HA.out).trans (touch_turned hX2) fun k hk => Or.inl hk))
  clear hk hX1 hX2 HT hsz
  unfold evV at hrun ⊢
  unfold entV at hrun
  go_enter Tryz.func124, Tryz.ntmps124
  go_wp2_with fail
  go_region_law (fail)
  all_goals
    go_end0
    refine ⟨rfl, Or.inr ⟨rfl, w.heap.size + 1, by omega, HX.out.1, ?_⟩⟩
    have h := HX.out.2
    exact ⟨h.os, h.tape, h.output, h.size, fun k hk _ => h.block k hk (by rintro rfl; simp [World.setCell] at hk; omega)⟩
theorem set_any (T : List EV) (mo : Option Nat) (g i : Nat) (y : EV) (hk : y.1.k.length ≤ 250) (hn : T.length ≤ 100000000) (w : World) (hc : w.cell? ⟨g, i, none⟩ = some (.map mo)) (hz : w.frozen? ⟨g, i, none⟩ = false) (hT : TabM w mo T) :
    Calls Tryz.prog 124 #[.pointer (some ⟨g, i, none⟩), evV y] w (SetP g i mo T y w) := by
  rcases hT with ⟨rfl, rfl⟩ | ⟨b, rfl, hT⟩
  · exact set_none g i y hk w hc hz
  · exact set_some T b g i y hk hn w hc hT
/-- An entry that a call hands back. -/
def IsE (x : EV) (w : World) (e : Ending) (w' : World) : Prop := e = .returned (evV x) ∧ Below w.heap.size w w'
theorem tabof_any (T : List EV) (mo : Option Nat) (k : List UInt8) (hk : k.length ≤ maxLen) (w : World) (hT : TabM w mo T) :
    Calls Tryz.prog 73 #[.map mo, .string ⟨k.toArray⟩] w (IsE (ofV T k) w) := by
  have hL : ∀ o : Obj, (Instr.lookup 106 (.map mo) (.string ⟨k.toArray⟩) true).run Tryz.prog (w.alloc o) = .ok (.tuple #[lookV T k, .bool (getK kV T k).isSome]) (w.alloc o) := fun o => look_run (hT.below ((Below.refl _ _).alloc (Nat.le_refl _) _)) hk true
  clear hT
  unfold lookV at hL
  unfold ofV
  cases hg : getK kV T k with
  | none =>
    rw [hg] at hL
    simp only [Option.isSome_none, Option.getD_none] at hL ⊢
    clear hg
    unfold evV evN entN at hL
    unfold entV at hL
    simp only [List.length_nil] at hL
    go_enter Tryz.func73, Tryz.ntmps73
    go_wp2
    exact bodyPost_ret (v := entV ⟨k.toArray⟩ 0 0 0 false none 0 0) (by simp [results, Tryz.results73, go_sem]) rfl ⟨rfl, ((Below.refl _ _).alloc (Nat.le_refl _) _).alloc (by simp) _⟩
  | some x =>
    rw [hg] at hL
    simp only [Option.isSome_some, Option.getD_some] at hL ⊢
    clear hg
    unfold evV at hL
    unfold entV at hL
    go_enter Tryz.func73, Tryz.ntmps73
    go_wp2
    exact bodyPost_ret (v := entV ⟨x.1.k.toArray⟩ x.1.s x.1.u x.1.o x.1.has x.2.1 x.1.v.length x.2.2) (by simp [results, Tryz.results73, go_sem]) rfl ⟨rfl, ((Below.refl _ _).alloc (Nat.le_refl _) _).alloc (by simp) _⟩
end Go.Proofs.YtkdpfjenjcpcfaaGreatDoor
namespace Go.Proofs.YtkdpfjenjcpcfaaGreatDoor
open Go.RowKit Mem Be Go.Maps Go.Sort Go.Shelf
set_option maxRecDepth 10000
set_option maxHeartbeats 2000000
set_option linter.unusedVariables false
theorem sorts8 (m : Nat) : AnyZ.SortsIn Tryz.prog Tryz.sorted117_ren Fence.wide m :=
  ⟨fun blk off cap ss W hH hblk hsz => callsIn_wide.2 (AnyM.slices_Sort_string Tryz.sort146 blk off cap ss W hH hblk hsz),
   fun p cap W => callsIn_wide.2 (AnyM.slices_Sort_string_none Tryz.sort146 p cap W)⟩
theorem keys8 (mb : Option Nat) (W : World) : Calls Tryz.prog 118 #[.map mb] W fun e w' => e = .returned (.func (.func 147) #[] #[.pointer (some ⟨W.heap.size, 0, none⟩)]) ∧ w' = W.alloc (.cells #[.map mb] 106) :=
  callsIn_wide.1 (AnyZ.keys_in Tryz.keys118 Fence.wide 5 trivial rfl mb W)
def KeysP (T : List EV) (w : World) (e : Ending) (w' : World) : Prop :=
  ∃ A c, e = .returned (.slice A T.length c) ∧ w'.ownsRow w.heap.size 9 1 (.slice A T.length c) T.length ((T.map kV).map fun k => Value.string ⟨k.toArray⟩) ∧ Below w.heap.size w w'
theorem sorted8 (T : List EV) (mo : Option Nat) (hS : SortT kV T) (hn : T.length ≤ 8388608) (w : World) (hT : TabM w mo T) :
    Calls Tryz.prog 117 #[.func (.func 147) #[] #[.pointer (some ⟨w.heap.size, 0, none⟩)]] (w.alloc (.cells #[.map mo] 106)) (KeysP T (w.alloc (.cells #[.map mo] 106))) := by
  have hend : ∀ (e : Ending) (W w' : World), (∃ (v : Value) (ss : List (List UInt8)), e = .returned v ∧ ss.Perm (T.map kV) ∧
      w'.ownsRow W.heap.size 9 1 v ss.length ((ss.mergeSort (fun x y => decide (x ≤ y))).map encStr) ∧ (v = .slice none 0 0 ↔ ss = []) ∧ Below W.heap.size W w') → KeysP T W e w' := by
    rintro e W w' ⟨v, ss, rfl, hp, ho, _, hb⟩
    have hl : ss.length = T.length := by rw [hp.length_eq, List.length_map]
    rw [sorted_keys hS hp, hl] at ho
    obtain ⟨A, c, rfl, _, _⟩ := ownShape ho
    exact ⟨A, c, rfl, ho, hb⟩
  refine (callsIn_wide (n := 5)).1 ?_
  rcases hT with ⟨rfl, rfl⟩ | ⟨b, rfl, hT⟩
  · have hseq : SeqGives Fence.wide 2 Tryz.prog 147 #[.pointer (some ⟨w.heap.size, 0, none⟩)] encStr (fun ss : List (List UInt8) => ss = []) 0 (w.alloc (.cells #[.map none] 106)) :=
      AnyZ.keys_gives_nil (ρ := Tryz.keys118_ren) { Tryz.keys118 with } Fence.wide _ trivial rfl w.heap.size _ (by simp) (by simp)
    refine (AnyZ.sorted_in Tryz.sorted117 Fence.wide 5 trivial trivial trivial trivial rfl (by omega) (sorts8 _) (enters_of Tryz.func146 (by kernel_rfl) rfl) 147 #[.pointer (some ⟨w.heap.size, 0, none⟩)] trivial (enters_of Tryz.func147 (by kernel_rfl) rfl) _ 0 (Nat.zero_le _) (by omega) _ hseq).mono ?_
    rintro e w' ⟨v, ss, he, rfl, h⟩
    exact hend e _ w' ⟨v, [], he, List.Perm.refl _, h⟩
  · have hbl := hT.lt
    have hseq : SeqGives Fence.wide 2 Tryz.prog 147 #[.pointer (some ⟨w.heap.size, 0, none⟩)] encStr (fun ss => ss.Perm (strKeys (tbD T))) (Maps.size (tbD T)) (w.alloc (.cells #[.map (some b)] 106)) :=
      AnyZ.keys_gives (ρ := Tryz.keys118_ren) { Tryz.keys118 with } Fence.wide _ trivial rfl (by omega) w.heap.size b T.length (tbD T) _ (by simp) (by simp) (by
        obtain ⟨es, clock, hb, Ft, hs, hD⟩ := hT
        exact ⟨es, clock, (Below.heap_alloc _ _ b hbl).trans hb, Ft, hs, hD⟩)
    refine (AnyZ.sorted_in Tryz.sorted117 Fence.wide 5 trivial trivial trivial trivial rfl (by omega) (sorts8 _) (enters_of Tryz.func146 (by kernel_rfl) rfl) 147 #[.pointer (some ⟨w.heap.size, 0, none⟩)] trivial (enters_of Tryz.func147 (by kernel_rfl) rfl) _ _ (by rw [tb_size]; unfold maxLen; omega) (by rw [tb_size]; omega) _ hseq).mono ?_
    rintro e w' ⟨v, ss, he, hp, h⟩
    rw [tb_keys] at hp
    exact hend e _ w' ⟨v, ss, he, hp, h⟩
end Go.Proofs.YtkdpfjenjcpcfaaGreatDoor
namespace Go.Proofs.YtkdpfjenjcpcfaaGreatDoor
open Go.RowKit Mem Be Go.Maps
set_option maxRecDepth 10000
set_option maxHeartbeats 2000000
set_option linter.unusedVariables false
end Go.Proofs.YtkdpfjenjcpcfaaGreatDoor
namespace Go.Proofs.YtkdpfjenjcpcfaaGreatDoor
open Go.RowKit Mem Be Go.Maps
set_option maxRecDepth 10000
set_option maxHeartbeats 2000000
set_option linter.unusedVariables false
theorem len_run {w : World} {mo : Option Nat} {T : List EV} (h : TabM w mo T) (ty : TypeId) : (Builtin.len_ #[106] ty #[.map mo]).run Tryz.prog w = .ok (.int .i64 (T.length : Int)) w := by
  rcases h with ⟨rfl, rfl⟩ | ⟨b, rfl, h⟩
  · exact Maps.len_nil (P := Tryz.prog) (w := w) Tryz.underlying106 ty
  · have := World.ownsMap.len (e := 46) (t := 106) h Tryz.underlying106 ty
    rwa [tb_size] at this
theorem cell_keep {w w' : World} {p : Addr} (h : w'.heap[p.block]? = w.heap[p.block]?) : w'.cell? p = w.cell? p := by
  obtain ⟨b, o, s⟩ := p
  simp only at h
  simp only [World.cell?, h]
theorem tabsorted_any (T : List EV) (mo : Option Nat) (hS : SortT kV T) (hn : T.length ≤ 8388608) (w : World) (hT : TabM w mo T) (hV : ∀ x ∈ T, ValOk w x.1.has x.2.1 x.1.v x.2.2) (hk : ∀ x ∈ T, x.1.k.length ≤ maxLen) :
    Calls Tryz.prog 82 #[.map mo] w (EntsP (T.map Prod.fst) w) := by
  obtain ⟨i0, hi0, hz0, hz1, hz2⟩ := info_parts info_ent
  obtain ⟨w1, hmk, hmo, hmg⟩ := run_make_own (P := Tryz.prog) w w.heap.size 33 46 i0 (evV (evN [])) 6 Tryz.underlying33 hi0 hz0 hz1 .i64 .i64 T.length (by rw [hz2]; omega) (by unfold maxLen; omega) (Nat.le_refl _)
  have hlen := len_run hT
  have HT := Lib.hid hT
  have HS := Lib.hid hS
  have HN := Lib.hid hn
  have HV := Lib.hid hV
  have HK := Lib.hid hk
  have HMO := Lib.hid hmo
  have HB1 : Hid (Below w.heap.size w w1) := Lib.hid ⟨hmg.os, hmg.tape, hmg.output, hmg.size, fun k hk => hmg.block k hk (by simp)⟩
  clear hT hS hn hV hk hmo hmg
  go_enter Tryz.func82, Tryz.ntmps82
  go_wp2_with fail
  refine (keys8 mo w1).mono ?_
  rintro e w2 ⟨rfl, rfl⟩
  have HKS := Lib.hid (sorted8 T mo HS.out HN.out w1 (HT.out.below HB1.out))
  go_wp2_with fail
  refine HKS.out.mono ?_
  rintro e w3 ⟨AK, cK, rfl, hok, hb3⟩
  have HOK := Lib.hid hok
  have HB3 : Hid (Below w1.heap.size w1 w3) := Lib.hid ((((Below.refl _ w1).alloc (Nat.le_refl _) _).trans (hb3.mono (by simp))))
  have HM3 : Hid (w3.ownsRow w.heap.size 46 6 (.slice (some ⟨w.heap.size, 0, none⟩) 0 T.length) 0 []) := Lib.hid (ownLater HMO.out HB3.out)
  have HBW : Hid (Below w.heap.size w w3) := Lib.hid (HB1.out.trans (HB3.out.mono HB1.out.size))
  have HRK : Hid (Row w3 w3.heap.size AK ((T.map kV).map fun k => Value.string ⟨k.toArray⟩)) := Lib.hid (Row.of_own HOK.out)
  have hni : (T.length : Int) ≤ 8388608 := by have := HN.out; omega
  clear hok hb3 HKS hlen hmk
  go_wp2_with fail
  go_loopw [3, 13] (fun v i wr => ∃ (j : Nat) (us : List EV) (A : Option Addr) (c : Nat), j ≤ T.length ∧ i = .int .i64 j ∧ v = .slice A j c ∧ Hid (us.length = j) ∧ Hid (us.map Prod.fst = (T.map Prod.fst).take j) ∧
    Hid (wr.ownsRow w.heap.size 46 6 (.slice A j c) j (entsC us)) ∧ Hid (EntsO wr w.heap.size us) ∧ Hid (∀ k, k < w3.heap.size → k ≠ w.heap.size → wr.heap[k]? = w3.heap[k]?) ∧ Hid (w3.heap.size ≤ wr.heap.size) ∧ Hid (∀ a, A = some a → a.block = w.heap.size ∨ w3.heap.size ≤ a.block) ∧ Hid (Below w.heap.size w wr)) (fun _ i _ => T.length - (intOf i).toNat)
  case atStart => exact ⟨0, [], _, _, Nat.zero_le _, rfl, rfl, Lib.hid rfl, Lib.hid rfl, HM3, Lib.hid (entsO_nil _ _), Lib.hid (fun _ _ _ => rfl), Lib.hid (Nat.le_refl _), Lib.hid (fun a h => by injection h with h; subst h; exact Or.inl rfl), HBW⟩
  case round =>
    obtain ⟨j, us, A, cA, hj, rfl, rfl, HUL, HM, HO, HE, HKP, HWS, HAB, HB⟩ := hrel
    by_cases hlt : j < T.length
    · obtain ⟨x, hx⟩ : ∃ x, T[j] = x := ⟨_, rfl⟩
      have hxm : x ∈ T := by rw [← hx]; exact List.getElem_mem hlt
      obtain ⟨b, o, rfl, hbl, hc⟩ := HRK.out.open_ (by simp; omega)
      have hbge : w.heap.size < b := by have h1 := (ownIn HOK.out rfl).1; have h2 := HB1.out.size; simp at h1; omega
      have hcell : wr.cell? ⟨b, o + j, none⟩ = some (.string ⟨x.1.k.toArray⟩) := by
        rw [cell_keep (w := w3) (HKP.out b hbl (by omega)), hc j (by simpa using hlt)]
        simp [hx]
      have hTr := HT.out.below HB.out
      have hlook := look_run hTr (k := x.1.k) (HK.out x hxm) false
      rw [show lookV T x.1.k = evV x by unfold lookV; rw [get_mem HS.out hxm]] at hlook
      simp only [if_false, Bool.false_eq_true] at hlook
      unfold evV at hlook
      unfold entV at hlook
      have HC := Lib.hid (copyE_any ⟨x.1.k.toArray⟩ x.1.s x.1.u x.1.o x.1.has x.2.1 x.1.v x.1.v.length x.2.2 rfl wr ((HV.out x hxm).below HB.out))
      have hsn : (T.map Prod.fst).take (j + 1) = (T.map Prod.fst).take j ++ [x.1] := by
        rw [List.take_succ_eq_append_getElem (by simpa using hlt)]
        simp [hx]
      have HSN := Lib.hid hsn
      have HBG := Lib.hid hbge
      have hji : (0 : Int) ≤ (j : Int) := by omega
      have hji2 : (j : Int) < (T.length : Int) := by omega
      have hjn := HN.out
      clear hTr hc hsn hx hxm hbge
      go_wp2_with fail
      refine HC.out.mono ?_
      rintro e w4 ⟨A4, c4, rfl, ho4, hb4⟩
      obtain ⟨y, hy⟩ : ∃ y : EV, y = (x.1, A4, c4) := ⟨_, rfl⟩
      have HY : Hid (y.1 = x.1) := Lib.hid (by rw [hy])
      have hO4 : OwnE w4 wr.heap.size y := by rw [hy]; exact ho4
      have HBL : Hid (Blk (w4.alloc (.cells ⟨entC y⟩ 46)) w4.heap.size 46 ⟨entC y⟩) := Lib.hid (Blk.new _ _ _)
      have hal : ∀ ob, Below w4.heap.size w4 (w4.alloc ob) := fun ob => (Below.refl _ _).alloc (Nat.le_refl _) ob
      have HO4 : Hid (∀ ob, (w4.alloc ob).ownsRow w.heap.size 46 6 (.slice A j cA) j (entsC us)) := Lib.hid fun ob => ownLater (ownLater HO.out hb4) (hal ob)
      have HE4 : Hid (∀ ob, EntsO (w4.alloc ob) w.heap.size (us ++ [y])) := Lib.hid fun ob => entsO_below (entsO_app (entsO_below HE.out hb4) (entsO_one (ownBase hO4 HB.out.size))) (hal ob)
      have HB4 : Hid (∀ ob, Below w.heap.size w (w4.alloc ob)) := Lib.hid fun ob => (HB.out.trans (hb4.mono HB.out.size)).trans ((hal ob).mono (HB.out.trans (hb4.mono HB.out.size)).size)
      have HK4 : Hid (∀ ob, ∀ k, k < wr.heap.size → (w4.alloc ob).heap[k]? = wr.heap[k]?) := Lib.hid fun ob k hk => ((hal ob).block k (Nat.lt_of_lt_of_le hk hb4.size)).trans (hb4.block k hk)
      have HW4 := Lib.hid hb4.size
      subst hy
      clear ho4 hb4 hal hO4 HC
      go_wp2_with (at_builtin; refine wpList_appS (P := Tryz.prog) (by rfl) _ _ _ (by rfl) w.heap.size 46 i0 (evV (evN [])) 6 72 Tryz.underlying33 hi0 hz0 hz1 hz2 rfl (by decide) _ j (entsC us) (by rfl) (by exact HO4.out _) (w4.heap.size + 1) (some ⟨w4.heap.size, 0, none⟩) 1 1 (entsC [(x.1, A4, c4)]) (by rfl) (by rfl) (by exact ent_lit HBL.out (by omega)) (entsC_one _) (by have := hjn; unfold maxLen; omega) (by omega) (by have := (HB4.out (.cells #[] 0)).size; simpa using this) ?_)
      intro v' w5 hown hgr hat
      obtain ⟨A5, c5, rfl, _, _⟩ := ownShape hown
      have HB5 : Hid (Below w.heap.size w w5) := Lib.hid ((HB4.out _).grown hgr (HB4.out _).size fun g h => ((HO4.out (.cells ⟨entC (x.1, A4, c4)⟩ 46)).lt g h).1)
      have HE5 : Hid (EntsO w5 w.heap.size (us ++ [(x.1, A4, c4)])) := Lib.hid (entsO_grown (HE4.out (.cells ⟨entC (x.1, A4, c4)⟩ 46)) (HO4.out _) (by decide) hgr)
      have HK5 : Hid (∀ k, k < w3.heap.size → k ≠ w.heap.size → w5.heap[k]? = w3.heap[k]?) := Lib.hid fun k hk hne => by
        have h3 := HWS.out
        refine (hgr.block k (by have h2 := HW4.out; simp; omega) fun e => ?_).trans ((HK4.out _ k (by omega)).trans (HKP.out k hk hne))
        cases A with
        | none => cases e
        | some a =>
          have e2 : k = a.block := by simpa [Value.ownBlock] using e
          rcases HAB.out a rfl with h | h <;> omega
      have HAB5 : Hid (∀ a, A5 = some a → a.block = w.heap.size ∨ w3.heap.size ≤ a.block) := Lib.hid fun a ha => by
        subst ha
        rcases hat with h | h
        · cases A with
          | none => cases h
          | some a' =>
            have e2 : a.block = a'.block := by simpa [Value.ownBlock] using h
            rw [e2]; exact HAB.out a' rfl
        · have e2 : a.block = w4.heap.size + 1 := by simpa [Value.ownBlock] using h
          have h2 := HW4.out
          have h3 := HWS.out
          exact Or.inr (by omega)
      have HS5 : Hid (w3.heap.size ≤ w5.heap.size) := Lib.hid (by have h1 := hgr.size; have h2 := HW4.out; have h3 := HWS.out; simp at h1; omega)
      have HO5 := Lib.hid hown
      clear hown hgr hat HO4 HE4 HB4 HK4 HO HE HB
      go_wp2
      go_roundw
      case rel => exact ⟨j + 1, us ++ [(x.1, A4, c4)], A5, c5, by omega, by go_num, rfl, Lib.hid (by rw [List.length_append, HUL.out]; rfl), Lib.hid (by rw [List.map_append, HM.out, HSN.out]; rfl), Lib.hid (by rw [entsC_app]; exact HO5.out), HE5, HK5, HS5, HAB5, HB5⟩
      case measure => simp [intOf]; omega
    · obtain rfl : j = T.length := by omega
      have ht : (T.map Prod.fst).take T.length = T.map Prod.fst := List.take_of_length_le (by simp)
      rw [ht] at HM
      go_wp2
      go_ret
      have hl := HUL.out
      have ho := HO.out
      rw [← hl] at ho ⊢
      exact ⟨us, A, cA, HM.out, rfl, ho, HE.out, HB.out⟩
end Go.Proofs.YtkdpfjenjcpcfaaGreatDoor
namespace Go.Proofs.YtkdpfjenjcpcfaaGreatDoor
open Go.RowKit Mem Be Go.Maps
set_option maxRecDepth 10000
set_option maxHeartbeats 2000000
set_option linter.unusedVariables false
/-- A loop over a table under way: which keys are still to come, and how many. -/
def RngB (w : World) (b r n : Nat) (F : List EV) (left : Lit → Bool) (cnt : Nat) : Prop := w.ranges Tryz.prog 9 Rv b r n (tbD F) left cnt
theorem rng_start {w : World} {b : Nat} {F : List EV} (h : TabB w b F) : ∃ w', (Instr.range 106 (.map (some b))).run Tryz.prog w = .ok (.pointer (some ⟨w.heap.size, 0, none⟩)) w' ∧ RngB w' b w.heap.size F.length F (Maps.has (tbD F)) F.length ∧ Below w.heap.size w w' ∧ w'.heap.size = w.heap.size + 1 := by
  obtain ⟨w', h1, h2, h3, h4⟩ := World.ownsMap.range (t := 106) (e := 46) h law8 Tryz.underlying106
  rw [tb_size] at h2
  exact ⟨w', h1, h2, ⟨h3.os, h3.tape, h3.output, h3.size, fun k hk => h3.block k hk (by simp)⟩, h4⟩
theorem rng_next {w : World} {b r n cnt : Nat} {F : List EV} {left : Lit → Bool} (hS : SortT kV F) (h : RngB w b r n F left cnt) (ty : TypeId) :
    (cnt = 0 ∧ (∀ k, left k = false) ∧ (Instr.next (.pointer (some ⟨r, 0, none⟩)) false ty).run Tryz.prog w = .ok (.tuple #[.bool false]) w) ∨
    ∃ x w' cnt', x ∈ F ∧ left (.string x.1.k) = true ∧ (Instr.next (.pointer (some ⟨r, 0, none⟩)) false ty).run Tryz.prog w = .ok (.tuple #[.bool true, .string ⟨x.1.k.toArray⟩, evV x]) w' ∧ RngB w' b r n F (fun z => left z && !z.sameKey (.string x.1.k)) cnt' ∧ cnt' < cnt ∧
      w.grownBy w' (some r) ∧ w'.heap.size = w.heap.size ∧ (Instr.entry (.pointer (some ⟨r, 0, none⟩))).run Tryz.prog w' = .ok (.tuple #[.string ⟨x.1.k.toArray⟩, evV x]) w' := by
  rcases World.ranges.next h law8 ty with ⟨h0, hl, hrun⟩ | ⟨key, v, kl, y, w', cnt', hkey, hlk, hv, hat, hrun, hrg, hlt, hgr, hsz, hen⟩
  · exact Or.inl ⟨h0, hl, hrun⟩
  · obtain ⟨k, rfl, rfl, hkl⟩ := Maps.keyOf_str Tryz.underlying9 hkey
    have h1 := hat .nil
    rw [tb_at] at h1
    unfold Rv at hv
    injection hv with hv
    subst hv
    cases hg : getK kV F k with
    | none => rw [hg] at h1; cases h1
    | some x =>
      rw [hg] at h1
      simp only at h1
      injection h1 with h1
      obtain ⟨hx1, hx2⟩ := get_some hg
      subst h1
      have hx2 : x.1.k = k := hx2
      subst hx2
      exact Or.inr ⟨x, w', cnt', hx1, hlk, hrun, hrg, hlt, hgr, hsz, hen⟩
theorem RngB.keep {w w' : World} {b r n cnt : Nat} {F : List EV} {left : Lit → Bool} (h : RngB w b r n F left cnt) {row : Option Nat} (hg : w.grownBy w' row) (h1 : some b ≠ row) (h2 : some r ≠ row) : RngB w' b r n F left cnt := World.ranges.kept h hg h1 h2
theorem has_iff {F : List EV} {k : List UInt8} : Maps.has (tbD F) (.string k) = (getK kV F k).isSome := tb_any F k
/-- What a table holds when those of F that are no longer to come stand in place of T's. -/
def Part8 (T F D : List EV) (left : Lit → Bool) : Prop := SortT kV D ∧ ∀ k, getK kV D k = if (getK kV F k).isSome = true ∧ left (.string k) = false then getK kV F k else getK kV T k
theorem part_start {T F : List EV} (hT : SortT kV T) : Part8 T F T (Maps.has (tbD F)) := ⟨hT, fun k => by
  rw [has_iff]
  cases getK kV F k <;> simp⟩
theorem part_step {T F D : List EV} {left : Lit → Bool} {x : EV} (hF : SortT kV F) (h : Part8 T F D left) (hx : x ∈ F) : Part8 T F (putK kV D x) (fun z => left z && !z.sameKey (.string x.1.k)) := by
  refine ⟨put_sort h.1, fun k => ?_⟩
  rw [get_put, h.2 k]
  by_cases hk : kV x = k
  · subst hk
    rw [if_pos rfl, get_mem hF hx]
    simp [Lit.sameKey]
  · rw [if_neg hk]
    have : (Lit.string k).sameKey (.string x.1.k) = false := by
      show (k == x.1.k) = false
      simpa using fun e : k = x.1.k => hk e.symm
    simp only [this, Bool.not_false, Bool.and_true]
theorem part_end {T F D : List EV} {left : Lit → Bool} (hT : SortT kV T) (hF : SortT kV F) (h : Part8 T F D left) (hl : ∀ k, left k = false) : D = mergeT kV T F := by
  refine ext_tab h.1 (merge_sort hT) fun k => ?_
  rw [h.2 k, get_merge hF, hl]
  cases getK kV F k <;> simp
theorem tabB_grown {w w' : World} {b : Nat} {T : List EV} {row : Option Nat} (h : TabB w b T) (hg : w.grownBy w' row) (hr : some b ≠ row) : TabB w' b T := h.keep (hg.block b h.lt hr)
theorem copym_nil (T : List EV) (b : Nat) (w : World) (hT : TabB w b T) :
    Calls Tryz.prog 88 #[.map (some b), .map none] w fun e w' => e = .returned (.tuple #[]) ∧ TabB w' b T ∧ Below w.heap.size w w' := by
  have h1 := run_range_nilMap (P := Tryz.prog) w 106 9 46 Tryz.underlying106
  have HT := Lib.hid hT
  clear hT
  go_enter Tryz.func88, Tryz.ntmps88
  have h2 := fun ty => run_next_nilMap (P := Tryz.prog) w ty 0 0 #[]
  go_wp2_with fail
  refine wp_loop_rounds 1 ?_
  rw [rounds_succ]
  go_wp2
  go_end0
  exact ⟨rfl, HT.out.keep (((Below.refl _ w).alloc (Nat.le_refl _) _).block b HT.out.lt), (Below.refl _ w).alloc (Nat.le_refl _) _⟩
theorem copym_some (T F : List EV) (b f : Nat) (hbf : b ≠ f) (hTS : SortT kV T) (hFS : SortT kV F) (hn : T.length + F.length ≤ 100000000) (hk : ∀ x ∈ F, x.1.k.length ≤ maxLen) (w : World) (hT : TabB w b T) (hF : TabB w f F) :
    Calls Tryz.prog 88 #[.map (some b), .map (some f)] w fun e w' => e = .returned (.tuple #[]) ∧ TabB w' b (mergeT kV T F) ∧ Touch (fun k => k = b) w w' := by
  obtain ⟨w1, hrange, hrg, hb1, hs1⟩ := rng_start hF
  have HRG := Lib.hid hrg
  have HB1 := Lib.hid hb1
  have HT := Lib.hid (hT.keep (hb1.block b hT.lt))
  have HTS := Lib.hid hTS
  have HFS := Lib.hid hFS
  have HN := Lib.hid hn
  have HK := Lib.hid hk
  have HBL := Lib.hid hT.lt
  have HFL := Lib.hid hF.lt
  have HS1 := Lib.hid hs1
  clear hT hF hTS hFS hn hk hrg hb1 hs1
  go_enter Tryz.func88, Tryz.ntmps88
  go_wp2_with fail
  go_loopw [4] (fun _ wr => ∃ (left : Lit → Bool) (cnt : Nat) (D : List EV), Hid (RngB wr f w.heap.size F.length F left cnt) ∧ Hid (TabB wr b D) ∧ Hid (Part8 T F D left) ∧ Hid (D.length + cnt ≤ T.length + F.length) ∧ Hid (Touch (fun k => k = b) w wr)) (fun _ wr => wr.rangeLeft f w.heap.size)
  case atStart => exact ⟨_, _, T, HRG, HT, Lib.hid (part_start HTS.out), Lib.hid (Nat.le_refl _), Lib.hid (Touch.ofBelow HB1.out)⟩
  case round =>
    obtain ⟨left, cnt, D, HR, HD, HP, HL, HTo⟩ := hrel
    rcases rng_next HFS.out HR.out 0 with ⟨h0, hl, hrun⟩ | ⟨x, w2, cnt', hx, hlk, hrun, hrg, hlt, hgr, hsz, hen⟩
    · have HX : Hid (TabB wr b (mergeT kV T F) ∧ Touch (fun k => k = b) w wr) := Lib.hid ⟨by rw [← part_end HTS.out HFS.out HP.out hl]; exact HD.out, HTo.out⟩
      clear h0 hl
      go_wp2
      go_end0
      exact ⟨rfl, HX.out.1, HX.out.2⟩
    · have hbr : b ≠ w.heap.size := by have := HBL.out; omega
      have hD2 := tabB_grown HD.out hgr (by intro e; injection e with e; exact hbr e)
      have hal : w2.grownBy (w2.alloc (entO ⟨x.1.k.toArray⟩ x.1.s x.1.u x.1.o x.1.has x.2.1 x.1.v.length x.2.2)) none := World.grownBy_alloc w2 _ none
      have hD3 := tabB_grown hD2 hal (by simp)
      obtain ⟨w3, hup, hT3, hturn⟩ := put_run hD3 x (HK.out x hx) (by have h1 := HL.out; have h2 := HN.out; unfold maxLen; omega)
      have HR3 : Hid (RngB w3 f w.heap.size F.length F (fun z => left z && !z.sameKey (.string x.1.k)) cnt') := Lib.hid ((hrg.keep hal (by simp) (by simp)).keep hturn.grown (by intro e; injection e with e; exact hbf e.symm) (by intro e; injection e with e; exact hbr e.symm))
      have HD3 := Lib.hid hT3
      have HP3 := Lib.hid (part_step HFS.out HP.out hx)
      have HL3 : Hid ((putK kV D x).length + cnt' ≤ T.length + F.length) := Lib.hid (by have h1 := HL.out; have h2 := put_len (key := kV) x D; omega)
      have HT3 : Hid (Touch (fun k => k = b) w w3) := Lib.hid ((((HTo.out.grown hgr fun k e => by injection e with e; exact Or.inr (by omega)).grown hal fun k e => by cases e)).trans (touch_turned hturn) fun k hk => Or.inl hk)
      have HM : Hid (w3.rangeLeft f w.heap.size < wr.rangeLeft f w.heap.size) := Lib.hid (by rw [World.ranges.left_eq HR3.out, World.ranges.left_eq HR.out]; exact hlt)
      clear hD2 hal hD3 hT3 hturn hrg hlt hgr hsz hlk hx
      unfold evV at hrun hen hup
      unfold entV at hrun hen hup
      go_wp2
      go_roundw
      case rel => exact ⟨_, _, _, HR3, HD3, HP3, HL3, HT3⟩
      case measure => exact HM.out
theorem copym_any (T F : List EV) (b : Nat) (mo : Option Nat) (hne : ∀ f, mo = some f → b ≠ f) (hTS : SortT kV T) (hFS : SortT kV F) (hn : T.length + F.length ≤ 100000000) (hk : ∀ x ∈ F, x.1.k.length ≤ maxLen) (w : World) (hT : TabB w b T) (hF : TabM w mo F) :
    Calls Tryz.prog 88 #[.map (some b), .map mo] w fun e w' => e = .returned (.tuple #[]) ∧ TabB w' b (mergeT kV T F) ∧ Touch (fun k => k = b) w w' := by
  rcases hF with ⟨rfl, rfl⟩ | ⟨f, rfl, hF⟩
  · exact (copym_nil T b w hT).mono fun e w' ⟨h1, h2, h3⟩ => ⟨h1, h2, Touch.ofBelow h3⟩
  · exact copym_some T F b f (hne f rfl) hTS hFS hn hk w hT hF
end Go.Proofs.YtkdpfjenjcpcfaaGreatDoor
