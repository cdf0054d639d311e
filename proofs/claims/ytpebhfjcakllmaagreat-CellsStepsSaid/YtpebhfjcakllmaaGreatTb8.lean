/- Tbl: Tables: rows by rising keys; what is put, taken off, asked for; two that tell the same are one.
   Tab: A map of entries in memory: which entries it has, by rising keys; asking, storing, taking off, at the operations.
   TabA: Package store's table: set, of.
   Srt: slices.Sorted(maps.Keys(m)) at a table: its keys, by rising keys, in new memory.
   App8: Appends of structs; rows of entries, and of acks.
   TabS: Package store's table: sorted.
   TabC: Ranging over a table; maps.Copy. -/
import Derived.Test.YtpebhfjcakllmaaGreatAppS
import Derived.Test.YtpebhfjcakllmaaGreatRows
import Derived.Sort.KeysCollected
import Derived.Test.YtpebhfjcakllmaaGreatTg
import Derived.Test.YtpebhfjcakllmaaGreatTgB
import Derived.Test.YtpebhfjcakllmaaGreatDk
import Derived.Test.YtpebhfjcakllmaaGreatEvc
import Derived.Maps.RangeWalk
import Derived.Deep.RegionLaw
import Derived.WalkSpells
import Derived.Test.YtpebhfjcakllmaaGreatIter8
import Derived.OwnWalk
import Derived.LoopN
namespace Go.Proofs.YtpebhfjcakllmaaGreat
set_option linter.unusedVariables false
section
variable {α : Type} (key : α → List UInt8)
def insK (x : α) : List α → List α
  | [] => [x]
  | y :: r => if bytesBefore (key x) (key y) = true then x :: y :: r else y :: insK x r
def delK (k : List UInt8) (T : List α) : List α := T.filter fun x => !(key x == k)
def putK (T : List α) (x : α) : List α := insK key x (delK key (key x) T)
def getK (T : List α) (k : List UInt8) : Option α := T.find? fun x => key x == k
def SortT (T : List α) : Prop := T.Pairwise fun a b => bytesBefore (key a) (key b) = true
variable {key}
theorem bb_trans {a b c : List UInt8} (h1 : bytesBefore a b = true) (h2 : bytesBefore b c = true) : bytesBefore a c = true := WideShapes.bytes_trans a b c h1 h2
theorem bb_ne {a b : List UInt8} (h : bytesBefore a b = true) : a ≠ b := by rintro rfl; rw [WideAt.bytes_irrefl] at h; cases h
theorem mem_ins {x z : α} : ∀ {T : List α}, z ∈ insK key x T ↔ z = x ∨ z ∈ T
  | [] => by simp [insK]
  | y :: r => by
    unfold insK
    split
    · simp
    · rw [List.mem_cons, mem_ins (T := r), List.mem_cons]; exact ⟨fun h => by rcases h with h | h | h <;> simp [h], fun h => by rcases h with h | h | h <;> simp [h]⟩
theorem mem_del {k : List UInt8} {z : α} {T : List α} : z ∈ delK key k T ↔ z ∈ T ∧ key z ≠ k := by unfold delK; simp
theorem mem_put {x z : α} {T : List α} : z ∈ putK key T x ↔ z = x ∨ (z ∈ T ∧ key z ≠ key x) := by unfold putK; rw [mem_ins, mem_del]
theorem mem_put_of {x z : α} {T : List α} (h : z ∈ putK key T x) : z = x ∨ z ∈ T := by rcases mem_put.1 h with h | h; exact Or.inl h; exact Or.inr h.1
theorem ins_sort {x : α} : ∀ {T : List α}, SortT key T → (∀ y ∈ T, key y ≠ key x) → SortT key (insK key x T)
  | [], _, _ => by unfold insK SortT; simp
  | y :: r, h, hn => by
    obtain ⟨h1, h2⟩ := List.pairwise_cons.1 h
    unfold insK
    split
    · rename_i hb
      refine List.pairwise_cons.2 ⟨fun z hz => ?_, h⟩
      rcases List.mem_cons.1 hz with rfl | hz
      · exact hb
      · exact bb_trans hb (h1 z hz)
    · rename_i hb
      have hyx : bytesBefore (key y) (key x) = true := by
        rcases WideAt.bytes_total _ _ (hn y (by simp)) with h' | h'
        · exact h'
        · exact absurd h' hb
      refine List.pairwise_cons.2 ⟨fun z hz => ?_, ins_sort h2 fun z hz => hn z (by simp [hz])⟩
      rcases mem_ins.1 hz with rfl | hz
      · exact hyx
      · exact h1 z hz
theorem del_sort {k : List UInt8} {T : List α} (h : SortT key T) : SortT key (delK key k T) := h.filter _
theorem put_sort {x : α} {T : List α} (h : SortT key T) : SortT key (putK key T x) := ins_sort (del_sort h) fun y hy => (mem_del.1 hy).2
theorem sort_nil : SortT key ([] : List α) := List.Pairwise.nil
theorem get_nil (k : List UInt8) : getK key ([] : List α) k = none := rfl
theorem get_some {T : List α} {k : List UInt8} {x : α} (h : getK key T k = some x) : x ∈ T ∧ key x = k := by
  unfold getK at h
  exact ⟨List.mem_of_find?_eq_some h, by simpa using List.find?_some h⟩
theorem get_none {T : List α} {k : List UInt8} : getK key T k = none ↔ ∀ x ∈ T, key x ≠ k := by unfold getK; simp
theorem sort_inj {T : List α} (h : SortT key T) {x y : α} (hx : x ∈ T) (hy : y ∈ T) (he : key x = key y) : x = y := by
  induction T with
  | nil => cases hx
  | cons a r ih =>
    obtain ⟨h1, h2⟩ := List.pairwise_cons.1 h
    rcases List.mem_cons.1 hx with ex | hx <;> rcases List.mem_cons.1 hy with ey | hy
    · rw [ex, ey]
    · exact absurd (by rw [← ex]; exact he) (bb_ne (h1 y hy))
    · exact absurd (by rw [← ey]; exact he.symm) (bb_ne (h1 x hx))
    · exact ih h2 hx hy
theorem get_mem {T : List α} (h : SortT key T) {x : α} (hx : x ∈ T) : getK key T (key x) = some x := by
  cases hg : getK key T (key x) with
  | none => exact absurd rfl (get_none.1 hg x hx)
  | some y =>
    obtain ⟨h1, h2⟩ := get_some hg
    rw [sort_inj h h1 hx h2]
theorem get_iff {T : List α} (h : SortT key T) {k : List UInt8} {x : α} : getK key T k = some x ↔ x ∈ T ∧ key x = k := ⟨get_some, fun ⟨h1, h2⟩ => h2 ▸ get_mem h h1⟩
/-- Two tables that tell the same are one. -/
theorem ext_tab : ∀ {T T' : List α}, SortT key T → SortT key T' → (∀ k, getK key T k = getK key T' k) → T = T' := by
  have hm : ∀ {T T' : List α}, SortT key T → SortT key T' → (∀ k, getK key T k = getK key T' k) → ∀ x ∈ T, x ∈ T' := fun h h' he x hx => by
    have := get_mem h hx
    rw [he] at this
    exact (get_some this).1
  have main : ∀ {T T' : List α}, SortT key T → SortT key T' → (∀ x, x ∈ T ↔ x ∈ T') → T = T' := by
    intro T
    induction T with
    | nil => intro T' _ _ h; exact (List.eq_nil_iff_forall_not_mem.2 fun x hx => by cases (h x).2 hx).symm
    | cons a r ih =>
      intro T' h h' hi
      cases T' with
      | nil => exact absurd ((hi a).1 (by simp)) (by simp)
      | cons b r' =>
        obtain ⟨h1, h2⟩ := List.pairwise_cons.1 h
        obtain ⟨h3, h4⟩ := List.pairwise_cons.1 h'
        have hab : a = b := by
          rcases List.mem_cons.1 ((hi a).1 (by simp)) with e | e
          · exact e
          · rcases List.mem_cons.1 ((hi b).2 (by simp)) with e' | e'
            · exact e'.symm
            · exact absurd rfl (bb_ne (bb_trans (h3 a e) (h1 b e')))
        subst hab
        refine congrArg _ (ih h2 h4 fun x => ?_)
        constructor
        · intro hx
          rcases List.mem_cons.1 ((hi x).1 (by simp [hx])) with e | e
          · exact absurd (congrArg key e.symm) (bb_ne (h1 x hx))
          · exact e
        · intro hx
          rcases List.mem_cons.1 ((hi x).2 (by simp [hx])) with e | e
          · exact absurd (congrArg key e.symm) (bb_ne (h3 x hx))
          · exact e
  intro T T' h h' he
  exact main h h' fun x => ⟨hm h h' he x, hm h' h (fun k => (he k).symm) x⟩
theorem get_ins {x : α} {k : List UInt8} : ∀ {T : List α}, (∀ y ∈ T, key y ≠ key x) → getK key (insK key x T) k = if key x = k then some x else getK key T k
  | [], _ => by unfold insK getK; by_cases h : key x = k <;> simp [h]
  | y :: r, hn => by
    have ih := get_ins (x := x) (k := k) (T := r) fun z hz => hn z (by simp [hz])
    unfold insK
    split
    · unfold getK; rw [List.find?_cons]
      by_cases h : key x = k
      · simp [h]
      · rw [if_neg h, show (key x == k) = false by simpa using h]
    · unfold getK at ih ⊢
      rw [List.find?_cons, List.find?_cons, ih]
      by_cases hy : key y = k
      · have : key x ≠ k := fun e => hn y (by simp) (hy.trans e.symm)
        simp [hy, this]
      · have : (key y == k) = false := by simpa using hy
        rw [this]
theorem get_del {k k' : List UInt8} {T : List α} : getK key (delK key k T) k' = if k = k' then none else getK key T k' := by
  by_cases h : k = k'
  · subst h
    rw [if_pos rfl, get_none]
    exact fun x hx => (mem_del.1 hx).2
  · rw [if_neg h]
    unfold getK delK
    rw [List.find?_filter]
    refine congrArg (fun f => List.find? f T) (funext fun x => ?_)
    by_cases hx : key x = k'
    · have : ¬ k' = k := fun e => h e.symm
      simp [hx, this]
    · simp [hx]
theorem get_put {x : α} {k : List UInt8} {T : List α} : getK key (putK key T x) k = if key x = k then some x else getK key T k := by
  unfold putK
  rw [get_ins (fun y hy => (mem_del.1 hy).2), get_del]
  split <;> rfl
theorem ins_len (x : α) : ∀ T : List α, (insK key x T).length = T.length + 1
  | [] => rfl
  | y :: r => by
    unfold insK
    split
    · rfl
    · rw [List.length_cons, ins_len x r, List.length_cons]
theorem put_len (x : α) (T : List α) : (putK key T x).length ≤ T.length + 1 := by
  unfold putK; rw [ins_len]
  have := List.length_filter_le (fun z => !(key z == key x)) T
  unfold delK; omega
theorem put_len_pos (x : α) (T : List α) : 0 < (putK key T x).length := by unfold putK; rw [ins_len]; omega
theorem del_of_none {k : List UInt8} {T : List α} (h : ∀ x ∈ T, key x ≠ k) : delK key k T = T := by
  unfold delK
  exact List.filter_eq_self.2 fun x hx => by simpa using h x hx
/-- A key that stands behind all others is laid at the end. -/
theorem put_last {x : α} {T : List α} (h : ∀ y ∈ T, bytesBefore (key y) (key x) = true) : putK key T x = T ++ [x] := by
  unfold putK
  rw [del_of_none fun y hy => bb_ne (h y hy)]
  induction T with
  | nil => rfl
  | cons y r ih =>
    have hy := h y (by simp)
    unfold insK
    rw [if_neg (fun e => absurd rfl (bb_ne (bb_trans hy e))), ih fun z hz => h z (by simp [hz])]
    rfl
/-- Laid one by one, a table comes to itself. -/
theorem fold_sort {T : List α} (h : SortT key T) : T.foldl (putK key) [] = T := by
  have : ∀ (R Q : List α), SortT key (Q ++ R) → R.foldl (putK key) Q = Q ++ R := by
    intro R
    induction R with
    | nil => intro Q _; simp
    | cons x r ih =>
      intro Q hq
      rw [List.foldl_cons, put_last (fun y hy => (List.pairwise_append.1 hq).2.2 y hy x (by simp)), ih (Q ++ [x]) (by simpa using hq)]
      simp
  simpa using this T [] (by simpa using h)
/-- Those of another table in place of this one's. -/
def mergeT (key : α → List UInt8) (L F : List α) : List α := F.foldl (putK key) L
theorem merge_sort {F : List α} : ∀ {L : List α}, SortT key L → SortT key (mergeT key L F) := by
  induction F with
  | nil => intro L h; exact h
  | cons x r ih => intro L h; exact ih (put_sort h)
theorem get_merge {k : List UInt8} {F : List α} : ∀ {L : List α}, SortT key F → getK key (mergeT key L F) k = (getK key F k).or (getK key L k) := by
  induction F with
  | nil => intro L _; rfl
  | cons x r ih =>
    intro L h
    obtain ⟨h1, h2⟩ := List.pairwise_cons.1 h
    have := ih (L := putK key L x) h2
    unfold mergeT at this ⊢
    rw [List.foldl_cons, this, get_put]
    by_cases hx : key x = k
    · have : getK key r k = none := get_none.2 fun y hy e => bb_ne (h1 y hy) (hx.trans e.symm)
      rw [this]
      unfold getK
      simp [hx]
    · have e : getK key (x :: r) k = getK key r k := by unfold getK; rw [List.find?_cons, show (key x == k) = false by simpa using hx]
      rw [e, if_neg hx]
theorem merge_nil {L : List α} : mergeT key L [] = L := rfl
theorem merge_mem {x : α} {F : List α} : ∀ {L : List α}, x ∈ mergeT key L F → x ∈ F ∨ x ∈ L := by
  induction F with
  | nil => intro L h; exact Or.inr h
  | cons y r ih =>
    intro L h
    rcases ih (L := putK key L y) h with h | h
    · exact Or.inl (by simp [h])
    · rcases mem_put_of h with h | h
      · exact Or.inl (by simp [h])
      · exact Or.inr h
theorem merge_len {F : List α} : ∀ {L : List α}, (mergeT key L F).length ≤ L.length + F.length := by
  induction F with
  | nil => intro L; simp [mergeT]
  | cons y r ih =>
    intro L
    have h1 := ih (L := putK key L y)
    have h2 := put_len (key := key) y L
    unfold mergeT at h1 ⊢
    rw [List.foldl_cons]
    simp only [List.length_cons]
    omega
/-- One that is put behind the merge is one that is put into what is merged. -/
theorem merge_put {L F : List α} {x : α} (hL : SortT key L) (hF : SortT key F) : mergeT key L (putK key F x) = putK key (mergeT key L F) x := by
  refine ext_tab (merge_sort hL) (put_sort (merge_sort hL)) fun k => ?_
  rw [get_merge (put_sort hF), get_put, get_put, get_merge hF]
  split <;> rfl
end
/- A table seen through its rows. -/
section
variable {α β : Type} {key : α → List UInt8} {key' : β → List UInt8} {f : α → β}
theorem ins_map (hf : ∀ x, key' (f x) = key x) (x : α) : ∀ T : List α, (insK key x T).map f = insK key' (f x) (T.map f)
  | [] => rfl
  | y :: r => by
    simp only [insK, List.map_cons, hf]
    split
    · rfl
    · rw [List.map_cons, ins_map hf x r]
theorem del_map (hf : ∀ x, key' (f x) = key x) (k : List UInt8) (T : List α) : (delK key k T).map f = delK key' k (T.map f) := by
  unfold delK
  rw [List.filter_map]
  refine congrArg (List.map f) (congrArg (fun g => List.filter g T) (funext fun x => ?_))
  simp [hf]
theorem put_map (hf : ∀ x, key' (f x) = key x) (x : α) (T : List α) : (putK key T x).map f = putK key' (T.map f) (f x) := by unfold putK; rw [ins_map hf, del_map hf, hf]
theorem sort_map (hf : ∀ x, key' (f x) = key x) {T : List α} : SortT key T ↔ SortT key' (T.map f) := by unfold SortT; rw [List.pairwise_map]; simp [hf]
theorem get_map (hf : ∀ x, key' (f x) = key x) (T : List α) (k : List UInt8) : getK key' (T.map f) k = (getK key T k).map f := by
  unfold getK
  rw [List.find?_map]
  refine congrArg (Option.map f) (congrArg (fun g => List.find? g T) (funext fun x => ?_))
  simp [hf]
theorem merge_map (hf : ∀ x, key' (f x) = key x) (F : List α) : ∀ L : List α, (mergeT key L F).map f = mergeT key' (L.map f) (F.map f) := by
  induction F with
  | nil => intro L; rfl
  | cons x r ih => intro L; unfold mergeT at ih ⊢; rw [List.map_cons, List.foldl_cons, List.foldl_cons, ih, put_map hf]
end
/-- The order of bytes is the lists' own. -/
theorem bb_lt : ∀ {a b : List UInt8}, bytesBefore a b = true → a ≤ b := by
  have : ∀ {a b : List UInt8}, bytesBefore a b = true → a < b := by
    intro a
    induction a with
    | nil => intro b h; cases b with
      | nil => cases h
      | cons y s => exact List.Lex.nil
    | cons x r ih =>
      intro b h
      cases b with
      | nil => cases h
      | cons y s =>
        simp only [bytesBefore, Bool.or_eq_true, Bool.and_eq_true, decide_eq_true_eq, beq_iff_eq] at h
        rcases h with h | ⟨rfl, h⟩
        · exact List.Lex.rel h
        · exact List.Lex.cons (ih h)
  intro a b h
  exact List.le_of_lt (this h)
theorem sorted_keys {α : Type} {key : α → List UInt8} {T : List α} (h : SortT key T) {ss : List (List UInt8)} (hp : ss.Perm (T.map key)) : (ss.mergeSort fun x y => decide (x ≤ y)) = T.map key := by
  rw [show (ss.mergeSort fun x y => decide (x ≤ y)) = ((T.map key).mergeSort fun x y => decide (x ≤ y)) from mergeSort_of_perm hp]
  refine List.mergeSort_of_pairwise ?_
  rw [List.pairwise_map]
  exact h.imp fun hab => by simpa using bb_lt hab
theorem less_before : ∀ a b : List UInt8, Op.bytesLess a b = bytesBefore a b
  | [], [] => rfl
  | [], _ :: _ => rfl
  | _ :: _, [] => rfl
  | a :: x, b :: y => by simp only [Op.bytesLess, bytesBefore, less_before x y]
end Go.Proofs.YtpebhfjcakllmaaGreat
namespace Go.Proofs.YtpebhfjcakllmaaGreat
open Go.RowKit Mem Be Go.Maps
set_option maxRecDepth 10000
set_option maxHeartbeats 1000000
set_option linter.unusedVariables false
abbrev kE (x : EntP) : List UInt8 := x.k
abbrev kV (x : EV) : List UInt8 := x.1.k
def ofT (T : List EntP) (k : List UInt8) : EntP := (getK kE T k).getD (entN k)
def ofV (T : List EV) (k : List UInt8) : EV := (getK kV T k).getD (evN k)
theorem ofV_ent (T : List EV) (k : List UInt8) : (ofV T k).1 = ofT (T.map Prod.fst) k := by
  unfold ofV ofT
  rw [get_map (key := kV) (key' := kE) (f := Prod.fst) (fun x => rfl)]
  cases getK kV T k <;> rfl
theorem ofT_key (T : List EntP) (k : List UInt8) : (ofT T k).k = k := by
  unfold ofT
  cases h : getK kE T k with
  | none => rfl
  | some x => exact (get_some h).2
def Rv (v : Value) : Option (DataW Value × List MemPlace) := some (.held v, [])
def tbP (x : EV) : Lit × DataW Value := (.string x.1.k, .held (evV x))
def tbD (T : List EV) : DataW Value := .map (T.map tbP)
theorem law8 : Keyed Tryz.prog 9 := string_keyed Tryz.underlying9
theorem tb_any (T : List EV) (k : List UInt8) : Maps.has (tbD T) (.string k) = (getK kV T k).isSome := by
  unfold tbD getK
  rw [Maps.has_eq, List.any_map]
  induction T with
  | nil => rfl
  | cons x r ih =>
    rw [List.any_cons, List.find?_cons]
    cases h : (x.1.k == k)
    · rw [show ((fun p : Lit × DataW Value => p.1.sameKey (.string k)) ∘ tbP) x = false from h, ih]; rfl
    · rw [show ((fun p : Lit × DataW Value => p.1.sameKey (.string k)) ∘ tbP) x = true from h]; rfl
theorem tb_at (T : List EV) (k : List UInt8) (z : DataW Value) : (tbD T).atKey (.string k) z = match getK kV T k with | some x => .held (evV x) | none => z := by
  unfold tbD getK DataW.atKey
  simp only
  induction T with
  | nil => rfl
  | cons x r ih =>
    rw [List.map_cons, List.find?_cons, List.find?_cons]
    cases h : (x.1.k == k)
    · rw [show (tbP x).1.sameKey (.string k) = false from h]
      exact ih
    · rw [show (tbP x).1.sameKey (.string k) = true from h]; rfl
theorem tb_ins (x : EV) : ∀ T : List EV, DataW.insert (tbP x) (T.map tbP) = (insK kV x T).map tbP
  | [] => rfl
  | y :: r => by
    rw [List.map_cons]
    unfold DataW.insert insK
    rw [show (tbP x).1.before (tbP y).1 = bytesBefore x.1.k y.1.k from rfl]
    split
    · rfl
    · rw [tb_ins x r]; rfl
theorem tb_strike (k : List UInt8) (T : List EV) : ((T.map tbP).filter fun p => !p.1.sameKey (.string k)) = (delK kV k T).map tbP := by
  unfold delK
  rw [List.filter_map]
  rfl
theorem tb_put (T : List EV) (x : EV) : (tbD T).put (.string x.1.k) (.held (evV x)) = tbD (putK kV T x) := by
  show DataW.map (DataW.insert (tbP x) ((T.map tbP).filter fun p => !p.1.sameKey (.string x.1.k))) = _
  rw [tb_strike, tb_ins]; rfl
theorem tb_del (T : List EV) (k : List UInt8) : (tbD T).del (.string k) = tbD (delK kV k T) := by
  show DataW.map ((T.map tbP).filter fun p => !p.1.sameKey (.string k)) = _
  rw [tb_strike]; rfl
theorem tb_size (T : List EV) : Maps.size (tbD T) = T.length := by unfold tbD; rw [Maps.size_eq, List.length_map]
theorem tb_keys (T : List EV) : strKeys (tbD T) = T.map kV := by
  unfold tbD strKeys
  simp only [List.map_map]
  rfl
/-- Block b is a map that has the entries of T. -/
def TabB (w : World) (b : Nat) (T : List EV) : Prop := w.ownsMap Tryz.prog 9 Rv b T.length (tbD T)
/-- A map, or nil, that has the entries of T. -/
def TabM (w : World) (mo : Option Nat) (T : List EV) : Prop := (mo = none ∧ T = []) ∨ ∃ b, mo = some b ∧ TabB w b T
theorem own_tight {w : World} {b n : Nat} {T : List EV} (h : w.ownsMap Tryz.prog 9 Rv b n (tbD T)) : TabB w b T := by
  obtain ⟨es, clock, hb, hF, hs, hD⟩ := h
  refine ⟨es, clock, hb, hF, ?_, hD⟩
  have := congrArg Maps.size hD
  rw [tb_size, Maps.size_eq, length_sorted, List.length_map] at this
  simp only [Array.length_toList] at this
  omega
theorem TabB.lt {w : World} {b : Nat} {T : List EV} (h : TabB w b T) : b < w.heap.size := World.ownsMap.lt h
theorem TabB.keep {w w' : World} {b : Nat} {T : List EV} (h : TabB w b T) (hk : w'.heap[b]? = w.heap[b]?) : TabB w' b T := by
  obtain ⟨es, clock, hb, r⟩ := h
  exact ⟨es, clock, hk.trans hb, r⟩
theorem TabM.keep {w w' : World} {mo : Option Nat} {T : List EV} (h : TabM w mo T) (hk : ∀ b, mo = some b → w'.heap[b]? = w.heap[b]?) : TabM w' mo T := by
  rcases h with h | ⟨b, h1, h2⟩
  · exact Or.inl h
  · exact Or.inr ⟨b, h1, h2.keep (hk b h1)⟩
theorem TabM.lt {w : World} {mo : Option Nat} {T : List EV} (h : TabM w mo T) : ∀ b, mo = some b → b < w.heap.size := by
  rcases h with ⟨h, _⟩ | ⟨b, h1, h2⟩
  · intro b hb; rw [h] at hb; cases hb
  · intro b' hb; rw [h1] at hb; injection hb with hb; subst hb; exact h2.lt
theorem TabM.below {w w' : World} {mo : Option Nat} {T : List EV} (h : TabM w mo T) (hb : Below w.heap.size w w') : TabM w' mo T := h.keep fun b he => hb.block b (h.lt b he)
theorem TabB.made (w : World) : TabB (w.alloc (.map #[] 0)) w.heap.size [] := World.ownsMap_made w Tryz.prog 9 Rv
/-- A map's block is no block of cells. -/
theorem TabB.ne {w : World} {b g : Nat} {T : List EV} {cs : Array Value} {t : TypeId} {f : Nat × Nat} (h : TabB w b T) (hg : w.heap[g]? = some (.cells cs t f)) : b ≠ g := by
  obtain ⟨es, clock, hb, _⟩ := h
  rintro rfl
  rw [hb] at hg; cases hg
theorem zeroE8 (w : World) : (zeroValue 43).run Tryz.prog w = .ok (evV (evN [])) w := by kernel_rfl
/-- What a look-up gives. -/
def lookV (T : List EV) (k : List UInt8) : Value := match getK kV T k with | some x => evV x | none => evV (evN [])
theorem key_run {k : List UInt8} (hk : k.length ≤ maxLen) : keyOf Tryz.prog 9 (.string ⟨k.toArray⟩) = some (.string k) := by
  have := Go.WideMaps.keyOf_string_mk (P := Tryz.prog) (k := 9) Tryz.underlying9 (s := ⟨k.toArray⟩) (by show k.toArray.size ≤ maxLen; simpa using hk)
  simpa using this
theorem touch_turned {w w' : World} {b : Nat} (h : w.mapTurned w' b) : Touch (fun k => k = b) w w' := ⟨h.grown.os, h.grown.tape, h.grown.output, h.grown.size, fun k hk hn => h.grown.block k hk fun e => hn (by injection e)⟩
end Go.Proofs.YtpebhfjcakllmaaGreat
namespace Go.Proofs.YtpebhfjcakllmaaGreat
open Go.RowKit Mem Be Go.Maps
set_option maxRecDepth 10000
set_option maxHeartbeats 2000000
set_option linter.unusedVariables false
/-- What a table's set leaves: its map, or a new one in the cell. -/
def SetP (g i : Nat) (mo : Option Nat) (T : List EV) (y : EV) (w : World) (e : Ending) (w' : World) : Prop :=
  e = .returned (.tuple #[]) ∧ ((∃ b, mo = some b ∧ TabB w' b (putK kV T y) ∧ Touch (fun k => k = b) w w') ∨
    (mo = none ∧ ∃ b, w.heap.size ≤ b ∧ TabB w' b (putK kV T y) ∧ Touch (fun _ => False) (w.setCell ⟨g, i, none⟩ (.map (some b))) w'))
theorem blk_not_map {w : World} {b g i : Nat} {T : List EV} {v : Value} (h : TabB w b T) (hc : w.cell? ⟨g, i, none⟩ = some v) : b ≠ g := by
  obtain ⟨es, clock, hb, _⟩ := h
  rintro rfl
  simp [World.cell?, hb] at hc
/-- An entry that a call hands back. -/
def IsE (x : EV) (w : World) (e : Ending) (w' : World) : Prop := e = .returned (evV x) ∧ Below w.heap.size w w'
end Go.Proofs.YtpebhfjcakllmaaGreat
namespace Go.Proofs.YtpebhfjcakllmaaGreat
open Go.RowKit Mem Be Go.Maps Go.Sort Go.Shelf
set_option maxRecDepth 10000
set_option maxHeartbeats 2000000
set_option linter.unusedVariables false
theorem sorts8 (m : Nat) : AnyZ.SortsIn Tryz.prog Tryz.sorted35_ren Fence.wide m :=
  ⟨fun blk off cap ss W hH hblk hsz => callsIn_wide.2 (AnyM.slices_Sort_string Tryz.sort57 blk off cap ss W hH hblk hsz),
   fun p cap W => callsIn_wide.2 (AnyM.slices_Sort_string_none Tryz.sort57 p cap W)⟩
def KeysP (T : List EV) (w : World) (e : Ending) (w' : World) : Prop :=
  ∃ A c, e = .returned (.slice A T.length c) ∧ w'.ownsRow w.heap.size 9 1 (.slice A T.length c) T.length ((T.map kV).map fun k => Value.string ⟨k.toArray⟩) ∧ Below w.heap.size w w'
end Go.Proofs.YtpebhfjcakllmaaGreat
namespace Go.Proofs.YtpebhfjcakllmaaGreat
open Go.RowKit Mem Be Go.Maps
set_option maxRecDepth 10000
set_option maxHeartbeats 2000000
set_option linter.unusedVariables false
end Go.Proofs.YtpebhfjcakllmaaGreat
namespace Go.Proofs.YtpebhfjcakllmaaGreat
open Go.RowKit Mem Be Go.Maps
set_option maxRecDepth 10000
set_option maxHeartbeats 2000000
set_option linter.unusedVariables false
theorem cell_keep {w w' : World} {p : Addr} (h : w'.heap[p.block]? = w.heap[p.block]?) : w'.cell? p = w.cell? p := by
  obtain ⟨b, o, s⟩ := p
  simp only at h
  simp only [World.cell?, h]
end Go.Proofs.YtpebhfjcakllmaaGreat
namespace Go.Proofs.YtpebhfjcakllmaaGreat
open Go.RowKit Mem Be Go.Maps
set_option maxRecDepth 10000
set_option maxHeartbeats 2000000
set_option linter.unusedVariables false
/-- A loop over a table under way: which keys are still to come, and how many. -/
def RngB (w : World) (b r n : Nat) (F : List EV) (left : Lit → Bool) (cnt : Nat) : Prop := w.ranges Tryz.prog 9 Rv b r n (tbD F) left cnt
theorem rng_next {w : World} {b r n cnt : Nat} {F : List EV} {left : Lit → Bool} (hS : SortT kV F) (h : RngB w b r n F left cnt) (ty : TypeId) :
    (cnt = 0 ∧ (∀ k, left k = false) ∧ (Instr.next (.pointer (some ⟨r, 0, none⟩)) false ty).run Tryz.prog w = .ok (.tuple #[.bool false]) w) ∨
    ∃ x w' cnt', x ∈ F ∧ left (.string x.1.k) = true ∧ (Instr.next (.pointer (some ⟨r, 0, none⟩)) false ty).run Tryz.prog w = .ok (.tuple #[.bool true, .string ⟨x.1.k.toArray⟩, evV x]) w' ∧ RngB w' b r n F (fun z => left z && !z.sameKey (.string x.1.k)) cnt' ∧ cnt' < cnt ∧
      w.grownBy w' (some r) ∧ w'.heap.size = w.heap.size ∧ (Instr.entry (.pointer (some ⟨r, 0, none⟩))).run Tryz.prog w' = .ok (.tuple #[.string ⟨x.1.k.toArray⟩, evV x]) w' := by
  rcases World.ranges.next h law8 ty with ⟨h0, hl, hrun⟩ | ⟨key, v, kl, y, w', cnt', hkey, hlk, hv, hat, hrun, hrg, hlt, hgr, hsz, hen⟩
  · exact Or.inl ⟨h0, hl, hrun⟩
  · obtain ⟨k, rfl, rfl, hkl⟩ := Maps.keyOf_str Tryz.underlying9 hkey
    have h1 := hat .nil
    rw [tb_at] at h1
    unfold Rv at hv
    injection hv with hv
    subst hv
    cases hg : getK kV F k with
    | none => rw [hg] at h1; cases h1
    | some x =>
      rw [hg] at h1
      simp only at h1
      injection h1 with h1
      obtain ⟨hx1, hx2⟩ := get_some hg
      subst h1
      have hx2 : x.1.k = k := hx2
      subst hx2
      exact Or.inr ⟨x, w', cnt', hx1, hlk, hrun, hrg, hlt, hgr, hsz, hen⟩
theorem RngB.keep {w w' : World} {b r n cnt : Nat} {F : List EV} {left : Lit → Bool} (h : RngB w b r n F left cnt) {row : Option Nat} (hg : w.grownBy w' row) (h1 : some b ≠ row) (h2 : some r ≠ row) : RngB w' b r n F left cnt := World.ranges.kept h hg h1 h2
theorem has_iff {F : List EV} {k : List UInt8} : Maps.has (tbD F) (.string k) = (getK kV F k).isSome := tb_any F k
/-- What a table holds when those of F that are no longer to come stand in place of T's. -/
def Part8 (T F D : List EV) (left : Lit → Bool) : Prop := SortT kV D ∧ ∀ k, getK kV D k = if (getK kV F k).isSome = true ∧ left (.string k) = false then getK kV F k else getK kV T k
theorem part_start {T F : List EV} (hT : SortT kV T) : Part8 T F T (Maps.has (tbD F)) := ⟨hT, fun k => by
  rw [has_iff]
  cases getK kV F k <;> simp⟩
theorem part_step {T F D : List EV} {left : Lit → Bool} {x : EV} (hF : SortT kV F) (h : Part8 T F D left) (hx : x ∈ F) : Part8 T F (putK kV D x) (fun z => left z && !z.sameKey (.string x.1.k)) := by
  refine ⟨put_sort h.1, fun k => ?_⟩
  rw [get_put, h.2 k]
  by_cases hk : kV x = k
  · subst hk
    rw [if_pos rfl, get_mem hF hx]
    simp [Lit.sameKey]
  · rw [if_neg hk]
    have : (Lit.string k).sameKey (.string x.1.k) = false := by
      show (k == x.1.k) = false
      simpa using fun e : k = x.1.k => hk e.symm
    simp only [this, Bool.not_false, Bool.and_true]
theorem part_end {T F D : List EV} {left : Lit → Bool} (hT : SortT kV T) (hF : SortT kV F) (h : Part8 T F D left) (hl : ∀ k, left k = false) : D = mergeT kV T F := by
  refine ext_tab h.1 (merge_sort hT) fun k => ?_
  rw [h.2 k, get_merge hF, hl]
  cases getK kV F k <;> simp
theorem tabB_grown {w w' : World} {b : Nat} {T : List EV} {row : Option Nat} (h : TabB w b T) (hg : w.grownBy w' row) (hr : some b ≠ row) : TabB w' b T := h.keep (hg.block b h.lt hr)
end Go.Proofs.YtpebhfjcakllmaaGreat
