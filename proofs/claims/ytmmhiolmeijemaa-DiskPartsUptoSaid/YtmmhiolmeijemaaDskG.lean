/- slices.Grow of a row of the call's own; a disk's Append. -/
import Derived.Test.YtmmhiolmeijemaaDskD
import Derived.Test.YtmmhiolmeijemaaLater
namespace Go.Proofs.Ytmmhiolmeijemaa
open Go.RowKit Mem
set_option maxRecDepth 10000
set_option maxHeartbeats 2000000
set_option linter.unusedVariables false
instance laterNonempty6 (w : World) : Nonempty (Later w) := ⟨⟨w, Below.refl _ _⟩⟩
theorem grow_zeros {w : World} {A : Option Addr} {n c k q : Nat} {bs : List UInt8} (ho : w.ownsRow 0 5 1 (.slice A n c) n (bs.map byteV)) (hq : n + k = c + q) (h0 : 0 < q) (hs : n + k ≤ 4194304) :
    ∃ C w1, (Builtin.append_ #[22, 3] 22 #[.slice A c c, .int .i64 ((k : Int) - ((c : Int) - (n : Int)))]).run Try.prog w = .ok (.slice (some ⟨w.heap.size, 0, none⟩) (c + q) C) w1 ∧ n ≤ C ∧
      w1.ownsRow w.heap.size 5 1 (.slice (some ⟨w.heap.size, 0, none⟩) n C) n (bs.map byteV) ∧ Below w.heap.size w w1 := by
  obtain ⟨i0, hi0, hz0, hz1, hz2⟩ := info_parts info_b
  obtain ⟨olds, hold, hol, hot⟩ : ∃ olds : List Value, (Builtin.firstCells i0.size c (.slice A c c)).run Try.prog w.drew = .ok olds.toArray w.drew ∧ olds.length = c ∧ olds.take n = bs.map byteV := by
    have hl := ho.1
    rw [hz1]
    rcases ho.2 with ⟨hv, hn⟩ | ⟨g, cap, cur, hv, _, hh, hnc, _, hsz, htk⟩
    · injection hv with h1 h2 h3
      subst h1; subst h2; subst h3
      exact ⟨[], run_firstCells_none (P := Try.prog) w.drew 1 0 0 0, rfl, by simpa using (List.eq_nil_of_length_eq_zero (by simpa using hl)).symm⟩
    · injection hv with h1 h2 h3
      subst h1; subst h3
      rw [Nat.mul_one] at hsz htk
      refine ⟨cur.toList, run_firstCells_some (P := Try.prog) w.drew 1 c ⟨g, 0, none⟩ c c cur.toList (by simpa using hsz) (fun j v hj => ?_), by simpa using hsz, htk⟩
      have hc := cell_of_row w.drew g j cur 5 (0, 0) hh
      have ea : (⟨g, 0, none⟩ : Addr).add j = ⟨g, j, none⟩ := by
        unfold Addr.add; split
        · subst_vars; rfl
        · simp
      rw [ea, hc]
      simpa using hj
  have hfit : Builtin.nextslicecap (c + q) c * i0.bytes ≤ 281474976710656 := growslice_fits (by omega) (by rw [hz2]; omega)
  have hr := Lib.run_append_grow_zeros (P := Try.prog) w 22 3 22 5 i0 (.int .u8 0) .i64 .i64 Try.underlying22 Try.underlying3 hi0 hz0 A c c olds hold q h0 (by omega) (by omega) (by omega) (by rw [hz2]; omega) hfit
  rw [show (k : Int) - ((c : Int) - (n : Int)) = ((q : Nat) : Int) by omega]
  have hge := grownCap_ge w (c + q) c 5
  have hnC : n ≤ c := by
    rcases ho.2 with ⟨hv, hn⟩ | ⟨g, cap, cur, hv, _, _, hnc, _⟩
    · omega
    · injection hv with _ _ h3; omega
  refine ⟨_, _, hr, by omega, ⟨by rw [ho.1], Or.inr ⟨w.heap.size, _, _, rfl, Nat.le_refl _, heap_alloc_new w.drew _, by omega, grownCap_le_maxLen w _ _ _ (by unfold maxLen; omega), ?_, ?_⟩⟩, ((Below.refl _ _).drew).alloc (Nat.le_refl _) _⟩
  · rw [Array.size_append, Array.size_append, size_zeroCells, size_zeroCells]
    have e1 : (Value.int IntKind.u8 0).cells.size = 1 := rfl
    rw [e1]
    simp [hol]
    omega
  · rw [Nat.mul_one, Array.toList_append, Array.toList_append, List.append_assoc, List.take_append_of_le_length (by simpa [hol] using hnC)]
    simpa using hot
/-- A row of the call's own with room: as it was, or all of it in a new block. -/
def Grew (A : Option Addr) (bs : List UInt8) (w : World) (e : Ending) (w' : World) : Prop :=
  ∃ A' C, e = .returned (.slice A' bs.length C) ∧ w'.ownsRow 0 5 1 (.slice A' bs.length C) bs.length (bs.map byteV) ∧ (∀ a, A' = some a → A = some a ∨ a.block = w.heap.size) ∧ Below w.heap.size w w'
theorem growown_any (n c k : Nat) (A : Option Addr) (bs : List UInt8) (hn : n = bs.length) (w : World) (ho : w.ownsRow 0 5 1 (.slice A n c) n (bs.map byteV)) (hs : n + k ≤ 4194304) :
    Calls Try.prog 31 #[.slice A n c, .int .i64 (k : Int)] w (Grew A bs w) := by
  subst hn
  have hcc := own_cap ho
  have hnl : (bs.length : Int) + (k : Int) ≤ 4194304 := by omega
  have hci : (bs.length : Int) ≤ (c : Int) := by omega
  have hcm : (c : Int) ≤ 9223372036854775807 := by have := hcc.2; unfold maxLen at this; omega
  have hk0 : (0 : Int) ≤ (k : Int) := by omega
  have hb0 : (0 : Int) ≤ (bs.length : Int) := by omega
  have HO := Lib.hid ho
  by_cases hg : c < bs.length + k
  · obtain ⟨q, hq⟩ : ∃ q, bs.length + k = c + q := ⟨bs.length + k - c, by omega⟩
    obtain ⟨C, w1, hr, hC, ho1, hb1⟩ := grow_zeros ho hq (by omega) hs
    have hcut1 := fun W => run_cut_h (P := Try.prog) (w := W) 22 5 _ _ Try.underlying22 info_b A bs.length c c (Nat.le_refl _)
    have hcut2 := fun W => run_cut_h (P := Try.prog) (w := W) 22 5 _ _ Try.underlying22 info_b (some ⟨w.heap.size, 0, none⟩) (c + q) C bs.length hC
    have HZ := Lib.hid hr
    have HO1 := Lib.hid ho1
    have HB1 := Lib.hid hb1
    have hgi : (c : Int) < (bs.length : Int) + (k : Int) := by omega
    have hpos : (0 : Int) < (k : Int) - ((c : Int) - (bs.length : Int)) := by omega
    clear ho hr hC ho1 hb1 hg hq hs hcc
    go_enter Try.func31, Try.ntmps31
    go_wp2_with (at_builtin; refine Lib.wpList_append_run _ rfl _ _ _ _ rfl _ _ rfl rfl _ _ HZ.out ?_)
    go_ret
    exact ⟨_, C, rfl, ownBase HO1.out (Nat.zero_le _), fun a ha => Or.inr (by injection ha with ha; subst ha; rfl), HB1.out⟩
  · have hgi : (bs.length : Int) + (k : Int) ≤ (c : Int) := by omega
    clear ho hg hs hcc
    go_enter Try.func31, Try.ntmps31
    go_wp2
    go_ret
    exact ⟨A, c, rfl, HO.out, fun a ha => Or.inl ha, Below.refl _ _⟩
/-- A row that lies outside of the blocks of F. -/
def RowN (F : Nat → Prop) (w : World) (A : Option Addr) (xs : List Value) : Prop := xs = [] ∨ ∃ b o, A = some ⟨b, o, none⟩ ∧ ¬ F b ∧ b < w.heap.size ∧ ∀ j (h : j < xs.length), w.cell? ⟨b, o + j, none⟩ = some xs[j]
theorem RowN.touch {F : Nat → Prop} {w w' : World} {A : Option Addr} {xs : List Value} (h : RowN F w A xs) (ht : Touch F w w') : RowN F w' A xs := by
  rcases h with h | ⟨b, o, e, hf, hb, hc⟩
  · exact Or.inl h
  · exact Or.inr ⟨b, o, e, hf, Nat.lt_of_lt_of_le hb ht.size, fun j hj => (World.cell?_of_block (ht.block b hb hf)).trans (hc j hj)⟩
theorem RowN.row {F : Nat → Prop} {w : World} {A : Option Addr} {xs : List Value} (h : RowN F w A xs) : Row w w.heap.size A xs := by
  rcases h with h | ⟨b, o, e, hf, hb, hc⟩
  · exact Or.inl h
  · exact Or.inr ⟨b, o, e, hb, hc⟩
theorem RowN.of_low {F : Nat → Prop} {w : World} {A : Option Addr} {xs : List Value} {B : Nat} (h : Row w B A xs) (hB : B ≤ w.heap.size) (hF : ∀ k, F k → B ≤ k) : RowN F w A xs := by
  rcases h with h | ⟨b, o, e, hb, hc⟩
  · exact Or.inl h
  · exact Or.inr ⟨b, o, e, fun hf => by have := hF b hf; omega, by omega, hc⟩
theorem dk_tail {w w1 : World} {F : Nat → Prop} {g n m d : Nat} {L T T' : List UInt8} {A A' A1 : Option Addr} {c c' C1 : Nat} (h : DkB w F g L T n A c A' c') (hg : w.grownBy w1 (Value.slice A' m d).ownBlock)
    (ho : w1.ownsRow 0 5 1 (.slice A1 T'.length C1) T'.length (T'.map byteV)) (ha : ∀ a, A1 = some a → (∃ a', A' = some a' ∧ a'.block = a.block) ∨ w.heap.size ≤ a.block) (hmx : L.length + T'.length ≤ 4194304) :
    DkB (w1.setCell ⟨g, 1, none⟩ (.slice A1 T'.length C1)) (fun k => (F k ∨ w.heap.size ≤ k) ∧ k < w1.heap.size) g L T' n A c A1 C1 ∧ Touch F w (w1.setCell ⟨g, 1, none⟩ (.slice A1 T'.length C1)) := by
  have hrow : ∀ k, (Value.slice A' m d).ownBlock = some k → ∃ a', A' = some a' ∧ a'.block = k := fun k hk => by
    cases A' with
    | none => cases hk
    | some a => exact ⟨a, rfl, by simpa [Value.ownBlock] using hk⟩
  have hne : ∀ k, (Value.slice A' m d).ownBlock = some k → F k ∧ k ≠ g := fun k hk => by
    obtain ⟨a', h1, rfl⟩ := hrow k hk
    exact ⟨h.ft a' h1, ownNe h.ot h.blk (by decide) h1⟩
  have hb1 : Blk w1 g 55 #[.slice A L.length c, .slice A' T.length c', .int .i64 (n : Int)] := h.blk.grown hg (fun e => (hne g e.symm).2 rfl)
  have hb2 := hb1.set_ 1 (.slice A1 T'.length C1)
  have hk : ∀ k, k ≠ g → (w1.setCell ⟨g, 1, none⟩ (.slice A1 T'.length C1)).heap[k]? = w1.heap[k]? := fun k hk => Below.heap_setCell _ ⟨g, 1, none⟩ _ k hk
  have hsz : (w1.setCell ⟨g, 1, none⟩ (.slice A1 T'.length C1)).heap.size = w1.heap.size := by simp [World.setCell]
  have hin : ∀ a, A1 = some a → F a.block ∨ w.heap.size ≤ a.block := fun a h1 => by
    rcases ha a h1 with ⟨a', h2, h3⟩ | h2
    · exact Or.inl (h3 ▸ h.ft a' h2)
    · exact Or.inr h2
  refine ⟨⟨hb2, ?_, ?_, ?_, ?_, ?_, ?_, ?_, hmx⟩, ((Touch.refl F w).grown hg (fun k hk => Or.inl (hne k hk).1)).set_ (Or.inl h.fg) _⟩
  · refine ownKeep h.ol fun a h1 => (hk _ (ownNe h.ol h.blk (by decide) h1)).trans (hg.block _ (ownIn h.ol h1).2.1 fun e => ?_)
    obtain ⟨a', h2, h3⟩ := hrow _ e.symm
    exact h.ap a a' h1 h2 h3.symm
  · exact ownKeep ho fun a h1 => hk _ (ownNe ho hb1 (by decide) h1)
  · exact fun a h1 => ⟨Or.inl (h.fl a h1), Nat.lt_of_lt_of_le (h.lt _ (h.fl a h1)) hg.size⟩
  · exact fun a h1 => ⟨hin a h1, (ownIn ho h1).2.1⟩
  · intro a a1 h1 h2 e
    rcases ha a1 h2 with ⟨a', h3, h4⟩ | h3
    · exact h.ap a a' h1 h3 (e.trans h4.symm)
    · have := h.lt _ (h.fl a h1)
      omega
  · exact ⟨Or.inl h.fg, Nat.lt_of_lt_of_le (h.lt g h.fg) hg.size⟩
  · intro k hk'; rw [hsz]; exact hk'.2
theorem append_long (F : Nat → Prop) (g n m c : Nat) (L T : List UInt8) (A0 : Option Addr) (rs : List RowV) (hm : m = rs.length) (hml : m ≤ maxLen) (hx : ∀ r ∈ rs, r.2.1.length ≤ maxLen) (w : World) (h : DkAt w F g L T n)
    (hr : Row w w.heap.size A0 (rs.map rowV)) (hlong : 4194304 < L.length + T.length + (catB rs).length) :
    Calls Try.prog 20 #[.pointer (some ⟨g, 0, none⟩), .slice A0 m c] w fun e w' => e = .returned (.int .i64 3) ∧ Below w.heap.size w w' := by
  obtain ⟨A, cL, A', cT, h⟩ := h
  have l0 := later_cell (show w.cell? ⟨g, 0, none⟩ = some (.slice A L.length cL) from h.blk.cell 0)
  have l1 := later_cell (show w.cell? ⟨g, 1, none⟩ = some (.slice A' T.length cT) from h.blk.cell 1)
  have hmx := h.mx
  obtain ⟨q, hq⟩ : ∃ q, q + L.length + T.length = 4194304 := ⟨4194304 - L.length - T.length, by omega⟩
  have hLT : (L.length : Int) + (T.length : Int) ≤ 4194304 := by omega
  have hL0 : (0 : Int) ≤ (L.length : Int) := by omega
  have hT0 : (0 : Int) ≤ (T.length : Int) := by omega
  have hC := fun p : Later w => count_any m q w.heap.size c A0 rs hm hml hx (by omega) p.world (hr.below p.bel)
  rw [show cntZ (catB rs).length q = 0 from if_neg (by omega), show cntE (catB rs).length q = 3 from if_neg (by omega), show ((q : Nat) : Int) = 4194304 - (L.length : Int) - (T.length : Int) by omega] at hC
  have HC := Lib.hid hC
  clear h hC hq hmx hlong hr hx hml hm
  go_enter Try.func20, Try.ntmps20
  go_wp2_with fail
  refine wp_region_later (by kernel_rfl) (by kernel_rfl) ?_
  repeat (go_big_quiet_step (first
    | (go_at_call 30; exact later_same (HC.out _))))
  refine wpQuiet_nil ?_
  intro w' hw'
  obtain ⟨p, rfl⟩ := hw'
  go_wp2
  go_ret
  exact ⟨rfl, p.bel⟩
end Go.Proofs.Ytmmhiolmeijemaa
