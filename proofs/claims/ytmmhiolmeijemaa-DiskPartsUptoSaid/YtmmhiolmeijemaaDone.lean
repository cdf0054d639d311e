/- Something that is done to a disk, by the statements' own call; whether they are more than is looked at. -/
import Derived.Test.YtmmhiolmeijemaaDos
import Derived.Lib.SlBytesConst
namespace Go.Proofs.Ytmmhiolmeijemaa
open Go.RowKit Mem
set_option maxRecDepth 10000
set_option maxHeartbeats 2000000
set_option linter.unusedVariables false
/-- A disk behind something that is done to it, and what is told. -/
def doS (L T : List UInt8) (n : Nat) (k : Int) (bs : List UInt8) (kp : Int) : List UInt8 × List UInt8 × Nat × Int :=
  if k = 1 then (if 4194304 < L.length + T.length + bs.length then (L, T, n, 3) else (L, T ++ bs, n, 0))
  else if k = 2 then (L ++ T, [], upN T n, 0)
  else if k = 3 then (if 4194304 < bs.length then (L, T, n, 3) else (bs, [], n, 0))
  else if kp < 0 then (L, T, n, 2) else (L ++ T.take kp.toNat, [], n, 0)
def DoneP (F : Nat → Prop) (g : Nat) (s : List UInt8 × List UInt8 × Nat × Int) (w : World) (e : Ending) (w' : World) : Prop :=
  e = .returned (.int .i64 s.2.2.2) ∧ ∃ F', (∀ k, F' k → F k ∨ w.heap.size ≤ k) ∧ DkAt w' F' g s.1 s.2.1 s.2.2.1 ∧ Touch F w w'
theorem done_stay {F : Nat → Prop} {g n : Nat} {L T : List UInt8} {w w' : World} {v : Int} (h : DkAt w F g L T n) (hb : Below w.heap.size w w') : DoneP F g (L, T, n, v) w (.returned (.int .i64 v)) w' :=
  ⟨rfl, F, fun k hk => Or.inl hk, h.below hb, Touch.ofBelow hb⟩
theorem done_to {F : Nat → Prop} {g n : Nat} {L T : List UInt8} {w w1 w2 : World} {v : Int} {e : Ending} (hb : Below w.heap.size w w1) (h : DkTo (.int .i64 v) F g L T n w1 e w2) : DoneP F g (L, T, n, v) w e w2 := by
  obtain ⟨rfl, F', h1, h2, h3⟩ := h
  exact ⟨rfl, F', fun k hk => by rcases h1 k hk with h | h; exact Or.inl h; exact Or.inr (Nat.le_trans hb.size h), h2, (Touch.ofBelow hb).trans h3 (fun k hk => Or.inl hk)⟩
theorem rowN_blk {F : Nat → Prop} {w : World} {b : Nat} {t : TypeId} {cs : Array Value} (h : Blk w b t cs) (hf : ¬ F b) {xs : List Value} (hx : cs.toList = xs) : RowN F w (some ⟨b, 0, none⟩) xs := by
  subst hx
  refine Or.inr ⟨b, 0, rfl, hf, h.lt, fun j hj => ?_⟩
  rw [Nat.zero_add, h.cell j]
  simp
/-- One row of bytes is appended by a new slice of one row. -/
theorem append_one (p : Nat) (F : Nat → Prop) (g n : Nat) (L T : List UInt8) (A : Option Addr) (bs : List UInt8) (c : Nat) (w : World) (hp : p = w.heap.size) (h : DkAt w F g L T n) (hr : RowN F w A (bs.map byteV)) (hml : bs.length ≤ maxLen) :
    Calls Try.prog 20 #[.pointer (some ⟨g, 0, none⟩), .slice (some ⟨p, 0, none⟩) 1 1] (w.alloc (.cells #[.slice A bs.length c] 22))
      (DoneP F g (if 4194304 < L.length + T.length + bs.length then (L, T, n, 3) else (L, T ++ bs, n, 0)) w) := by
  subst hp
  have hb : Below w.heap.size w (w.alloc (.cells #[.slice A bs.length c] 22)) := (Below.refl _ _).alloc (Nat.le_refl _) _
  have hnf : ¬ F w.heap.size := fun hf => by have := h.lt _ hf; omega
  have hrow : RowN F (w.alloc (.cells #[.slice A bs.length c] 22)) (some ⟨w.heap.size, 0, none⟩) ([((A, bs, c) : RowV)].map rowV) := rowN_blk (Blk.new w _ _) hnf rfl
  have hcat : catB [((A, bs, c) : RowV)] = bs := by simp [catB]
  by_cases hl : 4194304 < L.length + T.length + bs.length
  · rw [if_pos hl]
    refine (append_long F g n 1 1 L T (some ⟨w.heap.size, 0, none⟩) [(A, bs, c)] rfl (by unfold maxLen; omega) (fun r hr => by
      have : r = (A, bs, c) := by simpa using hr
      subst this; exact hml) _ (h.below hb) hrow.row (by rw [hcat]; exact hl)).mono ?_
    rintro e w2 ⟨rfl, hb2⟩
    exact done_stay h (hb.trans (hb2.mono hb.size))
  · rw [if_neg hl]
    refine (append_any F g n 1 1 L T (some ⟨w.heap.size, 0, none⟩) [(A, bs, c)] rfl (by unfold maxLen; omega) _ (h.below hb) hrow (fun r hr' => by
      have : r = (A, bs, c) := by simpa using hr'
      subst this; exact hr.touch (Touch.ofBelow hb)) (by rw [hcat]; omega)).mono ?_
    intro e w2 h2
    rw [hcat] at h2
    exact done_to hb h2
set_option maxHeartbeats 150000 in
theorem done_any (F : Nat → Prop) (g n : Nat) (L T : List UInt8) (k kp : Int) (A : Option Addr) (bs : List UInt8) (m c : Nat) (hm : m = bs.length) (hml : m ≤ maxLen) (hn : n ≤ 4611686018427387904) (w : World) (h : DkAt w F g L T n) (hr : RowN F w A (bs.map byteV)) :
    Calls Try.prog 12 #[.pointer (some ⟨g, 0, none⟩), .agg #[.int .i64 k, .slice A m c, .int .i64 kp]] w (DoneP F g (doS L T n k bs kp) w) := by
  subst hm
  have hb : Below w.heap.size w (w.alloc (.cells #[.int .i64 k, .slice A bs.length c, .int .i64 kp] 34)) := (Below.refl _ _).alloc (Nat.le_refl _) _
  have HB := Lib.hid hb
  have HD := Lib.hid (h.below hb)
  have H := Lib.hid h
  have HR := Lib.hid (hr.touch (Touch.ofBelow (F := F) hb))
  have HML := Lib.hid hml
  have HN := Lib.hid hn
  obtain ⟨S, hS⟩ : ∃ S, doS L T n k bs kp = S := ⟨_, rfl⟩
  rw [hS]
  unfold doS at hS
  clear hb h hr hml hn
  by_cases h1 : k = 1
  · rw [if_pos h1] at hS
    subst h1
    have hA := append_one (w.heap.size + 1) F g n L T A bs c _ (by simp) HD.out HR.out HML.out
    rw [hS] at hA
    have HA := Lib.hid hA
    clear hA hS
    go_enter Try.func12, Try.ntmps12
    go_wp2_with fail
    refine HA.out.mono ?_
    rintro e w2 ⟨rfl, F', h1, h2, h3⟩
    have HX : Hid (DoneP F g S w (.returned (.int .i64 S.2.2.2)) w2) := Lib.hid ⟨rfl, F', fun k hk => by rcases h1 k hk with h | h; exact Or.inl h; exact Or.inr (Nat.le_trans HB.out.size h), h2, (Touch.ofBelow HB.out).trans h3 (fun k hk => Or.inl hk)⟩
    clear h1 h2 h3
    go_wp2
    go_ret
    exact HX.out
  rw [if_neg h1] at hS
  by_cases h2 : k = 2
  · rw [if_pos h2] at hS
    subst h2
    have HS := Lib.hid hS
    clear hS h1
    go_enter Try.func12, Try.ntmps12
    go_wp2_with fail
    refine (sync_any F g n L T HN.out _ HD.out).mono ?_
    intro e w2 hx
    have HX := Lib.hid (done_to HB.out hx)
    obtain ⟨rfl, _⟩ := hx
    go_wp2
    go_ret
    rw [← HS.out]
    exact HX.out
  rw [if_neg h2] at hS
  by_cases h3 : k = 3
  · rw [if_pos h3] at hS
    subst h3
    by_cases hl : 4194304 < bs.length
    · rw [if_pos hl] at hS
      have HS := Lib.hid hS
      clear hS h1 h2
      have hR := fun W => replace_long g c bs.length A hl W
      have HC := Lib.hid hR
      clear hR hl
      go_enter Try.func12, Try.ntmps12
      go_wp2_with fail
      refine (HC.out _).mono ?_
      rintro e w2 ⟨rfl, rfl⟩
      go_wp2
      go_ret
      rw [← HS.out]
      exact done_stay H.out HB.out
    · rw [if_neg hl] at hS
      have HS := Lib.hid hS
      have HC := Lib.hid (replace_any F g n bs.length _ c L T bs A rfl (by omega) _ HD.out HR.out.row (Nat.le_refl _))
      clear hS h1 h2 hl
      go_enter Try.func12, Try.ntmps12
      go_wp2_with fail
      refine HC.out.mono ?_
      intro e w2 hx
      have HX := Lib.hid (done_to HB.out hx)
      obtain ⟨rfl, _⟩ := hx
      go_wp2
      go_ret
      rw [← HS.out]
      exact HX.out
  rw [if_neg h3] at hS
  by_cases h4 : kp < 0
  · rw [if_pos h4] at hS
    have HS := Lib.hid hS
    have HC := Lib.hid (fun W => crash_neg F g n L T kp h4 W)
    clear hS h4
    go_enter Try.func12, Try.ntmps12
    go_wp2_with fail
    refine (HC.out _).mono ?_
    rintro e w2 ⟨rfl, rfl⟩
    go_wp2
    go_ret
    rw [← HS.out]
    exact done_stay H.out HB.out
  · rw [if_neg h4] at hS
    obtain ⟨p, rfl⟩ : ∃ p : Nat, kp = (p : Int) := ⟨kp.toNat, by omega⟩
    rw [Int.toNat_natCast] at hS
    have HS := Lib.hid hS
    have HC := Lib.hid (crash_any F g n p L T _ HD.out)
    clear hS h4
    go_enter Try.func12, Try.ntmps12
    go_wp2_with fail
    refine HC.out.mono ?_
    intro e w2 hx
    have HX := Lib.hid (done_to HB.out hx)
    obtain ⟨rfl, _⟩ := hx
    go_wp2
    go_ret
    rw [← HS.out]
    exact HX.out
def SomeB (w : World) (e : Ending) (w' : World) : Prop := (∃ b, e = .returned (.bool b)) ∧ w = w'
theorem longdo_any (n c : Nat) (A : Option Addr) (rs : List DoV) (hn : n = rs.length) (hnl : n ≤ maxLen) (w : World) (h : InD w A rs) :
    Calls Try.prog 9 #[.slice A n c] w (SomeB w) := by
  have HR := Lib.hid (h w (Below.refl _ _))
  have HN := Lib.hid hn
  have hni : (n : Int) ≤ 9223372036854775807 := by unfold maxLen at hnl; omega
  clear h hn hnl
  go_enter Try.func9, Try.ntmps9
  go_wp2
  go_loop [3, 4] (fun z i => ∃ k : Nat, k ≤ n ∧ i = .int .i64 k ∧ ∃ q : Int, z = .int .i64 q) (fun _ i => n - (intOf i).toNat)
  case atStart => exact ⟨0, by omega, rfl, 0, rfl⟩
  case round =>
    obtain ⟨k, hk, rfl, q, rfl⟩ := hrel
    by_cases hlt : k < n
    · have hk1 : k < rs.length := by rw [← HN.out]; exact hlt
      obtain ⟨b, o, rfl, _, hc⟩ := dos_open HR.out.1 (by omega)
      have hcell := (hc k hk1).2.1
      have hxl := (HR.out.2 rs[k] (List.getElem_mem hk1)).row.2
      obtain ⟨⟨kd, ⟨A1, y1, c1⟩, kp⟩, hy1⟩ : ∃ y, rs[k] = y := ⟨_, rfl⟩
      rw [hy1] at hcell hxl
      unfold rowV at hcell
      simp only at hcell hxl
      have hyl : (y1.length : Int) ≤ 9223372036854775807 := by have h1 := hxl.1; have h2 := hxl.2; unfold maxLen at h2; omega
      have hki : (0 : Int) ≤ (k : Int) := by omega
      have hki2 : (k : Int) < (n : Int) := by omega
      clear hc hy1 hxl
      go_wp2
      go_round
      case rel => exact ⟨k + 1, by omega, by go_num, _, rfl⟩
      case measure => simp [intOf]; omega
    · obtain rfl : k = n := by omega
      go_wp2
      go_ret
      exact ⟨⟨_, rfl⟩, rfl⟩
def IsT6 (v : Bool) (w : World) (e : Ending) (w' : World) : Prop := e = .returned (.bool v) ∧ Below w.heap.size w w'
theorem rowN_new {F : Nat → Prop} {w : World} {t : TypeId} {m : Nat × Nat} {cs : Array Value} {xs : List Value} (p : Nat) (hp : p = w.heap.size) (hf : ¬ F p) (hx : cs.toList = xs) : RowN F (w.alloc (.cells cs t m)) (some ⟨p, 0, none⟩) xs := by
  subst hp; subst hx
  refine Or.inr ⟨w.heap.size, 0, rfl, hf, by simp, fun j hj => ?_⟩
  have := cell_of_row (w.alloc (.cells cs t m)) w.heap.size j cs t m (heap_alloc_new w _)
  rw [Nat.zero_add, this]
  simp
theorem RowN.alloc {F : Nat → Prop} {w : World} {A : Option Addr} {xs : List Value} (h : RowN F w A xs) (o : Obj) : RowN F (w.alloc o) A xs := h.touch ((Touch.refl F w).alloc o)
theorem append_ab (F : Nat → Prop) (g n : Nat) (w : World) (h : DkAt w F g [] [] n) :
    Calls Try.prog 20 #[.pointer (some ⟨g, 0, none⟩), .slice (some ⟨w.heap.size + 1 + 1, 0, none⟩) 2 2]
      (((w.alloc (.cells #[.int .u8 97] 5 (1, 2))).alloc (.cells #[.int .u8 98] 5 (1, 2))).alloc (.cells #[.slice (some ⟨w.heap.size, 0, none⟩) 1 1, .slice (some ⟨w.heap.size + 1, 0, none⟩) 1 1] 22))
      (DoneP F g ([], [97, 98], n, 0) w) := by
  have hb : Below w.heap.size w (((w.alloc (.cells #[.int .u8 97] 5 (1, 2))).alloc (.cells #[.int .u8 98] 5 (1, 2))).alloc (.cells #[.slice (some ⟨w.heap.size, 0, none⟩) 1 1, .slice (some ⟨w.heap.size + 1, 0, none⟩) 1 1] 22)) :=
    (((Below.refl _ _).alloc (Nat.le_refl _) _).alloc (by simp) _).alloc (by simp; omega) _
  have hf : ∀ k, w.heap.size ≤ k → ¬ F k := fun k hk hf => by have := h.lt k hf; omega
  exact (append_any F g n 2 2 [] [] (some ⟨w.heap.size + 1 + 1, 0, none⟩) [(some ⟨w.heap.size, 0, none⟩, [97], 1), (some ⟨w.heap.size + 1, 0, none⟩, [98], 1)] rfl (by unfold maxLen; omega) _ (h.below hb)
    (rowN_new _ (by simp) (hf _ (by omega)) rfl) (fun r hr => by
      rcases (by simpa using hr : r = (some ⟨w.heap.size, 0, none⟩, [97], 1) ∨ r = (some ⟨w.heap.size + 1, 0, none⟩, [98], 1)) with rfl | rfl
      · exact ((rowN_new _ rfl (hf _ (by omega)) rfl).alloc _).alloc _
      · exact (rowN_new _ (by simp) (hf _ (by omega)) rfl).alloc _) (by simp [catB])).mono fun e w2 hx => done_to hb hx
theorem append_cde (F : Nat → Prop) (g n : Nat) (w : World) (h : DkAt w F g [97, 98] [] n) :
    Calls Try.prog 20 #[.pointer (some ⟨g, 0, none⟩), .slice (some ⟨w.heap.size + 1, 0, none⟩) 1 1]
      ((w.alloc (.cells #[.int .u8 99, .int .u8 100, .int .u8 101] 5 (3, 4))).alloc (.cells #[.slice (some ⟨w.heap.size, 0, none⟩) 3 3] 22))
      (DoneP F g ([97, 98], [99, 100, 101], n, 0) w) := by
  have hb : Below w.heap.size w ((w.alloc (.cells #[.int .u8 99, .int .u8 100, .int .u8 101] 5 (3, 4))).alloc (.cells #[.slice (some ⟨w.heap.size, 0, none⟩) 3 3] 22)) :=
    ((Below.refl _ _).alloc (Nat.le_refl _) _).alloc (by simp) _
  have hf : ∀ k, w.heap.size ≤ k → ¬ F k := fun k hk hf => by have := h.lt k hf; omega
  exact (append_any F g n 1 1 [97, 98] [] (some ⟨w.heap.size + 1, 0, none⟩) [(some ⟨w.heap.size, 0, none⟩, [99, 100, 101], 3)] rfl (by unfold maxLen; omega) _ (h.below hb)
    (rowN_new _ (by simp) (hf _ (by omega)) rfl) (fun r hr => by
      have : r = (some ⟨w.heap.size, 0, none⟩, [99, 100, 101], 3) := by simpa using hr
      subst this
      exact (rowN_new _ rfl (hf _ (by omega)) rfl).alloc _) (by simp [catB])).mono fun e w2 hx => done_to hb hx
/-- What lasts is below what the disk stands in. -/
def NewF (w : World) (F : Nat → Prop) : Prop := ∀ k, F k → w.heap.size ≤ k
theorem newF_step {w w1 : World} {F F' : Nat → Prop} (h : NewF w F) (hs : w.heap.size ≤ w1.heap.size) (h' : ∀ k, F' k → F k ∨ w1.heap.size ≤ k) : NewF w F' := fun k hk => by
  rcases h' k hk with h1 | h1
  · exact h k h1
  · omega
theorem known6_any (w : World) : Calls Try.prog 10 #[] w (IsT6 true w) := by
  have kc := fun (w : World) (C : Array Value) (n c : Nat) => Lib.run_convert_bytes_const (P := Try.prog) w 22 5 C n c Try.underlying22 Try.underlying5
  go_enter Try.func10, Try.ntmps10
  go_wp2_with fail
  refine (newdk_any w).mono ?_
  rintro e w1 ⟨g, F, rfl, hF, hd, hb⟩
  have HF := Lib.hid hF
  have HD := Lib.hid hd
  have HB := Lib.hid hb
  simp only [id]
  clear hF hd hb
  have k2 : (convert 22 22 (.slice (some ⟨w1.heap.size + 1, 0, none⟩) 1 1)).run Try.prog ((w1.alloc (.cells #[.int .u8 97] 5 (1, 2))).alloc (.cells #[.int .u8 98] 5)) =
      .ok (.slice (some ⟨w1.heap.size + 1, 0, none⟩) 1 1) ((w1.alloc (.cells #[.int .u8 97] 5 (1, 2))).alloc (.cells #[.int .u8 98] 5 (1, 2))) := by
    have := kc (w1.alloc (.cells #[.int .u8 97] 5 (1, 2))) #[.int .u8 98] 1 1
    simpa using this
  go_wp2_with fail
  refine (append_ab F g 0 w1 HD.out).mono ?_
  rintro e w2 ⟨rfl, F2, hf, hd, ht⟩
  have HB2 := Lib.hid (HB.out.trans (ht.below HB.out.size HF.out))
  have HF2 := Lib.hid (newF_step HF.out HB.out.size hf)
  have HD2 := Lib.hid hd
  simp only at HD2 ⊢
  clear hf hd ht k2 HF HD HB
  go_wp2_with fail
  refine (sync_any F2 g 0 [] [97, 98] (by omega) w2 HD2.out).mono ?_
  rintro e w3 ⟨rfl, F3, hf, hd, ht⟩
  have HB3 := Lib.hid (HB2.out.trans (ht.below HB2.out.size HF2.out))
  have HF3 := Lib.hid (newF_step HF2.out HB2.out.size hf)
  have HD3 : Hid (DkAt w3 F3 g [97, 98] [] 1) := Lib.hid hd
  clear hf hd ht HF2 HD2 HB2
  go_wp2_with fail
  refine (append_cde F3 g 1 w3 HD3.out).mono ?_
  rintro e w4 ⟨rfl, F4, hf, hd, ht⟩
  have HB4 := Lib.hid (HB3.out.trans (ht.below HB3.out.size HF3.out))
  have HF4 := Lib.hid (newF_step HF3.out HB3.out.size hf)
  have HD4 : Hid (DkAt w4 F4 g [97, 98] [99, 100, 101] 1) := Lib.hid hd
  simp only
  clear hf hd ht HF3 HD3 HB3
  go_wp2_with fail
  refine (crash_any F4 g 1 1 [97, 98] [99, 100, 101] w4 HD4.out).mono ?_
  rintro e w5 ⟨rfl, F5, hf, hd, ht⟩
  have HB5 := Lib.hid (HB4.out.trans (ht.below HB4.out.size HF4.out))
  have HF5 := Lib.hid (newF_step HF4.out HB4.out.size hf)
  have HD5 : Hid (DkAt w5 F5 g [97, 98, 99] [] 1) := Lib.hid hd
  clear hf hd ht HF4 HD4 HB4
  go_wp2_with fail
  refine (lasting_any F5 g 1 [97, 98, 99] [] w5 HD5.out).mono ?_
  rintro e w6 ⟨A6, c6, rfl, ho, hb⟩
  have HB6 := Lib.hid (HB5.out.trans (hb.mono HB5.out.size))
  have HD6 := Lib.hid (HD5.out.below hb)
  have hv : (convert 22 9 (.slice A6 3 c6)).run Try.prog w6 = .ok (.string ⟨#[97, 98, 99]⟩) w6 := conv_row (P := Try.prog) (bs := [97, 98, 99]) c6 22 9 5 Try.underlying22 Try.underlying5 Try.underlying9 (Row.of_own ho)
  clear ho hb HF5 HD5 HB5
  go_wp2_with fail
  refine (syncs_any F5 g 1 [97, 98, 99] [] w6 HD6.out).mono ?_
  rintro e w' ⟨rfl, rfl⟩
  go_wp2_with fail
  refine (sync_nil w6).mono ?_
  rintro e w' ⟨rfl, rfl⟩
  go_wp2
  go_ret
  exact ⟨rfl, HB6.out⟩
end Go.Proofs.Ytmmhiolmeijemaa
