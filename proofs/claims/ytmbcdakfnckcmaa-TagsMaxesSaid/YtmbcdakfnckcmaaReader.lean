/- A reader: what it holds, and what each of its calls answers and leaves. -/
import Derived.Test.YtmbcdakfnckcmaaPuts
namespace Go.Proofs.Ytmbcdakfnckcmaa
open Go.RowKit Mem Be
set_option maxRecDepth 10000
set_option maxHeartbeats 1000000
/-- Bytes that lie below block g, in a block of bytes. -/
structure RowB (w : World) (g : Nat) (A : Option Addr) (bs : List UInt8) : Prop where
  row : Row w g A (bs.map byteV)
  typ : ∀ ad, A = some ad → ad.block < g ∧ ∃ cur fr, w.heap[ad.block]? = some (.cells cur 5 fr)
section
variable {w w' : World} {g : Nat} {A : Option Addr} {bs : List UInt8}
theorem RowB.keep_ (h : RowB w g A bs) (hk : ∀ k, k < g → w'.heap[k]? = w.heap[k]?) : RowB w' g A bs :=
  ⟨h.row.keep fun p hp => World.cell?_of_block (hk p.block hp), fun ad e => by
    obtain ⟨h1, cur, fr, h2⟩ := h.typ ad e
    exact ⟨h1, cur, fr, (hk _ h1).trans h2⟩⟩
theorem RowB.drewN (h : RowB w g A bs) (n : Nat) : RowB (w.drewN n) g A bs := ⟨h.row.drewN n, h.typ⟩
theorem RowB.alloc (h : RowB w g A bs) (hB : g ≤ w.heap.size) (o : Obj) : RowB (w.alloc o) g A bs := h.keep_ fun k hk => Below.heap_alloc w o k (by omega)
theorem RowB.below (h : RowB w g A bs) (hb : Below g w w') : RowB w' g A bs := h.keep_ fun k hk => hb.block k hk
theorem RowB.grownBy {row : Option Nat} (h : RowB w g A bs) (hg : w.grownBy w' row) (hs : g ≤ w.heap.size) (hr : ∀ k, row = some k → g ≤ k) : RowB w' g A bs :=
  h.keep_ fun k hk => hg.block k (by omega) (fun e => by have := hr k e.symm; omega)
theorem RowB.set_ (h : RowB w g A bs) (i : Nat) (u : Value) : RowB (w.setCell ⟨g, i, none⟩ u) g A bs := h.keep_ fun k hk => Below.heap_setCell w _ u k (by show k ≠ g; omega)
/-- A block of another type is written. -/
theorem RowB.low {L : Nat} {t : TypeId} {cs : Array Value} (h : RowB w g A bs) (hL : Blk w L t cs) (ht : 5 ≠ t) (i : Nat) (u : Value) : RowB (w.setCell ⟨L, i, none⟩ u) g A bs := by
  have hne : ∀ ad, A = some ad → ad.block ≠ L := by
    intro ad e heq
    obtain ⟨_, cur, fr, h2⟩ := h.typ ad e
    unfold Blk at hL
    rw [heq, hL] at h2
    injection h2 with h2
    injection h2 with _ h3
    exact ht h3.symm
  refine ⟨?_, fun ad e => ?_⟩
  · rcases h.row with hn | ⟨b, o, e, hb, hc⟩
    · exact Or.inl hn
    · refine Or.inr ⟨b, o, e, hb, fun j hj => ?_⟩
      rw [World.cell?_setCell_other _ _ _ _ (fun e2 => hne _ e (by injection e2 with e2; exact e2.symm))]
      exact hc j hj
  · obtain ⟨h1, cur, fr, h2⟩ := h.typ ad e
    exact ⟨h1, cur, fr, (Below.heap_setCell w _ u _ (hne ad e)).trans h2⟩
theorem RowB.cut (h : RowB w g A bs) (k c : Nat) (hc : bs.length ≤ c) : RowB w g (cutA A k c) (bs.drop k) := by
  refine ⟨by rw [List.map_drop]; exact cut_row h.row k c (by simpa using hc), fun ad e => ?_⟩
  unfold cutA at e
  by_cases hk : c = k
  · rw [if_pos hk] at e; exact h.typ ad e
  · rw [if_neg hk] at e
    cases A with
    | none => cases e
    | some a =>
      injection e with e
      have hb : (a.add k).block = a.block := by unfold Addr.add; split <;> rfl
      rw [← e, hb]
      exact h.typ a rfl
theorem RowB.new {B n c : Nat} (ho : w.ownsRow B 5 1 (.slice A n c) n (bs.map byteV)) : RowB w w.heap.size A bs := by
  refine ⟨Row.of_own ho, fun ad e => ?_⟩
  subst e
  rcases ho.2 with ⟨hv, _⟩ | ⟨g, cap, cur, hv, _, hh, _⟩
  · cases hv
  · injection hv with hv
    injection hv with hv
    subst hv
    exact ⟨(Array.getElem?_eq_some_iff.1 hh).1, cur, (0, 0), hh⟩
end
/-- Block g is a reader that has bs left, and whose first error is e. -/
def Rd (w : World) (g : Nat) (bs : List UInt8) (e : Int) : Prop := ∃ A c, Blk w g 55 #[.slice A bs.length c, .int .i64 e] ∧ bs.length ≤ c ∧ c ≤ maxLen ∧ RowB w g A bs ∧ bs.length ≤ 1073741824
def Newed (w : World) (bs : List UInt8) (e : Ending) (w' : World) : Prop := ∃ g, e = .returned (.pointer (some ⟨g, 0, none⟩)) ∧ w.heap.size ≤ g ∧ Rd w' g bs 0 ∧ Below w.heap.size w w'
theorem new_any (B c n : Nat) (A : Option Addr) (bs : List UInt8) (hn : n = bs.length) (w : World) (h : Row w B A (bs.map byteV)) (hB : B ≤ w.heap.size) (hl : bs.length ≤ 1073741824) :
    Calls Try.prog 18 #[.slice A n c] w (Newed w bs) := by
  subst hn
  have HR := Lib.hid h
  clear h
  go_enter Try.func18, Try.ntmps18
  go_wp2_with fail
  refine (clone_any B c A bs bs.length rfl _ HR.out hB (by omega)).mono ?_
  rintro e w1 ⟨A1, c1, rfl, ho, hb⟩
  have HO := Lib.hid ho
  have HB := Lib.hid hb
  clear ho hb
  go_wp2
  go_ret
  refine ⟨w1.heap.size, rfl, HB.out.size, ⟨A1, c1, Blk.new w1 _ _, (own_cap HO.out).1, (own_cap HO.out).2, (RowB.new HO.out).alloc (Nat.le_refl _) _, hl⟩, HB.out.alloc HB.out.size _⟩
theorem failed_any (g : Nat) (bs : List UInt8) (e : Int) (w : World) (h : Rd w g bs e) : Calls Try.prog 28 #[.pointer (some ⟨g, 0, none⟩)] w fun E w' => E = .returned (.bool (e != 0)) ∧ w = w' := by
  obtain ⟨A, c, hb, _⟩ := h
  have h1 : w.cell? ⟨g, 1, none⟩ = some (.int .i64 e) := hb.cell 1
  clear hb
  go_enter Try.func28, Try.ntmps28
  go_wp2
  go_ret
  exact ⟨rfl, rfl⟩
def endZ (bs : List UInt8) (e : Int) : Int := if e = 0 then (if bs.length = 0 then 0 else 11) else e
theorem end_any (g : Nat) (bs : List UInt8) (e : Int) (w : World) (h : Rd w g bs e) : Calls Try.prog 20 #[.pointer (some ⟨g, 0, none⟩)] w fun E w' => E = .returned (.int .i64 (endZ bs e)) ∧ w = w' := by
  obtain ⟨A, c, hb, _⟩ := h
  have h0 : w.cell? ⟨g, 0, none⟩ = some (.slice A bs.length c) := hb.cell 0
  have h1 : w.cell? ⟨g, 1, none⟩ = some (.int .i64 e) := hb.cell 1
  have HE : Hid (endZ bs e = if e = 0 then (if bs.length = 0 then 0 else 11) else e) := Lib.hid rfl
  clear hb
  by_cases he : e = 0
  · subst he
    by_cases hl : bs.length = 0
    · have HV : Hid (endZ bs 0 = 0) := Lib.hid (by rw [HE.out, if_pos rfl, if_pos hl])
      rw [hl] at h0
      go_enter Try.func20, Try.ntmps20
      go_wp2
      go_ret
      exact ⟨ret_int HV.out.symm, rfl⟩
    · have HV : Hid (endZ bs 0 = 11) := Lib.hid (by rw [HE.out, if_pos rfl, if_neg hl])
      have hp : (0 : Int) < (bs.length : Int) := by omega
      go_enter Try.func20, Try.ntmps20
      go_wp2
      go_ret
      exact ⟨ret_int HV.out.symm, rfl⟩
  · have HV : Hid (endZ bs e = e) := Lib.hid (by rw [HE.out, if_neg he])
    have hn : (e != 0) = true := by simpa using he
    clear he
    go_enter Try.func20, Try.ntmps20
    go_wp2
    go_ret
    exact ⟨ret_int HV.out.symm, rfl⟩
theorem failed_no (g : Nat) (bs : List UInt8) (w : World) (h : Rd w g bs 0) : Calls Try.prog 28 #[.pointer (some ⟨g, 0, none⟩)] w fun E w' => E = .returned (.bool false) ∧ w = w' := failed_any g bs 0 w h
theorem failed_yes (g : Nat) (bs : List UInt8) (e : Int) (he : e ≠ 0) (w : World) (h : Rd w g bs e) : Calls Try.prog 28 #[.pointer (some ⟨g, 0, none⟩)] w fun E w' => E = .returned (.bool true) ∧ w = w' :=
  (failed_any g bs e w h).mono fun _ _ ⟨h1, h2⟩ => ⟨by rw [h1]; simp [he], h2⟩
theorem rd_set {w : World} {g : Nat} {bs : List UInt8} {A : Option Addr} {c : Nat} {e0 : Int} (hb : Blk w g 55 #[.slice A bs.length c, .int .i64 e0]) (hc : bs.length ≤ c) (hm : c ≤ maxLen) (hr : RowB w g A bs) (hl : bs.length ≤ 1073741824) (k : Nat) (er : Int) :
    Rd ((w.setCell ⟨g, 0, none⟩ (.slice (cutA A k c) (bs.length - k) (c - k))).setCell ⟨g, 1, none⟩ (.int .i64 er)) g (bs.drop k) er := by
  refine ⟨cutA A k c, c - k, ?_, by rw [List.length_drop]; omega, by omega, ?_, by rw [List.length_drop]; omega⟩
  · have := (hb.set_ 0 (.slice (cutA A k c) (bs.length - k) (c - k))).set_ 1 (.int .i64 er)
    rw [List.length_drop]
    exact this
  · exact ((hr.cut k c hc).set_ 0 _).set_ 1 _
theorem rd_grown (w : World) (g : Nat) (u v : Value) : w.grownBy ((w.setCell ⟨g, 0, none⟩ u).setCell ⟨g, 1, none⟩ v) (some g) := grown_trans (grown_set w g 0 u) (grown_set _ g 1 v)
theorem drew_grown (w : World) (n : Nat) (g : Option Nat) : w.grownBy (w.drewN n) g := ⟨rfl, rfl, rfl, Nat.le_refl _, fun _ _ _ => rfl⟩
/-- A call that reads: its answer, and the reader behind it; nothing else that was there is changed. -/
def Reads (g : Nat) (v : Value) (bs : List UInt8) (e : Int) (w : World) (E : Ending) (w' : World) : Prop := E = .returned v ∧ Rd w' g bs e ∧ w.grownBy w' (some g)
theorem reads_set {w w1 : World} {g : Nat} {bs : List UInt8} {A : Option Addr} {c : Nat} {e0 : Int} {v v' : Value} (hv : v = v') (hb : Blk w1 g 55 #[.slice A bs.length c, .int .i64 e0]) (hc : bs.length ≤ c) (hm : c ≤ maxLen) (hr : RowB w1 g A bs) (hl : bs.length ≤ 1073741824) (k : Nat) (er : Int) (hg : w.grownBy w1 (some g)) :
    Reads g v' (bs.drop k) er w (.returned v) ((w1.setCell ⟨g, 0, none⟩ (.slice (cutA A k c) (bs.length - k) (c - k))).setCell ⟨g, 1, none⟩ (.int .i64 er)) := by
  subst hv
  exact ⟨rfl, rd_set hb hc hm hr hl k er, grown_trans hg (rd_grown _ _ _ _)⟩
theorem readint_yes (g : Nat) (bs : List UInt8) (w : World) (h : Rd w g bs 0) : Calls Try.prog 34 #[.pointer (some ⟨g, 0, none⟩), .func (.func 38) #[] #[]] w
    (Reads g (.int .i64 (getN bs).1) (bs.drop (getN bs).2.1) (getN bs).2.2 w) := by
  have HF := Lib.hid h
  obtain ⟨A, c, hb, hc, hm, hr, hl⟩ := h
  have h0 : w.cell? ⟨g, 0, none⟩ = some (.slice A bs.length c) := hb.cell 0
  have h1 : w.cell? ⟨g, 1, none⟩ = some (.int .i64 0) := hb.cell 1
  have hz0 := hb.frozen 0
  have hz1 := hb.frozen 1
  have hle : (getN bs).2.1 ≤ bs.length := by rcases getN_err bs with h | h <;> omega
  obtain ⟨x, k, er, hg⟩ : ∃ x k er, getN bs = (x, k, er) := ⟨_, _, _, rfl⟩
  rw [hg] at hle
  have hcut := fun W => run_cut_l (P := Try.prog) (w := W) 34 5 _ _ Try.underlying34 info_b A bs.length c k hle
  have HG := Lib.hid hg
  have HB := Lib.hid hb
  have HR := Lib.hid hr
  have HC := Lib.hid hc
  have HM := Lib.hid hm
  clear hb hr hg hc hm
  go_enter Try.func34, Try.ntmps34
  go_wp2_with (first
    | (go_at_call 28; refine (failed_no g bs _ HF.out).mono ?_; rintro e w' ⟨rfl, rfl⟩)
    | (go_at_call 38; refine (number_any g c A bs _ HR.out.row HC.out HM.out).mono ?_; rw [HG.out]; rintro e w' ⟨rfl, nq, rfl⟩; unfold three))
  go_ret
  rw [HG.out]
  exact reads_set rfl (HB.out.drewN nq) HC.out HM.out (HR.out.drewN nq) hl k er (drew_grown w nq _)
theorem readint_no (g : Nat) (bs : List UInt8) (e0 : Int) (he : e0 ≠ 0) (F : Value) (w : World) (h : Rd w g bs e0) : Calls Try.prog 34 #[.pointer (some ⟨g, 0, none⟩), F] w (fun E w' => E = .returned (.int .i64 0) ∧ w = w') := by
  have HF := Lib.hid h
  have HE := Lib.hid he
  clear h he
  go_enter Try.func34, Try.ntmps34
  go_wp2_with (go_at_call 28; refine (failed_yes g bs e0 HE.out _ HF.out).mono ?_; rintro e w' ⟨rfl, rfl⟩)
  go_ret
  exact ⟨rfl, rfl⟩
/-- What a reader's number call answers: the number, what is left, what is wrong first. -/
def stepN (bs : List UInt8) (e : Int) : Int × List UInt8 × Int := if e = 0 then ((getN bs).1, bs.drop (getN bs).2.1, (getN bs).2.2) else (0, bs, e)
theorem below_fn (B c p : Nat) (A : Option Addr) (bs : List UInt8) (m : Int) (w : World) (hp : w.cell? ⟨p, 0, none⟩ = some (.int .i64 m)) (h : Row w B A (bs.map byteV)) (hc : bs.length ≤ c) (hm : c ≤ maxLen) :
    Calls Try.prog 35 #[.slice A bs.length c, .pointer (some ⟨p, 0, none⟩)] w (Num3 (getB m bs) w) := by
  obtain ⟨x, k, er, hg⟩ : ∃ x k er, getB m bs = (x, k, er) := ⟨_, _, _, rfl⟩
  have HR := Lib.hid h
  have HG := Lib.hid hg
  clear hg h
  go_enter Try.func35, Try.ntmps35
  go_wp2_with (go_at_call 33; refine (below_any B c A bs m _ HR.out hc hm).mono ?_; rw [HG.out]; rintro e w' ⟨rfl, nq, rfl⟩; unfold three)
  go_ret3
  rw [HG.out]
  exact num3_end rfl rfl rfl w _
theorem readbelow_yes (g p : Nat) (bs : List UInt8) (m : Int) (w : World) (h : Rd w g bs 0) (hp : w.cell? ⟨p, 0, none⟩ = some (.int .i64 m)) : Calls Try.prog 34 #[.pointer (some ⟨g, 0, none⟩), .func (.func 35) #[] #[.pointer (some ⟨p, 0, none⟩)]] w
    (Reads g (.int .i64 (getB m bs).1) (bs.drop (getB m bs).2.1) (getB m bs).2.2 w) := by
  have HF := Lib.hid h
  obtain ⟨A, c, hb, hc, hm, hr, hl⟩ := h
  have h0 : w.cell? ⟨g, 0, none⟩ = some (.slice A bs.length c) := hb.cell 0
  have h1 : w.cell? ⟨g, 1, none⟩ = some (.int .i64 0) := hb.cell 1
  have hz0 := hb.frozen 0
  have hz1 := hb.frozen 1
  have hle : (getB m bs).2.1 ≤ bs.length := by rcases getB_err m bs with h | h <;> omega
  obtain ⟨x, k, er, hg⟩ : ∃ x k er, getB m bs = (x, k, er) := ⟨_, _, _, rfl⟩
  rw [hg] at hle
  have hcut := fun W => run_cut_l (P := Try.prog) (w := W) 34 5 _ _ Try.underlying34 info_b A bs.length c k hle
  have HG := Lib.hid hg
  have HB := Lib.hid hb
  have HR := Lib.hid hr
  have HC := Lib.hid hc
  have HM := Lib.hid hm
  have HP := Lib.hid hp
  clear hb hr hg hc hm hp
  go_enter Try.func34, Try.ntmps34
  go_wp2_with (first
    | (go_at_call 28; refine (failed_no g bs _ HF.out).mono ?_; rintro e w' ⟨rfl, rfl⟩)
    | (go_at_call 35; refine (below_fn g c p A bs m _ HP.out HR.out.row HC.out HM.out).mono ?_; rw [HG.out]; rintro e w' ⟨rfl, nq, rfl⟩; unfold three))
  go_ret
  rw [HG.out]
  exact reads_set rfl (HB.out.drewN nq) HC.out HM.out (HR.out.drewN nq) hl k er (drew_grown w nq _)
def stepB (m : Int) (bs : List UInt8) (e : Int) : Int × List UInt8 × Int := if e = 0 then ((getB m bs).1, bs.drop (getB m bs).2.1, (getB m bs).2.2) else (0, bs, e)
theorem rd_alloc {w : World} {g : Nat} {bs : List UInt8} {e : Int} (h : Rd w g bs e) (o : Obj) : Rd (w.alloc o) g bs e := by
  obtain ⟨A, c, hb, hc, hm, hr, hl⟩ := h
  exact ⟨A, c, hb.alloc o, hc, hm, hr.alloc (Nat.le_of_lt hb.lt) o, hl⟩
theorem rd_lt {w : World} {g : Nat} {bs : List UInt8} {e : Int} (h : Rd w g bs e) : g < w.heap.size := by
  obtain ⟨A, c, hb, _⟩ := h
  exact hb.lt
theorem below_call (g : Nat) (bs : List UInt8) (m e0 : Int) (w : World) (h : Rd w g bs e0) : Calls Try.prog 31 #[.pointer (some ⟨g, 0, none⟩), .int .i64 m] w (Reads g (.int .i64 (stepB m bs e0).1) (stepB m bs e0).2.1 (stepB m bs e0).2.2 w) := by
  have HF := Lib.hid (rd_alloc h (.cells #[.int .i64 m] 3))
  clear h
  have HP : Hid ((w.alloc (.cells #[.int .i64 m] 3)).cell? ⟨w.heap.size, 0, none⟩ = some (.int .i64 m)) := Lib.hid ((Blk.new w 3 #[.int .i64 m]).cell 0)
  have HA := Lib.hid (World.grownBy_alloc w (.cells #[.int .i64 m] 3) (some g))
  have hmf : ∀ (fn : Fn) (first cap : Array Value) (w : World), (Instr.makeFunc fn first cap).run Try.prog w = .ok (.func fn first cap) w := fun _ _ _ _ => rfl
  by_cases he : e0 = 0
  · subst he
    have HS : Hid (stepB m bs 0 = ((getB m bs).1, bs.drop (getB m bs).2.1, (getB m bs).2.2)) := Lib.hid (if_pos rfl)
    rw [HS.out]
    go_enter Try.func31, Try.ntmps31
    go_wp2_with (go_at_call 34; refine (readbelow_yes g w.heap.size bs m _ HF.out HP.out).mono ?_; rintro e w1 ⟨rfl, hr, hg⟩; have HR := Lib.hid hr; have HG := Lib.hid hg; clear hr hg)
    go_ret
    exact ⟨rfl, HR.out, grown_trans HA.out HG.out⟩
  · have HS : Hid (stepB m bs e0 = (0, bs, e0)) := Lib.hid (if_neg he)
    rw [HS.out]
    have HE := Lib.hid he
    clear he
    go_enter Try.func31, Try.ntmps31
    go_wp2_with (go_at_call 34; refine (readint_no g bs e0 HE.out _ _ HF.out).mono ?_; rintro e w1 ⟨rfl, rfl⟩)
    go_ret
    exact ⟨rfl, HF.out, HA.out⟩
/-- What a row's read answers, in new memory. -/
def Row3 (r : List UInt8 × Nat × Int) (w : World) (e : Ending) (w' : World) : Prop := ∃ A c, e = .returned (.tuple #[.slice A r.1.length c, .int .i64 r.2.1, .int .i64 r.2.2]) ∧ w'.ownsRow w.heap.size 5 1 (.slice A r.1.length c) r.1.length (r.1.map byteV) ∧ Below w.heap.size w w'
theorem row3_nil (k : Nat) (er : Int) (w : World) (n : Nat) (r : List UInt8 × Nat × Int) (hr : r = ([], k, er)) : Row3 r w (.returned (.tuple #[.slice none 0 0, .int .i64 (k : Int), .int .i64 er])) (w.drewN n) := by
  subst hr
  exact ⟨none, 0, rfl, World.ownsRow_nil _ _ _ _, ⟨rfl, rfl, rfl, Nat.le_refl _, fun _ _ => rfl⟩⟩
theorem below_drew (w : World) (n B : Nat) : Below B w (w.drewN n) := ⟨rfl, rfl, rfl, Nat.le_refl _, fun _ _ => rfl⟩
theorem getR_of (bs : List UInt8) (x : Int) (k : Nat) (e : Int) (hg : getB 65537 bs = (x, k, e)) :
    getR bs = if ¬ e = 0 then ([], 0, e) else if (bs.length : Int) - k < x then ([], 0, 12) else ((bs.drop k).take x.toNat, k + x.toNat, 0) := by
  unfold getB at hg
  by_cases h : (getN bs).2.2 = 0 ∧ ((getN bs).1 < 0 ∨ 65537 ≤ (getN bs).1)
  · rw [if_pos h] at hg
    simp only [Prod.mk.injEq] at hg
    obtain ⟨rfl, rfl, rfl⟩ := hg
    unfold getR
    rw [if_neg (by simpa using h.1), if_pos h.2, if_pos (by decide)]
  · rw [if_neg h] at hg
    unfold getR
    rw [hg] at h ⊢
    simp only at h ⊢
    by_cases h1 : e = 0
    · rw [if_neg (fun h3 => h3 h1), if_neg (fun h2 => h ⟨h1, h2⟩)]
      exact (if_neg (fun h3 => h3 h1)).symm
    · rw [if_pos h1, if_pos h1]
set_option maxRecDepth 100000 in
theorem rowread_any (B c : Nat) (A : Option Addr) (bs : List UInt8) (w : World) (h : Row w B A (bs.map byteV)) (hB : B ≤ w.heap.size) (hc : bs.length ≤ c) (hm : c ≤ maxLen) (hln : bs.length ≤ 1073741824) :
    Calls Try.prog 30 #[.slice A bs.length c] w (Row3 (getR bs) w) := by
  have HR := Lib.hid h
  have he := getB_err 65537 bs
  obtain ⟨x, k, e, hg⟩ : ∃ x k e, getB 65537 bs = (x, k, e) := ⟨_, _, _, rfl⟩
  have hRB := getR_of bs x k e hg
  rw [hg] at he
  have HG := Lib.hid hg
  have HC : Hid (Calls Try.prog 33 #[.slice A bs.length c, .int .i64 65537] w (Num3 (x, k, e) w)) := Lib.hid (by rw [← HG.out]; exact below_any B c A bs 65537 w HR.out hc hm)
  clear h hg hm
  simp only at he
  by_cases h0 : e = 0
  · subst h0
    rw [if_neg (by simp)] at hRB
    have hb : 1 ≤ k ∧ k ≤ bs.length ∧ 0 ≤ x ∧ x < 65537 := by rcases he with ⟨_, h1, h2, h3, h4, _⟩ | ⟨_, _, h⟩ <;> omega
    obtain ⟨b1, b2, b3, b4⟩ := hb
    clear he
    by_cases h2 : (bs.length : Int) - k < x
    · rw [if_pos h2] at hRB
      have HX := Lib.hid hRB
      clear hRB
      go_enter Try.func30, Try.ntmps30
      go_wp2_with (go_at_call 33; refine HC.out.mono ?_; rintro e w' ⟨rfl, nq, rfl⟩; unfold three)
      go_ret3
      exact row3_nil 0 12 w _ _ HX.out
    · rw [if_neg h2] at hRB
      have hx := Int.toNat_of_nonneg b3
      obtain ⟨m, hm'⟩ : ∃ m, x.toNat = m := ⟨_, rfl⟩
      rw [hm'] at hx hRB
      subst hx
      obtain ⟨ys, hys⟩ : ∃ ys, (bs.drop k).take m = ys := ⟨_, rfl⟩
      rw [hys] at hRB
      have HX := Lib.hid hRB
      have hcut := fun W => run_cut_lh (P := Try.prog) (w := W) 34 5 _ _ Try.underlying34 info_b A bs.length c k (k + m) (by omega) (by omega)
      rw [Nat.add_sub_cancel_left, Int.natCast_add] at hcut
      have hle : (m : Int) ≤ (bs.length : Int) - k := by omega
      have hl : (bs.length : Int) ≤ 1073741824 := by omega
      have HY : Hid (Row w B (cutA A k c) (ys.map byteV)) := Lib.hid (by
        rw [← hys]
        have := take_row (cut_row HR.out k c (by simpa using hc)) m
        rw [List.map_take, List.map_drop]; exact this)
      have hlm : ys.length = m := by rw [← hys, List.length_take, List.length_drop]; omega
      have HL := Lib.hid hlm
      clear hRB hm' h2 hlm b4 hys
      go_enter Try.func30, Try.ntmps30
      go_wp2_with (first
        | (go_at_call 33; refine HC.out.mono ?_; rintro e w' ⟨rfl, nq, rfl⟩; unfold three)
        | (go_at_call 22; refine (clone_any B (c - k) (cutA A k c) ys m HL.out.symm _ (HY.out.drewN _) (by exact hB) (by rw [HL.out]; omega)).mono ?_; rintro e w1 ⟨A1, c1, rfl, ho, hb⟩; have HO := Lib.hid ho; have HB := Lib.hid hb; clear ho hb))
      go_ret3
      rw [HX.out]
      exact ⟨A1, c1, rfl, HO.out, (below_drew w nq _).trans HB.out⟩
  · rw [if_pos h0] at hRB
    have HX := Lib.hid hRB
    have hne : (e != 0) = true := by simpa using h0
    clear hRB he h0
    go_enter Try.func30, Try.ntmps30
    go_wp2_with (go_at_call 33; refine HC.out.mono ?_; rintro e w' ⟨rfl, nq, rfl⟩; unfold three)
    go_ret3
    exact row3_nil 0 e w _ _ HX.out
end Go.Proofs.Ytmbcdakfnckcmaa
