/- ClT: The statements' own calls on a table: something that is done; whether cells, replies, are the same; how much things have in them. -/
import Derived.Test.YtpebhfjcakllmaaGreatClQ
import Derived.Test.YtpebhfjcakllmaaGreatClN
import Derived.Test.YtpebhfjcakllmaaGreatClC
import Derived.Test.YtpebhfjcakllmaaGreatClD
import Derived.Test.YtpebhfjcakllmaaGreatClL
import Derived.Test.YtpebhfjcakllmaaGreatSames
import Derived.BigQuiet
namespace Go.Proofs.YtpebhfjcakllmaaGreat
open Go.RowKit Go.ChangeShapes Mem Be Word Rg Go.Maps
set_option maxRecDepth 100000
set_option maxHeartbeats 4000000
set_option linter.unusedVariables false
set_option linter.unusedSimpArgs false
def SomeI (w : World) (e : Ending) (w' : World) : Prop := (∃ n : Int, e = .returned (.int .i64 n)) ∧ Below w.heap.size w w'
theorem d11_len {w : World} {B : Nat} {r : D11} (h : D11Ok w B r) : (r.e.1.v.length : Int) ≤ 9223372036854775807 ∧ (r.e.1.k.length : Int) ≤ 9223372036854775807 := by
  have h1 := h.cap; have h2 := h.capm; have h3 := h.key
  unfold maxLen at h2 h3
  exact ⟨by omega, by omega⟩
theorem long11_any (n c : Nat) (A : Option Addr) (rs : List D11) (hn : n = rs.length) (hnl : n ≤ maxLen) (w : World) (h : InD11 w A rs) :
    Calls Tryz.prog 4 #[.slice A n c] w (SomeI w) := by
  have HR := Lib.hid h
  have HN := Lib.hid hn
  have hni : (n : Int) ≤ 9223372036854775807 := by unfold maxLen at hnl; omega
  have hni0 : (0 : Int) ≤ (n : Int) := by omega
  clear h hn hnl
  go_enter Tryz.func4, Tryz.ntmps4
  go_wp2
  go_loopw [3, 4] (fun z i wr => ∃ k : Nat, k ≤ n ∧ i = .int .i64 k ∧ (∃ q : Int, z = .int .i64 q) ∧ Hid (Below w.heap.size w wr)) (fun _ i _ => n - (intOf i).toNat)
  case atStart => exact ⟨0, by omega, rfl, ⟨0, rfl⟩, Lib.hid (Below.refl _ _)⟩
  case round =>
    obtain ⟨k, hk, rfl, ⟨q, rfl⟩, HB⟩ := hrel
    by_cases hlt : k < n
    · have hk1 : k < rs.length := by rw [← HN.out]; exact hlt
      obtain ⟨hrow, hok⟩ := HR.out wr HB.out
      obtain ⟨b, o, rfl, hb, hc⟩ := d11s_open hrow (by omega)
      have hl := d11_len (hok rs[k] (List.getElem_mem hk1))
      have l1 := later_cell (hc k hk1 1 _ rfl)
      have l6 := later_cell (hc k hk1 6 _ rfl)
      have hkl : ((⟨rs[k].e.1.k.toArray⟩ : ByteArray).size : Int) ≤ 9223372036854775807 := by
        show ((rs[k].e.1.k.toArray.size : Nat) : Int) ≤ _
        rw [List.size_toArray]; exact hl.2
      have hvl := hl.1
      have hki : (0 : Int) ≤ (k : Int) := by omega
      have hki2 : (k : Int) < (n : Int) := by omega
      clear hc hrow hok hl
      go_wp2_with fail
      refine wp_region_later (by kernel_rfl) (by kernel_rfl) ?_
      repeat (go_big_quiet_step (fail))
      refine wpQuiet_nil ?_
      intro w' hw'
      obtain ⟨p, rfl⟩ := hw'
      go_wp2
      go_roundw
      case rel => exact ⟨k + 1, by omega, by go_num, ⟨_, rfl⟩, Lib.hid (HB.out.trans (p.bel.mono HB.out.size))⟩
      case measure => simp [intOf]; omega
    · obtain rfl : k = n := by omega
      go_wp2
      go_ret
      exact ⟨⟨_, rfl⟩, HB.out⟩
theorem refsame_self11 (k : ByteArray) (s u o : Int) (h : Bool) (A A' : Option Addr) (xs : List UInt8) (c c' n n' : Nat) (hn : n = xs.length) (hn' : n' = xs.length) (w : World) (h1 : ValOk w h A xs c) (h2 : ValOk w h A' xs c') :
    Calls Tryz.prog 34 #[.agg #[.string k, .int .i64 s, .int .i64 u, .int .i64 o, .bool h, .slice A n c], .agg #[.string k, .int .i64 s, .int .i64 u, .int .i64 o, .bool h, .slice A' n' c']] w (IsB true w) := by
  have := refsame_ent k k s u o s u o h h A A' xs xs c c' n n' hn hn' w h1 h2
  rw [show sameE k k s u o s u o h h xs xs = true by unfold sameE eqT sameV; simp] at this; exact this
/-- Cells that lie in a row, each with its value. -/
structure CeV (w : World) (A : Option Addr) (us : List CV) : Prop where
  row : Row w w.heap.size A (cellsC us)
  val : ∀ x ∈ us, ValOk w x.1.e.has x.2.1 x.1.e.v x.2.2
theorem CeV.below {w w' : World} {A : Option Addr} {us : List CV} (h : CeV w A us) (hb : Below w.heap.size w w') : CeV w' A us := ⟨(h.row.below hb).more hb.size, fun x hx => (h.val x hx).below hb⟩
theorem samecells_true (n c m c' : Nat) (A A' : Option Addr) (us vs : List CV) (hn : n = us.length) (hm : m = vs.length) (he : us.map Prod.fst = vs.map Prod.fst) (hl : n ≤ 1073741824) (w : World) (h : CeV w A us) (h' : CeV w A' vs) :
    Calls Tryz.prog 12 #[.slice A n c, .slice A' m c'] w (IsB true w) := by
  have hlen : vs.length = us.length := by have := congrArg List.length he; simpa using this.symm
  have hmn : m = n := by omega
  subst hmn
  have HN := Lib.hid hn
  have HM := Lib.hid hm
  have HE := Lib.hid he
  have HU := Lib.hid h
  have HV := Lib.hid h'
  have hni : (m : Int) ≤ 1073741824 := by omega
  have hni0 : (0 : Int) ≤ (m : Int) := by omega
  clear hn hm he h h' hl hlen
  go_enter Tryz.func12, Tryz.ntmps12
  go_wp2
  go_loopw [5] (fun i wr => ∃ k : Nat, k ≤ m ∧ i = .int .i64 k ∧ Hid (Below w.heap.size w wr)) (fun i _ => m - (intOf i).toNat)
  case atStart => exact ⟨0, by omega, rfl, Lib.hid (Below.refl _ _)⟩
  case round =>
    obtain ⟨k, hk, rfl, HB⟩ := hrel
    by_cases hlt : k < m
    · have hk1 : k < us.length := by rw [← HN.out]; exact hlt
      have hk2 : k < vs.length := by rw [← HM.out]; exact hlt
      obtain ⟨b, o, rfl, hb, hc⟩ := cells_open (HU.out.below HB.out).row (by omega)
      obtain ⟨b', o', rfl, hb', hc'⟩ := cells_open (HV.out.below HB.out).row (by omega)
      have hc := hc k hk1
      have hc' := hc' k hk2
      have v1 := (HU.out.below HB.out).val us[k] (List.getElem_mem hk1)
      have v2 := (HV.out.below HB.out).val vs[k] (List.getElem_mem hk2)
      have hee : (us[k]).1 = (vs[k]).1 := by
        have := List.getElem_of_eq HE.out (i := k) (by simpa using hk1)
        simpa using this
      obtain ⟨⟨⟨x, wh, cl, us'⟩, A1, c1⟩, hx⟩ : ∃ p, us[k]'hk1 = p := ⟨_, rfl⟩
      obtain ⟨⟨⟨y, wh2, cl2, us2⟩, A2, c2⟩, hy⟩ : ∃ p, vs[k]'hk2 = p := ⟨_, rfl⟩
      rw [hx] at hc v1 hee
      rw [hy] at hc' v2 hee
      simp only [CP.mk.injEq] at hc hc' v1 v2 hee
      obtain ⟨rfl, rfl, rfl, rfl⟩ := hee
      have HC := Lib.hid (fun p : Later wr => refsame_self11 ⟨x.k.toArray⟩ x.s x.u x.o x.has A1 A2 x.v c1 c2 x.v.length x.v.length rfl rfl p.world (v1.below p.bel) (v2.below p.bel))
      have hc0 := hc 0 _ rfl
      have hd0 := hc' 0 _ rfl
      rw [Nat.add_zero] at hc0 hd0
      have l0 := later_cell hc0
      have m0 := later_cell hd0
      have l1 := later_cell (hc 1 _ rfl)
      have m1 := later_cell (hc' 1 _ rfl)
      have l2 := later_cell (hc 2 _ rfl)
      have m2 := later_cell (hc' 2 _ rfl)
      have l3 := later_cell (hc 3 _ rfl)
      have m3 := later_cell (hc' 3 _ rfl)
      have l4 := later_cell (hc 4 _ rfl)
      have m4 := later_cell (hc' 4 _ rfl)
      have l5 := later_cell (hc 5 _ rfl)
      have m5 := later_cell (hc' 5 _ rfl)
      have l6 := later_cell (hc 6 _ rfl)
      have m6 := later_cell (hc' 6 _ rfl)
      have l7 := later_cell (hc 7 _ rfl)
      have m7 := later_cell (hc' 7 _ rfl)
      have l8 := later_cell (hc 8 _ rfl)
      have m8 := later_cell (hc' 8 _ rfl)
      have hki : (0 : Int) ≤ (k : Int) := by omega
      have hki2 : (k : Int) < (m : Int) := by omega
      have e1 : (wh != wh) = false := by simp
      have e2 : (cl != cl) = false := by simp
      have e3 : (us' != us') = false := by simp
      clear hc hc' hc0 hd0 hx hy v1 v2
      go_wp2_with fail
      refine wp_region_later (by kernel_rfl) (by kernel_rfl) ?_
      repeat (go_big_quiet_step (first
        | (go_at_call 34; exact later_of (HC.out _))))
      refine wpQuiet_nil ?_
      intro w' hw'
      obtain ⟨p, rfl⟩ := hw'
      go_wp2
      go_roundw
      case rel => exact ⟨k + 1, by omega, by go_num, Lib.hid (HB.out.trans (p.bel.mono HB.out.size))⟩
      case measure => simp [intOf]; omega
    · obtain rfl : k = m := by omega
      go_wp2
      go_ret
      exact ⟨rfl, HB.out⟩
theorem samereply_true (e : EntP) (wh : Bool) (t : Int) (A A' : Option Addr) (c c' : Nat) (w : World) (h : ValOk w e.has A e.v c) (h' : ValOk w e.has A' e.v c') :
    Calls Tryz.prog 11 #[repV ⟨e, wh, t⟩ A c, repV ⟨e, wh, t⟩ A' c'] w (IsB true w) := by
  have HAL : Hid (∀ o1 o2, Below w.heap.size w ((w.alloc o1).alloc o2)) := Lib.hid fun o1 o2 => ((Below.refl _ _).alloc (Nat.le_refl _) o1).alloc (by simp) o2
  have HC : Hid (∀ W, Below w.heap.size w W → Calls Tryz.prog 34 #[.agg #[.string ⟨e.k.toArray⟩, .int .i64 e.s, .int .i64 e.u, .int .i64 e.o, .bool e.has, .slice A e.v.length c], .agg #[.string ⟨e.k.toArray⟩, .int .i64 e.s, .int .i64 e.u, .int .i64 e.o, .bool e.has, .slice A' e.v.length c']] W (IsB true W)) := Lib.hid fun W hb => refsame_self11 ⟨e.k.toArray⟩ e.s e.u e.o e.has A A' e.v c c' e.v.length e.v.length rfl rfl W (h.below hb) (h'.below hb)
  have HX1 := Lib.hid ((Blk.new w 45 #[.string ⟨e.k.toArray⟩, .int .i64 e.s, .int .i64 e.u, .int .i64 e.o, .bool e.has, .slice A e.v.length c, .bool wh, .int .i64 t]).alloc (.cells #[.string ⟨e.k.toArray⟩, .int .i64 e.s, .int .i64 e.u, .int .i64 e.o, .bool e.has, (.slice A' e.v.length c'), .bool wh, .int .i64 t] 45))
  have HX2 := Lib.hid (blk_at (g' := w.heap.size + 1) (by simp) (Blk.new (w.alloc (.cells #[.string ⟨e.k.toArray⟩, .int .i64 e.s, .int .i64 e.u, .int .i64 e.o, .bool e.has, .slice A e.v.length c, .bool wh, .int .i64 t] 45)) 45 #[.string ⟨e.k.toArray⟩, .int .i64 e.s, .int .i64 e.u, .int .i64 e.o, .bool e.has, (.slice A' e.v.length c'), .bool wh, .int .i64 t]))
  have e1 : (wh == wh) = true := by simp
  have e2 : (t == t) = true := by simp
  clear h h'
  unfold repV
  go_enter Tryz.func11, Tryz.ntmps11
  go_wp2_with fail
  refine (HC.out _ (HAL.out _ _)).mono ?_
  rintro e' w2 ⟨rfl, hb⟩
  have HB := Lib.hid ((HAL.out _ _).trans (hb.mono (HAL.out _ _).size))
  have k1 := HX1.out.below hb HX1.out.lt
  have k2 := HX2.out.below hb HX2.out.lt
  have a6 := k1.is 6 _ rfl
  have a7 := k1.is 7 _ rfl
  have b6 := k2.is 6 _ rfl
  have b7 := k2.is 7 _ rfl
  clear hb k1 k2 HC HX1 HX2
  go_wp2_with fail
  go_ret
  exact ⟨by simp, HB.out⟩
theorem sameints_first (B B' c c' n : Nat) (A A' : Option Addr) (xs ys : List Int) (w : World) (h : Row w B A (xs.map iV)) (h' : Row w B' A' (ys.map iV)) (hn : n = xs.length) (hn' : n = ys.length) (h0 : 0 < n) (hl : n ≤ 1000000) (hx : ∀ (i : Nat) (h1 : i < xs.length) (h2 : i < ys.length), xs[i] ≠ ys[i]) :
    Calls Tryz.prog 14 #[.slice A n c, .slice A' n c'] w (IsB false w) := by
  have hx0 := hx 0 (by omega) (by omega)
  obtain ⟨b, o, rfl, _, hc⟩ := h.open_ (by simp; omega)
  obtain ⟨b', o', rfl, _, hc'⟩ := h'.open_ (by simp; omega)
  obtain ⟨u, hu⟩ : ∃ u, xs[0]'(by omega) = u := ⟨_, rfl⟩
  obtain ⟨v, hv⟩ : ∃ v, ys[0]'(by omega) = v := ⟨_, rfl⟩
  have d0 : w.cell? ⟨b, o, none⟩ = some (.int .i64 u) := by
    have := hc 0 (by simp; omega)
    rw [Nat.add_zero] at this
    rw [this, List.getElem_map]
    show some (Value.int .i64 (xs[0]'(by omega))) = _
    rw [hu]
  have d1 : w.cell? ⟨b', o', none⟩ = some (.int .i64 v) := by
    have := hc' 0 (by simp; omega)
    rw [Nat.add_zero] at this
    rw [this, List.getElem_map]
    show some (Value.int .i64 (ys[0]'(by omega))) = _
    rw [hv]
  rw [hu, hv] at hx0
  have l0 := later_cell d0
  have l1 := later_cell d1
  have e1 : (u != v) = true := by simpa using hx0
  have hni : (n : Int) ≤ 1000000 := by omega
  have hni0 : (0 : Int) < (n : Int) := by omega
  clear hc hc' h h' hx hn hn' h0 hl d0 d1 hu hv hx0
  go_enter Tryz.func14, Tryz.ntmps14
  go_wp2
  refine wp_loop_rounds 1 ?_
  rw [rounds_succ]
  go_wp2_with fail
  refine wp_region_later (by kernel_rfl) (by kernel_rfl) ?_
  repeat (go_big_quiet_step (fail))
  refine wpQuiet_nil ?_
  intro w' hw'
  obtain ⟨p, rfl⟩ := hw'
  go_wp2
  go_ret
  exact ⟨rfl, p.bel⟩
def dV11 (d : D11) : Value := .agg #[.int .i64 d.kind, .string ⟨d.e.1.k.toArray⟩, .int .i64 d.e.1.s, .int .i64 d.e.1.u, .int .i64 d.e.1.o, .bool d.e.1.has, .slice d.e.2.1 d.e.1.v.length d.e.2.2, .int .i64 d.tok]
def d11S (S : Cl) (d : D11) : Cl × RpP × Bool × Int := doS S d.kind d.e.1 d.tok
/-- What is told of something that is done; the table behind it. -/
def DoneC (F : Nat → Prop) (g b tk : Nat) (R : Cl × RpP × Bool × Int) (w : World) (e : Ending) (w' : World) : Prop :=
  ∃ A c, e = .returned (.tuple #[repV R.2.1 A c, .bool R.2.2.1, .int .i64 R.2.2.2]) ∧ OwnE w' w.heap.size (R.2.1.e, A, c) ∧ ClAt w' F g b tk R.1 ∧ Touch (Own3 g b tk) w w'
theorem done_end {w W0 w5 : World} {F : Nat → Prop} {g b tk c r : Nat} {S S' : Cl} {V : List CV} (h : ClB w F g b tk S V c) (hr : w.heap.size ≤ r ∧ r < W0.heap.size) (h5 : ClAt w5 (More2 F w.heap.size W0.heap.size) g b tk S') (t5 : Touch (Own3 g b tk) w w5) (u0 u1 u2 u3 u4 u5 u6 u7 : Value) :
    ClAt ((((((((w5.setCell ⟨r, 0, none⟩ u0).setCell ⟨r, 1, none⟩ u1).setCell ⟨r, 2, none⟩ u2).setCell ⟨r, 3, none⟩ u3).setCell ⟨r, 4, none⟩ u4).setCell ⟨r, 5, none⟩ u5).setCell ⟨r, 6, none⟩ u6).setCell ⟨r, 7, none⟩ u7) F g b tk S' ∧ Touch (Own3 g b tk) w ((((((((w5.setCell ⟨r, 0, none⟩ u0).setCell ⟨r, 1, none⟩ u1).setCell ⟨r, 2, none⟩ u2).setCell ⟨r, 3, none⟩ u3).setCell ⟨r, 4, none⟩ u4).setCell ⟨r, 5, none⟩ u5).setCell ⟨r, 6, none⟩ u6).setCell ⟨r, 7, none⟩ u7) := by
  have hg := h.lt g h.fg
  have hb := h.lt b h.fb
  have ht := h.lt tk h.ft
  obtain ⟨V5, c5, h5⟩ := h5
  have hF : More2 F w.heap.size W0.heap.size r := Or.inr hr
  have h6 := (((((((h5.set_ hF (by omega) (by omega) (by omega) 0 u0).set_ hF (by omega) (by omega) (by omega) 1 u1).set_ hF (by omega) (by omega) (by omega) 2 u2).set_ hF (by omega) (by omega) (by omega) 3 u3).set_ hF (by omega) (by omega) (by omega) 4 u4).set_ hF (by omega) (by omega) (by omega) 5 u5).set_ hF (by omega) (by omega) (by omega) 6 u6).set_ hF (by omega) (by omega) (by omega) 7 u7
  refine ⟨⟨_, _, h6.thin (fun k hk => Or.inl hk) h.fg h.fb h.ft⟩, (((((((t5.set_ (Or.inr hr.1) u0).set_ (Or.inr hr.1) u1).set_ (Or.inr hr.1) u2).set_ (Or.inr hr.1) u3).set_ (Or.inr hr.1) u4).set_ (Or.inr hr.1) u5).set_ (Or.inr hr.1) u6).set_ (Or.inr hr.1) u7⟩
theorem done_store {F : Nat → Prop} {g b tk c : Nat} {S : Cl} {V : List CV} (ok : OkC S) (x : EV) (t : Int) (hl : x.1.v.length ≤ x.2.2 ∧ x.2.2 ≤ maxLen) (hk : x.1.k.length ≤ maxLen) (hu : S.us ≤ 4611686018427387904) (hM : ∀ t ∈ S.tok, t ≤ 4611686018427300000) (w : World) (h : ClB w F g b tk S V c) (hN : RowN (Own3 g b tk) w x.2.1 (x.1.v.map byteV)) :
    Calls Tryz.prog 8 #[.pointer (some ⟨g, 0, none⟩), .agg #[.int .i64 2, .string ⟨x.1.k.toArray⟩, .int .i64 x.1.s, .int .i64 x.1.u, .int .i64 x.1.o, .bool x.1.has, .slice x.2.1 x.1.v.length x.2.2, .int .i64 t]] w (DoneC F g b tk ((storeS S x.1).1, rp0, false, (storeS S x.1).2) w) := by
  have hb0 : Below w.heap.size w ((w.alloc (.cells #[.int .i64 2, .string ⟨x.1.k.toArray⟩, .int .i64 x.1.s, .int .i64 x.1.u, .int .i64 x.1.o, .bool x.1.has, .slice x.2.1 x.1.v.length x.2.2, .int .i64 t] 49)).alloc (.cells #[.string ⟨#[]⟩, .int .i64 0, .int .i64 0, .int .i64 0, .bool false, .slice none 0 0, .bool false, .int .i64 0] 45)) := ((Below.refl _ _).alloc (Nat.le_refl _) _).alloc (by simp) _
  have HB0 := Lib.hid hb0
  have H0 := Lib.hid (h.wide hb0)
  have H := Lib.hid h
  have HRR : Hid (w.heap.size ≤ w.heap.size + 1 ∧ w.heap.size + 1 < ((w.alloc (.cells #[.int .i64 2, .string ⟨x.1.k.toArray⟩, .int .i64 x.1.s, .int .i64 x.1.u, .int .i64 x.1.o, .bool x.1.has, .slice x.2.1 x.1.v.length x.2.2, .int .i64 t] 49)).alloc (.cells #[.string ⟨#[]⟩, .int .i64 0, .int .i64 0, .int .i64 0, .bool false, .slice none 0 0, .bool false, .int .i64 0] 45)).heap.size) := Lib.hid ⟨by omega, by simp⟩
  have HRB := Lib.hid (blk_at (g' := w.heap.size + 1) (by simp) (Blk.new (w.alloc (.cells #[.int .i64 2, .string ⟨x.1.k.toArray⟩, .int .i64 x.1.s, .int .i64 x.1.u, .int .i64 x.1.o, .bool x.1.has, .slice x.2.1 x.1.v.length x.2.2, .int .i64 t] 49)) 45 #[.string ⟨#[]⟩, .int .i64 0, .int .i64 0, .int .i64 0, .bool false, .slice none 0 0, .bool false, .int .i64 0]))
  have HN3 : Hid (¬ Own3 g b tk (w.heap.size + 1)) := Lib.hid (h.not3 (by omega))
  have HC := Lib.hid (store_any ok x hl hk hu hM _ ⟨V, c, h.wide hb0⟩ (hN.touch (Touch.ofBelow hb0)))
  obtain ⟨R, hR⟩ : ∃ R, storeS S x.1 = R := ⟨_, rfl⟩
  rw [hR] at HC ⊢
  clear h hb0 ok hl hk hu hM hN hR
  go_enter Tryz.func8, Tryz.ntmps8
  go_wp2_with fail
  refine HC.out.mono ?_
  rintro e w2 ⟨rfl, hat, htu⟩
  have HTU : Hid (Touch (Own3 g b tk) w w2) := Lib.hid ((Touch.ofBelow HB0.out).trans htu fun k hk => Or.inl hk)
  have HAT := Lib.hid hat
  have k2 := HRB.out.touchT htu HN3.out
  have z0 := k2.frozen 0
  have r0 := k2.is 0 _ rfl
  have z1 := k2.frozen 1
  have r1 := k2.is 1 _ rfl
  have z2 := k2.frozen 2
  have r2 := k2.is 2 _ rfl
  have z3 := k2.frozen 3
  have r3 := k2.is 3 _ rfl
  have z4 := k2.frozen 4
  have r4 := k2.is 4 _ rfl
  have z5 := k2.frozen 5
  have r5 := k2.is 5 _ rfl
  have z6 := k2.frozen 6
  have r6 := k2.is 6 _ rfl
  have z7 := k2.frozen 7
  have r7 := k2.is 7 _ rfl
  clear hat htu k2
  go_wp2_with fail
  exact bodyPost_ret (v := .tuple #[repV rp0 none 0, .bool false, .int .i64 R.2]) (by simp [results, Tryz.results8, go_sem, repV, rp0, entN, r0, r1, r2, r3, r4, r5, r6, r7]) rfl ⟨none, 0, rfl, World.ownsRow_nil _ _ _ _, (done_end H.out HRR.out HAT.out HTU.out _ _ _ _ _ _ _ _).1, (done_end H.out HRR.out HAT.out HTU.out _ _ _ _ _ _ _ _).2⟩
theorem done_fill {F : Nat → Prop} {g b tk c : Nat} {S : Cl} {V : List CV} (ok : OkC S) (x : EV) (t : Int) (hl : x.1.v.length ≤ x.2.2 ∧ x.2.2 ≤ maxLen) (hk : x.1.k.length ≤ maxLen) (hu : S.us ≤ 4611686018427387904) (hM : ∀ t ∈ S.tok, t ≤ 4611686018427300000) (w : World) (h : ClB w F g b tk S V c) (hN : RowN (Own3 g b tk) w x.2.1 (x.1.v.map byteV)) :
    Calls Tryz.prog 8 #[.pointer (some ⟨g, 0, none⟩), .agg #[.int .i64 3, .string ⟨x.1.k.toArray⟩, .int .i64 x.1.s, .int .i64 x.1.u, .int .i64 x.1.o, .bool x.1.has, .slice x.2.1 x.1.v.length x.2.2, .int .i64 t]] w (DoneC F g b tk ((fillS S x.1 t).1, rp0, (fillS S x.1 t).2.1, (fillS S x.1 t).2.2) w) := by
  have hb0 : Below w.heap.size w ((w.alloc (.cells #[.int .i64 3, .string ⟨x.1.k.toArray⟩, .int .i64 x.1.s, .int .i64 x.1.u, .int .i64 x.1.o, .bool x.1.has, .slice x.2.1 x.1.v.length x.2.2, .int .i64 t] 49)).alloc (.cells #[.string ⟨#[]⟩, .int .i64 0, .int .i64 0, .int .i64 0, .bool false, .slice none 0 0, .bool false, .int .i64 0] 45)) := ((Below.refl _ _).alloc (Nat.le_refl _) _).alloc (by simp) _
  have HB0 := Lib.hid hb0
  have H0 := Lib.hid (h.wide hb0)
  have H := Lib.hid h
  have HRR : Hid (w.heap.size ≤ w.heap.size + 1 ∧ w.heap.size + 1 < ((w.alloc (.cells #[.int .i64 3, .string ⟨x.1.k.toArray⟩, .int .i64 x.1.s, .int .i64 x.1.u, .int .i64 x.1.o, .bool x.1.has, .slice x.2.1 x.1.v.length x.2.2, .int .i64 t] 49)).alloc (.cells #[.string ⟨#[]⟩, .int .i64 0, .int .i64 0, .int .i64 0, .bool false, .slice none 0 0, .bool false, .int .i64 0] 45)).heap.size) := Lib.hid ⟨by omega, by simp⟩
  have HRB := Lib.hid (blk_at (g' := w.heap.size + 1) (by simp) (Blk.new (w.alloc (.cells #[.int .i64 3, .string ⟨x.1.k.toArray⟩, .int .i64 x.1.s, .int .i64 x.1.u, .int .i64 x.1.o, .bool x.1.has, .slice x.2.1 x.1.v.length x.2.2, .int .i64 t] 49)) 45 #[.string ⟨#[]⟩, .int .i64 0, .int .i64 0, .int .i64 0, .bool false, .slice none 0 0, .bool false, .int .i64 0]))
  have HN3 : Hid (¬ Own3 g b tk (w.heap.size + 1)) := Lib.hid (h.not3 (by omega))
  have HC := Lib.hid (fill_any ok x t hl hk hu hM _ ⟨V, c, h.wide hb0⟩ (hN.touch (Touch.ofBelow hb0)))
  obtain ⟨R, hR⟩ : ∃ R, fillS S x.1 t = R := ⟨_, rfl⟩
  rw [hR] at HC ⊢
  clear h hb0 ok hl hk hu hM hN hR
  go_enter Tryz.func8, Tryz.ntmps8
  go_wp2_with fail
  refine HC.out.mono ?_
  rintro e w2 ⟨rfl, hat, htu⟩
  have HTU : Hid (Touch (Own3 g b tk) w w2) := Lib.hid ((Touch.ofBelow HB0.out).trans htu fun k hk => Or.inl hk)
  have HAT := Lib.hid hat
  have k2 := HRB.out.touchT htu HN3.out
  have z0 := k2.frozen 0
  have r0 := k2.is 0 _ rfl
  have z1 := k2.frozen 1
  have r1 := k2.is 1 _ rfl
  have z2 := k2.frozen 2
  have r2 := k2.is 2 _ rfl
  have z3 := k2.frozen 3
  have r3 := k2.is 3 _ rfl
  have z4 := k2.frozen 4
  have r4 := k2.is 4 _ rfl
  have z5 := k2.frozen 5
  have r5 := k2.is 5 _ rfl
  have z6 := k2.frozen 6
  have r6 := k2.is 6 _ rfl
  have z7 := k2.frozen 7
  have r7 := k2.is 7 _ rfl
  clear hat htu k2
  go_wp2_with fail
  exact bodyPost_ret (v := .tuple #[repV rp0 none 0, .bool R.2.1, .int .i64 R.2.2]) (by simp [results, Tryz.results8, go_sem, repV, rp0, entN, r0, r1, r2, r3, r4, r5, r6, r7]) rfl ⟨none, 0, rfl, World.ownsRow_nil _ _ _ _, (done_end H.out HRR.out HAT.out HTU.out _ _ _ _ _ _ _ _).1, (done_end H.out HRR.out HAT.out HTU.out _ _ _ _ _ _ _ _).2⟩
theorem done_clean {F : Nat → Prop} {g b tk c : Nat} {S : Cl} {V : List CV} (ok : OkC S) (x : EV) (t : Int) (hl : x.1.v.length ≤ x.2.2 ∧ x.2.2 ≤ maxLen) (hk : x.1.k.length ≤ maxLen) (hu : S.us ≤ 4611686018427387904) (hM : ∀ t ∈ S.tok, t ≤ 4611686018427300000) (w : World) (h : ClB w F g b tk S V c) (hN : RowN (Own3 g b tk) w x.2.1 (x.1.v.map byteV)) :
    Calls Tryz.prog 8 #[.pointer (some ⟨g, 0, none⟩), .agg #[.int .i64 4, .string ⟨x.1.k.toArray⟩, .int .i64 x.1.s, .int .i64 x.1.u, .int .i64 x.1.o, .bool x.1.has, .slice x.2.1 x.1.v.length x.2.2, .int .i64 t]] w (DoneC F g b tk ((cleanS S x.1.k x.1.s x.1.u x.1.o).1, rp0, (cleanS S x.1.k x.1.s x.1.u x.1.o).2, 0) w) := by
  have hb0 : Below w.heap.size w ((w.alloc (.cells #[.int .i64 4, .string ⟨x.1.k.toArray⟩, .int .i64 x.1.s, .int .i64 x.1.u, .int .i64 x.1.o, .bool x.1.has, .slice x.2.1 x.1.v.length x.2.2, .int .i64 t] 49)).alloc (.cells #[.string ⟨#[]⟩, .int .i64 0, .int .i64 0, .int .i64 0, .bool false, .slice none 0 0, .bool false, .int .i64 0] 45)) := ((Below.refl _ _).alloc (Nat.le_refl _) _).alloc (by simp) _
  have HB0 := Lib.hid hb0
  have H0 := Lib.hid (h.wide hb0)
  have H := Lib.hid h
  have HRR : Hid (w.heap.size ≤ w.heap.size + 1 ∧ w.heap.size + 1 < ((w.alloc (.cells #[.int .i64 4, .string ⟨x.1.k.toArray⟩, .int .i64 x.1.s, .int .i64 x.1.u, .int .i64 x.1.o, .bool x.1.has, .slice x.2.1 x.1.v.length x.2.2, .int .i64 t] 49)).alloc (.cells #[.string ⟨#[]⟩, .int .i64 0, .int .i64 0, .int .i64 0, .bool false, .slice none 0 0, .bool false, .int .i64 0] 45)).heap.size) := Lib.hid ⟨by omega, by simp⟩
  have HRB := Lib.hid (blk_at (g' := w.heap.size + 1) (by simp) (Blk.new (w.alloc (.cells #[.int .i64 4, .string ⟨x.1.k.toArray⟩, .int .i64 x.1.s, .int .i64 x.1.u, .int .i64 x.1.o, .bool x.1.has, .slice x.2.1 x.1.v.length x.2.2, .int .i64 t] 49)) 45 #[.string ⟨#[]⟩, .int .i64 0, .int .i64 0, .int .i64 0, .bool false, .slice none 0 0, .bool false, .int .i64 0]))
  have HN3 : Hid (¬ Own3 g b tk (w.heap.size + 1)) := Lib.hid (h.not3 (by omega))
  have HC := Lib.hid (clean_any ok x.1.k hk x.1.s x.1.u x.1.o _ ⟨V, c, h.wide hb0⟩)
  obtain ⟨R, hR⟩ : ∃ R, cleanS S x.1.k x.1.s x.1.u x.1.o = R := ⟨_, rfl⟩
  rw [hR] at HC ⊢
  clear h hb0 ok hl hk hu hM hN hR
  go_enter Tryz.func8, Tryz.ntmps8
  go_wp2_with fail
  refine HC.out.mono ?_
  rintro e w2 ⟨rfl, hat, htu⟩
  have HTU : Hid (Touch (Own3 g b tk) w w2) := Lib.hid ((Touch.ofBelow HB0.out).trans htu fun k hk => Or.inl hk)
  have HAT := Lib.hid hat
  have k2 := HRB.out.touchT htu HN3.out
  have z0 := k2.frozen 0
  have r0 := k2.is 0 _ rfl
  have z1 := k2.frozen 1
  have r1 := k2.is 1 _ rfl
  have z2 := k2.frozen 2
  have r2 := k2.is 2 _ rfl
  have z3 := k2.frozen 3
  have r3 := k2.is 3 _ rfl
  have z4 := k2.frozen 4
  have r4 := k2.is 4 _ rfl
  have z5 := k2.frozen 5
  have r5 := k2.is 5 _ rfl
  have z6 := k2.frozen 6
  have r6 := k2.is 6 _ rfl
  have z7 := k2.frozen 7
  have r7 := k2.is 7 _ rfl
  clear hat htu k2
  go_wp2_with fail
  exact bodyPost_ret (v := .tuple #[repV rp0 none 0, .bool R.2, .int .i64 0]) (by simp [results, Tryz.results8, go_sem, repV, rp0, entN, r0, r1, r2, r3, r4, r5, r6, r7]) rfl ⟨none, 0, rfl, World.ownsRow_nil _ _ _ _, (done_end H.out HRR.out HAT.out HTU.out _ _ _ _ _ _ _ _).1, (done_end H.out HRR.out HAT.out HTU.out _ _ _ _ _ _ _ _).2⟩
theorem done_forget {F : Nat → Prop} {g b tk c : Nat} {S : Cl} {V : List CV} (ok : OkC S) (x : EV) (t : Int) (hl : x.1.v.length ≤ x.2.2 ∧ x.2.2 ≤ maxLen) (hk : x.1.k.length ≤ maxLen) (hu : S.us ≤ 4611686018427387904) (hM : ∀ t ∈ S.tok, t ≤ 4611686018427300000) (w : World) (h : ClB w F g b tk S V c) (hN : RowN (Own3 g b tk) w x.2.1 (x.1.v.map byteV)) :
    Calls Tryz.prog 8 #[.pointer (some ⟨g, 0, none⟩), .agg #[.int .i64 6, .string ⟨x.1.k.toArray⟩, .int .i64 x.1.s, .int .i64 x.1.u, .int .i64 x.1.o, .bool x.1.has, .slice x.2.1 x.1.v.length x.2.2, .int .i64 t]] w (DoneC F g b tk (forgetS S, rp0, false, 0) w) := by
  have hb0 : Below w.heap.size w ((w.alloc (.cells #[.int .i64 6, .string ⟨x.1.k.toArray⟩, .int .i64 x.1.s, .int .i64 x.1.u, .int .i64 x.1.o, .bool x.1.has, .slice x.2.1 x.1.v.length x.2.2, .int .i64 t] 49)).alloc (.cells #[.string ⟨#[]⟩, .int .i64 0, .int .i64 0, .int .i64 0, .bool false, .slice none 0 0, .bool false, .int .i64 0] 45)) := ((Below.refl _ _).alloc (Nat.le_refl _) _).alloc (by simp) _
  have HB0 := Lib.hid hb0
  have H0 := Lib.hid (h.wide hb0)
  have H := Lib.hid h
  have HRR : Hid (w.heap.size ≤ w.heap.size + 1 ∧ w.heap.size + 1 < ((w.alloc (.cells #[.int .i64 6, .string ⟨x.1.k.toArray⟩, .int .i64 x.1.s, .int .i64 x.1.u, .int .i64 x.1.o, .bool x.1.has, .slice x.2.1 x.1.v.length x.2.2, .int .i64 t] 49)).alloc (.cells #[.string ⟨#[]⟩, .int .i64 0, .int .i64 0, .int .i64 0, .bool false, .slice none 0 0, .bool false, .int .i64 0] 45)).heap.size) := Lib.hid ⟨by omega, by simp⟩
  have HRB := Lib.hid (blk_at (g' := w.heap.size + 1) (by simp) (Blk.new (w.alloc (.cells #[.int .i64 6, .string ⟨x.1.k.toArray⟩, .int .i64 x.1.s, .int .i64 x.1.u, .int .i64 x.1.o, .bool x.1.has, .slice x.2.1 x.1.v.length x.2.2, .int .i64 t] 49)) 45 #[.string ⟨#[]⟩, .int .i64 0, .int .i64 0, .int .i64 0, .bool false, .slice none 0 0, .bool false, .int .i64 0]))
  have HN3 : Hid (¬ Own3 g b tk (w.heap.size + 1)) := Lib.hid (h.not3 (by omega))
  have HC := Lib.hid (forget_any ok (fun t ht => by have := hM t ht; omega) _ ⟨V, c, h.wide hb0⟩)
  obtain ⟨R, hR⟩ : ∃ R, forgetS S = R := ⟨_, rfl⟩
  rw [hR] at HC ⊢
  clear h hb0 ok hl hk hu hM hN hR
  go_enter Tryz.func8, Tryz.ntmps8
  go_wp2_with fail
  refine HC.out.mono ?_
  rintro e w2 ⟨rfl, hat, htu⟩
  have HTU : Hid (Touch (Own3 g b tk) w w2) := Lib.hid ((Touch.ofBelow HB0.out).trans htu fun k hk => Or.inl hk)
  have HAT := Lib.hid hat
  have k2 := HRB.out.touchT htu HN3.out
  have z0 := k2.frozen 0
  have r0 := k2.is 0 _ rfl
  have z1 := k2.frozen 1
  have r1 := k2.is 1 _ rfl
  have z2 := k2.frozen 2
  have r2 := k2.is 2 _ rfl
  have z3 := k2.frozen 3
  have r3 := k2.is 3 _ rfl
  have z4 := k2.frozen 4
  have r4 := k2.is 4 _ rfl
  have z5 := k2.frozen 5
  have r5 := k2.is 5 _ rfl
  have z6 := k2.frozen 6
  have r6 := k2.is 6 _ rfl
  have z7 := k2.frozen 7
  have r7 := k2.is 7 _ rfl
  clear hat htu k2
  go_wp2_with fail
  exact bodyPost_ret (v := .tuple #[repV rp0 none 0, .bool false, .int .i64 0]) (by simp [results, Tryz.results8, go_sem, repV, rp0, entN, r0, r1, r2, r3, r4, r5, r6, r7]) rfl ⟨none, 0, rfl, World.ownsRow_nil _ _ _ _, (done_end H.out HRR.out HAT.out HTU.out _ _ _ _ _ _ _ _).1, (done_end H.out HRR.out HAT.out HTU.out _ _ _ _ _ _ _ _).2⟩
theorem done_evict {F : Nat → Prop} {g b tk c : Nat} {S : Cl} {V : List CV} (ok : OkC S) (kd : Int) (x : EV) (t : Int) (n1 : kd ≠ 1) (n2 : kd ≠ 2) (n3 : kd ≠ 3) (n4 : kd ≠ 4) (n6 : kd ≠ 6) (hl : x.1.v.length ≤ x.2.2 ∧ x.2.2 ≤ maxLen) (hk : x.1.k.length ≤ maxLen) (hu : S.us ≤ 4611686018427387904) (hM : ∀ t ∈ S.tok, t ≤ 4611686018427300000) (w : World) (h : ClB w F g b tk S V c) (hN : RowN (Own3 g b tk) w x.2.1 (x.1.v.map byteV)) :
    Calls Tryz.prog 8 #[.pointer (some ⟨g, 0, none⟩), .agg #[.int .i64 kd, .string ⟨x.1.k.toArray⟩, .int .i64 x.1.s, .int .i64 x.1.u, .int .i64 x.1.o, .bool x.1.has, .slice x.2.1 x.1.v.length x.2.2, .int .i64 t]] w (DoneC F g b tk ((evictS S x.1.k).1, rp0, (evictS S x.1.k).2, 0) w) := by
  have hb0 : Below w.heap.size w ((w.alloc (.cells #[.int .i64 kd, .string ⟨x.1.k.toArray⟩, .int .i64 x.1.s, .int .i64 x.1.u, .int .i64 x.1.o, .bool x.1.has, .slice x.2.1 x.1.v.length x.2.2, .int .i64 t] 49)).alloc (.cells #[.string ⟨#[]⟩, .int .i64 0, .int .i64 0, .int .i64 0, .bool false, .slice none 0 0, .bool false, .int .i64 0] 45)) := ((Below.refl _ _).alloc (Nat.le_refl _) _).alloc (by simp) _
  have HB0 := Lib.hid hb0
  have H0 := Lib.hid (h.wide hb0)
  have H := Lib.hid h
  have HRR : Hid (w.heap.size ≤ w.heap.size + 1 ∧ w.heap.size + 1 < ((w.alloc (.cells #[.int .i64 kd, .string ⟨x.1.k.toArray⟩, .int .i64 x.1.s, .int .i64 x.1.u, .int .i64 x.1.o, .bool x.1.has, .slice x.2.1 x.1.v.length x.2.2, .int .i64 t] 49)).alloc (.cells #[.string ⟨#[]⟩, .int .i64 0, .int .i64 0, .int .i64 0, .bool false, .slice none 0 0, .bool false, .int .i64 0] 45)).heap.size) := Lib.hid ⟨by omega, by simp⟩
  have HRB := Lib.hid (blk_at (g' := w.heap.size + 1) (by simp) (Blk.new (w.alloc (.cells #[.int .i64 kd, .string ⟨x.1.k.toArray⟩, .int .i64 x.1.s, .int .i64 x.1.u, .int .i64 x.1.o, .bool x.1.has, .slice x.2.1 x.1.v.length x.2.2, .int .i64 t] 49)) 45 #[.string ⟨#[]⟩, .int .i64 0, .int .i64 0, .int .i64 0, .bool false, .slice none 0 0, .bool false, .int .i64 0]))
  have HN3 : Hid (¬ Own3 g b tk (w.heap.size + 1)) := Lib.hid (h.not3 (by omega))
  have HC := Lib.hid (evictC_any ok x.1.k hk (fun t ht => by have := hM t ht; omega) _ ⟨V, c, h.wide hb0⟩)
  obtain ⟨R, hR⟩ : ∃ R, evictS S x.1.k = R := ⟨_, rfl⟩
  rw [hR] at HC ⊢
  have e1 : (kd == 1) = false := by simpa using n1
  have e2 : (kd == 2) = false := by simpa using n2
  have e3 : (kd == 3) = false := by simpa using n3
  have e4 : (kd == 4) = false := by simpa using n4
  have e6 : (kd == 6) = false := by simpa using n6
  clear h hb0 ok hl hk hu hM hN hR n1 n2 n3 n4 n6
  go_enter Tryz.func8, Tryz.ntmps8
  go_wp2_with fail
  refine HC.out.mono ?_
  rintro e w2 ⟨rfl, hat, htu⟩
  have HTU : Hid (Touch (Own3 g b tk) w w2) := Lib.hid ((Touch.ofBelow HB0.out).trans htu fun k hk => Or.inl hk)
  have HAT := Lib.hid hat
  have k2 := HRB.out.touchT htu HN3.out
  have z0 := k2.frozen 0
  have r0 := k2.is 0 _ rfl
  have z1 := k2.frozen 1
  have r1 := k2.is 1 _ rfl
  have z2 := k2.frozen 2
  have r2 := k2.is 2 _ rfl
  have z3 := k2.frozen 3
  have r3 := k2.is 3 _ rfl
  have z4 := k2.frozen 4
  have r4 := k2.is 4 _ rfl
  have z5 := k2.frozen 5
  have r5 := k2.is 5 _ rfl
  have z6 := k2.frozen 6
  have r6 := k2.is 6 _ rfl
  have z7 := k2.frozen 7
  have r7 := k2.is 7 _ rfl
  clear hat htu k2
  go_wp2_with fail
  exact bodyPost_ret (v := .tuple #[repV rp0 none 0, .bool R.2, .int .i64 0]) (by simp [results, Tryz.results8, go_sem, repV, rp0, entN, r0, r1, r2, r3, r4, r5, r6, r7]) rfl ⟨none, 0, rfl, World.ownsRow_nil _ _ _ _, (done_end H.out HRR.out HAT.out HTU.out _ _ _ _ _ _ _ _).1, (done_end H.out HRR.out HAT.out HTU.out _ _ _ _ _ _ _ _).2⟩
theorem done_query {F : Nat → Prop} {g b tk c : Nat} {S : Cl} {V : List CV} (ok : OkC S) (x : EV) (t : Int) (hl : x.1.v.length ≤ x.2.2 ∧ x.2.2 ≤ maxLen) (hk : x.1.k.length ≤ maxLen) (hu : S.us ≤ 4611686018427387904) (hM : ∀ t ∈ S.tok, t ≤ 4611686018427300000) (w : World) (h : ClB w F g b tk S V c) (hN : RowN (Own3 g b tk) w x.2.1 (x.1.v.map byteV)) :
    Calls Tryz.prog 8 #[.pointer (some ⟨g, 0, none⟩), .agg #[.int .i64 1, .string ⟨x.1.k.toArray⟩, .int .i64 x.1.s, .int .i64 x.1.u, .int .i64 x.1.o, .bool x.1.has, .slice x.2.1 x.1.v.length x.2.2, .int .i64 t]] w (DoneC F g b tk ((queryS S x.1.k).1, (queryS S x.1.k).2.1, false, (queryS S x.1.k).2.2) w) := by
  have hb0 : Below w.heap.size w ((w.alloc (.cells #[.int .i64 1, .string ⟨x.1.k.toArray⟩, .int .i64 x.1.s, .int .i64 x.1.u, .int .i64 x.1.o, .bool x.1.has, .slice x.2.1 x.1.v.length x.2.2, .int .i64 t] 49)).alloc (.cells #[.string ⟨#[]⟩, .int .i64 0, .int .i64 0, .int .i64 0, .bool false, .slice none 0 0, .bool false, .int .i64 0] 45)) := ((Below.refl _ _).alloc (Nat.le_refl _) _).alloc (by simp) _
  have HB0 := Lib.hid hb0
  have H0 := Lib.hid (h.wide hb0)
  have H := Lib.hid h
  have HRR : Hid (w.heap.size ≤ w.heap.size + 1 ∧ w.heap.size + 1 < ((w.alloc (.cells #[.int .i64 1, .string ⟨x.1.k.toArray⟩, .int .i64 x.1.s, .int .i64 x.1.u, .int .i64 x.1.o, .bool x.1.has, .slice x.2.1 x.1.v.length x.2.2, .int .i64 t] 49)).alloc (.cells #[.string ⟨#[]⟩, .int .i64 0, .int .i64 0, .int .i64 0, .bool false, .slice none 0 0, .bool false, .int .i64 0] 45)).heap.size) := Lib.hid ⟨by omega, by simp⟩
  have HRB := Lib.hid (blk_at (g' := w.heap.size + 1) (by simp) (Blk.new (w.alloc (.cells #[.int .i64 1, .string ⟨x.1.k.toArray⟩, .int .i64 x.1.s, .int .i64 x.1.u, .int .i64 x.1.o, .bool x.1.has, .slice x.2.1 x.1.v.length x.2.2, .int .i64 t] 49)) 45 #[.string ⟨#[]⟩, .int .i64 0, .int .i64 0, .int .i64 0, .bool false, .slice none 0 0, .bool false, .int .i64 0]))
  have HN3 : Hid (¬ Own3 g b tk (w.heap.size + 1)) := Lib.hid (h.not3 (by omega))
  have HC := Lib.hid (query_any ok x.1.k hk hu _ ⟨V, c, h.wide hb0⟩)
  obtain ⟨R, hR⟩ : ∃ R, queryS S x.1.k = R := ⟨_, rfl⟩
  rw [hR] at HC ⊢
  clear h hb0 ok hl hk hu hM hN hR
  go_enter Tryz.func8, Tryz.ntmps8
  go_wp2_with fail
  refine HC.out.mono ?_
  rintro e w2 ⟨A2, k2, rfl, ho, ⟨V2, c2, hat⟩, htu⟩
  have HTU : Hid (Touch (Own3 g b tk) w (w2.alloc (.cells #[.string ⟨R.2.1.e.k.toArray⟩, .int .i64 R.2.1.e.s, .int .i64 R.2.1.e.u, .int .i64 R.2.1.e.o, .bool R.2.1.e.has, .slice A2 R.2.1.e.v.length k2, .bool R.2.1.wh, .int .i64 R.2.1.tok] 45))) := Lib.hid (((Touch.ofBelow HB0.out).trans htu fun k hk => Or.inl hk).alloc _)
  have hal : Below w2.heap.size w2 (w2.alloc (.cells #[.string ⟨R.2.1.e.k.toArray⟩, .int .i64 R.2.1.e.s, .int .i64 R.2.1.e.u, .int .i64 R.2.1.e.o, .bool R.2.1.e.has, .slice A2 R.2.1.e.v.length k2, .bool R.2.1.wh, .int .i64 R.2.1.tok] 45)) := (Below.refl _ _).alloc (Nat.le_refl _) _
  have HAT := Lib.hid (show ClAt _ _ g b tk R.1 from ⟨V2, c2, hat.below hal⟩)
  have HO := Lib.hid (ownLater ho hal)
  have k3 := (HRB.out.touchT htu HN3.out).below hal (HRB.out.touchT htu HN3.out).lt
  have x3 := Blk.new w2 45 #[.string ⟨R.2.1.e.k.toArray⟩, .int .i64 R.2.1.e.s, .int .i64 R.2.1.e.u, .int .i64 R.2.1.e.o, .bool R.2.1.e.has, .slice A2 R.2.1.e.v.length k2, .bool R.2.1.wh, .int .i64 R.2.1.tok]
  have z0 := k3.frozen 0
  have r0 := k3.is 0 _ rfl
  have y0 := x3.is 0 _ rfl
  have z1 := k3.frozen 1
  have r1 := k3.is 1 _ rfl
  have y1 := x3.is 1 _ rfl
  have z2 := k3.frozen 2
  have r2 := k3.is 2 _ rfl
  have y2 := x3.is 2 _ rfl
  have z3 := k3.frozen 3
  have r3 := k3.is 3 _ rfl
  have y3 := x3.is 3 _ rfl
  have z4 := k3.frozen 4
  have r4 := k3.is 4 _ rfl
  have y4 := x3.is 4 _ rfl
  have z5 := k3.frozen 5
  have r5 := k3.is 5 _ rfl
  have y5 := x3.is 5 _ rfl
  have z6 := k3.frozen 6
  have r6 := k3.is 6 _ rfl
  have y6 := x3.is 6 _ rfl
  have z7 := k3.frozen 7
  have r7 := k3.is 7 _ rfl
  have y7 := x3.is 7 _ rfl
  clear hat htu k3 x3 hal ho
  unfold repV
  go_wp2_with fail
  exact bodyPost_ret (v := .tuple #[repV R.2.1 A2 k2, .bool false, .int .i64 R.2.2]) (by simp [results, Tryz.results8, go_sem, repV, r0, r1, r2, r3, r4, r5, r6, r7]) rfl ⟨A2, k2, rfl, ownBase (own_put (own_put (own_put (own_put (own_put (own_put (own_put (own_put HO.out HRR.out.2 _ _) HRR.out.2 _ _) HRR.out.2 _ _) HRR.out.2 _ _) HRR.out.2 _ _) HRR.out.2 _ _) HRR.out.2 _ _) HRR.out.2 _ _) HB0.out.size, (done_end H.out HRR.out HAT.out HTU.out _ _ _ _ _ _ _ _).1, (done_end H.out HRR.out HAT.out HTU.out _ _ _ _ _ _ _ _).2⟩
theorem done11_any {F : Nat → Prop} {g b tk : Nat} {S : Cl} (ok : OkC S) (d : D11) (hl : d.e.1.v.length ≤ d.e.2.2 ∧ d.e.2.2 ≤ maxLen) (hk : d.e.1.k.length ≤ maxLen) (hu : S.us ≤ 4611686018427387904) (hM : ∀ t ∈ S.tok, t ≤ 4611686018427300000) (w : World) (h : ClAt w F g b tk S) (hN : RowN (Own3 g b tk) w d.e.2.1 (d.e.1.v.map byteV)) :
    Calls Tryz.prog 8 #[.pointer (some ⟨g, 0, none⟩), dV11 d] w (DoneC F g b tk (d11S S d) w) := by
  obtain ⟨V, c, h⟩ := h
  obtain ⟨kd, x, t⟩ := d
  unfold d11S doS dV11
  simp only at hl hk hN ⊢
  by_cases h1 : kd = 1
  · subst h1
    rw [if_pos rfl]
    exact done_query ok x t hl hk hu hM w h hN
  rw [if_neg h1]
  by_cases h2 : kd = 2
  · subst h2
    rw [if_pos rfl]
    exact done_store ok x t hl hk hu hM w h hN
  rw [if_neg h2]
  by_cases h3 : kd = 3
  · subst h3
    rw [if_pos rfl]
    exact done_fill ok x t hl hk hu hM w h hN
  rw [if_neg h3]
  by_cases h4 : kd = 4
  · subst h4
    rw [if_pos rfl]
    exact done_clean ok x t hl hk hu hM w h hN
  rw [if_neg h4]
  by_cases h6 : kd = 6
  · subst h6
    rw [if_pos rfl]
    exact done_forget ok x t hl hk hu hM w h hN
  rw [if_neg h6]
  exact done_evict ok kd x t h1 h2 h3 h4 h6 hl hk hu hM w h hN
end Go.Proofs.YtpebhfjcakllmaaGreat
