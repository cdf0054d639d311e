/- MsRL: Package msgs: readList, readRing: what is read one behind the other, in memory of its own. -/
import Derived.Test.YtgmennblbeefhaaDoorMsR0
import Derived.Test.YtgmennblbeefhaaDoorAppS
import Derived.Test.YtgmennblbeefhaaDoorRgB
import Derived.Test.YtgmennblbeefhaaDoorEvc
import Derived.Deep.LoopGhost
import Derived.Deep.RegionLaw
namespace Go.Proofs.YtgmennblbeefhaaDoor
open Go.RowKit Mem Be Rg
set_option maxRecDepth 100000
set_option maxHeartbeats 8000000
set_option linter.unusedVariables false
theorem own_up12 {w w' : World} {B s n g : Nat} {e : TypeId} {v : Value} {xs : List Value} (h : w.ownsRow B e s v n xs) (hg : w.grownBy w' (some g)) (hB : g < B) : w'.ownsRow B e s v n xs :=
  h.kept hg (by
    cases hv : v.ownBlock with
    | none => exact Or.inl rfl
    | some k => exact Or.inr (fun e => by injection e with e; have := (h.lt k hv).1; omega))
theorem grown_row12 {w w1 w2 : World} {g : Nat} {row : Option Nat} (h : w.grownBy w1 (some g)) (hg : w1.grownBy w2 row) (hr : ∀ k, row = some k → w.heap.size ≤ k) : w.grownBy w2 (some g) :=
  ⟨hg.os.trans h.os, hg.tape.trans h.tape, hg.output.trans h.output, Nat.le_trans h.size hg.size, fun k hk hne => (hg.block k (Nat.lt_of_lt_of_le hk h.size) (fun e => by have := hr k e.symm; omega)).trans (h.block k hk hne)⟩
theorem stepB_in (m : Int) (hm : 0 < m) (bs : List UInt8) (e : Int) : 0 ≤ (stepB m bs e).1 ∧ (stepB m bs e).1 < m := by
  unfold stepB
  split
  · rcases getB_err m bs with h | h
    · exact ⟨h.2.2.2.1, h.2.2.2.2.1⟩
    · simp only [h.1]; omega
  · exact ⟨Int.le_refl _, hm⟩
theorem stepE_len (bs : List UInt8) (e : Int) : (stepE bs e).1.v.length ≤ 65536 ∧ (stepE bs e).1.k.length ≤ 65536 := by
  have h1 : (stepE1 bs e).1.k.length ≤ 65536 := by unfold stepE1; exact stepR_len bs e
  have h2 : (stepE1 bs e).1.v.length ≤ 65536 := by unfold stepE1; exact stepV_len _ _
  unfold stepE endE
  split
  · exact ⟨h2, h1⟩
  · exact ⟨by simp [entP0], by simp [entP0]⟩
def GotL (g : Nat) (r : List EntP × List UInt8 × Int) (w : World) (E : Ending) (w' : World) : Prop :=
  ∃ A c, ∃ us : List EV, E = .returned (.slice A us.length c) ∧ us.map Prod.fst = r.1 ∧ us.length ≤ 1000 ∧ (∀ x ∈ us, x.1.v.length ≤ 65536 ∧ x.1.k.length ≤ 65536) ∧
    w'.ownsRow w.heap.size 28 6 (.slice A us.length c) us.length (entsC us) ∧ EntsO w' w.heap.size us ∧ Rd w' g r.2.1 r.2.2 ∧ w.grownBy w' (some g)
theorem readlist_any (g : Nat) (bs : List UInt8) (e0 : Int) (w : World) (h : Rd w g bs e0) : Calls Tryd.prog 61 #[.pointer (some ⟨g, 0, none⟩)] w (GotL g ((stepL12 bs e0).1.2, (stepL12 bs e0).2.1, (stepL12 bs e0).2.2) w) := by
  have hlt := rd_lt h
  obtain ⟨i0, hi0, hz0, hz1, hz2⟩ := info_parts info_ent
  obtain ⟨⟨n0, b1, e1⟩, hs⟩ : ∃ y, stepB 1001 bs e0 = y := ⟨_, rfl⟩
  have hn := stepB_in 1001 (by decide) bs e0
  have HC := Lib.hid (below_call g bs 1001 e0 w h)
  rw [hs] at HC hn
  simp only at hn HC
  obtain ⟨N, rfl⟩ : ∃ N : Nat, n0 = (N : Int) := ⟨n0.toNat, by omega⟩
  have hN : N ≤ 1000 := by omega
  obtain ⟨⟨L, bR, eR⟩, hT⟩ : ∃ y, timesS stepE true N [] b1 e1 = y := ⟨_, rfl⟩
  have hL : stepL12 bs e0 = (((N : Int), L), bR, eR) := by
    unfold stepL12 bindS timesZ
    rw [hs]
    simp only [Int.toNat_natCast]
    rw [hT]
  rw [hL]
  simp only
  have HT := Lib.hid hT
  have HN := Lib.hid hN
  have hNi : (N : Int) ≤ 1000 := by omega
  clear h hs hL hT hn
  go_enter Tryd.func61, Tryd.ntmps61
  go_wp2_with fail
  go_step3
  go_wp2_with fail
  go_step3
  go_wp2_with fail
  refine HC.out.mono ?_
  rintro e w1 ⟨rfl, hr1, hg1⟩
  have HR1 := Lib.hid hr1
  have HG1 := Lib.hid hg1
  clear hr1 hg1 HC hN
  go_wp2_with fail
  go_loopg [3, 7] N (fun gk v i wr => ∃ (k : Nat) (us : List EV) (A : Option Addr) (c : Nat) (b2 : List UInt8) (e2 : Int), k + gk = N ∧ i = .int .i64 k ∧ v = .slice A k c ∧ Hid (us.length = k) ∧ Hid (timesS stepE true gk (us.map Prod.fst) b2 e2 = (L, bR, eR)) ∧ Hid (Rd wr g b2 e2) ∧
    Hid (wr.ownsRow w.heap.size 28 6 (.slice A k c) k (entsC us)) ∧ Hid (EntsO wr w.heap.size us) ∧ Hid (∀ x ∈ us, x.1.v.length ≤ 65536 ∧ x.1.k.length ≤ 65536) ∧ Hid (w.grownBy wr (some g)))
  case atStart => exact ⟨0, [], none, 0, b1, e1, by omega, rfl, rfl, Lib.hid rfl, HT, HR1, Lib.hid (World.ownsRow_nil _ _ _ _), Lib.hid (entsO_nil _ _), Lib.hid (fun x h => by cases h), HG1⟩
  case round =>
    obtain ⟨k, us, A, c, b2, e2, hkg, rfl, rfl, HUL, HTS, HRD, HO, HE, HLN, HG⟩ := hrel
    clear HT HR1 HG1
    by_cases hk : k < N
    · obtain ⟨q, rfl⟩ : ∃ q, gk = q + 1 := ⟨gk - 1, by omega⟩
      have hlen := stepE_len b2 e2
      have HC := Lib.hid (get_any g b2 e2 wr HRD.out)
      have hts := HTS.out
      unfold timesS at hts
      obtain ⟨⟨⟨xk, xs, xu, xo, xh, xv⟩, b3, e3⟩, hse⟩ : ∃ y, stepE b2 e2 = y := ⟨_, rfl⟩
      rw [hse] at hts hlen HC
      simp only at hts hlen
      have HTS2 := Lib.hid hts
      have HLE := Lib.hid hlen
      have hki : (k : Int) < (N : Int) := by omega
      have hki0 : (0 : Int) ≤ (k : Int) := by omega
      clear hts hlen hse HTS
      go_wp2_with fail
      refine HC.out.mono ?_
      rintro e w4 ⟨A4, c4, rfl, ho4, hrd4, hg4⟩
      simp only at ho4 hrd4
      obtain ⟨y, hy⟩ : ∃ y : EV, y = (⟨xk, xs, xu, xo, xh, xv⟩, A4, c4) := ⟨_, rfl⟩
      have hO4 : OwnE w4 wr.heap.size y := by rw [hy]; exact ho4
      have HG4 : Hid (w.grownBy w4 (some g)) := Lib.hid (grown_trans HG.out hg4)
      have HR4 := Lib.hid hrd4
      have HOX : Hid (w4.ownsRow w.heap.size 28 6 (.slice A k c) k (entsC us)) := Lib.hid (own_up12 HO.out hg4 hlt)
      have HEX : Hid (EntsO w4 w.heap.size (us ++ [y])) := Lib.hid (entsO_app (fun x hx => own_up12 (HE.out x hx) hg4 hlt) (entsO_one (ownBase hO4 HG.out.size)))
      have HLX : Hid (∀ x ∈ us ++ [y], x.1.v.length ≤ 65536 ∧ x.1.k.length ≤ 65536) := Lib.hid fun x hx => by
        rcases List.mem_append.1 hx with h | h
        · exact HLN.out x h
        · obtain rfl : x = y := by simpa using h
          rw [hy]; exact HLE.out
      subst hy
      clear ho4 hrd4 hg4 hO4 HC HO HE HLN HG HRD HLE
      by_cases he : e3 = 0
      · subst he
        have HR5 : Hid (∀ ob, Rd (w4.alloc ob) g b3 0) := Lib.hid fun ob => rd_alloc HR4.out ob
        have HB2 : Hid (∀ o1 o2, Below w4.heap.size w4 ((w4.alloc o1).alloc o2)) := Lib.hid fun o1 o2 => ((Below.refl _ _).alloc (Nat.le_refl _) _).alloc (by simp) _
        have HO2 : Hid (∀ o1 o2, ((w4.alloc o1).alloc o2).ownsRow w.heap.size 28 6 (.slice A k c) k (entsC us)) := Lib.hid fun o1 o2 => ownLater HOX.out (HB2.out o1 o2)
        have HE2 : Hid (∀ o1 o2, EntsO ((w4.alloc o1).alloc o2) w.heap.size (us ++ [(⟨xk, xs, xu, xo, xh, xv⟩, A4, c4)])) := Lib.hid fun o1 o2 => entsO_below HEX.out (HB2.out o1 o2)
        have HBL : Hid (∀ o1, Blk ((w4.alloc o1).alloc (.cells ⟨entC (⟨xk, xs, xu, xo, xh, xv⟩, A4, c4)⟩ 28)) (w4.heap.size + 1) 28 ⟨entC (⟨xk, xs, xu, xo, xh, xv⟩, A4, c4)⟩) := Lib.hid fun o1 => blk_at (by simp) (Blk.new _ _ _)
        have hsz4 := HG4.out.size
        clear HOX HEX
        go_wp2_with fail
        refine (failed_no g b3 _ (HR5.out _)).mono ?_
        rintro e w' ⟨rfl, rfl⟩
        go_wp2_with (at_builtin; refine wpList_appS (P := Tryd.prog) (by rfl) _ _ _ (by rfl) w.heap.size 28 i0 (evV (evN [])) 6 72 Tryd.underlying29 hi0 hz0 hz1 hz2 rfl (by decide) _ k (entsC us) (by rfl) (by exact HO2.out _ _) (w4.heap.size + 2) (some ⟨w4.heap.size + 1, 0, none⟩) 1 1 (entsC [(⟨xk, xs, xu, xo, xh, xv⟩, A4, c4)]) (by rfl) (by rfl) (by exact ent_lit (HBL.out _) (by omega)) (entsC_one _) (by unfold maxLen; omega) (by omega) (by simp; omega) ?_)
        intro v' w6 hown hgr hat
        obtain ⟨A6, c6, rfl, _, _⟩ := ownShape hown
        have HO6 := Lib.hid hown
        have hlow : ∀ j, (Value.slice A k c).ownBlock = some j → w.heap.size ≤ j := fun j hj => ((HO2.out (.cells #[] 0) (.cells #[] 0)).lt j hj).1
        have HE6 : Hid (EntsO w6 w.heap.size (us ++ [(⟨xk, xs, xu, xo, xh, xv⟩, A4, c4)])) := Lib.hid (entsO_grown (HE2.out _ _) (HO2.out _ _) (by decide) hgr)
        have HG6 : Hid (w.grownBy w6 (some g)) := Lib.hid (grown_row12 (grown_trans HG4.out (grown_below (HB2.out _ _) (Nat.le_refl _) _)) hgr hlow)
        have HR6 : Hid (Rd w6 g b3 0) := Lib.hid (rd_grownBy (rd_alloc (rd_alloc HR4.out _) _) hgr fun j hj => by have := hlow j hj; omega)
        have HTS6 : Hid (timesS stepE true q ((us ++ [((⟨xk, xs, xu, xo, xh, xv⟩ : EntP), A4, c4)]).map Prod.fst) b3 0 = (L, bR, eR)) := Lib.hid (by have := HTS2.out; rw [if_neg (by simp)] at this; simpa using this)
        clear hown hgr hat hlow HTS2 HO2 HE2 HBL HB2 HR5 HR4 HG4
        go_wp2
        go_roundg q
        case rel => exact ⟨k + 1, us ++ [(⟨xk, xs, xu, xo, xh, xv⟩, A4, c4)], A6, c6, b3, 0, by omega, by go_num, rfl, Lib.hid (by rw [List.length_append, HUL.out]; rfl), HTS6, HR6, Lib.hid (by rw [entsC_app]; exact HO6.out), HE6, HLX, HG6⟩
        case measure => omega
      · have HR5 : Hid (∀ ob, Rd (w4.alloc ob) g b3 e3) := Lib.hid fun ob => rd_alloc HR4.out ob
        have HB2 : Hid (∀ o1, Below w4.heap.size w4 (w4.alloc o1)) := Lib.hid fun o1 => (Below.refl _ _).alloc (Nat.le_refl _) _
        have HTS6 : Hid ((us.map Prod.fst, b3, e3) = (L, bR, eR)) := Lib.hid (by have := HTS2.out; rw [if_pos ⟨trivial, he⟩] at this; exact this)
        have HNE := Lib.hid he
        have HEU : Hid (EntsO w4 w.heap.size us ∧ ∀ x ∈ us, x.1.v.length ≤ 65536 ∧ x.1.k.length ≤ 65536) := Lib.hid ⟨fun x hx => HEX.out x (List.mem_append_left _ hx), fun x hx => HLX.out x (List.mem_append_left _ hx)⟩
        clear he HTS2 HEX HLX
        go_wp2_with fail
        refine (failed_yes g b3 e3 HNE.out _ (HR5.out _)).mono ?_
        rintro e w' ⟨rfl, rfl⟩
        go_wp2_with fail
        rw [Exit.noGoto_ret]
        go_ret
        obtain rfl := HUL.out
        have hT := HTS6.out
        simp only [Prod.mk.injEq] at hT
        obtain ⟨rfl, rfl, rfl⟩ := hT
        exact ⟨A, c, us, rfl, rfl, by have := HN.out; omega, HEU.out.2, ownLater HOX.out (HB2.out _), entsO_below HEU.out.1 (HB2.out _), HR5.out _, grown_trans HG4.out (grown_below (HB2.out _) (Nat.le_refl _) _)⟩
    · obtain rfl : k = N := by omega
      obtain rfl : gk = 0 := by omega
      go_wp2_with fail
      rw [Exit.noGoto_ret]
      go_ret
      obtain rfl := HUL.out
      have hT := HTS.out
      unfold timesS at hT
      simp only [Prod.mk.injEq] at hT
      obtain ⟨rfl, rfl, rfl⟩ := hT
      exact ⟨A, c, us, rfl, rfl, HN.out, HLN.out, HO.out, HE.out, HRD.out, HG.out⟩
abbrev rgC (A : Option Addr) (n c : Nat) (e k : Int) : Array Value := #[.slice A n c, .int .i64 e, .int .i64 k]
def GotR (g : Nat) (r : (Int × Int × Int × List Int) × List UInt8 × Int) (w : World) (E : Ending) (w' : World) : Prop :=
  ∃ A c, E = .returned (.agg #[.slice A r.1.2.2.2.length c, .int .i64 r.1.1, .int .i64 r.1.2.1]) ∧ r.1.2.2.2.length ≤ 64 ∧ OwnI w.heap.size r.1.2.2.2 (.slice A r.1.2.2.2.length c) w' ∧ Rd w' g r.2.1 r.2.2 ∧ w.grownBy w' (some g)
theorem ring_app12 {w w2 w3 : World} {g p k c : Nat} {A : Option Addr} {e kp y : Int} {ns : List Int} {v' : Value} (hk : Blk w p 32 (rgC A k c e kp)) (ho : w.ownsRow (p + 1) 3 1 (.slice A k c) k (ns.map iV)) (hg : w.grownBy w2 (some g)) (hgp : g < p) (o : Obj)
    (hown : w3.ownsRow (p + 1) 3 1 v' (k + 1) (ns.map iV ++ [y].map iV)) (hgr : (w2.alloc o).grownBy w3 (Value.slice A k c).ownBlock) {w0 : World} (h0 : w0.grownBy w (some g)) (hp : w0.heap.size ≤ p) {bs : List UInt8} {er : Int} (hr : Rd w2 g bs er) :
    (∃ A' c', v' = .slice A' (k + 1) c' ∧ Blk (w3.setCell ⟨p, 0, none⟩ v') p 32 (rgC A' (k + 1) c' e kp) ∧ (w3.setCell ⟨p, 0, none⟩ v').ownsRow (p + 1) 3 1 (.slice A' (k + 1) c') (k + 1) ((ns ++ [y]).map iV)) ∧ Rd (w3.setCell ⟨p, 0, none⟩ v') g bs er ∧ w0.grownBy (w3.setCell ⟨p, 0, none⟩ v') (some g) := by
  have hlow : ∀ j, (Value.slice A k c).ownBlock = some j → p + 1 ≤ j := fun j hj => (ho.lt j hj).1
  have hk2 : Blk w2 p 32 (rgC A k c e kp) := hk.grown hg (fun e => by injection e with e; omega)
  have hk3 : Blk w3 p 32 (rgC A k c e kp) := (hk2.alloc o).grown hgr (fun e => by have := hlow p e.symm; omega)
  obtain ⟨A', c', rfl, _, _⟩ := ownShape hown
  refine ⟨⟨A', c', rfl, by have := hk3.set_ 0 (.slice A' (k + 1) c'); simpa using this, ?_⟩, ?_, ?_⟩
  · rw [List.map_append]; exact own_put hown (by omega) 0 _
  · refine rd_put ?_ hgp 0 _
    exact rd_grownBy (rd_alloc hr o) hgr fun j hj => by have := hlow j hj; omega
  · refine grown_put (grown_row12 (grown_trans (grown_trans h0 hg) (World.grownBy_alloc w2 o (some g))) hgr fun j hj => by have := hlow j hj; omega) hp 0 _
theorem readring_any (g : Nat) (bs : List UInt8) (e0 : Int) (w : World) (h : Rd w g bs e0) : Calls Tryd.prog 63 #[.pointer (some ⟨g, 0, none⟩)] w (GotR g (stepR12 bs e0) w) := by
  have hlt := rd_lt h
  obtain ⟨i0, hi0, hz0, hz1, hz2⟩ := info_parts info_i
  obtain ⟨⟨each, b1, e1⟩, hs1⟩ : ∃ y, stepB 65 bs e0 = y := ⟨_, rfl⟩
  obtain ⟨⟨keep, b2, e2⟩, hs2⟩ : ∃ y, stepB 65 b1 e1 = y := ⟨_, rfl⟩
  obtain ⟨⟨n0, b3, e3⟩, hs3⟩ : ∃ y, stepB 65 b2 e2 = y := ⟨_, rfl⟩
  have hn := stepB_in 65 (by decide) b2 e2
  rw [hs3] at hn
  simp only at hn
  have HC1 : Hid (∀ W, Rd W g bs e0 → Calls Tryd.prog 89 #[.pointer (some ⟨g, 0, none⟩), .int .i64 65] W (Reads g (.int .i64 each) b1 e1 W)) := Lib.hid fun W h => by have := below_call g bs 65 e0 W h; rw [hs1] at this; exact this
  have HC2 : Hid (∀ W, Rd W g b1 e1 → Calls Tryd.prog 89 #[.pointer (some ⟨g, 0, none⟩), .int .i64 65] W (Reads g (.int .i64 keep) b2 e2 W)) := Lib.hid fun W h => by have := below_call g b1 65 e1 W h; rw [hs2] at this; exact this
  have HC3 : Hid (∀ W, Rd W g b2 e2 → Calls Tryd.prog 89 #[.pointer (some ⟨g, 0, none⟩), .int .i64 65] W (Reads g (.int .i64 n0) b3 e3 W)) := Lib.hid fun W h => by have := below_call g b2 65 e2 W h; rw [hs3] at this; exact this
  obtain ⟨N, rfl⟩ : ∃ N : Nat, n0 = (N : Int) := ⟨n0.toNat, by omega⟩
  have hN : N ≤ 64 := by omega
  obtain ⟨⟨L, bR, eR⟩, hT⟩ : ∃ y, timesS (stepB 1048576) false N [] b3 e3 = y := ⟨_, rfl⟩
  have hL : stepR12 bs e0 = ((each, keep, (N : Int), L), bR, eR) := by
    unfold stepR12 bindS timesZ
    rw [hs1]
    simp only
    rw [hs2]
    simp only
    rw [hs3]
    simp only [Int.toNat_natCast]
    rw [hT]
  rw [hL]
  have HT := Lib.hid hT
  have HN := Lib.hid hN
  have hNi : (N : Int) ≤ 64 := by omega
  have HR0 : Hid (Rd (w.alloc (.cells #[.slice none 0 0, .int .i64 0, .int .i64 0] 32)) g bs e0) := Lib.hid (rd_alloc h _)
  have HG0 : Hid (w.grownBy (w.alloc (.cells #[.slice none 0 0, .int .i64 0, .int .i64 0] 32)) (some g)) := Lib.hid (World.grownBy_alloc _ _ _)
  have HK0 := Lib.hid (Blk.new w 32 #[.slice none 0 0, .int .i64 0, .int .i64 0])
  clear h hs1 hs2 hs3 hL hT hn hN
  go_enter Tryd.func63, Tryd.ntmps63
  go_wp2_with fail
  refine (HC1.out _ HR0.out).mono ?_
  rintro e w1 ⟨rfl, hr1, hg1⟩
  have HR1 := Lib.hid hr1
  have HG1 := Lib.hid (grown_trans HG0.out hg1)
  have HK1 : Hid (Blk w1 w.heap.size 32 #[.slice none 0 0, .int .i64 0, .int .i64 0]) := Lib.hid (HK0.out.grown hg1 (fun e => by injection e with e; omega))
  clear hr1 hg1 HC1 HR0 HG0 HK0
  go_wp2_with fail
  refine (HC2.out _ HR1.out).mono ?_
  rintro e w2 ⟨rfl, hr2, hg2⟩
  have HR2 := Lib.hid hr2
  have HG2 := Lib.hid (grown_trans HG1.out hg2)
  have HK2 : Hid (Blk w2 w.heap.size 32 #[.slice none 0 0, .int .i64 0, .int .i64 0]) := Lib.hid (HK1.out.grown hg2 (fun e => by injection e with e; omega))
  clear hr2 hg2 HC2 HR1 HG1 HK1
  have HR3 : Hid (Rd (w2.alloc (.cells #[.slice none 0 0, .int .i64 each, .int .i64 keep] 32)) g b2 e2) := Lib.hid (rd_alloc HR2.out _)
  have HG3 : Hid (w.grownBy (w2.alloc (.cells #[.slice none 0 0, .int .i64 each, .int .i64 keep] 32)) (some g)) := Lib.hid (grown_trans HG2.out (World.grownBy_alloc _ _ _))
  have HK3 := Lib.hid (HK2.out.alloc (.cells #[.slice none 0 0, .int .i64 each, .int .i64 keep] 32))
  have HP3 : Hid (Blk (w2.alloc (.cells #[.slice none 0 0, .int .i64 each, .int .i64 keep] 32)) w2.heap.size 32 (rgC none 0 0 each keep)) := Lib.hid (Blk.new _ _ _)
  have hp0 : w.heap.size < w2.heap.size := HK2.out.lt
  clear HR2 HG2 HK2
  go_wp2_with fail
  refine (HC3.out _ HR3.out).mono ?_
  rintro e w3 ⟨rfl, hr3, hg3⟩
  obtain ⟨p, hp⟩ : ∃ p, w2.heap.size = p := ⟨_, rfl⟩
  rw [hp] at HP3 hp0
  have HR4 := Lib.hid hr3
  have HG4 := Lib.hid (grown_trans HG3.out hg3)
  have HK4 : Hid (Blk w3 w.heap.size 32 #[.slice none 0 0, .int .i64 0, .int .i64 0]) := Lib.hid (HK3.out.grown hg3 (fun e => by injection e with e; omega))
  have HP4 : Hid (Blk w3 p 32 (rgC none 0 0 each keep)) := Lib.hid (HP3.out.grown hg3 (fun e => by injection e with e; omega))
  simp only [hp]
  clear hr3 hg3 HC3 HR3 HG3 HK3 HP3 hp
  go_wp2_with fail
  go_loopg [11] N (fun gk i wr => ∃ (k : Nat) (ns : List Int) (A : Option Addr) (c : Nat) (b5 : List UInt8) (e5 : Int), k + gk = N ∧ i = .int .i64 k ∧ Hid (ns.length = k) ∧ Hid (timesS (stepB 1048576) false gk ns b5 e5 = (L, bR, eR)) ∧ Hid (Rd wr g b5 e5) ∧
    Hid (Blk wr p 32 (rgC A k c each keep)) ∧ Hid (wr.ownsRow (p + 1) 3 1 (.slice A k c) k (ns.map iV)) ∧ Hid (Blk wr w.heap.size 32 #[.slice none 0 0, .int .i64 0, .int .i64 0]) ∧ Hid (w.grownBy wr (some g)))
  case atStart => exact ⟨0, [], none, 0, b3, e3, by omega, rfl, Lib.hid rfl, HT, HR4, HP4, Lib.hid (World.ownsRow_nil _ _ _ _), HK4, HG4⟩
  case round =>
    obtain ⟨k, ns, A, c, b5, e5, hkg, rfl, HUL, HTS, HRD, HPB, HO, HKB, HG⟩ := hrel
    clear HT HR4 HG4 HP4 HK4
    by_cases hk : k < N
    · obtain ⟨q, rfl⟩ : ∃ q, gk = q + 1 := ⟨gk - 1, by omega⟩
      have hts := HTS.out
      unfold timesS at hts
      have HC : Hid (∀ W, Rd W g b5 e5 → Calls Tryd.prog 53 #[.pointer (some ⟨g, 0, none⟩)] W (Reads g (.int .i64 (stepB 1048576 b5 e5).1) (stepB 1048576 b5 e5).2.1 (stepB 1048576 b5 e5).2.2 W)) := Lib.hid fun W h => readid_call g b5 e5 W h
      obtain ⟨⟨y, b6, e6⟩, hse⟩ : ∃ y, stepB 1048576 b5 e5 = y := ⟨_, rfl⟩
      rw [hse] at hts HC
      simp only at hts HC
      rw [if_neg (by simp)] at hts
      have HTS2 := Lib.hid hts
      have hki : (k : Int) < (N : Int) := by omega
      have hki0 : (0 : Int) ≤ (k : Int) := by omega
      have d0 : wr.cell? ⟨p, 0, none⟩ = some (.slice A k c) := HPB.out.cell 0
      have hpw : p < wr.heap.size := HPB.out.lt
      have HRD2 : Hid (Rd wr.drew g b5 e5) := Lib.hid (rd_drew HRD.out)
      have HDR : Hid (wr.grownBy wr.drew (some g)) := Lib.hid (grown_below (Below.refl _ _).drew (Nat.le_refl _) _)
      have hgp : g < p := by omega
      clear hts hse HTS HRD
      go_wp2_with fail
      go_region_law (first
        | (go_simp; go_at_call 53; refine (HC.out _ HRD2.out).mono ?_; rintro e w5 ⟨rfl, hr5, hg5⟩; (have HG5 := Lib.hid (grown_trans HDR.out hg5)); (have HR5 := Lib.hid hr5); (have hP5 := HPB.out.grown HG5.out (fun e => by injection e with e; omega)); (have d5 : w5.cell? ⟨p, 0, none⟩ = some (.slice A k c) := hP5.cell 0); (have z5 : w5.frozen? ⟨p, 0, none⟩ = false := hP5.frozen 0); (have hs5 : p < w5.heap.size := hP5.lt); clear hr5 hg5 hP5)
        | (refine step_app _ (by rfl) _ _ 30 (by rfl) (p + 1) 3 i0 _ 8 Tryd.underlying30 hi0 hz0 hz1 hz2 rfl (.slice A k c) k (ns.map iV) (by rfl) (show World.ownsRow _ _ _ _ _ _ _ from (own_up12 HO.out HG5.out (by omega)).alloc _) (w5.heap.size + 1) (some ⟨w5.heap.size, 0, none⟩) 1 1 ([y].map iV) (by rfl) (by rfl) (show Row _ _ _ _ from int_row w5 y) (iV_one _) (by unfold maxLen; omega) (by omega) (by simp; omega) ?_; intro v' w6 hown hgr hat; (have HF := Lib.hid (ring_app12 HPB.out HO.out HG5.out hgp _ hown hgr HG.out (by omega) HR5.out)); obtain ⟨A6, c6, rfl, _, _⟩ := ownShape hown; (have z6 : w6.frozen? ⟨p, 0, none⟩ = false := (World.frozen?_of_block (a := ⟨p, 0, none⟩) (hgr.block p (by simp; omega) (fun e => by have := (HO.out.lt p e.symm).1; omega))).trans ((World.frozen?_of_block (a := ⟨p, 0, none⟩) (((Below.refl w5.heap.size w5).alloc (Nat.le_refl _) _).block p hs5)).trans z5)); (have d6 : w6.cell? ⟨p, 0, none⟩ = some (.slice A k c) := (World.cell?_of_block (a := ⟨p, 0, none⟩) (hgr.block p (by simp; omega) (fun e => by have := (HO.out.lt p e.symm).1; omega))).trans ((World.cell?_of_block (a := ⟨p, 0, none⟩) (((Below.refl w5.heap.size w5).alloc (Nat.le_refl _) _).block p hs5)).trans d5)); (have HK6 : Hid (Blk (w6.setCell ⟨p, 0, none⟩ (.slice A6 (k + 1) c6)) w.heap.size 32 #[.slice none 0 0, .int .i64 0, .int .i64 0]) := Lib.hid ((((HKB.out.grown HG5.out (fun e => by injection e with e; omega)).alloc _).grown hgr (fun e => by have := (HO.out.lt _ e.symm).1; omega)).far (p := ⟨p, 0, none⟩) (by show w.heap.size ≠ p; omega) _)); clear hown hgr hat))
      all_goals
        obtain ⟨⟨A7, c7, hv7, hp7, ho7⟩, hr7, hg7⟩ := HF.out
        injection hv7 with e1 e2 e3
        subst e1 e3
        have HP7 := Lib.hid hp7
        have HO7 := Lib.hid ho7
        have HR7 := Lib.hid hr7
        have HG7 := Lib.hid hg7
        clear hp7 ho7 hr7 hg7 HF
        go_wp2
        go_roundg q
        case rel => exact ⟨k + 1, ns ++ [y], _, _, b6, e6, by omega, by go_num, Lib.hid (by rw [List.length_append, HUL.out]; rfl), HTS2, HR7, HP7, HO7, HK6, HG7⟩
        case measure => omega
    · obtain rfl : k = N := by omega
      obtain rfl : gk = 0 := by omega
      have hT := HTS.out
      unfold timesS at hT
      simp only [Prod.mk.injEq] at hT
      obtain ⟨rfl, rfl, rfl⟩ := hT
      have hul := HUL.out
      have c0 : wr.cell? ⟨p, 0, none⟩ = some (.slice A k c) := HPB.out.cell 0
      have c1 : wr.cell? ⟨p, 1, none⟩ = some (.int .i64 each) := HPB.out.cell 1
      have c2 : wr.cell? ⟨p, 2, none⟩ = some (.int .i64 keep) := HPB.out.cell 2
      have r0 : wr.cell? ⟨w.heap.size, 0, none⟩ = some (.slice none 0 0) := HKB.out.cell 0
      have r1 : wr.cell? ⟨w.heap.size, 1, none⟩ = some (.int .i64 0) := HKB.out.cell 1
      have r2 : wr.cell? ⟨w.heap.size, 2, none⟩ = some (.int .i64 0) := HKB.out.cell 2
      have f0 := HKB.out.frozen 0
      have f1 := HKB.out.frozen 1
      have f2 := HKB.out.frozen 2
      have hRD := HRD.out
      have hO := HO.out
      have hG := HG.out
      clear HTS HUL
      go_wp2_with fail
      subst hul
      have hk9 : Blk (((wr.setCell ⟨w.heap.size, 0, none⟩ (.slice A ns.length c)).setCell ⟨w.heap.size, 1, none⟩ (.int .i64 each)).setCell ⟨w.heap.size, 2, none⟩ (.int .i64 keep)) w.heap.size 32 #[.slice A ns.length c, .int .i64 each, .int .i64 keep] := by
        have := ((HKB.out.set_ 0 (.slice A ns.length c)).set_ 1 (.int .i64 each)).set_ 2 (.int .i64 keep)
        simpa only [List.setIfInBounds_toArray, List.set_cons_succ, List.set_cons_zero] using this
      refine bodyPost_ret (v := .agg #[.slice A ns.length c, .int .i64 each, .int .i64 keep]) (results_cell_row (p := 2) (ty := 32) Tryd.results63 _ _ w.heap.size 32 #[.slice A ns.length c, .int .i64 each, .int .i64 keep] (0, 0) _ rfl hk9 Tryd.underlying32 rfl (by kernel_rfl)) rfl ⟨A, c, rfl, HN.out, ?_, ?_, ?_⟩
      · exact own_base (own_put (own_put (own_put hO (by omega) _ _) (by omega) _ _) (by omega) _ _) (by omega)
      · exact rd_put (rd_put (rd_put hRD hlt _ _) hlt _ _) hlt _ _
      · exact grown_put (grown_put (grown_put hG (Nat.le_refl _) _ _) (Nat.le_refl _) _ _) (Nat.le_refl _) _ _
end Go.Proofs.YtgmennblbeefhaaDoor
