/- LnO: The order of some deeds, or why there is none. -/
import Derived.Test.YtlecbhnopokmnaaLnZ
import Derived.Deep.LoopGhost
namespace Go.Proofs.Ytlecbhnopokmnaa
open Go.RowKit Mem
set_option maxRecDepth 100000
set_option maxHeartbeats 8000000
set_option linter.unusedVariables false
set_option linter.unusedSimpArgs false
open Ln
/-- What is told of an order. -/
def OrdP (l : List DdL) (w : World) (e : Ending) (w' : World) : Prop :=
  Below w.heap.size w w' ∧ ((20 < l.length ∧ e = .returned (.tuple #[.slice none 0 0, .int .i64 3])) ∨ (l.length ≤ 20 ∧ (∀ o : List Int, holdsP (l.map DdL.p) o = false) ∧ e = .returned (.tuple #[.slice none 0 0, .int .i64 4])) ∨
    (l.length ≤ 20 ∧ ∃ (out : List Nat) (A : Option Addr) (c : Nat), holdsP (l.map DdL.p) (out.map Int.ofNat) = true ∧ (∀ i ∈ out, i < l.length) ∧ out.length ≤ 20 ∧ e = .returned (.tuple #[.slice A out.length c, .int .i64 0]) ∧ w'.ownsRow w.heap.size 3 1 (.slice A out.length c) out.length (out.map iN)))
theorem SchAt.keep {w w' : World} {gs hb sb c1 eb c2 : Nat} {E : Env} {gt : Nat → Nat} {be : List Nat} (S : SchAt w gs hb sb c1 eb c2 E gt be) (h1 : w'.heap[gs]? = w.heap[gs]?) (h2 : w'.heap[sb]? = w.heap[sb]?) (h3 : w'.heap[eb]? = w.heap[eb]?) (hs : w.heap.size ≤ w'.heap.size) : SchAt w' gs hb sb c1 eb c2 E gt be where
  blk := h1.trans S.blk
  st := fun i hi => by
    have k : ∀ o, w'.cell? ⟨sb, o, none⟩ = w.cell? ⟨sb, o, none⟩ := fun o => World.cell?_of_block (a := ⟨sb, o, none⟩) h2
    rw [k, k, k, k]; exact S.st i hi
  en := fun k hk => by rw [World.cell?_of_block (a := ⟨eb, k, none⟩) h3]; exact S.en k hk
  gsh := S.gsh
  sbh := S.sbh
  ebh := S.ebh
  gsl := Nat.lt_of_lt_of_le S.gsl hs
  sbl := Nat.lt_of_lt_of_le S.sbl hs
  ebl := Nat.lt_of_lt_of_le S.ebl hs
theorem HopM.keep {E : Env} {w w' : World} {hb : Nat} (h : HopM E w hb) (hk : w'.heap[hb]? = w.heap[hb]?) : HopM E w' hb := by
  obtain ⟨es, ⟨a, c, b1, b2⟩, h2, h3⟩ := h
  exact ⟨es, ⟨a, c, hk.trans b1, b2⟩, h2, h3⟩
theorem path_lt {E : Env} : ∀ {r : List Nat} {d : Nat} {v : Int}, Path E d v r → ∀ i ∈ r, i < E.n
  | i :: r, _, _, h, j, hj => by
    rcases List.mem_cons.1 hj with rfl | hj
    · exact h.1.1
    · exact path_lt h.2 j hj
theorem nothing_ok {l : List DdL} (h : l.all (fun r => knownK r.kind) = false) (o : List Int) : holdsP (l.map DdL.p) o = false := by
  unfold holdsP
  have : (l.map DdL.p).all (fun d => knownK d.kind) = false := by
    rw [List.all_map]; exact h
  rw [this]; rfl
theorem all_map {l : List DdL} (h : l.all (fun r => knownK r.kind) = true) : (l.map DdL.p).all (fun d => knownK d.kind) = true := by
  rw [List.all_map]; exact h
theorem order_any (l : List DdL) (hl0 : 0 < l.length) (hl : l.length ≤ 20) (B c : Nat) (A : Option Addr) (w : World) (hr : Row w B A (ddsC l)) (hB : B ≤ w.heap.size) (hby : Dds_ w B l) (hw : ∀ r ∈ l, minI ≤ r.till) (hkn : l.all (fun r => knownK r.kind) = true) :
    Calls Try.prog 22 #[.slice A l.length c] w (OrdP l w) := by
  have HCT : Hid (Calls Try.prog 40 #[.slice A l.length c, .func (.func 41) #[] #[]] w (IsB18 false w)) := Lib.hid (contains_any l (by omega) B c A w hr hB true (Lib.hid hkn))
  have HSF := Lib.hid (fun (W : World) (hW : Below w.heap.size w W) => searchof_any l hl0 hl B c A W (hr.below (hW.mono hB)) (Nat.le_trans hB hW.size) (hby.below (hW.mono hB)))
  obtain ⟨n, hn⟩ : ∃ n, l.length = n := ⟨_, rfl⟩
  have HNO : Hid (∀ W : World, (∀ o : List Int, holdsP (l.map DdL.p) o = false) → Below w.heap.size w W → OrdP l w (.returned (.tuple #[.slice none 0 0, .int .i64 4])) W) := Lib.hid fun W h hb => ⟨hb, Or.inr (Or.inl ⟨hl, h, rfl⟩)⟩
  have HYES : Hid (∀ (W : World) (out : List Nat) (A' : Option Addr) (c' : Nat), holdsP (l.map DdL.p) (out.map Int.ofNat) = true → (∀ i ∈ out, i < l.length) → out.length ≤ 20 → W.ownsRow w.heap.size 3 1 (.slice A' out.length c') out.length (out.map iN) → Below w.heap.size w W → OrdP l w (.returned (.tuple #[.slice A' out.length c', .int .i64 0])) W) :=
    Lib.hid fun W out A' c' h1 h2 h3 h4 hb => ⟨hb, Or.inr (Or.inr ⟨hl, out, A', c', h1, h2, h3, rfl, h4⟩)⟩
  obtain ⟨Q, hQ⟩ : ∃ Q, OrdP l w = Q := ⟨_, rfl⟩
  rw [hQ] at HNO HYES ⊢
  rw [hn] at HCT HSF hl hl0 ⊢
  have HN := Lib.hid hn
  have HW := Lib.hid hw
  have HKN := Lib.hid hkn
  have hn2 : (n : Int) ≤ 20 := by omega
  clear hr hB hby hw hQ hn hkn
  obtain ⟨i0, hi0, hz0, hz1, hz2⟩ := info_parts (show (Try.prog.info? 3).map (fun i => (i.zero, i.size, i.bytes)) = some (some (.int .i64 0), 1, 8) by kernel_rfl)
  go_enter Try.func22, Try.ntmps22
  go_wp2
  go_step3
  go_wp2_with fail
  refine HCT.out.mono ?_
  rintro e w1 ⟨rfl, hb1⟩
  have HB1 := Lib.hid hb1
  clear hb1
  go_wp2_with fail
  refine (HSF.out _ HB1.out).mono ?_
  rintro e w2 ⟨gs, hb, sb, c1, eb, c2, E, gt, be, rfl, hS, hE, hO, hEV, hM, hb2, hhb⟩
  have HS := Lib.hid hS
  have HE := Lib.hid hE
  have HO := Lib.hid hO
  have HEV := Lib.hid hEV
  have HM := Lib.hid hM
  have HB2 := Lib.hid (HB1.out.trans (hb2.mono HB1.out.size))
  have HHB : Hid (w.heap.size ≤ hb) := Lib.hid (by have := HB1.out.size; omega)
  clear hS hE hO hEV hM hb2 hhb HCT HSF
  obtain ⟨w3, hw3⟩ : ∃ W, w2.alloc (.cells #[.int .u32 0, .int .i64 0] 85) = W := ⟨_, rfl⟩
  have BA : Below w2.heap.size w2 w3 := by rw [← hw3]; exact (Below.refl _ _).alloc (Nat.le_refl _) _
  have HKA : Hid (Blk w3 w2.heap.size 85 #[.int .u32 ((0 : Nat) : Int), .int .i64 0]) := Lib.hid (by rw [← hw3]; exact Blk.new _ _ _)
  have HS3 := Lib.hid (HS.out.below BA)
  have HM3 := Lib.hid (HM.out.below BA)
  have HB3 := Lib.hid (HB2.out.trans (BA.mono HB2.out.size))
  have HO3 : Hid (w3.ownsRow (w2.heap.size + 1) 3 1 (.slice none 0 0) 0 []) := Lib.hid (World.ownsRow_nil _ _ _ _)
  have HSZ : Hid (w.heap.size ≤ w2.heap.size ∧ gs < w2.heap.size ∧ sb < w2.heap.size ∧ eb < w2.heap.size ∧ hb < w2.heap.size) := Lib.hid ⟨HB2.out.size, HS.out.gsl, HS.out.sbl, HS.out.ebl, HM.out.lt⟩
  have hEn : E.n = n := by rw [HEV.out.n, List.length_map]; exact HN.out
  have HEN := Lib.hid hEn
  have HSZ3 : Hid (w2.heap.size + 1 ≤ w3.heap.size) := Lib.hid HKA.out.lt
  clear BA hEn
  go_wp2
  go_step3
  go_wp2
  go_loopg [6] (cnt E.n 0 + 1) (fun gk ov wr => ∃ (out : List Nat) (d : Nat) (v : Int), Hid (cnt E.n d < gk ∧ d < 1048576 ∧ out.length + cnt E.n d ≤ 20 ∧ (Poss E 0 0 ↔ Poss E d v) ∧ ∀ r, Path E d v r → Path E 0 0 (out ++ r)) ∧ Hid (wr.ownsRow (w2.heap.size + 1) 3 1 ov out.length (out.map iN)) ∧ Hid (Blk wr w2.heap.size 85 #[.int .u32 (d : Int), .int .i64 v]) ∧ Hid (SchAt wr gs hb sb c1 eb c2 E gt be) ∧ Hid (HopM E wr hb) ∧ Hid (Below w.heap.size w wr) ∧ Hid (w2.heap.size + 1 ≤ wr.heap.size))
  case atStart => exact ⟨[], 0, 0, Lib.hid ⟨by omega, by omega, by have h1 := cnt_le E.n 0; have h2 := HE.out.n1; simp; omega, Iff.rfl, fun r h => h⟩, HO3, HKA, HS3, HM3, HB3, HSZ3⟩
  case round =>
    obtain ⟨out, d, v, HI, HOW, HK, HSr, HMr, HBr, HZr⟩ := hrel
    obtain ⟨oA, oc, rfl, _, _⟩ := ownShape HOW.out
    have m0 : wr.cell? ⟨gs, 2, none⟩ = some (.int .u32 (E.must : Int)) := HSr.out.blk.cell 2
    have a0 : wr.cell? ⟨w2.heap.size, 0, none⟩ = some (.int .u32 (d : Int)) := HK.out.cell 0
    cases hmu : decide (Sub E.must d)
    · have HMU := Lib.hid hmu
      clear hmu
      go_wp2_with fail
      go_quiet ((go_at_call 43; exact Calls.quiet_of_same ((within_val18 E.must d HE.out.must HI.out.2.1 _ HMU _).mono fun _ _ ⟨h1, h2⟩ => ⟨h1, h2.symm⟩)))
      obtain ⟨wb, hwb⟩ : ∃ W, wr.drewN nq = W := ⟨_, rfl⟩
      have BD : Below wr.heap.size wr wb := by rw [← hwb]; exact below_drew' _ _ _
      rw [hwb]
      have HOb := Lib.hid (ownLater HOW.out BD)
      have HKb := Lib.hid (HK.out.below BD HK.out.lt)
      have HSb := Lib.hid (HSr.out.below BD)
      have HMb := Lib.hid (HMr.out.below BD)
      have HBb := Lib.hid (HBr.out.trans (BD.mono HBr.out.size))
      have HZb : Hid (w2.heap.size + 1 ≤ wb.heap.size) := Lib.hid (Nat.le_trans HZr.out BD.size)
      clear BD hwb m0 a0 HOW HK HSr HMr HBr HZr
      have HHN : Hid (some w2.heap.size ≠ some hb) := Lib.hid (fun e => by have := HSZ.out; injection e; omega)
      go_wp2
      go_loopw [6, 27] (fun ov iv wx => ∃ k : Nat, k ≤ n ∧ ov = .slice oA out.length oc ∧ iv = .int .i64 (k : Int) ∧ Hid (∀ j, j < k → May E d v j → ¬ Poss E (ins d j) (E.val j)) ∧ Hid (HopM E wx hb) ∧ Hid (wb.grownBy wx (some hb))) (fun _ iv _ => n - (intOf iv).toNat)
      case atStart => exact ⟨0, by omega, rfl, rfl, Lib.hid (fun j hj => by omega), HMb, Lib.hid (grown_refl _ _)⟩
      case round =>
        obtain ⟨k, hk, rfl, rfl, HF, HMx, HGx⟩ := hrel
        have hk0 : (0 : Int) ≤ (k : Int) := by omega
        have HSx := Lib.hid (HSb.out.grown HGx.out)
        have HKx := Lib.hid (HKb.out.grown HGx.out HHN.out)
        have a0 : wr.cell? ⟨w2.heap.size, 0, none⟩ = some (.int .u32 (d : Int)) := HKx.out.cell 0
        have a1 : wr.cell? ⟨w2.heap.size, 1, none⟩ = some (.int .i64 v) := HKx.out.cell 1
        by_cases hlt : k < n
        · have hlt2 : (k : Int) < (n : Int) := by omega
          have HKN2 : Hid (k < E.n) := Lib.hid (by rw [HEN.out]; exact hlt)
          go_wp2_with fail
          refine (next_any HSx.out HE.out d HI.out.2.1 v k HKN2.out).mono ?_
          rintro e w5 ⟨hc, hb5⟩
          have HG5 := Lib.hid (grown_trans HGx.out (grown_below hb5 (Nat.le_refl _) _))
          have HM5 := Lib.hid (HMx.out.below hb5)
          clear hb5 a0 a1
          rcases hc with ⟨hm, rfl⟩ | ⟨hm, rfl⟩
          · have HMY := Lib.hid hm
            have hba := (Below.refl w5.heap.size w5).alloc (Nat.le_refl _) (.cells #[.int .u32 ((ins d k : Nat) : Int), .int .i64 (E.val k : Int)] 85)
            have HG6 := Lib.hid (grown_trans HG5.out (grown_below hba (Nat.le_refl _) _))
            have HM6 := Lib.hid (HM5.out.below hba)
            have HK6 : Hid (Blk (w5.alloc (.cells #[.int .u32 ((ins d k : Nat) : Int), .int .i64 (E.val k : Int)] 85)) w5.heap.size 85 #[.int .u32 ((ins d k : Nat) : Int), .int .i64 (E.val k : Int)]) := Lib.hid (Blk.new _ _ _)
            have HH5 : Hid (some w5.heap.size ≠ some hb) := Lib.hid (fun e => by have := HSZ.out; have := HZb.out; have := HG5.out.size; injection e; omega)
            have hdn : ins d k < 1048576 := ins_lt (n := 20) HI.out.2.1 (by have := HMY.out.1; have := HE.out.n1; omega)
            have HDN := Lib.hid hdn
            clear hm hba hdn
            go_wp2_with fail
            refine (possible_any HE.out HO.out (cnt E.n (ins d k) + 1) (ins d k) (E.val k : Int) _ (by omega) HDN.out (HSb.out.grown HG6.out) HM6.out).mono ?_
            rintro e w8 ⟨b, rfl, hbp, hm8, hg8⟩
            have HG8 := Lib.hid (grown_trans HG6.out hg8)
            have HM8 := Lib.hid hm8
            have HK8 := Lib.hid (HK6.out.grown hg8 HH5.out)
            have HBP := Lib.hid hbp
            clear hm8 hg8 hbp
            cases b
            · have HNP : Hid (¬ Poss E (ins d k) (E.val k)) := Lib.hid fun h => by have := HBP.out.2 h; cases this
              go_wp2
              go_roundw
              case rel => exact ⟨k + 1, by omega, rfl, by go_num, Lib.hid (fun j hj hm => by
                rcases Nat.lt_or_ge j k with h | h
                · exact HF.out j h hm
                · obtain rfl : j = k := by omega
                  exact HNP.out), HM8, HG8⟩
              case measure => simp [intOf]; omega
            · have HPP : Hid (Poss E (ins d k) (E.val k)) := Lib.hid (HBP.out.1 rfl)
              have HKA8 := Lib.hid (HKb.out.grown HG8.out HHN.out)
              have HO8 := Lib.hid (HOb.out.kept HG8.out (Or.inr (fun e => by have h1 := HOb.out.lt hb e; have := HSZ.out; omega)))
              obtain ⟨dn, hdn⟩ : ∃ x, ins d k = x := ⟨_, rfl⟩
              obtain ⟨vn, hvn⟩ : ∃ x : Int, (E.val k : Int) = x := ⟨_, rfl⟩
              have HI2 : Hid (cnt E.n dn < cnt E.n d ∧ dn < 1048576 ∧ (Poss E 0 0 ↔ Poss E dn vn) ∧ ∀ r, Path E dn vn r → Path E 0 0 ((out ++ [k]) ++ r)) := Lib.hid (by
                rw [← hdn, ← hvn]
                refine ⟨cnt_ins HMY.out.1 HMY.out.2.1, HDN.out, ⟨fun _ => HPP.out, fun _ => HI.out.2.2.2.1.2 (.step k HMY.out HPP.out)⟩, fun r h => ?_⟩
                rw [List.append_assoc]
                exact HI.out.2.2.2.2 (k :: r) ⟨HMY.out, h⟩)
              have HSB8 := Lib.hid (HSb.out.grown HG8.out)
              have HBB8 := Lib.hid (below_grown HBb.out HG8.out HBb.out.size HHB.out)
              rw [hdn, hvn] at HK8
              rw [hdn, hvn]
              clear hdn hvn HBP HPP HG6 HM6 HK6 HDN HH5
              have q0 : w8.cell? ⟨w5.heap.size, 0, none⟩ = some (.int .u32 (dn : Int)) := HK8.out.cell 0
              have q1 : w8.cell? ⟨w5.heap.size, 1, none⟩ = some (.int .i64 vn) := HK8.out.cell 1
              have ql : w5.heap.size < w8.heap.size := HK8.out.lt
              have hlen : out.length ≤ 20 := by have := HI.out.2.2.1; omega
              have HZ8 : Hid (w2.heap.size + 1 ≤ w8.heap.size) := Lib.hid (by have := HKA8.out.lt; omega)
              have HRX : Hid (Row (w8.drew.alloc (.cells #[.int .i64 (k : Int)] 3)) (w8.heap.size + 1) (some ⟨w8.heap.size, 0, none⟩) [iN k]) := Lib.hid (row_cells (w := w8.drew) (cs := #[.int .i64 (k : Int)]) rfl)
              go_wp2_with fail
              go_region_law (refine step_app _ (by rfl) _ _ 41 (by rfl) (w2.heap.size + 1) 3 i0 (.int .i64 0) 8 Try.underlying41 hi0 hz0 hz1 hz2 rfl (.slice oA out.length oc) out.length (out.map iN) (by rfl) (show World.ownsRow _ _ _ _ _ _ _ from ownLater HO8.out ((Below.refl w8.heap.size w8).drew.alloc (Nat.le_refl _) _)) (w8.heap.size + 1) (some ⟨w8.heap.size, 0, none⟩) 1 1 [iN k] (by rfl) (by rfl) (show Row _ _ _ _ from HRX.out) (by intro u hu; obtain rfl := List.mem_singleton.1 hu; rfl) (by unfold maxLen; omega) (by omega) (by have := HZ8.out; simp; omega) ?_; intro v' w9 hown hgr hat; have HOWN := Lib.hid hown; (have HGR : Hid (World.grownBy (w8.drew.alloc (.cells #[.int .i64 (k : Int)] 3)) w9 (Value.slice oA out.length oc).ownBlock) := Lib.hid (show World.grownBy _ _ _ from ⟨hgr.os, hgr.tape, hgr.output, hgr.size, hgr.block⟩)); (have HKA9 := Lib.hid ((HKA8.out.drew.alloc (.cells #[.int .i64 (k : Int)] 3)).grown HGR.out (fun e => own_ne_blk HO8.out HKA8.out (by decide) e.symm))); (have HKB9 := Lib.hid ((HK8.out.drew.alloc (.cells #[.int .i64 (k : Int)] 3)).grown HGR.out (fun e => own_ne_blk HO8.out HK8.out (by decide) e.symm))); (have r0 : w9.cell? ⟨w5.heap.size, 0, none⟩ = some (.int .u32 (dn : Int)) := HKB9.out.cell 0); (have r1 : w9.cell? ⟨w5.heap.size, 1, none⟩ = some (.int .i64 vn) := HKB9.out.cell 1); (have s0 : w9.cell? ⟨w2.heap.size, 0, none⟩ = some (.int .u32 (d : Int)) := HKA9.out.cell 0); (have s1 : w9.cell? ⟨w2.heap.size, 1, none⟩ = some (.int .i64 v) := HKA9.out.cell 1); (have s2 := HKA9.out.frozen 0); (have s3 := HKA9.out.frozen 1); clear hown hgr hat)
              all_goals
                have hbz : Below w2.heap.size w8 ((w9.setCell ⟨w2.heap.size, 0, none⟩ (.int .u32 (dn : Int))).setCell ⟨w2.heap.size, 1, none⟩ (.int .i64 vn)) := by
                  have h1 : Below w2.heap.size w8 (w8.drew.alloc (.cells #[.int .i64 (k : Int)] 3)) := ((Below.refl w2.heap.size w8).drew).alloc (by have := HZ8.out; show w2.heap.size ≤ w8.heap.size; omega) _
                  exact below_set (below_set (h1.grown HGR.out (by have := HZ8.out; simp; omega) (fun g hg => by have := (HO8.out.lt g hg).1; omega)) (Nat.le_refl _) _ _) (Nat.le_refl _) _ _
                have HBZ := Lib.hid hbz
                have HKZ : Hid (Blk ((w9.setCell ⟨w2.heap.size, 0, none⟩ (.int .u32 (dn : Int))).setCell ⟨w2.heap.size, 1, none⟩ (.int .i64 vn)) w2.heap.size 85 #[.int .u32 (dn : Int), .int .i64 vn]) := Lib.hid ((HKA9.out.set_ 0 _).set_ 1 _)
                have hne9 : v'.ownBlock ≠ some w2.heap.size := own_ne_blk HOWN.out HKA9.out (by decide)
                have HOZ : Hid (((w9.setCell ⟨w2.heap.size, 0, none⟩ (.int .u32 (dn : Int))).setCell ⟨w2.heap.size, 1, none⟩ (.int .i64 vn)).ownsRow (w2.heap.size + 1) 3 1 v' (out ++ [k]).length ((out ++ [k]).map iN)) := Lib.hid (by
                  rw [List.length_append, List.map_append]
                  exact (HOWN.out.kept (grown_set _ w2.heap.size 0 _) (Or.inr hne9)).kept (grown_set _ w2.heap.size 1 _) (Or.inr hne9))
                have HSZZ := Lib.hid (HSB8.out.keep (hbz.block gs HSZ.out.2.1) (hbz.block sb HSZ.out.2.2.1) (hbz.block eb HSZ.out.2.2.2.1) hbz.size)
                have HMZ := Lib.hid (HM8.out.keep (hbz.block hb HSZ.out.2.2.2.2))
                have HBW := Lib.hid (HBB8.out.trans (hbz.mono HSZ.out.1))
                have HZZ : Hid (w2.heap.size + 1 ≤ ((w9.setCell ⟨w2.heap.size, 0, none⟩ (.int .u32 (dn : Int))).setCell ⟨w2.heap.size, 1, none⟩ (.int .i64 vn)).heap.size) := Lib.hid HKZ.out.lt
                have HIZ : Hid (cnt E.n dn < gk - 1 ∧ dn < 1048576 ∧ (out ++ [k]).length + cnt E.n dn ≤ 20 ∧ (Poss E 0 0 ↔ Poss E dn vn) ∧ ∀ r, Path E dn vn r → Path E 0 0 ((out ++ [k]) ++ r)) := Lib.hid ⟨by have := HI2.out.1; have := HI.out.1; omega, HI2.out.2.1, by rw [List.length_append]; have := HI2.out.1; have := HI.out.2.2.1; simp; omega, HI2.out.2.2⟩
                clear hbz hne9 q0 q1 r0 r1 s0 s1 s2 s3 HOWN HGR HKA9 HKB9 HO8 HKA8 HSB8 HM8 HBB8 HBZ
                go_wp2
                go_roundg (gk - 1)
                case measure => have := HI.out.1; omega
                case rel => exact ⟨out ++ [k], dn, vn, HIZ, HOZ, HKZ, HSZZ, HMZ, HBW, HZZ⟩
          · have HMN := Lib.hid hm
            clear hm
            go_wp2
            go_roundw
            case rel => exact ⟨k + 1, by omega, rfl, by go_num, Lib.hid (fun j hj hm => by
              rcases Nat.lt_or_ge j k with h | h
              · exact HF.out j h hm
              · obtain rfl : j = k := by omega
                exact (HMN.out hm).elim), Lib.hid (HM5.out.below ((Below.refl _ _).alloc (Nat.le_refl _) _)), Lib.hid (grown_trans HG5.out (World.grownBy_alloc _ _ _))⟩
            case measure => simp [intOf]; omega
        · obtain rfl : k = n := by omega
          have HNP : Hid (¬ Poss E d v) := Lib.hid (fun h => by
            cases h with
            | fin hf => exact (of_decide_eq_false HMU.out) hf
            | step j hj hp => exact HF.out j (by have := hj.1; rw [HEN.out] at this; exact this) hj hp)
          have HNH : Hid (∀ o : List Int, holdsP (l.map DdL.p) o = false) := Lib.hid fun o => by
            rw [Bool.eq_false_iff]
            intro h
            exact HNP.out (HI.out.2.2.2.1.1 (poss_of_holds HEV.out h))
          have HBF := Lib.hid (below_grown HBb.out HGx.out HBb.out.size HHB.out)
          go_wp2
          exact HNO.out _ HNH.out HBF.out
    · have HMU := Lib.hid hmu
      clear hmu
      go_wp2_with fail
      go_quiet ((go_at_call 43; exact Calls.quiet_of_same ((within_val18 E.must d HE.out.must HI.out.2.1 _ HMU _).mono fun _ _ ⟨h1, h2⟩ => ⟨h1, h2.symm⟩)))
      have HPT : Hid (Path E 0 0 out) := Lib.hid (by
        have := HI.out.2.2.2.2 [] (show Sub E.must d from of_decide_eq_true HMU.out)
        rwa [List.append_nil] at this)
      have BD : Below wr.heap.size wr (wr.drewN nq) := below_drew' _ _ _
      have HOb := Lib.hid (ownBase (ownLater HOW.out BD) (B' := w.heap.size) (by have := HSZ.out; omega))
      have HBb := Lib.hid (HBr.out.trans (BD.mono HBr.out.size))
      clear BD m0 a0
      have HHO : Hid (holdsP (l.map DdL.p) (out.map Int.ofNat) = true) := Lib.hid (holds_of_path HEV.out (all_map HKN.out) (fun j hj => by
        rw [List.length_map] at hj
        rw [atD_map (List.getElem?_eq_getElem hj)]
        exact HW.out _ (List.getElem_mem hj)) HPT.out)
      have HLT : Hid (∀ i ∈ out, i < l.length) := Lib.hid fun i hi => by
        have := path_lt HPT.out i hi
        rw [HEN.out] at this
        rw [HN.out]; exact this
      go_wp2
      exact HYES.out _ out oA oc HHO.out HLT.out (by have := HI.out.2.2.1; omega) HOb.out HBb.out
end Go.Proofs.Ytlecbhnopokmnaa
