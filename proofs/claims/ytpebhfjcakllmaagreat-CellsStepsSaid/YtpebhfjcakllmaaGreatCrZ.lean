/- CrZ: CrB: What the calls on the reference's table share.
CrQ: The reference is asked.
Which entries may be, told by the reference: whatever lengths (written by tools/gen_rrg8.py).
CrL: A cell that is laid, room being made as the reference makes it.
CrS: The reference stores.
CrF: The reference fills.
CrE: The reference evicts, and takes what the store has.
CrN: The reference makes a table.
CrG: The reference forgets. -/
import Derived.Test.YtpebhfjcakllmaaGreatCrR
import Derived.Test.YtpebhfjcakllmaaGreatClW
import Derived.BigFrame
import Derived.Test.YtpebhfjcakllmaaGreatRelyV
import Derived.Test.YtpebhfjcakllmaaGreatTg
import Derived.Test.YtpebhfjcakllmaaGreatLaterR
import Derived.Test.YtpebhfjcakllmaaGreatTail
import Derived.Test.YtpebhfjcakllmaaGreatClN
namespace Go.Proofs.YtpebhfjcakllmaaGreat
open Go.RowKit Go.ChangeShapes Mem Be Word Rg Go.Maps
set_option maxRecDepth 100000
set_option maxHeartbeats 8000000
set_option linter.unusedVariables false
set_option linter.unusedSimpArgs false
theorem blk_grownT {w w' : World} {g g' : Nat} {t : TypeId} {c : Array Value} (h : Blk w g t c) (hg : w.grownBy w' (some g')) (hn : g ≠ g') : Blk w' g t c := (hg.block g h.lt (fun e => hn (by injection e))).trans h
theorem gives_buildT {P : Program} {o : Oper} {a : Act} {w : World} {R : Value → World → Prop} (t : TypeId) (parts : Array (Nat × Operand)) (ho : o.op = .build t parts) (cells : Array Value) (L : List (Nat × Value)) (hL : (parts.map fun x => (x.1, a.eval x.2)).toList = L) (h : P.built t L = some cells) (hr : R (.agg cells) w) : Rely.gives P o a w R := by
  subst hL
  unfold Rely.gives execOp
  simp only [ho, run_build w t _ cells h, Sem.run_bind, Sem.run_pure, Result.andThen_ok]
  exact hr
theorem tok_at {F : Nat → Prop} {w : World} {t : Tr} (h : TrN F w t) (B : Nat) (hB : B < t.tok.length) : ∃ b o, t.tA = some ⟨b, o, none⟩ ∧ w.cell? ⟨b, o + B, none⟩ = some (.int .i64 (t.tok[B]'hB)) := by
  rcases h.tok with hr | ⟨b, o, e, _, _, hc⟩
  · rw [List.map_eq_nil_iff] at hr; rw [hr] at hB; exact absurd hB (Nat.not_lt_zero _)
  · exact ⟨b, o, e, by rw [hc B (by simpa using hB), List.getElem_map]; rfl⟩
theorem tokK_eq (t : Tr) (k : List UInt8) (B : Nat) (h : bk t.nb k = B) (hB : B < t.tok.length) : tokK (trS t) k = t.tok[B] := by
  show t.tok.getD (bk t.nb k) 0 = _
  rw [h, List.getD_eq_getElem?_getD, List.getElem?_eq_getElem hB]; rfl
/-- A table, a reply and a number that are handed back. -/
def TrQ (F : Nat → Prop) (R : Cl × RpP × Int) (w : World) (e : Ending) (w' : World) : Prop := ∃ (t : Tr) (A : Option Addr) (c : Nat), e = .returned (.tuple #[.agg #[.int .i64 t.rc, .int .i64 t.rb, .int .i64 (t.nb : Int), .bool t.fr, .slice t.A t.L.length t.c, .slice t.tA t.tok.length t.tc, .int .i64 t.us], repV R.2.1 A c, .int .i64 R.2.2]) ∧ trS t = R.1 ∧ TrN F w' t ∧ VlN F w' R.2.1.e.v A c ∧ Below w.heap.size w w'
theorem vlN_nil (F : Nat → Prop) (w : World) : VlN F w [] none 0 := ⟨Or.inl rfl, Nat.le_refl _, by unfold maxLen; omega, Nat.zero_le _⟩end Go.Proofs.YtpebhfjcakllmaaGreat
namespace Go.Proofs.YtpebhfjcakllmaaGreat
open Go.RowKit Go.ChangeShapes Mem Be Word Rg Go.Maps
set_option maxRecDepth 100000
set_option maxHeartbeats 8000000
set_option linter.unusedVariables false
set_option linter.unusedSimpArgs false
/-- What the last region's operations leave. -/
def VQ (F : Nat → Prop) (t : Tr) (x : CP) (xA : Option Addr) (xc : Nat) (gc : Nat) (tk : Int) (S' : Cl) : Nat → Value → World → Prop
  | 0, v, _ => v = .agg #[.int .i64 t.rc, .int .i64 t.rb, .int .i64 (t.nb : Int), .bool t.fr, .slice t.A t.L.length t.c, .slice t.tA t.tok.length t.tc, .int .i64 t.us]
  | 1, v, _ => v = .agg #[.string ⟨x.e.k.toArray⟩, .int .i64 x.e.s, .int .i64 x.e.u, .int .i64 x.e.o, .bool x.e.has, .slice xA x.e.v.length xc, .bool x.wh, .bool x.cl, .int .i64 x.us]
  | 2, v, w => ∃ t' : Tr, v = .agg #[.int .i64 t'.rc, .int .i64 t'.rb, .int .i64 (t'.nb : Int), .bool t'.fr, .slice t'.A t'.L.length t'.c, .slice t'.tA t'.tok.length t'.tc, .int .i64 t'.us] ∧ trS t' = S' ∧ TrN F w t'
  | 3, v, _ => v = .pointer (some ⟨gc, 0, none⟩)
  | 4, v, _ => v = .agg #[.string ⟨x.e.k.toArray⟩, .int .i64 x.e.s, .int .i64 x.e.u, .int .i64 x.e.o, .bool x.e.has, .slice xA x.e.v.length xc]
  | 5, v, _ => v = .pointer (some ⟨gc, 6, none⟩)
  | 6, v, _ => v = .bool x.wh
  | 7, v, _ => v = .int .i64 tk
  | 8, v, _ => v = .agg #[.string ⟨x.e.k.toArray⟩, .int .i64 x.e.s, .int .i64 x.e.u, .int .i64 x.e.o, .bool x.e.has, .slice xA x.e.v.length xc, .bool x.wh, .int .i64 tk]
  | 11, v, _ => v = .int .i64 0
  | _, _, _ => True
def preQ (g : Nat) (s : Nat) (w : World) : Prop := if s = 9 then Blk w (g + 1) 34 #[.int .i64 0, .int .i64 0, .int .i64 0, .bool false, .slice none 0 0, .slice none 0 0, .int .i64 0] else Blk w (g + 2) 45 #[.string ⟨#[]⟩, .int .i64 0, .int .i64 0, .int .i64 0, .bool false, .slice none 0 0, .bool false, .int .i64 0]
def postQ (F : Nat → Prop) (g : Nat) (S' : Cl) (x : CP) (xA : Option Addr) (xc : Nat) (tk : Int) (s : Nat) (w : World) : Prop := if s = 9 then BoxT F (g + 1) S' w else Blk w (g + 2) 45 #[.string ⟨x.e.k.toArray⟩, .int .i64 x.e.s, .int .i64 x.e.u, .int .i64 x.e.o, .bool x.e.has, .slice xA x.e.v.length xc, .bool x.wh, .int .i64 tk]
theorem stabQ {F : Nat → Prop} {t : Tr} {x : CP} {xA : Option Addr} {xc gc g : Nat} {tk : Int} {S' : Cl} (Fx : Nat → Prop) (hx : ∀ k, Fx k → F k) : Stab Fx (VQ F t x xA xc gc tk S') (preQ g) (postQ F g S' x xA xc tk) := by
  have hn : ∀ (t' : Tr) (w w' : World), TrN F w t' → Touch Fx w w' → TrN F w' t' := fun t' w w' h ht => h.touch ⟨ht.os, ht.tape, ht.output, ht.size, fun k hk hf => ht.block k hk fun q => hf (hx k q)⟩
  refine ⟨fun i u w w' h ht => ?_, fun s w w' h hb => ?_, fun s w w' h hb => ?_⟩
  · unfold VQ at h ⊢
    split at h
    all_goals first
      | exact h
      | (obtain ⟨t', a, b, c⟩ := h; exact ⟨t', a, b, hn t' w w' c ht⟩)
      | trivial
  · unfold preQ at h ⊢
    by_cases e : s = 9
    · rw [if_pos e] at h ⊢; exact h.below hb h.lt
    · rw [if_neg e] at h ⊢; exact h.below hb h.lt
  · unfold postQ at h ⊢
    by_cases e : s = 9
    · rw [if_pos e] at h ⊢
      obtain ⟨t', a, b, c⟩ := h
      exact ⟨t', a.below hb a.lt, b, c.below hb⟩
    · rw [if_neg e] at h ⊢; exact h.below hb h.lt
theorem rquery (t : Tr) (F : Nat → Prop) (k : List UInt8) (w : World) (hF : ∀ k, F k → k < w.heap.size) (h : TrN F w t) (ok : OkC (trS t)) (hk : k.length ≤ maxLen) (hu : t.us ≤ 4611686018427387904) :
    Calls Tryz.prog 28 #[.agg #[.int .i64 t.rc, .int .i64 t.rb, .int .i64 (t.nb : Int), .bool t.fr, .slice t.A t.L.length t.c, .slice t.tA t.tok.length t.tc, .int .i64 t.us], .string ⟨k.toArray⟩] w (TrQ F (queryS (trS t) k) w) := by
  have hb : Below w.heap.size w (((w.alloc (.cells #[.int .i64 t.rc, .int .i64 t.rb, .int .i64 (t.nb : Int), .bool t.fr, .slice t.A t.L.length t.c, .slice t.tA t.tok.length t.tc, .int .i64 t.us] 34)).alloc (.cells #[.int .i64 0, .int .i64 0, .int .i64 0, .bool false, .slice none 0 0, .slice none 0 0, .int .i64 0] 34)).alloc (.cells #[.string ⟨#[]⟩, .int .i64 0, .int .i64 0, .int .i64 0, .bool false, .slice none 0 0, .bool false, .int .i64 0] 45)) := (((Below.refl _ _).alloc (Nat.le_refl _) _).alloc (by simp) _).alloc (by simp; omega) _
  have hk0 := ((Blk.new w 34 #[.int .i64 t.rc, .int .i64 t.rb, .int .i64 (t.nb : Int), .bool t.fr, .slice t.A t.L.length t.c, .slice t.tA t.tok.length t.tc, .int .i64 t.us]).alloc (.cells #[.int .i64 0, .int .i64 0, .int .i64 0, .bool false, .slice none 0 0, .slice none 0 0, .int .i64 0] 34)).alloc (.cells #[.string ⟨#[]⟩, .int .i64 0, .int .i64 0, .int .i64 0, .bool false, .slice none 0 0, .bool false, .int .i64 0] 45)
  have hr1 : Blk (((w.alloc (.cells #[.int .i64 t.rc, .int .i64 t.rb, .int .i64 (t.nb : Int), .bool t.fr, .slice t.A t.L.length t.c, .slice t.tA t.tok.length t.tc, .int .i64 t.us] 34)).alloc (.cells #[.int .i64 0, .int .i64 0, .int .i64 0, .bool false, .slice none 0 0, .slice none 0 0, .int .i64 0] 34)).alloc (.cells #[.string ⟨#[]⟩, .int .i64 0, .int .i64 0, .int .i64 0, .bool false, .slice none 0 0, .bool false, .int .i64 0] 45)) (w.heap.size + 1) 34 #[.int .i64 0, .int .i64 0, .int .i64 0, .bool false, .slice none 0 0, .slice none 0 0, .int .i64 0] := blk_at (by simp) ((Blk.new (w.alloc (.cells #[.int .i64 t.rc, .int .i64 t.rb, .int .i64 (t.nb : Int), .bool t.fr, .slice t.A t.L.length t.c, .slice t.tA t.tok.length t.tc, .int .i64 t.us] 34)) 34 #[.int .i64 0, .int .i64 0, .int .i64 0, .bool false, .slice none 0 0, .slice none 0 0, .int .i64 0]).alloc (.cells #[.string ⟨#[]⟩, .int .i64 0, .int .i64 0, .int .i64 0, .bool false, .slice none 0 0, .bool false, .int .i64 0] 45))
  have hr2 : Blk (((w.alloc (.cells #[.int .i64 t.rc, .int .i64 t.rb, .int .i64 (t.nb : Int), .bool t.fr, .slice t.A t.L.length t.c, .slice t.tA t.tok.length t.tc, .int .i64 t.us] 34)).alloc (.cells #[.int .i64 0, .int .i64 0, .int .i64 0, .bool false, .slice none 0 0, .slice none 0 0, .int .i64 0] 34)).alloc (.cells #[.string ⟨#[]⟩, .int .i64 0, .int .i64 0, .int .i64 0, .bool false, .slice none 0 0, .bool false, .int .i64 0] 45)) (w.heap.size + 2) 45 #[.string ⟨#[]⟩, .int .i64 0, .int .i64 0, .int .i64 0, .bool false, .slice none 0 0, .bool false, .int .i64 0] := blk_at (by simp) (Blk.new _ _ _)
  have hm1 := h.wide hb
  obtain ⟨W1, hW1⟩ : ∃ W, ((w.alloc (.cells #[.int .i64 t.rc, .int .i64 t.rb, .int .i64 (t.nb : Int), .bool t.fr, .slice t.A t.L.length t.c, .slice t.tA t.tok.length t.tc, .int .i64 t.us] 34)).alloc (.cells #[.int .i64 0, .int .i64 0, .int .i64 0, .bool false, .slice none 0 0, .slice none 0 0, .int .i64 0] 34)).alloc (.cells #[.string ⟨#[]⟩, .int .i64 0, .int .i64 0, .int .i64 0, .bool false, .slice none 0 0, .bool false, .int .i64 0] 45) = W := ⟨_, rfl⟩
  have hsz : W1.heap.size = w.heap.size + 3 := by rw [← hW1]; simp
  rw [hW1] at hk0 hr1 hr2 hb hm1
  have HK := Lib.hid hk0
  have HR1 := Lib.hid hr1
  have HR2 := Lib.hid hr2
  have HB := Lib.hid hb
  have HM := Lib.hid hm1
  have HF := Lib.hid hF
  have HSZ := Lib.hid hsz
  have HOK := Lib.hid ok
  obtain ⟨F1, hF1⟩ : ∃ F1, More2 F w.heap.size W1.heap.size = F1 := ⟨_, rfl⟩
  have HFL : Hid (∀ k, F1 k → k < W1.heap.size) := Lib.hid (by rw [← hF1]; exact more2_lt hF hb.size)
  have HF1 : Hid (F1 (w.heap.size + 1)) := Lib.hid (by rw [← hF1]; exact Or.inr ⟨by omega, by omega⟩)
  have HF2 : Hid (F1 (w.heap.size + 2)) := Lib.hid (by rw [← hF1]; exact Or.inr ⟨by omega, by omega⟩)
  have HNR : Hid (∀ (w' : World) (t' : Tr), TrN F1 w' t' → TrN F w' t') := Lib.hid (fun w' t' h => by rw [← hF1] at h; exact h.narrow)
  have HNV : Hid (∀ (w' : World) v A c, VlN F1 w' v A c → VlN F w' v A c) := Lib.hid (fun w' v A c h => by rw [← hF1] at h; exact h.narrow)
  rw [hF1] at HM
  have hkm : (k.length : Int) ≤ 9223372036854775807 := by unfold maxLen at hk; omega
  have hki : (0 : Int) ≤ (k.length : Int) := by omega
  clear hb hk0 hr1 hr2 h hF hm1 hF1 hsz
  have HU := Lib.hid hu
  have HU0 : Hid (0 ≤ t.us) := Lib.hid ok.u0
  clear hu ok hk
  by_cases hg0 : (k.length : Int) < 1
  · have HQR : Hid (queryS (trS t) k = (trS t, rp0, 2)) := Lib.hid (by unfold queryS; rw [if_pos (Or.inl (List.eq_nil_of_length_eq_zero (by omega)))])
    have hd1 : decide ((k.length : Int) < 1) = true := decide_eq_true hg0
    go_enter Tryz.func28, Tryz.ntmps28
    go_upto_region 2 with fail
    try simp only [hW1]
    clear hW1 hd1 hg0
    go_wp2_with (first | (refine wpList_load_row rfl 34 _ rfl _ rfl _ _ _ _ (show _ = _ from HK.out) Tryz.underlying34 rfl (by kernel_rfl) ?_) | (refine store_box rfl 34 _ _ rfl (w.heap.size + 1) 34 #[.int .i64 0, .int .i64 0, .int .i64 0, .bool false, .slice none 0 0, .slice none 0 0, .int .i64 0] #[.int .i64 t.rc, .int .i64 t.rb, .int .i64 (t.nb : Int), .bool t.fr, .slice t.A t.L.length t.c, .slice t.tA t.tok.length t.tc, .int .i64 t.us] HR1.out rfl rfl rfl (by kernel_rfl) (by kernel_rfl) ?_))
    intro wa hka hga
    have HKa := Lib.hid hka
    have HRa := Lib.hid (blk_grownT HR2.out hga (by omega))
    have HBa : Hid (Below w.heap.size w wa) := Lib.hid (HB.out.grown hga HB.out.size fun g hg => by cases hg; omega)
    have HGa := Lib.hid hga
    clear hka hga
    go_wp2_with (refine store_box rfl 45 _ _ rfl (w.heap.size + 2) 45 #[.string ⟨#[]⟩, .int .i64 0, .int .i64 0, .int .i64 0, .bool false, .slice none 0 0, .bool false, .int .i64 0] #[.string ⟨#[]⟩, .int .i64 0, .int .i64 0, .int .i64 0, .bool false, .slice none 0 0, .bool false, .int .i64 0] HRa.out rfl rfl rfl (by kernel_rfl) (by kernel_rfl) ?_)
    intro wz hkz hgz
    have HRz := Lib.hid hkz
    have HKz := Lib.hid (blk_grownT HKa.out hgz (by omega))
    have HBz : Hid (Below w.heap.size w wz) := Lib.hid (HBa.out.grown hgz HBa.out.size fun g hg => by cases hg; omega)
    have HGz := Lib.hid hgz
    clear hkz hgz
    go_wp2
    exact bodyPost_ret (v := .tuple #[.agg #[.int .i64 t.rc, .int .i64 t.rb, .int .i64 (t.nb : Int), .bool t.fr, .slice t.A t.L.length t.c, .slice t.tA t.tok.length t.tc, .int .i64 t.us], repV rp0 none 0, .int .i64 2]) (res_cct (p := 4) (q := 5) (ty := 34) (ty2 := 45) Tryz.results28 _ _ (w.heap.size + 1) 34 #[.int .i64 t.rc, .int .i64 t.rb, .int .i64 (t.nb : Int), .bool t.fr, .slice t.A t.L.length t.c, .slice t.tA t.tok.length t.tc, .int .i64 t.us] (0, 0) _ rfl HKz.out Tryz.underlying34 rfl (by kernel_rfl) (w.heap.size + 2) 45 #[.string ⟨rp0.e.k.toArray⟩, .int .i64 rp0.e.s, .int .i64 rp0.e.u, .int .i64 rp0.e.o, .bool rp0.e.has, .slice none rp0.e.v.length 0, .bool rp0.wh, .int .i64 rp0.tok] (0, 0) _ rfl HRz.out Tryz.underlying45 rfl (by kernel_rfl)) rfl ⟨t, none, 0, by rw [HQR.out], by rw [HQR.out], HNR.out _ _ ((HM.out.touch (touch_box HGa.out HF1.out)).touch (touch_box HGz.out HF2.out)), by rw [HQR.out]; exact vlN_nil _ _, HBz.out⟩
  by_cases hg1 : 250 < (k.length : Int)
  · have HQR : Hid (queryS (trS t) k = (trS t, rp0, 2)) := Lib.hid (by unfold queryS; rw [if_pos (Or.inr (by omega))])
    have hd1 : decide ((k.length : Int) < 1) = false := decide_eq_false hg0
    have hd2 : decide (250 < (k.length : Int)) = true := decide_eq_true hg1
    go_enter Tryz.func28, Tryz.ntmps28
    go_upto_region 2 with fail
    try simp only [hW1]
    clear hW1 hd1 hd2 hg0 hg1
    go_wp2_with (first | (refine wpList_load_row rfl 34 _ rfl _ rfl _ _ _ _ (show _ = _ from HK.out) Tryz.underlying34 rfl (by kernel_rfl) ?_) | (refine store_box rfl 34 _ _ rfl (w.heap.size + 1) 34 #[.int .i64 0, .int .i64 0, .int .i64 0, .bool false, .slice none 0 0, .slice none 0 0, .int .i64 0] #[.int .i64 t.rc, .int .i64 t.rb, .int .i64 (t.nb : Int), .bool t.fr, .slice t.A t.L.length t.c, .slice t.tA t.tok.length t.tc, .int .i64 t.us] HR1.out rfl rfl rfl (by kernel_rfl) (by kernel_rfl) ?_))
    intro wa hka hga
    have HKa := Lib.hid hka
    have HRa := Lib.hid (blk_grownT HR2.out hga (by omega))
    have HBa : Hid (Below w.heap.size w wa) := Lib.hid (HB.out.grown hga HB.out.size fun g hg => by cases hg; omega)
    have HGa := Lib.hid hga
    clear hka hga
    go_wp2_with (refine store_box rfl 45 _ _ rfl (w.heap.size + 2) 45 #[.string ⟨#[]⟩, .int .i64 0, .int .i64 0, .int .i64 0, .bool false, .slice none 0 0, .bool false, .int .i64 0] #[.string ⟨#[]⟩, .int .i64 0, .int .i64 0, .int .i64 0, .bool false, .slice none 0 0, .bool false, .int .i64 0] HRa.out rfl rfl rfl (by kernel_rfl) (by kernel_rfl) ?_)
    intro wz hkz hgz
    have HRz := Lib.hid hkz
    have HKz := Lib.hid (blk_grownT HKa.out hgz (by omega))
    have HBz : Hid (Below w.heap.size w wz) := Lib.hid (HBa.out.grown hgz HBa.out.size fun g hg => by cases hg; omega)
    have HGz := Lib.hid hgz
    clear hkz hgz
    go_wp2
    exact bodyPost_ret (v := .tuple #[.agg #[.int .i64 t.rc, .int .i64 t.rb, .int .i64 (t.nb : Int), .bool t.fr, .slice t.A t.L.length t.c, .slice t.tA t.tok.length t.tc, .int .i64 t.us], repV rp0 none 0, .int .i64 2]) (res_cct (p := 4) (q := 5) (ty := 34) (ty2 := 45) Tryz.results28 _ _ (w.heap.size + 1) 34 #[.int .i64 t.rc, .int .i64 t.rb, .int .i64 (t.nb : Int), .bool t.fr, .slice t.A t.L.length t.c, .slice t.tA t.tok.length t.tc, .int .i64 t.us] (0, 0) _ rfl HKz.out Tryz.underlying34 rfl (by kernel_rfl) (w.heap.size + 2) 45 #[.string ⟨rp0.e.k.toArray⟩, .int .i64 rp0.e.s, .int .i64 rp0.e.u, .int .i64 rp0.e.o, .bool rp0.e.has, .slice none rp0.e.v.length 0, .bool rp0.wh, .int .i64 rp0.tok] (0, 0) _ rfl HRz.out Tryz.underlying45 rfl (by kernel_rfl)) rfl ⟨t, none, 0, by rw [HQR.out], by rw [HQR.out], HNR.out _ _ ((HM.out.touch (touch_box HGa.out HF1.out)).touch (touch_box HGz.out HF2.out)), by rw [HQR.out]; exact vlN_nil _ _, HBz.out⟩
  have hno : ¬ (k = [] ∨ 250 < k.length) := by
    rintro (rfl | h9)
    · exact hg0 (by simp)
    · exact hg1 (by omega)
  have hd1 : decide ((k.length : Int) < 1) = false := decide_eq_false hg0
  have hd2 : decide (250 < (k.length : Int)) = false := decide_eq_false hg1
  obtain ⟨B, hB⟩ : ∃ B, bk t.nb k = B := ⟨_, rfl⟩
  have hBl : B < t.tok.length := by rw [← hB]; exact bk_lt HOK.out k
  have htk := tokK_eq t k B hB hBl
  have HBK : Hid (∀ W, Calls Tryz.prog 47 #[.agg #[.int .i64 t.rc, .int .i64 t.rb, .int .i64 (t.nb : Int), .bool t.fr, .slice t.A t.L.length t.c, .slice t.tA t.tok.length t.tc, .int .i64 t.us], .string ⟨k.toArray⟩] W (fun e w' => e = .returned (.int .i64 ((B : Nat) : Int)) ∧ Below W.heap.size W w')) := Lib.hid fun W => by
    have := rbucket t k (by omega) HOK.out.nb W
    rw [hB] at this; exact this
  obtain ⟨bt, ot, htA, hct⟩ := tok_at HM.out B hBl
  obtain ⟨tk, htkv⟩ : ∃ v, t.tok[B] = v := ⟨_, rfl⟩
  rw [htkv] at hct htk
  have HTK := Lib.hid htk
  have hk5 : ∀ p : Later W1, p.world.cell? ⟨w.heap.size, 5, none⟩ = some (.slice (some ⟨bt, ot, none⟩) t.tok.length t.tc) := by rw [← htA]; exact later_blk_cell HK.out 5 _ rfl
  have hct2 := later_cell hct
  have HLK : Hid (∀ p : Later W1, Blk p.world w.heap.size 34 #[.int .i64 t.rc, .int .i64 t.rb, .int .i64 (t.nb : Int), .bool t.fr, .slice t.A t.L.length t.c, .slice t.tA t.tok.length t.tc, .int .i64 t.us]) := Lib.hid fun p => later_blk HK.out p
  have hBi0 : (0 : Int) ≤ (B : Int) := by omega
  have hBi : (B : Int) < (t.tok.length : Int) := by omega
  have htli : (t.tok.length : Int) ≤ 100000 := by have := HM.out.tl; omega
  have HNO := Lib.hid hno
  clear hno hct htA hB htk htkv hBl
  go_enter Tryz.func28, Tryz.ntmps28
  go_upto_region 3 with fail
  try simp only [hW1]
  clear hW1 hd1 hd2 hg0 hg1
  refine wp_region_later (by kernel_rfl) (by kernel_rfl) ?_
  repeat (first
    | (go_big_quiet_want; refine quiet_loadrow 34 (.tmp 2) rfl (w.heap.size) rfl HLK.out Tryz.underlying34 rfl (by kernel_rfl) ?_; simp only [Act.put, List.setIfInBounds_toArray, List.set_cons_succ, List.set_cons_zero]; go_big_quiet_on)
    | go_big_quiet_step ((go_at_call 47; exact later_of (HBK.out _))))
  refine wpQuiet_nil ?_
  intro w2 hw'
  obtain ⟨p, hp2⟩ := hw'
  have hb2 : Below W1.heap.size W1 w2 := by rw [hp2]; exact p.bel
  have HK2 := Lib.hid (HK.out.below hb2 HK.out.lt)
  have HR12 := Lib.hid (HR1.out.below hb2 HR1.out.lt)
  have HR22 := Lib.hid (HR2.out.below hb2 HR2.out.lt)
  have HB2 := Lib.hid (HB.out.trans (hb2.mono HB.out.size))
  have HM2 := Lib.hid (HM.out.below hb2)
  have HS2 : Hid (w.heap.size + 3 ≤ w2.heap.size) := Lib.hid (by have := HSZ.out; have := hb2.size; omega)
  have HL2 : Hid (W1.heap.size ≤ w2.heap.size) := Lib.hid hb2.size
  clear hb2 hp2 p hk5 hct2 HLK HBK HK HR1 HR2 HB HM
  have HFD := Lib.hid (rfind t k w2 HM2.out.m HOK.out.srt)
  go_wp2_with (refine wpList_load_row rfl 34 _ rfl _ rfl _ _ _ _ (show _ = _ from HK2.out) Tryz.underlying34 rfl (by kernel_rfl) ?_)
  refine HFD.out.mono ?_
  rintro e3 w3 ⟨r, rfl, hr, hb3⟩
  have HK3 := Lib.hid (HK2.out.below hb3 HK2.out.lt)
  have HR13 := Lib.hid (HR12.out.below hb3 HR12.out.lt)
  have HR23 := Lib.hid (HR22.out.below hb3 HR22.out.lt)
  have HB3 := Lib.hid (HB2.out.trans (hb3.mono HB2.out.size))
  have HM3 := Lib.hid (HM2.out.below hb3)
  have HS3 : Hid (w.heap.size + 3 ≤ w3.heap.size) := Lib.hid (Nat.le_trans HS2.out hb3.size)
  have HL3 : Hid (W1.heap.size ≤ w3.heap.size) := Lib.hid (Nat.le_trans HL2.out hb3.size)
  clear hb3 HFD HK2 HR12 HR22 HB2 HM2 HS2 HL2
  rcases hr with ⟨rfl, hget⟩ | ⟨i, hi2, rfl, hget⟩
  · have HQR : Hid (queryS (trS t) k = (trS t, ⟨entN k, tk == 0, tk⟩, 0)) := Lib.hid (by unfold queryS; rw [if_neg HNO.out, hget, HTK.out])
    obtain ⟨wb, hwb⟩ : ∃ b, (tk == 0) = b := ⟨_, rfl⟩
    rw [hwb] at HQR
    clear hget HNO HTK
    go_wp2_with (first | (refine wpList_load_row rfl 34 _ rfl _ rfl _ _ _ _ (show _ = _ from HK3.out) Tryz.underlying34 rfl (by kernel_rfl) ?_) | (refine store_box rfl 34 _ _ rfl (w.heap.size + 1) 34 #[.int .i64 0, .int .i64 0, .int .i64 0, .bool false, .slice none 0 0, .slice none 0 0, .int .i64 0] #[.int .i64 t.rc, .int .i64 t.rb, .int .i64 (t.nb : Int), .bool t.fr, .slice t.A t.L.length t.c, .slice t.tA t.tok.length t.tc, .int .i64 t.us] HR13.out rfl rfl rfl (by kernel_rfl) (by kernel_rfl) ?_))
    intro wa hka hga
    have HKa := Lib.hid hka
    have HRa := Lib.hid (blk_grownT HR23.out hga (by omega))
    have HBa : Hid (Below w.heap.size w wa) := Lib.hid (HB3.out.grown hga HB3.out.size fun g hg => by cases hg; omega)
    have HGa := Lib.hid hga
    clear hka hga
    go_wp2_with (refine store_box rfl 45 _ _ rfl (w.heap.size + 2) 45 #[.string ⟨#[]⟩, .int .i64 0, .int .i64 0, .int .i64 0, .bool false, .slice none 0 0, .bool false, .int .i64 0] #[.string ⟨(entN k).k.toArray⟩, .int .i64 (entN k).s, .int .i64 (entN k).u, .int .i64 (entN k).o, .bool (entN k).has, .slice none (entN k).v.length 0, .bool wb, .int .i64 tk] HRa.out rfl rfl rfl (by kernel_rfl) (by kernel_rfl) ?_)
    intro wz hkz hgz
    have HRz := Lib.hid hkz
    have HKz := Lib.hid (blk_grownT HKa.out hgz (by omega))
    have HBz : Hid (Below w.heap.size w wz) := Lib.hid (HBa.out.grown hgz HBa.out.size fun g hg => by cases hg; omega)
    have HGz := Lib.hid hgz
    clear hkz hgz
    go_wp2
    exact bodyPost_ret (v := .tuple #[.agg #[.int .i64 t.rc, .int .i64 t.rb, .int .i64 (t.nb : Int), .bool t.fr, .slice t.A t.L.length t.c, .slice t.tA t.tok.length t.tc, .int .i64 t.us], repV ⟨entN k, wb, tk⟩ none 0, .int .i64 0]) (res_cct (p := 4) (q := 5) (ty := 34) (ty2 := 45) Tryz.results28 _ _ (w.heap.size + 1) 34 #[.int .i64 t.rc, .int .i64 t.rb, .int .i64 (t.nb : Int), .bool t.fr, .slice t.A t.L.length t.c, .slice t.tA t.tok.length t.tc, .int .i64 t.us] (0, 0) _ rfl HKz.out Tryz.underlying34 rfl (by kernel_rfl) (w.heap.size + 2) 45 #[.string ⟨(entN k).k.toArray⟩, .int .i64 (entN k).s, .int .i64 (entN k).u, .int .i64 (entN k).o, .bool (entN k).has, .slice none (entN k).v.length 0, .bool wb, .int .i64 tk] (0, 0) _ rfl HRz.out Tryz.underlying45 rfl (by kernel_rfl)) rfl ⟨t, none, 0, by rw [HQR.out], by rw [HQR.out], HNR.out _ _ ((HM3.out.touch (touch_box HGa.out HF1.out)).touch (touch_box HGz.out HF2.out)), by rw [HQR.out]; exact vlN_nil _ _, HBz.out⟩
  · have hi : i < t.L.length := by rw [trT_len] at hi2; exact hi2
    have hfst := trT_at t i hi2 hi
    obtain ⟨⟨x, xA, xc⟩, hx⟩ : ∃ p, t.L[i]'hi = p := ⟨_, rfl⟩
    rw [hfst, hx] at hget
    have HQR : Hid (queryS (trS t) k = (useS (trS t) x, ⟨x.e, x.wh, tk⟩, 0)) := Lib.hid (by unfold queryS; rw [if_neg HNO.out, hget, HTK.out])
    have hxm : (⟨x, xA, xc⟩ : CV) ∈ t.L := by rw [← hx]; exact List.getElem_mem hi
    have HVX := Lib.hid (HM3.out.val hxm)
    obtain ⟨b, ao, hA, hbb, hc⟩ := cells_open HM3.out.m.cev.row (by omega)
    have hcc := hc i hi
    rw [hx] at hcc
    have h4 : w3.cell? ⟨w.heap.size, 4, none⟩ = some (.slice (some ⟨b, ao, none⟩) t.L.length t.c) := by rw [← hA]; exact HK3.out.cell 4
    have hc0 := hcc 0 _ rfl
    rw [Nat.add_zero] at hc0
    have hc1 := hcc 1 _ rfl
    have hc2 := hcc 2 _ rfl
    have hc3 := hcc 3 _ rfl
    have hc4 := hcc 4 _ rfl
    have hc5 := hcc 5 _ rfl
    have hc6 := hcc 6 _ rfl
    have hc7 := hcc 7 _ rfl
    have hc8 := hcc 8 _ rfl
    have hii : (0 : Int) ≤ (i : Int) := by omega
    have hii2 : (i : Int) < (t.L.length : Int) := by omega
    have hlni : (t.L.length : Int) ≤ 100000 := by have := HM3.out.ln; omega
    have hi9 : decide ((i : Int) < 0) = false := decide_eq_false (by omega)
    clear hc hcc hx hfst hget hxm hA hbb
    go_upto_region 8 with (refine wpList_boxM rfl rfl _ rfl 88 #[.string ⟨#[]⟩, .int .i64 0, .int .i64 0, .int .i64 0, .bool false, .slice none 0 0, .bool false, .bool false, .int .i64 0] (by kernel_rfl) _ _ rfl #[.string ⟨x.e.k.toArray⟩, .int .i64 x.e.s, .int .i64 x.e.u, .int .i64 x.e.o, .bool x.e.has, .slice xA x.e.v.length xc, .bool x.wh, .bool x.cl, .int .i64 x.us] rfl rfl rfl (by kernel_rfl) (by kernel_rfl) ?_)
    obtain ⟨gc, hgc⟩ : ∃ g, w3.heap.size = g := ⟨_, rfl⟩
    obtain ⟨W4, hW4⟩ : ∃ W, w3.alloc (.cells #[.string ⟨x.e.k.toArray⟩, .int .i64 x.e.s, .int .i64 x.e.u, .int .i64 x.e.o, .bool x.e.has, .slice xA x.e.v.length xc, .bool x.wh, .bool x.cl, .int .i64 x.us] 88) = W := ⟨_, rfl⟩
    have hb4 : Below w3.heap.size w3 W4 := by rw [← hW4]; exact (Below.refl _ _).alloc (Nat.le_refl _) _
    have HC4 : Hid (Blk W4 gc 88 #[.string ⟨x.e.k.toArray⟩, .int .i64 x.e.s, .int .i64 x.e.u, .int .i64 x.e.o, .bool x.e.has, .slice xA x.e.v.length xc, .bool x.wh, .bool x.cl, .int .i64 x.us]) := Lib.hid (by rw [← hW4, ← hgc]; exact Blk.new _ _ _)
    have HK4 := Lib.hid (HK3.out.below hb4 HK3.out.lt)
    have HR14 := Lib.hid (HR13.out.below hb4 HR13.out.lt)
    have HR24 := Lib.hid (HR23.out.below hb4 HR23.out.lt)
    have HB4 := Lib.hid (HB3.out.trans (hb4.mono HB3.out.size))
    have HM4 := Lib.hid (HM3.out.below hb4)
    have HV4 := Lib.hid (HVX.out.below hb4)
    have HL4 : Hid (W1.heap.size ≤ W4.heap.size) := Lib.hid (Nat.le_trans HL3.out hb4.size)
    have HGC : Hid (w.heap.size + 3 ≤ gc) := Lib.hid (by rw [← hgc]; exact HS3.out)
    simp only [hW4, hgc]
    clear hb4 hW4 hgc hc0 hc1 hc2 hc3 hc4 hc5 hc6 hc7 hc8 h4 HK3 HR13 HR23 HB3 HM3 HVX
    have HFX : Hid (∀ k, (k = w.heap.size + 1 ∨ k = w.heap.size + 2) → F1 k) := Lib.hid fun k hk => by
      rcases hk with rfl | rfl
      · exact HF1.out
      · exact HF2.out
    have HUS : Hid (∀ W, Touch (fun k => k = w.heap.size + 1 ∨ k = w.heap.size + 2) W4 W → Calls Tryz.prog 49 #[.agg #[.int .i64 t.rc, .int .i64 t.rb, .int .i64 (t.nb : Int), .bool t.fr, .slice t.A t.L.length t.c, .slice t.tA t.tok.length t.tc, .int .i64 t.us], .agg #[.string ⟨x.e.k.toArray⟩, .int .i64 x.e.s, .int .i64 x.e.u, .int .i64 x.e.o, .bool x.e.has, .slice xA x.e.v.length xc, .bool x.wh, .bool x.cl, .int .i64 x.us]] W (TrP F1 (useS (trS t) x) W)) := Lib.hid fun W ht => ruse t F1 x xA xc W (fun k hk => Nat.lt_of_lt_of_le (HFL.out k hk) (Nat.le_trans HL4.out ht.size)) (HM4.out.touch ⟨ht.os, ht.tape, ht.output, ht.size, fun k hk hn => ht.block k hk fun q => hn (HFX.out k q)⟩) HOK.out.srt (HV4.out.touch ⟨ht.os, ht.tape, ht.output, ht.size, fun k hk hn => ht.block k hk fun q => hn (HFX.out k q)⟩) (by have h1 := HOK.out.len; have h2 := HOK.out.rc; have h3 := trT_len t; omega) HU0.out HU.out
    obtain ⟨S', hS'⟩ : ∃ S', useS (trS t) x = S' := ⟨_, rfl⟩
    rw [hS'] at HUS HQR
    have HST : Hid (Stab (fun k => k = w.heap.size + 1 ∨ k = w.heap.size + 2) (VQ F1 t x xA xc gc tk S') (preQ w.heap.size) (postQ F1 w.heap.size S' x xA xc tk)) := Lib.hid (stabQ _ HFX.out)
    clear hS' HNO HTK hii hii2 hlni hi9
    refine RelyJ.wp_region_byJ [[],[],[(0,44),(1,45)],[],[(3,47)],[],[(5,49)],[],[(4,48),(6,50),(7,51)],[(2,46)],[(8,52)],[]] [(0,44),(1,45),(2,46),(3,47),(4,48),(5,49),(6,50),(7,51),(8,52),(11,6)] (JV (fun k => k = w.heap.size + 1 ∨ k = w.heap.size + 2) W4 [9, 10] (VQ F1 t x xA xc gc tk S') (preQ w.heap.size) (postQ F1 w.heap.size S' x xA xc tk)) (by kernel_rfl) (by kernel_rfl) (by kernel_rfl) (by kernel_rfl) (by kernel_rfl) ?_ ?_ ?_
    · exact fun vs => JV.start (fun s hs => by
        rcases List.mem_cons.1 hs with rfl | hs
        · exact HR14.out
        · rcases List.mem_cons.1 hs with rfl | hs
          · exact HR24.out
          · cases hs) HST.out vs
    refine RelyJ.stepsZ_cons (by
        as_aux_lemma =>
        intro S vs w' hS hA hJ
        rw [if_pos (show Region.wanted _ _ = true from rfl)]
        refine RelyJ.gives_mono (R' := fun v w'' => v = .agg #[.int .i64 t.rc, .int .i64 t.rb, .int .i64 (t.nb : Int), .bool t.fr, .slice t.A t.L.length t.c, .slice t.tA t.tok.length t.tc, .int .i64 t.us] ∧ w'' = w') ?_ (by rintro v w2 ⟨rfl, rfl⟩; exact hJ.step HST.out (Below.refl _ _) 0 (by simp) _ rfl)
        have hk : Blk w' (w.heap.size) 34 #[.int .i64 t.rc, .int .i64 t.rb, .int .i64 (t.nb : Int), .bool t.fr, .slice t.A t.L.length t.c, .slice t.tA t.tok.length t.tc, .int .i64 t.us] := (hJ.tou.block (w.heap.size) HK4.out.lt (by have := HGC.out; omega)).trans HK4.out
        refine gives_loadrow 34 (.tmp 2) rfl (w.heap.size) rfl hk Tryz.underlying34 rfl (by kernel_rfl) ?_
        exact ⟨rfl, rfl⟩) ?_
    refine RelyJ.stepsZ_cons (by
        as_aux_lemma =>
        intro S vs w' hS hA hJ
        rw [if_pos (show Region.wanted _ _ = true from rfl)]
        refine RelyJ.gives_mono (R' := fun v w'' => v = .agg #[.string ⟨x.e.k.toArray⟩, .int .i64 x.e.s, .int .i64 x.e.u, .int .i64 x.e.o, .bool x.e.has, .slice xA x.e.v.length xc, .bool x.wh, .bool x.cl, .int .i64 x.us] ∧ w'' = w') ?_ (by rintro v w2 ⟨rfl, rfl⟩; exact hJ.step HST.out (Below.refl _ _) 1 (by simp) _ rfl)
        have hk : Blk w' (gc) 88 #[.string ⟨x.e.k.toArray⟩, .int .i64 x.e.s, .int .i64 x.e.u, .int .i64 x.e.o, .bool x.e.has, .slice xA x.e.v.length xc, .bool x.wh, .bool x.cl, .int .i64 x.us] := (hJ.tou.block (gc) HC4.out.lt (by have := HGC.out; omega)).trans HC4.out
        refine gives_loadrow 88 (.tmp 9) rfl (gc) rfl hk Tryz.underlying88 rfl (by kernel_rfl) ?_
        exact ⟨rfl, rfl⟩) ?_
    refine RelyJ.stepsZ_cons (by
        as_aux_lemma =>
        intro S vs w' hS hA hJ
        rw [if_pos (show Region.wanted _ _ = true from rfl)]
        have hx0 := hJ.vals 0 (hA ⟨0, Ground.data⟩ (by simp) rfl)
        simp only [VQ] at hx0
        have hx1 := hJ.vals 1 (hA ⟨1, Ground.data⟩ (by simp) rfl)
        simp only [VQ] at hx1
        refine RelyJ.gives_mono (R' := fun v w'' => VQ F1 t x xA xc gc tk S' 2 v w'' ∧ Below w'.heap.size w' w'') ?_ (by rintro v w2 ⟨h1, h2⟩; exact hJ.step HST.out h2 2 (by simp) _ h1)
        have HTO := Lib.hid hJ.tou
        clear hJ hA hS
        unfold Rely.gives
        simp only [Rely.sel, List.foldl_cons, List.foldl_nil, hx0, hx1]
        go_simp
        simp only [Rely.GivesR]
        refine (HUS.out w' HTO.out).mono ?_
        rintro e3 w3 ⟨t', rfl, hs3, hm3, hb3⟩
        exact ⟨_, rfl, ⟨t', rfl, hs3, hm3⟩, hb3⟩) ?_
    refine RelyJ.stepsZ_cons (by
        as_aux_lemma =>
        intro S vs w' hS hA hJ
        rw [if_pos (show Region.wanted _ _ = true from rfl)]
        refine RelyJ.gives_mono (R' := fun v w'' => v = .pointer (some ⟨gc, 0, none⟩) ∧ w'' = w') ?_ (by rintro v w2 ⟨rfl, rfl⟩; exact hJ.step HST.out (Below.refl _ _) 3 (by simp) _ rfl)
        clear hJ hA hS
        unfold Rely.gives
        simp only [Rely.sel, List.foldl_cons, List.foldl_nil]
        go_simp
        simp [Rely.GivesR]) ?_
    refine RelyJ.stepsZ_cons (by
        as_aux_lemma =>
        intro S vs w' hS hA hJ
        rw [if_pos (show Region.wanted _ _ = true from rfl)]
        refine RelyJ.gives_mono (R' := fun v w'' => v = .agg #[.string ⟨x.e.k.toArray⟩, .int .i64 x.e.s, .int .i64 x.e.u, .int .i64 x.e.o, .bool x.e.has, .slice xA x.e.v.length xc] ∧ w'' = w') ?_ (by rintro v w2 ⟨rfl, rfl⟩; exact hJ.step HST.out (Below.refl _ _) 4 (by simp) _ rfl)
        have hx3 := hJ.vals 3 (hA ⟨3, Ground.data⟩ (by simp) rfl)
        simp only [VQ] at hx3
        have hkc : Blk w' gc 88 #[.string ⟨x.e.k.toArray⟩, .int .i64 x.e.s, .int .i64 x.e.u, .int .i64 x.e.o, .bool x.e.has, .slice xA x.e.v.length xc, .bool x.wh, .bool x.cl, .int .i64 x.us] := (hJ.tou.block gc HC4.out.lt (by have := HGC.out; omega)).trans HC4.out
        have d0 := hkc.cell 0
        have d1 := hkc.cell 1
        have d2 := hkc.cell 2
        have d3 := hkc.cell 3
        have d4 := hkc.cell 4
        have d5 := hkc.cell 5
        simp only [List.getElem?_toArray, List.getElem?_cons_zero, List.getElem?_cons_succ] at d0 d1 d2 d3 d4 d5
        clear hkc
        clear hJ hA hS
        unfold Rely.gives
        simp only [Rely.sel, List.foldl_cons, List.foldl_nil, hx3]
        go_simp
        simp [Rely.GivesR]) ?_
    refine RelyJ.stepsZ_cons (by
        as_aux_lemma =>
        intro S vs w' hS hA hJ
        rw [if_pos (show Region.wanted _ _ = true from rfl)]
        refine RelyJ.gives_mono (R' := fun v w'' => v = .pointer (some ⟨gc, 6, none⟩) ∧ w'' = w') ?_ (by rintro v w2 ⟨rfl, rfl⟩; exact hJ.step HST.out (Below.refl _ _) 5 (by simp) _ rfl)
        clear hJ hA hS
        unfold Rely.gives
        simp only [Rely.sel, List.foldl_cons, List.foldl_nil]
        go_simp
        simp [Rely.GivesR]) ?_
    refine RelyJ.stepsZ_cons (by
        as_aux_lemma =>
        intro S vs w' hS hA hJ
        rw [if_pos (show Region.wanted _ _ = true from rfl)]
        refine RelyJ.gives_mono (R' := fun v w'' => v = .bool x.wh ∧ w'' = w') ?_ (by rintro v w2 ⟨rfl, rfl⟩; exact hJ.step HST.out (Below.refl _ _) 6 (by simp) _ rfl)
        have hx5 := hJ.vals 5 (hA ⟨5, Ground.data⟩ (by simp) rfl)
        simp only [VQ] at hx5
        have hkc : Blk w' gc 88 #[.string ⟨x.e.k.toArray⟩, .int .i64 x.e.s, .int .i64 x.e.u, .int .i64 x.e.o, .bool x.e.has, .slice xA x.e.v.length xc, .bool x.wh, .bool x.cl, .int .i64 x.us] := (hJ.tou.block gc HC4.out.lt (by have := HGC.out; omega)).trans HC4.out
        have d6 := hkc.cell 6
        simp only [List.getElem?_toArray, List.getElem?_cons_zero, List.getElem?_cons_succ] at d6
        clear hkc
        clear hJ hA hS
        unfold Rely.gives
        simp only [Rely.sel, List.foldl_cons, List.foldl_nil, hx5]
        go_simp
        simp [Rely.GivesR]) ?_
    refine RelyJ.stepsZ_cons (by
        as_aux_lemma =>
        intro S vs w' hS hA hJ
        rw [if_pos (show Region.wanted _ _ = true from rfl)]
        refine RelyJ.gives_mono (R' := fun v w'' => v = .int .i64 tk ∧ w'' = w') ?_ (by rintro v w2 ⟨rfl, rfl⟩; exact hJ.step HST.out (Below.refl _ _) 7 (by simp) _ rfl)
        clear hJ hA hS
        unfold Rely.gives
        simp only [Rely.sel, List.foldl_cons, List.foldl_nil]
        go_simp
        simp [Rely.GivesR]) ?_
    refine RelyJ.stepsZ_cons (by
        as_aux_lemma =>
        intro S vs w' hS hA hJ
        rw [if_pos (show Region.wanted _ _ = true from rfl)]
        have hx4 := hJ.vals 4 (hA ⟨4, Ground.data⟩ (by simp) rfl)
        simp only [VQ] at hx4
        have hx6 := hJ.vals 6 (hA ⟨6, Ground.data⟩ (by simp) rfl)
        simp only [VQ] at hx6
        have hx7 := hJ.vals 7 (hA ⟨7, Ground.data⟩ (by simp) rfl)
        simp only [VQ] at hx7
        refine RelyJ.gives_mono (R' := fun v w'' => v = .agg #[.string ⟨x.e.k.toArray⟩, .int .i64 x.e.s, .int .i64 x.e.u, .int .i64 x.e.o, .bool x.e.has, .slice xA x.e.v.length xc, .bool x.wh, .int .i64 tk] ∧ w'' = w') ?_ (by rintro v w2 ⟨rfl, rfl⟩; exact hJ.step HST.out (Below.refl _ _) 8 (by simp) _ rfl)
        clear hJ hA hS
        simp only [Rely.sel, List.foldl_cons, List.foldl_nil, hx4, hx6, hx7]
        exact gives_buildT 45 _ rfl #[.string ⟨x.e.k.toArray⟩, .int .i64 x.e.s, .int .i64 x.e.u, .int .i64 x.e.o, .bool x.e.has, .slice xA x.e.v.length xc, .bool x.wh, .int .i64 tk] [(0, .agg #[.string ⟨x.e.k.toArray⟩, .int .i64 x.e.s, .int .i64 x.e.u, .int .i64 x.e.o, .bool x.e.has, .slice xA x.e.v.length xc]), (1, .bool x.wh), (2, .int .i64 tk)] (by go_simp) (by kernel_rfl) ⟨rfl, rfl⟩) ?_
    refine RelyJ.stepsZ_cons (by
        as_aux_lemma =>
        intro S vs w' hS hA hJ
        rw [if_pos (show Region.wanted _ _ = true from rfl)]
        have hx2 := hJ.vals 2 (hA ⟨2, Ground.data⟩ (by simp) rfl)
        simp only [VQ] at hx2
        obtain ⟨t5, hx5, hs5, hm5⟩ := hx2
        have hz := (hJ.st 9 (by simp)).1 hS
        unfold preQ at hz
        rw [if_pos rfl] at hz
        refine gives_storerow 34 (.tmp 4) (.tmp 46) rfl (w.heap.size + 1) rfl (cs := #[.int .i64 t5.rc, .int .i64 t5.rb, .int .i64 (t5.nb : Int), .bool t5.fr, .slice t5.A t5.L.length t5.c, .slice t5.tA t5.tok.length t5.tc, .int .i64 t5.us]) (by simp only [Rely.sel, List.foldl_cons, List.foldl_nil, hx5]; rfl) hz rfl (by kernel_rfl) (by kernel_rfl) ?_
        intro w2 hk2 hg2
        refine hJ.put HST.out (touch_box hg2 (Or.inl rfl)) 9 (by unfold postQ; rw [if_pos rfl]; exact ⟨t5, hk2, hs5, hm5.touch (touch_box hg2 HF1.out)⟩) trivial (fun s' hs' hne => ?_)
        have : s' = 10 := by simpa [hne] using hs'
        subst this
        refine ⟨fun q => ?_, fun q => ?_⟩
        · unfold preQ at q ⊢; rw [if_neg (by decide)] at q ⊢; exact blk_grownT q hg2 (by omega)
        · unfold postQ at q ⊢; rw [if_neg (by decide)] at q ⊢; exact blk_grownT q hg2 (by omega)) ?_
    refine RelyJ.stepsZ_cons (by
        as_aux_lemma =>
        intro S vs w' hS hA hJ
        rw [if_pos (show Region.wanted _ _ = true from rfl)]
        have hx8 := hJ.vals 8 (hA ⟨8, Ground.data⟩ (by simp) rfl)
        simp only [VQ] at hx8
        have hz := (hJ.st 10 (by simp)).1 hS
        unfold preQ at hz
        rw [if_neg (by decide)] at hz
        refine gives_storerow 45 (.tmp 5) (.tmp 52) rfl (w.heap.size + 2) rfl (cs := #[.string ⟨x.e.k.toArray⟩, .int .i64 x.e.s, .int .i64 x.e.u, .int .i64 x.e.o, .bool x.e.has, .slice xA x.e.v.length xc, .bool x.wh, .int .i64 tk]) (by simp only [Rely.sel, List.foldl_cons, List.foldl_nil, hx8]; rfl) hz rfl (by kernel_rfl) (by kernel_rfl) ?_
        intro w2 hk2 hg2
        refine hJ.put HST.out (touch_box hg2 (Or.inr rfl)) 10 (by unfold postQ; rw [if_neg (by decide)]; exact hk2) trivial (fun s' hs' hne => ?_)
        have : s' = 9 := by simpa [hne] using hs'
        subst this
        refine ⟨fun q => ?_, fun q => ?_⟩
        · unfold preQ at q ⊢; rw [if_pos rfl] at q ⊢; exact blk_grownT q hg2 (by omega)
        · unfold postQ at q ⊢; rw [if_pos rfl] at q ⊢
          obtain ⟨t', a, b, c⟩ := q
          exact ⟨t', blk_grownT a hg2 (by omega), b, c.touch (touch_box hg2 HF2.out)⟩) ?_
    refine RelyJ.stepsZ_cons (by
        as_aux_lemma =>
        intro S vs w' hS hA hJ
        rw [if_pos (show Region.wanted _ _ = true from rfl)]
        refine RelyJ.gives_mono (R' := fun v w'' => v = .int .i64 0 ∧ w'' = w') ?_ (by rintro v w2 ⟨rfl, rfl⟩; exact hJ.step HST.out (Below.refl _ _) 11 (by simp) _ rfl)
        clear hJ hA hS
        unfold Rely.gives
        simp only [Rely.sel, List.foldl_cons, List.foldl_nil]
        go_simp
        simp [Rely.GivesR]) ?_
    exact RelyJ.stepsZ_nil
    intro S vs w' hS hJ
    have h9 := (hJ.st 9 (by simp)).2 (hS 9 (by decide))
    have h10 := (hJ.st 10 (by simp)).2 (hS 10 (by decide))
    unfold postQ at h9 h10
    rw [if_pos rfl] at h9
    rw [if_neg (by decide)] at h10
    obtain ⟨t', hkt, hst, hmt⟩ := h9
    have hv11 := hJ.vals 11 (hS 11 (by decide))
    simp only [VQ] at hv11
    have HKz := Lib.hid hkt
    have HRz := Lib.hid h10
    have HTS := Lib.hid hst
    have HMz := Lib.hid (HNR.out _ _ hmt)
    have HVz := Lib.hid (HNV.out _ _ _ _ (HV4.out.touch ⟨hJ.tou.os, hJ.tou.tape, hJ.tou.output, hJ.tou.size, fun k hk hn => hJ.tou.block k hk fun q => hn (HFX.out k q)⟩))
    have HBz : Hid (Below w.heap.size w w') := Lib.hid (HB4.out.trans (hJ.tou.below (B := w.heap.size) HB4.out.size fun k hk => by rcases hk with rfl | rfl <;> omega))
    simp only [Rely.sel, List.foldl_cons, List.foldl_nil, hv11]
    simp only [Act.put, List.setIfInBounds_toArray, List.set_cons_succ, List.set_cons_zero]
    clear hS hJ hkt hst hmt h10 hv11 HUS HST
    go_wp2
    exact bodyPost_ret (v := .tuple #[.agg #[.int .i64 t'.rc, .int .i64 t'.rb, .int .i64 (t'.nb : Int), .bool t'.fr, .slice t'.A t'.L.length t'.c, .slice t'.tA t'.tok.length t'.tc, .int .i64 t'.us], repV ⟨x.e, x.wh, tk⟩ xA xc, .int .i64 0]) (res_cct (p := 4) (q := 5) (ty := 34) (ty2 := 45) Tryz.results28 _ _ (w.heap.size + 1) 34 #[.int .i64 t'.rc, .int .i64 t'.rb, .int .i64 (t'.nb : Int), .bool t'.fr, .slice t'.A t'.L.length t'.c, .slice t'.tA t'.tok.length t'.tc, .int .i64 t'.us] (0, 0) _ rfl HKz.out Tryz.underlying34 rfl (by kernel_rfl) (w.heap.size + 2) 45 #[.string ⟨x.e.k.toArray⟩, .int .i64 x.e.s, .int .i64 x.e.u, .int .i64 x.e.o, .bool x.e.has, .slice xA x.e.v.length xc, .bool x.wh, .int .i64 tk] (0, 0) _ rfl HRz.out Tryz.underlying45 rfl (by kernel_rfl)) rfl ⟨t', xA, xc, by rw [HQR.out], by rw [HQR.out]; exact HTS.out, HMz.out, by rw [HQR.out]; exact HVz.out, HBz.out⟩
end Go.Proofs.YtpebhfjcakllmaaGreat
namespace Go.Proofs.YtpebhfjcakllmaaGreat
open Go.RowKit Mem
set_option maxRecDepth 10000
set_option maxHeartbeats 4000000
theorem refright_big (key : ByteArray) (s u o : Int) (has : Bool) (A : Option Addr) (m c : Nat) (hm : (m : Int) ≤ 9223372036854775807) (hsz : (key.size : Int) ≤ 9223372036854775807) (w : World) :
    Calls Tryz.prog 50 #[entV key s u o has A m c] w (IsI (rightE key.size m s u o has) w) := by
  have HB : Hid (Below w.heap.size w (w.alloc (entO key s u o has A m c))) := Lib.hid ((Below.refl _ _).alloc (Nat.le_refl _) _)
  obtain ⟨hk, hv⟩ := ways key.size m has
  rcases hk with hk | hk | ⟨hk, hk2⟩
  · clear hv
    go_enter Tryz.func50, Tryz.ntmps50
    go_wp2
    go_ret
    exact isI_of (rightE_no (by rintro ⟨h1, _⟩; omega)).symm HB.out
  · clear hv
    go_enter Tryz.func50, Tryz.ntmps50
    go_wp2
    go_ret
    exact isI_of (rightE_no (by rintro ⟨_, h1, _⟩; omega)).symm HB.out
  rcases hv with hv | ⟨hv, rfl⟩ | ⟨hv, rfl, rfl⟩ | ⟨hv, hv2, rfl⟩
  · go_enter Tryz.func50, Tryz.ntmps50
    go_wp2
    go_ret
    exact isI_of (rightE_no (by rintro ⟨_, _, h1, _⟩; omega)).symm HB.out
  · rcases checkT_02 s u o with h0 | h0
    · have H0 := Lib.hid h0
      clear h0
      cases h1 : (s == 0)
      · have hq : (s == 0) = false := h1
        have H1 : Hid ((s == 0) = false) := Lib.hid h1
        clear h1
        go_enter Tryz.func50, Tryz.ntmps50
        go_wp2_with (go_at_call 70; refine (refcheck_val _ _ _ _ (by assumption) _).mono ?_; rintro e w2 ⟨rfl, hb⟩; obtain ⟨hc, hf⟩ := bcell hb; have HB2 := Lib.hid (HB.out.trans (hb.mono HB.out.size)); clear hb)
        go_ret
        exact isI_of ((rightE_check (by refine ⟨by omega, by omega, by omega, by simp, ?_⟩; rintro ⟨h1, h2⟩; exact hid_some H1 h1)).trans H0.out).symm HB2.out
      · have H1 : Hid ((s == 0) = true) := Lib.hid h1
        go_enter Tryz.func50, Tryz.ntmps50
        go_wp2_with (go_at_call 70; refine (refcheck_val _ _ _ _ (by assumption) _).mono ?_; rintro e w2 ⟨rfl, hb⟩; obtain ⟨hc, hf⟩ := bcell hb; have HB2 := Lib.hid (HB.out.trans (hb.mono HB.out.size)); clear hb)
        go_ret
        exact isI_of (rightE_no (by rintro ⟨h1, h2, h3, h4, h5, h6⟩; exact h6 ⟨hid_nought H1, rfl⟩)).symm HB2.out
    · have H0 := Lib.hid h0
      clear h0
      go_enter Tryz.func50, Tryz.ntmps50
      go_wp2_with (go_at_call 70; refine (refcheck_val _ _ _ _ (by assumption) _).mono ?_; rintro e w2 ⟨rfl, hb⟩; obtain ⟨hc, hf⟩ := bcell hb; have HB2 := Lib.hid (HB.out.trans (hb.mono HB.out.size)); clear hb)
      go_ret
      exact isI_of (rightE_no (by rintro ⟨_, _, _, _, h1, _⟩; have := H0.out; omega)).symm HB2.out
  · rcases checkT_02 s u o with h0 | h0
    · have H0 := Lib.hid h0
      clear h0
      cases h1 : (s == 0)
      all_goals
        go_enter Tryz.func50, Tryz.ntmps50
        go_wp2_with (go_at_call 70; refine (refcheck_val _ _ _ _ (by assumption) _).mono ?_; rintro e w2 ⟨rfl, hb⟩; obtain ⟨hc, hf⟩ := bcell hb; have HB2 := Lib.hid (HB.out.trans (hb.mono HB.out.size)); clear hb)
        go_ret
        exact isI_of ((rightE_check (by refine ⟨by omega, by omega, by omega, by simp, ?_⟩; rintro ⟨h1, h2⟩; simp at h2)).trans H0.out).symm HB2.out
    · have H0 := Lib.hid h0
      clear h0
      go_enter Tryz.func50, Tryz.ntmps50
      go_wp2_with (go_at_call 70; refine (refcheck_val _ _ _ _ (by assumption) _).mono ?_; rintro e w2 ⟨rfl, hb⟩; obtain ⟨hc, hf⟩ := bcell hb; have HB2 := Lib.hid (HB.out.trans (hb.mono HB.out.size)); clear hb)
      go_ret
      exact isI_of (rightE_no (by rintro ⟨_, _, _, _, h1, _⟩; have := H0.out; omega)).symm HB2.out
  · go_enter Tryz.func50, Tryz.ntmps50
    go_wp2
    go_ret
    exact isI_of (rightE_no (by rintro ⟨_, _, _, h1, _⟩; simp at h1; omega)).symm HB.out
end Go.Proofs.YtpebhfjcakllmaaGreat
namespace Go.Proofs.YtpebhfjcakllmaaGreat
open Go.RowKit Go.ChangeShapes Mem Be Word Rg Go.Maps
set_option maxRecDepth 100000
set_option maxHeartbeats 8000000
set_option linter.unusedVariables false
set_option linter.unusedSimpArgs false
theorem lay_Q {S : Cl} {e : EntP} {R : Cl × Bool} (ok : OkC S) (h : roomQ (S.T.length + 1) S e = R) (wh cl : Bool) : (R.2 = true → layS S e wh cl = (useS R.1 ⟨e, wh, cl, 0⟩, 0) ∧ OkC R.1 ∧ R.1.us = S.us) ∧ (R.2 = false → layS S e wh cl = (S, 30)) := by
  subst h
  by_cases h0 : (roomS S e).2 = 0
  · rw [(roomQ_S S e ok.srt).1 h0]
    refine ⟨fun _ => ⟨?_, ok_evs (room_evs _ S e) ok, (evs_keep (room_evs _ S e) ok.srt).us⟩, fun h => (by cases h)⟩
    unfold layS
    rw [if_pos h0]
  · have h1 := (roomQ_S S e ok.srt).2 h0
    refine ⟨fun h => (by rw [h1] at h; cases h), fun _ => ?_⟩
    unfold layS
    rw [if_neg h0, room_busy ok.srt h0]
theorem rright (e : EntP) (eA : Option Addr) (ec : Nat) (r : Int) (h : rightE e.k.length e.v.length e.s e.u e.o e.has = r) (hk : e.k.length ≤ maxLen) (hv : e.v.length ≤ maxLen) (W : World) : Calls Tryz.prog 50 #[.agg #[.string ⟨e.k.toArray⟩, .int .i64 e.s, .int .i64 e.u, .int .i64 e.o, .bool e.has, .slice eA e.v.length ec]] W (IsI r W) := by
  have hs : (⟨e.k.toArray⟩ : ByteArray).size = e.k.length := by show e.k.toArray.size = _; simp
  unfold maxLen at hk hv
  have := refright_big ⟨e.k.toArray⟩ e.s e.u e.o e.has eA e.v.length ec (by omega) (by rw [hs]; omega) W
  rw [hs, h] at this
  exact this
/-- A table and a number that are handed back. -/
def TrI (F : Nat → Prop) (R : Cl × Int) (w : World) (e : Ending) (w' : World) : Prop := ∃ t : Tr, e = .returned (.tuple #[.agg #[.int .i64 t.rc, .int .i64 t.rb, .int .i64 (t.nb : Int), .bool t.fr, .slice t.A t.L.length t.c, .slice t.tA t.tok.length t.tc, .int .i64 t.us], .int .i64 R.2]) ∧ trS t = R.1 ∧ TrN F w' t ∧ Below w.heap.size w w'
/-- A table, whether it is done, and a number. -/
def TrF (F : Nat → Prop) (R : Cl × Bool × Int) (w : World) (e : Ending) (w' : World) : Prop := ∃ t : Tr, e = .returned (.tuple #[.agg #[.int .i64 t.rc, .int .i64 t.rb, .int .i64 (t.nb : Int), .bool t.fr, .slice t.A t.L.length t.c, .slice t.tA t.tok.length t.tc, .int .i64 t.us], .bool R.2.1, .int .i64 R.2.2]) ∧ trS t = R.1 ∧ TrN F w' t ∧ Below w.heap.size w w'
end Go.Proofs.YtpebhfjcakllmaaGreat
namespace Go.Proofs.YtpebhfjcakllmaaGreat
open Go.RowKit Go.ChangeShapes Mem Be Word Rg Go.Maps
set_option maxRecDepth 100000
set_option maxHeartbeats 8000000
set_option linter.unusedVariables false
set_option linter.unusedSimpArgs false
theorem rstore (t : Tr) (F : Nat → Prop) (e : EntP) (eA : Option Addr) (ec : Nat) (w : World) (hF : ∀ k, F k → k < w.heap.size) (h : TrN F w t) (ok : OkC (trS t)) (hv : RowN F w eA (e.v.map byteV) ∧ e.v.length ≤ ec ∧ ec ≤ maxLen) (hk : e.k.length ≤ maxLen) (hu : t.us ≤ 4611686018427387904) (hq : ∀ v ∈ t.tok, v + ((trS t).T.length : Int) ≤ 4611686018427390000) :
    Calls Tryz.prog 29 #[.agg #[.int .i64 t.rc, .int .i64 t.rb, .int .i64 (t.nb : Int), .bool t.fr, .slice t.A t.L.length t.c, .slice t.tA t.tok.length t.tc, .int .i64 t.us], .agg #[.string ⟨e.k.toArray⟩, .int .i64 e.s, .int .i64 e.u, .int .i64 e.o, .bool e.has, .slice eA e.v.length ec]] w (TrI F (storeS (trS t) e) w) := by
  obtain ⟨rv, hrv⟩ : ∃ r, rightE e.k.length e.v.length e.s e.u e.o e.has = r := ⟨_, rfl⟩
  have HRI := Lib.hid (rright e eA ec rv hrv hk (by omega))
  have HUU := Lib.hid hu
  have HQ := Lib.hid hq
  have HOKE : Hid (okE e ↔ rv = 0) := Lib.hid (by unfold okE; rw [hrv])
  have hV1 : okE e → VlN F w e.v eA ec := fun he => ⟨hv.1, hv.2.1, hv.2.2, (sizE_le he).2.2.1⟩
  clear hu hq hv hk hrv
  have hb : Below w.heap.size w ((((w).alloc (.cells #[.int .i64 t.rc, .int .i64 t.rb, .int .i64 (t.nb : Int), .bool t.fr, .slice t.A t.L.length t.c, .slice t.tA t.tok.length t.tc, .int .i64 t.us] 34)).alloc (.cells #[.string ⟨e.k.toArray⟩, .int .i64 e.s, .int .i64 e.u, .int .i64 e.o, .bool e.has, .slice eA e.v.length ec] 43)).alloc (.cells #[.int .i64 0, .int .i64 0, .int .i64 0, .bool false, .slice none 0 0, .slice none 0 0, .int .i64 0] 34)) := (((Below.refl _ _).alloc (Nat.le_refl _) _).alloc (by simp) _).alloc (by simp; omega) _
  have h_HK : Blk ((((w).alloc (.cells #[.int .i64 t.rc, .int .i64 t.rb, .int .i64 (t.nb : Int), .bool t.fr, .slice t.A t.L.length t.c, .slice t.tA t.tok.length t.tc, .int .i64 t.us] 34)).alloc (.cells #[.string ⟨e.k.toArray⟩, .int .i64 e.s, .int .i64 e.u, .int .i64 e.o, .bool e.has, .slice eA e.v.length ec] 43)).alloc (.cells #[.int .i64 0, .int .i64 0, .int .i64 0, .bool false, .slice none 0 0, .slice none 0 0, .int .i64 0] 34)) (w.heap.size) 34 #[.int .i64 t.rc, .int .i64 t.rb, .int .i64 (t.nb : Int), .bool t.fr, .slice t.A t.L.length t.c, .slice t.tA t.tok.length t.tc, .int .i64 t.us] := (((Blk.new (w) 34 #[.int .i64 t.rc, .int .i64 t.rb, .int .i64 (t.nb : Int), .bool t.fr, .slice t.A t.L.length t.c, .slice t.tA t.tok.length t.tc, .int .i64 t.us]).alloc (.cells #[.string ⟨e.k.toArray⟩, .int .i64 e.s, .int .i64 e.u, .int .i64 e.o, .bool e.has, .slice eA e.v.length ec] 43)).alloc (.cells #[.int .i64 0, .int .i64 0, .int .i64 0, .bool false, .slice none 0 0, .slice none 0 0, .int .i64 0] 34))
  have h_HX : Blk ((((w).alloc (.cells #[.int .i64 t.rc, .int .i64 t.rb, .int .i64 (t.nb : Int), .bool t.fr, .slice t.A t.L.length t.c, .slice t.tA t.tok.length t.tc, .int .i64 t.us] 34)).alloc (.cells #[.string ⟨e.k.toArray⟩, .int .i64 e.s, .int .i64 e.u, .int .i64 e.o, .bool e.has, .slice eA e.v.length ec] 43)).alloc (.cells #[.int .i64 0, .int .i64 0, .int .i64 0, .bool false, .slice none 0 0, .slice none 0 0, .int .i64 0] 34)) (w.heap.size + 1) 43 #[.string ⟨e.k.toArray⟩, .int .i64 e.s, .int .i64 e.u, .int .i64 e.o, .bool e.has, .slice eA e.v.length ec] := blk_at (by simp) ((Blk.new ((w).alloc (.cells #[.int .i64 t.rc, .int .i64 t.rb, .int .i64 (t.nb : Int), .bool t.fr, .slice t.A t.L.length t.c, .slice t.tA t.tok.length t.tc, .int .i64 t.us] 34)) 43 #[.string ⟨e.k.toArray⟩, .int .i64 e.s, .int .i64 e.u, .int .i64 e.o, .bool e.has, .slice eA e.v.length ec]).alloc (.cells #[.int .i64 0, .int .i64 0, .int .i64 0, .bool false, .slice none 0 0, .slice none 0 0, .int .i64 0] 34))
  have h_HR : Blk ((((w).alloc (.cells #[.int .i64 t.rc, .int .i64 t.rb, .int .i64 (t.nb : Int), .bool t.fr, .slice t.A t.L.length t.c, .slice t.tA t.tok.length t.tc, .int .i64 t.us] 34)).alloc (.cells #[.string ⟨e.k.toArray⟩, .int .i64 e.s, .int .i64 e.u, .int .i64 e.o, .bool e.has, .slice eA e.v.length ec] 43)).alloc (.cells #[.int .i64 0, .int .i64 0, .int .i64 0, .bool false, .slice none 0 0, .slice none 0 0, .int .i64 0] 34)) (w.heap.size + 2) 34 #[.int .i64 0, .int .i64 0, .int .i64 0, .bool false, .slice none 0 0, .slice none 0 0, .int .i64 0] := blk_at (by simp) (Blk.new (((w).alloc (.cells #[.int .i64 t.rc, .int .i64 t.rb, .int .i64 (t.nb : Int), .bool t.fr, .slice t.A t.L.length t.c, .slice t.tA t.tok.length t.tc, .int .i64 t.us] 34)).alloc (.cells #[.string ⟨e.k.toArray⟩, .int .i64 e.s, .int .i64 e.u, .int .i64 e.o, .bool e.has, .slice eA e.v.length ec] 43)) 34 #[.int .i64 0, .int .i64 0, .int .i64 0, .bool false, .slice none 0 0, .slice none 0 0, .int .i64 0])
  have hm1 := h.wide hb
  have hV2 : okE e → VlN (More2 F w.heap.size ((((w).alloc (.cells #[.int .i64 t.rc, .int .i64 t.rb, .int .i64 (t.nb : Int), .bool t.fr, .slice t.A t.L.length t.c, .slice t.tA t.tok.length t.tc, .int .i64 t.us] 34)).alloc (.cells #[.string ⟨e.k.toArray⟩, .int .i64 e.s, .int .i64 e.u, .int .i64 e.o, .bool e.has, .slice eA e.v.length ec] 43)).alloc (.cells #[.int .i64 0, .int .i64 0, .int .i64 0, .bool false, .slice none 0 0, .slice none 0 0, .int .i64 0] 34)).heap.size) ((((w).alloc (.cells #[.int .i64 t.rc, .int .i64 t.rb, .int .i64 (t.nb : Int), .bool t.fr, .slice t.A t.L.length t.c, .slice t.tA t.tok.length t.tc, .int .i64 t.us] 34)).alloc (.cells #[.string ⟨e.k.toArray⟩, .int .i64 e.s, .int .i64 e.u, .int .i64 e.o, .bool e.has, .slice eA e.v.length ec] 43)).alloc (.cells #[.int .i64 0, .int .i64 0, .int .i64 0, .bool false, .slice none 0 0, .slice none 0 0, .int .i64 0] 34)) e.v eA ec := fun he => (hV1 he).wide hb
  obtain ⟨W1, hW1⟩ : ∃ W, (((w).alloc (.cells #[.int .i64 t.rc, .int .i64 t.rb, .int .i64 (t.nb : Int), .bool t.fr, .slice t.A t.L.length t.c, .slice t.tA t.tok.length t.tc, .int .i64 t.us] 34)).alloc (.cells #[.string ⟨e.k.toArray⟩, .int .i64 e.s, .int .i64 e.u, .int .i64 e.o, .bool e.has, .slice eA e.v.length ec] 43)).alloc (.cells #[.int .i64 0, .int .i64 0, .int .i64 0, .bool false, .slice none 0 0, .slice none 0 0, .int .i64 0] 34) = W := ⟨_, rfl⟩
  have hsz : W1.heap.size = w.heap.size + 3 := by rw [← hW1]; simp
  rw [hW1] at hb hm1 hV2 h_HK h_HX h_HR
  have HK := Lib.hid h_HK
  have HX := Lib.hid h_HX
  have HR := Lib.hid h_HR
  have HB := Lib.hid hb
  have HM := Lib.hid hm1
  have HF := Lib.hid hF
  have HSZ := Lib.hid hsz
  have HOK := Lib.hid ok
  obtain ⟨F1, hF1⟩ : ∃ F1, More2 F w.heap.size W1.heap.size = F1 := ⟨_, rfl⟩
  have HFL : Hid (∀ k, F1 k → k < W1.heap.size) := Lib.hid (by rw [← hF1]; exact more2_lt hF hb.size)
  have HFR : Hid (F1 (w.heap.size + 2)) := Lib.hid (by rw [← hF1]; exact Or.inr ⟨by omega, by omega⟩)
  have HNR : Hid (∀ (w' : World) (t' : Tr), TrN F1 w' t' → TrN F w' t') := Lib.hid (fun w' t' h => by rw [← hF1] at h; exact h.narrow)
  have HL : Hid (W1.heap.size ≤ W1.heap.size) := Lib.hid (Nat.le_refl _)
  rw [hF1] at HM hV2
  clear hb h_HK h_HX h_HR h hF hm1 hF1 hsz ok
  have HV2 := Lib.hid hV2
  clear hV1 hV2
  go_enter Tryz.func29, Tryz.ntmps29
  go_wp2_with (refine wpList_load_row rfl 43 _ rfl _ rfl _ _ _ _ (show _ = _ from HX.out) Tryz.underlying43 rfl (by kernel_rfl) ?_)
  refine (HRI.out _).mono ?_
  rintro e2 w2 ⟨rfl, hb2⟩
  replace HK := Lib.hid (HK.out.below hb2 HK.out.lt)
  replace HX := Lib.hid (HX.out.below hb2 HX.out.lt)
  replace HR := Lib.hid (HR.out.below hb2 HR.out.lt)
  replace HB := Lib.hid (HB.out.trans (hb2.mono HB.out.size))
  replace HM := Lib.hid (HM.out.below hb2)
  replace HL := Lib.hid (Nat.le_trans HL.out hb2.size)
  replace HV2 : Hid (okE e → VlN F1 w2 e.v eA ec) := Lib.hid fun he => (HV2.out he).below hb2
  clear hb2 hW1 HRI
  have x1 : w2.cell? ⟨w.heap.size + 1, 1, none⟩ = some (.int .i64 e.s) := HX.out.cell 1
  by_cases hr0 : rv = 0
  rotate_left
  · have HQR : Hid (storeS (trS t) e = (trS t, 2)) := Lib.hid (by unfold storeS; rw [if_pos (Or.inl (fun he => hr0 (HOKE.out.1 he)))])
    have hr1 : (rv == 0) = false := by simpa using hr0
    go_upto_region 2 with fail
    go_wp2_with (first | (refine wpList_load_row rfl 34 _ rfl _ rfl _ _ _ _ (show _ = _ from HK.out) Tryz.underlying34 rfl (by kernel_rfl) ?_) | (refine store_box rfl 34 _ _ rfl (w.heap.size + 2) 34 #[.int .i64 0, .int .i64 0, .int .i64 0, .bool false, .slice none 0 0, .slice none 0 0, .int .i64 0] #[.int .i64 t.rc, .int .i64 t.rb, .int .i64 (t.nb : Int), .bool t.fr, .slice t.A t.L.length t.c, .slice t.tA t.tok.length t.tc, .int .i64 t.us] HR.out rfl rfl rfl (by kernel_rfl) (by kernel_rfl) ?_))
    intro wz hkz hgz
    have HKz := Lib.hid hkz
    have HBz : Hid (Below w.heap.size w wz) := Lib.hid (HB.out.grown hgz HB.out.size fun g hg => by cases hg; omega)
    have HMz := Lib.hid (HNR.out _ _ (HM.out.touch (touch_box hgz HFR.out)))
    clear hkz hgz
    go_wp2
    exact bodyPost_ret (v := .tuple #[.agg #[.int .i64 t.rc, .int .i64 t.rb, .int .i64 (t.nb : Int), .bool t.fr, .slice t.A t.L.length t.c, .slice t.tA t.tok.length t.tc, .int .i64 t.us], .int .i64 2]) (res_ct (p := 4) (q := 5) (ty := 34) Tryz.results29 _ _ (w.heap.size + 2) 34 #[.int .i64 t.rc, .int .i64 t.rb, .int .i64 (t.nb : Int), .bool t.fr, .slice t.A t.L.length t.c, .slice t.tA t.tok.length t.tc, .int .i64 t.us] (0, 0) _ rfl HKz.out Tryz.underlying34 rfl (by kernel_rfl)) rfl ⟨t, by rw [HQR.out], by rw [HQR.out], HMz.out, HBz.out⟩
  have HE := Lib.hid (HOKE.out.2 hr0)
  subst hr0
  have hr1 : ((0 : Int) == 0) = true := rfl
  by_cases hs0 : e.s = 0
  · have HQR : Hid (storeS (trS t) e = (trS t, 2)) := Lib.hid (by unfold storeS; rw [if_pos (Or.inr hs0)])
    have hs1 : (e.s == 0) = true := by simpa using hs0
    clear hs0
    go_upto_region 2 with fail
    go_wp2_with (first | (refine wpList_load_row rfl 34 _ rfl _ rfl _ _ _ _ (show _ = _ from HK.out) Tryz.underlying34 rfl (by kernel_rfl) ?_) | (refine store_box rfl 34 _ _ rfl (w.heap.size + 2) 34 #[.int .i64 0, .int .i64 0, .int .i64 0, .bool false, .slice none 0 0, .slice none 0 0, .int .i64 0] #[.int .i64 t.rc, .int .i64 t.rb, .int .i64 (t.nb : Int), .bool t.fr, .slice t.A t.L.length t.c, .slice t.tA t.tok.length t.tc, .int .i64 t.us] HR.out rfl rfl rfl (by kernel_rfl) (by kernel_rfl) ?_))
    intro wz hkz hgz
    have HKz := Lib.hid hkz
    have HBz : Hid (Below w.heap.size w wz) := Lib.hid (HB.out.grown hgz HB.out.size fun g hg => by cases hg; omega)
    have HMz := Lib.hid (HNR.out _ _ (HM.out.touch (touch_box hgz HFR.out)))
    clear hkz hgz
    go_wp2
    exact bodyPost_ret (v := .tuple #[.agg #[.int .i64 t.rc, .int .i64 t.rb, .int .i64 (t.nb : Int), .bool t.fr, .slice t.A t.L.length t.c, .slice t.tA t.tok.length t.tc, .int .i64 t.us], .int .i64 2]) (res_ct (p := 4) (q := 5) (ty := 34) Tryz.results29 _ _ (w.heap.size + 2) 34 #[.int .i64 t.rc, .int .i64 t.rb, .int .i64 (t.nb : Int), .bool t.fr, .slice t.A t.L.length t.c, .slice t.tA t.tok.length t.tc, .int .i64 t.us] (0, 0) _ rfl HKz.out Tryz.underlying34 rfl (by kernel_rfl)) rfl ⟨t, by rw [HQR.out], by rw [HQR.out], HMz.out, HBz.out⟩
  have hs1 : (e.s == 0) = false := by simpa using hs0
  have HNO : Hid (¬ (¬ okE e ∨ e.s = 0)) := Lib.hid (fun h => h.elim (fun h => h HE.out) hs0)
  have HV := Lib.hid (HV2.out HE.out)
  clear hs0 HV2 HOKE
  have x0 : w2.cell? ⟨w.heap.size + 1, 0, none⟩ = some (.string ⟨e.k.toArray⟩) := HX.out.cell 0
  have HFD := Lib.hid (rfind t e.k w2 HM.out.m HOK.out.srt)
  go_wp2_with ((refine wpList_load_row rfl 34 _ rfl _ rfl _ _ _ _ (show _ = _ from HK.out) Tryz.underlying34 rfl (by kernel_rfl) ?_))
  refine HFD.out.mono ?_
  rintro e3 w3 ⟨r, rfl, hr, hb3⟩
  replace HK := Lib.hid (HK.out.below hb3 HK.out.lt)
  replace HX := Lib.hid (HX.out.below hb3 HX.out.lt)
  replace HR := Lib.hid (HR.out.below hb3 HR.out.lt)
  replace HB := Lib.hid (HB.out.trans (hb3.mono HB.out.size))
  replace HM := Lib.hid (HM.out.below hb3)
  replace HL := Lib.hid (Nat.le_trans HL.out hb3.size)
  replace HV := Lib.hid (HV.out.below hb3)
  clear hb3 HFD
  clear x0 x1 hs1 hr1
  obtain ⟨B, hB⟩ : ∃ B, bk t.nb e.k = B := ⟨_, rfl⟩
  have hBl : B < t.tok.length := by rw [← hB]; exact bk_lt HOK.out e.k
  have htk := tokK_eq t e.k B hB hBl
  have HBK : Hid (∀ W, Calls Tryz.prog 47 #[.agg #[.int .i64 t.rc, .int .i64 t.rb, .int .i64 (t.nb : Int), .bool t.fr, .slice t.A t.L.length t.c, .slice t.tA t.tok.length t.tc, .int .i64 t.us], .string ⟨e.k.toArray⟩] W (fun e w' => e = .returned (.int .i64 ((B : Nat) : Int)) ∧ Below W.heap.size W w')) := Lib.hid fun W => by
    have := rbucket t e.k (by have := (sizE_le HE.out).2.1; omega) HOK.out.nb W
    rw [hB] at this; exact this
  obtain ⟨bt, ot, htA, hct⟩ := tok_at HM.out B hBl
  obtain ⟨tk, htkv⟩ : ∃ v, t.tok[B] = v := ⟨_, rfl⟩
  rw [htkv] at hct htk
  have HTK := Lib.hid htk
  have hk5 : ∀ p : Later w3, p.world.cell? ⟨w.heap.size, 5, none⟩ = some (.slice (some ⟨bt, ot, none⟩) t.tok.length t.tc) := by rw [← htA]; exact later_blk_cell HK.out 5 _ rfl
  have hct2 := later_cell hct
  have HLK : Hid (∀ p : Later w3, Blk p.world w.heap.size 34 #[.int .i64 t.rc, .int .i64 t.rb, .int .i64 (t.nb : Int), .bool t.fr, .slice t.A t.L.length t.c, .slice t.tA t.tok.length t.tc, .int .i64 t.us]) := Lib.hid fun p => later_blk HK.out p
  have hx0 := later_blk_cell HX.out 0 _ rfl
  have hBi0 : (0 : Int) ≤ (B : Int) := by omega
  have hBi : (B : Int) < (t.tok.length : Int) := by omega
  have htli : (t.tok.length : Int) ≤ 100000 := by have := HM.out.tl; omega
  clear hct htA hB htk htkv hBl
  obtain ⟨wb, hwb⟩ : ∃ b, (tk == 0) = b := ⟨_, rfl⟩
  go_wp2_with fail
  refine wp_region_later (by kernel_rfl) (by kernel_rfl) ?_
  repeat (first | (go_big_quiet_want; refine quiet_loadrow 34 (.tmp 2) rfl (w.heap.size) rfl HLK.out Tryz.underlying34 rfl (by kernel_rfl) ?_; simp only [Act.put, List.setIfInBounds_toArray, List.set_cons_succ, List.set_cons_zero]; go_big_quiet_on) | go_big_quiet_step ((go_at_call 47; exact later_of (HBK.out _))))
  refine wpQuiet_nil ?_
  intro w4 hw'
  obtain ⟨p, hp4⟩ := hw'
  have hb4 : Below w3.heap.size w3 w4 := by rw [hp4]; exact p.bel
  clear hp4 p
  replace HK := Lib.hid (HK.out.below hb4 HK.out.lt)
  replace HX := Lib.hid (HX.out.below hb4 HX.out.lt)
  replace HR := Lib.hid (HR.out.below hb4 HR.out.lt)
  replace HB := Lib.hid (HB.out.trans (hb4.mono HB.out.size))
  replace HM := Lib.hid (HM.out.below hb4)
  replace HL := Lib.hid (Nat.le_trans HL.out hb4.size)
  replace HV := Lib.hid (HV.out.below hb4)
  clear hb4 hk5 hct2 HLK hx0 HBK hBi0 hBi htli
  rcases hr with ⟨rfl, hget⟩ | ⟨i, hi2, rfl, hget⟩
  · have HLAY : Hid (storeS (trS t) e = layS (trS t) e wb false) := Lib.hid (by unfold storeS; rw [if_neg HNO.out, hget]; simp only; rw [HTK.out, hwb])
    have hn9 : decide ((0 : Int) ≤ -1) = false := by decide
    clear hget HNO HTK hwb
    go_upto_region 9 with fail
    clear hn9
    have HRO := Lib.hid (rroom ((trS t).T.length + 1) t F1 e eA ec w4 (fun k hk => Nat.lt_of_lt_of_le (HFL.out k hk) HL.out) HM.out HOK.out HV.out HE.out HQ.out (Nat.lt_succ_self _))
    obtain ⟨⟨S1, ok1⟩, hR⟩ : ∃ R, roomQ ((trS t).T.length + 1) (trS t) e = R := ⟨_, rfl⟩
    rw [hR] at HRO
    have HRQ := Lib.hid (lay_Q HOK.out hR wb false)
    clear hR
    go_wp2_with (first | (refine wpList_load_row rfl 34 _ rfl _ rfl _ _ _ _ (show _ = _ from HK.out) Tryz.underlying34 rfl (by kernel_rfl) ?_) | (refine wpList_load_row rfl 43 _ rfl _ rfl _ _ _ _ (show _ = _ from HX.out) Tryz.underlying43 rfl (by kernel_rfl) ?_))
    refine HRO.out.mono ?_
    rintro e5 wr ⟨t1, rfl, hS1, hmt1, hb5⟩
    have HS1 := Lib.hid hS1
    have HM1 := Lib.hid hmt1
    replace HK := Lib.hid (HK.out.below hb5 HK.out.lt)
    replace HX := Lib.hid (HX.out.below hb5 HX.out.lt)
    replace HR := Lib.hid (HR.out.below hb5 HR.out.lt)
    replace HB := Lib.hid (HB.out.trans (hb5.mono HB.out.size))
    replace HM := Lib.hid (HM.out.below hb5)
    replace HL := Lib.hid (Nat.le_trans HL.out hb5.size)
    replace HV := Lib.hid (HV.out.below hb5)
    clear hS1 hmt1 hb5 HRO
    go_upto_region 10 with (refine wpList_boxM rfl rfl _ rfl 34 #[.int .i64 0, .int .i64 0, .int .i64 0, .bool false, .slice none 0 0, .slice none 0 0, .int .i64 0] (by kernel_rfl) _ _ rfl #[.int .i64 t1.rc, .int .i64 t1.rb, .int .i64 (t1.nb : Int), .bool t1.fr, .slice t1.A t1.L.length t1.c, .slice t1.tA t1.tok.length t1.tc, .int .i64 t1.us] rfl rfl rfl (by kernel_rfl) (by kernel_rfl) ?_)
    obtain ⟨gu, hgu⟩ : ∃ g, wr.heap.size = g := ⟨_, rfl⟩
    obtain ⟨W6, hW6⟩ : ∃ W, wr.alloc (.cells #[.int .i64 t1.rc, .int .i64 t1.rb, .int .i64 (t1.nb : Int), .bool t1.fr, .slice t1.A t1.L.length t1.c, .slice t1.tA t1.tok.length t1.tc, .int .i64 t1.us] 34) = W := ⟨_, rfl⟩
    have hb6 : Below wr.heap.size wr W6 := by rw [← hW6]; exact (Below.refl _ _).alloc (Nat.le_refl _) _
    have HU : Hid (Blk W6 gu 34 #[.int .i64 t1.rc, .int .i64 t1.rb, .int .i64 (t1.nb : Int), .bool t1.fr, .slice t1.A t1.L.length t1.c, .slice t1.tA t1.tok.length t1.tc, .int .i64 t1.us]) := Lib.hid (by rw [← hW6, ← hgu]; exact Blk.new _ _ _)
    replace HK := Lib.hid (HK.out.below hb6 HK.out.lt)
    replace HX := Lib.hid (HX.out.below hb6 HX.out.lt)
    replace HR := Lib.hid (HR.out.below hb6 HR.out.lt)
    replace HB := Lib.hid (HB.out.trans (hb6.mono HB.out.size))
    replace HM := Lib.hid (HM.out.below hb6)
    replace HL := Lib.hid (Nat.le_trans HL.out hb6.size)
    replace HV := Lib.hid (HV.out.below hb6)
    replace HM1 := Lib.hid (HM1.out.below hb6)
    try simp only [hW6, hgu]
    clear hb6 hW6 hgu
    cases ok1
    · have HQR := Lib.hid (HLAY.out.trans ((HRQ.out.2 rfl)))
      clear HLAY HRQ
      go_upto_region 11 with fail
      go_wp2_with (first | (refine wpList_load_row rfl 34 _ rfl _ rfl _ _ _ _ (show _ = _ from HK.out) Tryz.underlying34 rfl (by kernel_rfl) ?_) | (refine store_box rfl 34 _ _ rfl (w.heap.size + 2) 34 #[.int .i64 0, .int .i64 0, .int .i64 0, .bool false, .slice none 0 0, .slice none 0 0, .int .i64 0] #[.int .i64 t.rc, .int .i64 t.rb, .int .i64 (t.nb : Int), .bool t.fr, .slice t.A t.L.length t.c, .slice t.tA t.tok.length t.tc, .int .i64 t.us] HR.out rfl rfl rfl (by kernel_rfl) (by kernel_rfl) ?_))
      intro wz hkz hgz
      have HKz := Lib.hid hkz
      have HBz : Hid (Below w.heap.size w wz) := Lib.hid (HB.out.grown hgz HB.out.size fun g hg => by cases hg; omega)
      have HMz := Lib.hid (HNR.out _ _ (HM.out.touch (touch_box hgz HFR.out)))
      clear hkz hgz
      go_wp2
      exact bodyPost_ret (v := .tuple #[.agg #[.int .i64 t.rc, .int .i64 t.rb, .int .i64 (t.nb : Int), .bool t.fr, .slice t.A t.L.length t.c, .slice t.tA t.tok.length t.tc, .int .i64 t.us], .int .i64 30]) (res_ct (p := 4) (q := 5) (ty := 34) Tryz.results29 _ _ (w.heap.size + 2) 34 #[.int .i64 t.rc, .int .i64 t.rb, .int .i64 (t.nb : Int), .bool t.fr, .slice t.A t.L.length t.c, .slice t.tA t.tok.length t.tc, .int .i64 t.us] (0, 0) _ rfl HKz.out Tryz.underlying34 rfl (by kernel_rfl)) rfl ⟨t, by rw [HQR.out], by rw [HQR.out], HMz.out, HBz.out⟩
    · obtain ⟨hla, hok1, hus1⟩ := HRQ.out.1 rfl
      have HQR := Lib.hid (HLAY.out.trans (hla))
      have HUS : Hid (Calls Tryz.prog 49 #[.agg #[.int .i64 t1.rc, .int .i64 t1.rb, .int .i64 (t1.nb : Int), .bool t1.fr, .slice t1.A t1.L.length t1.c, .slice t1.tA t1.tok.length t1.tc, .int .i64 t1.us], .agg #[.string ⟨e.k.toArray⟩, .int .i64 e.s, .int .i64 e.u, .int .i64 e.o, .bool e.has, .slice eA e.v.length ec, .bool wb, .bool false, .int .i64 0]] W6 (TrP F1 (useS S1 ⟨e, wb, false, 0⟩) W6)) := Lib.hid (by
        have h9 := ruse t1 F1 ⟨e, wb, false, 0⟩ eA ec W6 (fun k hk => Nat.lt_of_lt_of_le (HFL.out k hk) HL.out) HM1.out (by rw [HS1.out]; exact hok1.srt) HV.out (by have h1 := hok1.len; have h2 := hok1.rc; have h3 := trT_len t1; rw [HS1.out] at h3; omega) (by have h1 : t1.us = S1.us := congrArg Cl.us HS1.out; have h2 := hok1.u0; omega) (by have h1 : t1.us = S1.us := congrArg Cl.us HS1.out; have h2 : S1.us = t.us := hus1; have h3 := HUU.out; omega)
        rw [HS1.out] at h9
        exact h9)
      obtain ⟨S', hS'⟩ : ∃ S', useS S1 ⟨e, wb, false, 0⟩ = S' := ⟨_, rfl⟩
      rw [hS'] at HUS HQR
      clear hS' hla hok1 hus1 HLAY HRQ
      go_upto_region 12 with fail
      go_wp2_with (first | (refine wpList_load_row rfl 34 _ rfl _ rfl _ _ _ _ (show _ = _ from HU.out) Tryz.underlying34 rfl (by kernel_rfl) ?_) | (refine wpList_load_row rfl 43 _ rfl _ rfl _ _ _ _ (show _ = _ from HX.out) Tryz.underlying43 rfl (by kernel_rfl) ?_))
      refine HUS.out.mono ?_
      rintro e7 w7 ⟨t', rfl, hS5, hm7, hb7⟩
      have HS5 := Lib.hid hS5
      have HM7 := Lib.hid hm7
      replace HK := Lib.hid (HK.out.below hb7 HK.out.lt)
      replace HR := Lib.hid (HR.out.below hb7 HR.out.lt)
      replace HB := Lib.hid (HB.out.trans (hb7.mono HB.out.size))
      replace HM := Lib.hid (HM.out.below hb7)
      replace HL := Lib.hid (Nat.le_trans HL.out hb7.size)
      clear hS5 hm7 hb7 HUS HU
      go_wp2_with (first | fail | (refine store_box rfl 34 _ _ rfl (w.heap.size + 2) 34 #[.int .i64 0, .int .i64 0, .int .i64 0, .bool false, .slice none 0 0, .slice none 0 0, .int .i64 0] #[.int .i64 t'.rc, .int .i64 t'.rb, .int .i64 (t'.nb : Int), .bool t'.fr, .slice t'.A t'.L.length t'.c, .slice t'.tA t'.tok.length t'.tc, .int .i64 t'.us] HR.out rfl rfl rfl (by kernel_rfl) (by kernel_rfl) ?_))
      intro wz hkz hgz
      have HKz := Lib.hid hkz
      have HBz : Hid (Below w.heap.size w wz) := Lib.hid (HB.out.grown hgz HB.out.size fun g hg => by cases hg; omega)
      have HMz := Lib.hid (HNR.out _ _ (HM7.out.touch (touch_box hgz HFR.out)))
      clear hkz hgz
      go_wp2
      exact bodyPost_ret (v := .tuple #[.agg #[.int .i64 t'.rc, .int .i64 t'.rb, .int .i64 (t'.nb : Int), .bool t'.fr, .slice t'.A t'.L.length t'.c, .slice t'.tA t'.tok.length t'.tc, .int .i64 t'.us], .int .i64 0]) (res_ct (p := 4) (q := 5) (ty := 34) Tryz.results29 _ _ (w.heap.size + 2) 34 #[.int .i64 t'.rc, .int .i64 t'.rb, .int .i64 (t'.nb : Int), .bool t'.fr, .slice t'.A t'.L.length t'.c, .slice t'.tA t'.tok.length t'.tc, .int .i64 t'.us] (0, 0) _ rfl HKz.out Tryz.underlying34 rfl (by kernel_rfl)) rfl ⟨t', by rw [HQR.out], by rw [HQR.out]; exact HS5.out, HMz.out, HBz.out⟩
  · have hi : i < t.L.length := by rw [trT_len] at hi2; exact hi2
    have hfst := trT_at t i hi2 hi
    obtain ⟨⟨x, xA, xc⟩, hx⟩ : ∃ p, t.L[i]'hi = p := ⟨_, rfl⟩
    rw [hfst, hx] at hget
    have hxm : (⟨x, xA, xc⟩ : CV) ∈ t.L := by rw [← hx]; exact List.getElem_mem hi
    have HVX := Lib.hid (HM.out.val hxm)
    have HGE := Lib.hid hget
    obtain ⟨b, ao, hA, hbb, hc⟩ := cells_open HM.out.m.cev.row (by omega)
    have hcc := hc i hi
    rw [hx] at hcc
    have h4 : w4.cell? ⟨w.heap.size, 4, none⟩ = some (.slice (some ⟨b, ao, none⟩) t.L.length t.c) := by rw [← hA]; exact HK.out.cell 4
    have hc0 := hcc 0 _ rfl
    rw [Nat.add_zero] at hc0
    have hc1 := hcc 1 _ rfl
    have hc2 := hcc 2 _ rfl
    have hc3 := hcc 3 _ rfl
    have hc4 := hcc 4 _ rfl
    have hc5 := hcc 5 _ rfl
    have hc6 := hcc 6 _ rfl
    have hc7 := hcc 7 _ rfl
    have hc8 := hcc 8 _ rfl
    have hii : (0 : Int) ≤ (i : Int) := by omega
    have hii2 : (i : Int) < (t.L.length : Int) := by omega
    have hlni : (t.L.length : Int) ≤ 100000 := by have := HM.out.ln; omega
    have hi9 : decide ((i : Int) < 0) = false := decide_eq_false (by omega)
    have hi10 : decide (0 ≤ (i : Int)) = true := decide_eq_true (by omega)
    obtain ⟨cv, hcv⟩ : ∃ cv, cmpT x.e.s x.e.u x.e.o e.s e.u e.o = cv := ⟨_, rfl⟩
    have HCV := Lib.hid hcv
    have HC := Lib.hid (fun p : Later w4 => refcompare_val x.e.s x.e.u x.e.o e.s e.u e.o cv HCV p.world)
    have l4 := later_cell h4
    have l1 := later_cell hc1
    have l2 := later_cell hc2
    have l3 := later_cell hc3
    have g1 := later_blk_cell HX.out 1 _ rfl
    have g2 := later_blk_cell HX.out 2 _ rfl
    have g3 := later_blk_cell HX.out 3 _ rfl
    clear hc hcc hfst hxm hbb hget hx hcv
    by_cases hcz : 0 ≤ cv
    · have HQR : Hid (storeS (trS t) e = (useS (trS t) x, 0)) := Lib.hid (by unfold storeS; rw [if_neg HNO.out, HGE.out]; simp only; rw [if_pos (by unfold cE; rw [HCV.out]; exact hcz)])
      have g5 : decide (0 ≤ cv) = true := decide_eq_true hcz
      clear hcz HCV HGE HNO HTK hwb
      go_wp2_with fail
      refine wp_region_later (by kernel_rfl) (by kernel_rfl) ?_
      repeat (go_big_quiet_step ((go_at_call 51; exact later_of (HC.out _))))
      refine wpQuiet_nil ?_
      intro w5 hw'
      obtain ⟨p, hp4⟩ := hw'
      have hb4 : Below w4.heap.size w4 w5 := by rw [hp4]; exact p.bel
      have h44 : w5.cell? ⟨w.heap.size, 4, none⟩ = some (.slice (some ⟨b, ao, none⟩) t.L.length t.c) := by rw [← hA]; exact (HK.out.below hb4 HK.out.lt).cell 4
      have e0 := later_cell hc0 p
      rw [← hp4] at e0
      have e1 := later_cell hc1 p
      rw [← hp4] at e1
      have e2 := later_cell hc2 p
      rw [← hp4] at e2
      have e3 := later_cell hc3 p
      rw [← hp4] at e3
      have e4 := later_cell hc4 p
      rw [← hp4] at e4
      have e5 := later_cell hc5 p
      rw [← hp4] at e5
      have e6 := later_cell hc6 p
      rw [← hp4] at e6
      have e7 := later_cell hc7 p
      rw [← hp4] at e7
      have e8 := later_cell hc8 p
      rw [← hp4] at e8
      clear hp4 p
      replace HK := Lib.hid (HK.out.below hb4 HK.out.lt)
      replace HX := Lib.hid (HX.out.below hb4 HX.out.lt)
      replace HR := Lib.hid (HR.out.below hb4 HR.out.lt)
      replace HB := Lib.hid (HB.out.trans (hb4.mono HB.out.size))
      replace HM := Lib.hid (HM.out.below hb4)
      replace HL := Lib.hid (Nat.le_trans HL.out hb4.size)
      replace HVX := Lib.hid (HVX.out.below hb4)
      clear hb4 HC l4 l1 l2 l3 g1 g2 g3 hc0 hc1 hc2 hc3 hc4 hc5 hc6 hc7 hc8 h4 hA HV
      have HUS := Lib.hid fun (p : Later w5) => ruse t F1 x xA xc p.world (fun k hk => Nat.lt_of_lt_of_le (HFL.out k hk) (Nat.le_trans HL.out p.bel.size)) (HM.out.below p.bel) HOK.out.srt (HVX.out.below p.bel) (by have h1 := HOK.out.len; have h2 := HOK.out.rc; have h3 := trT_len t; omega) HOK.out.u0 HUU.out
      obtain ⟨S', hS'⟩ : ∃ S', useS (trS t) x = S' := ⟨_, rfl⟩
      rw [hS'] at HUS HQR
      have l4 := later_cell h44
      have m0 := later_cell e0
      have m1 := later_cell e1
      have m2 := later_cell e2
      have m3 := later_cell e3
      have m4 := later_cell e4
      have m5 := later_cell e5
      have m6 := later_cell e6
      have m7 := later_cell e7
      have m8 := later_cell e8
      have HLK : Hid (∀ p : Later w5, Blk p.world w.heap.size 34 #[.int .i64 t.rc, .int .i64 t.rb, .int .i64 (t.nb : Int), .bool t.fr, .slice t.A t.L.length t.c, .slice t.tA t.tok.length t.tc, .int .i64 t.us]) := Lib.hid fun p => later_blk HK.out p
      clear hS' h44 e0 e1 e2 e3 e4 e5 e6 e7 e8
      go_upto_region 7 with fail
      refine wp_region_later_tail 6 (by kernel_rfl) (by kernel_rfl) ?_
      simp only [List.take_succ_cons, List.take_zero, List.drop_succ_cons, List.drop_zero]
      repeat (first
        | (go_big_quiet_want; refine quiet_loadrow 34 (.tmp 2) rfl (w.heap.size) rfl HLK.out Tryz.underlying34 rfl (by kernel_rfl) ?_; simp only [Act.put, List.setIfInBounds_toArray, List.set_cons_succ, List.set_cons_zero]; go_big_quiet_on)
        | go_big_quiet_step (fail))
      refine wpQuiet_nil ?_
      intro w6 hw'
      obtain ⟨p, hp6⟩ := hw'
      have hb6 : Below w5.heap.size w5 w6 := by rw [hp6]; exact p.bel
      have HU6 := Lib.hid (HUS.out p)
      rw [← hp6] at HU6
      clear hp6 p
      replace HK := Lib.hid (HK.out.below hb6 HK.out.lt)
      replace HX := Lib.hid (HX.out.below hb6 HX.out.lt)
      replace HR := Lib.hid (HR.out.below hb6 HR.out.lt)
      replace HB := Lib.hid (HB.out.trans (hb6.mono HB.out.size))
      replace HM := Lib.hid (HM.out.below hb6)
      replace HL := Lib.hid (Nat.le_trans HL.out hb6.size)
      clear hb6 l4 m0 m1 m2 m3 m4 m5 m6 m7 m8 HLK HUS
      go_wp2_with fail
      refine HU6.out.mono ?_
      rintro e7 w7 ⟨t', rfl, hS5, hm7, hb7⟩
      have HS5 := Lib.hid hS5
      have HM7 := Lib.hid hm7
      replace HK := Lib.hid (HK.out.below hb7 HK.out.lt)
      replace HR := Lib.hid (HR.out.below hb7 HR.out.lt)
      replace HB := Lib.hid (HB.out.trans (hb7.mono HB.out.size))
      replace HM := Lib.hid (HM.out.below hb7)
      replace HL := Lib.hid (Nat.le_trans HL.out hb7.size)
      clear hS5 hm7 hb7 HU6
      go_wp2_with (first | fail | (refine store_box rfl 34 _ _ rfl (w.heap.size + 2) 34 #[.int .i64 0, .int .i64 0, .int .i64 0, .bool false, .slice none 0 0, .slice none 0 0, .int .i64 0] #[.int .i64 t'.rc, .int .i64 t'.rb, .int .i64 (t'.nb : Int), .bool t'.fr, .slice t'.A t'.L.length t'.c, .slice t'.tA t'.tok.length t'.tc, .int .i64 t'.us] HR.out rfl rfl rfl (by kernel_rfl) (by kernel_rfl) ?_))
      intro wz hkz hgz
      have HKz := Lib.hid hkz
      have HBz : Hid (Below w.heap.size w wz) := Lib.hid (HB.out.grown hgz HB.out.size fun g hg => by cases hg; omega)
      have HMz := Lib.hid (HNR.out _ _ (HM7.out.touch (touch_box hgz HFR.out)))
      clear hkz hgz
      go_wp2
      exact bodyPost_ret (v := .tuple #[.agg #[.int .i64 t'.rc, .int .i64 t'.rb, .int .i64 (t'.nb : Int), .bool t'.fr, .slice t'.A t'.L.length t'.c, .slice t'.tA t'.tok.length t'.tc, .int .i64 t'.us], .int .i64 0]) (res_ct (p := 4) (q := 5) (ty := 34) Tryz.results29 _ _ (w.heap.size + 2) 34 #[.int .i64 t'.rc, .int .i64 t'.rb, .int .i64 (t'.nb : Int), .bool t'.fr, .slice t'.A t'.L.length t'.c, .slice t'.tA t'.tok.length t'.tc, .int .i64 t'.us] (0, 0) _ rfl HKz.out Tryz.underlying34 rfl (by kernel_rfl)) rfl ⟨t', by rw [HQR.out], by rw [HQR.out]; exact HS5.out, HMz.out, HBz.out⟩
    · have HLAY0 : Hid (storeS (trS t) e = layS (trS t) e x.wh false) := Lib.hid (by unfold storeS; rw [if_neg HNO.out, HGE.out]; simp only; rw [if_neg (by unfold cE; rw [HCV.out]; exact hcz)])
      have g5 : decide (0 ≤ cv) = false := decide_eq_false hcz
      clear hcz HCV HGE HNO HTK hwb
      go_wp2_with fail
      refine wp_region_later (by kernel_rfl) (by kernel_rfl) ?_
      repeat (go_big_quiet_step ((go_at_call 51; exact later_of (HC.out _))))
      refine wpQuiet_nil ?_
      intro w5 hw'
      obtain ⟨p, hp4⟩ := hw'
      have hb4 : Below w4.heap.size w4 w5 := by rw [hp4]; exact p.bel
      have h44 : w5.cell? ⟨w.heap.size, 4, none⟩ = some (.slice (some ⟨b, ao, none⟩) t.L.length t.c) := by rw [← hA]; exact (HK.out.below hb4 HK.out.lt).cell 4
      have e6 := later_cell hc6 p
      rw [← hp4] at e6
      clear hp4 p
      replace HK := Lib.hid (HK.out.below hb4 HK.out.lt)
      replace HX := Lib.hid (HX.out.below hb4 HX.out.lt)
      replace HR := Lib.hid (HR.out.below hb4 HR.out.lt)
      replace HB := Lib.hid (HB.out.trans (hb4.mono HB.out.size))
      replace HM := Lib.hid (HM.out.below hb4)
      replace HL := Lib.hid (Nat.le_trans HL.out hb4.size)
      replace HV := Lib.hid (HV.out.below hb4)
      clear hb4 HC l4 l1 l2 l3 g1 g2 g3 hc0 hc1 hc2 hc3 hc4 hc5 hc6 hc7 hc8 h4 hA HVX
      obtain ⟨wq, hwq⟩ : ∃ b, x.wh = b := ⟨_, rfl⟩
      rw [hwq] at e6 HLAY0
      clear hwq
      have HLAY := HLAY0
      clear HLAY0
      go_upto_region 9 with fail
      clear e6 h44
      have HRO := Lib.hid (rroom ((trS t).T.length + 1) t F1 e eA ec w5 (fun k hk => Nat.lt_of_lt_of_le (HFL.out k hk) HL.out) HM.out HOK.out HV.out HE.out HQ.out (Nat.lt_succ_self _))
      obtain ⟨⟨S1, ok1⟩, hR⟩ : ∃ R, roomQ ((trS t).T.length + 1) (trS t) e = R := ⟨_, rfl⟩
      rw [hR] at HRO
      have HRQ := Lib.hid (lay_Q HOK.out hR wq false)
      clear hR
      go_wp2_with (first | (refine wpList_load_row rfl 34 _ rfl _ rfl _ _ _ _ (show _ = _ from HK.out) Tryz.underlying34 rfl (by kernel_rfl) ?_) | (refine wpList_load_row rfl 43 _ rfl _ rfl _ _ _ _ (show _ = _ from HX.out) Tryz.underlying43 rfl (by kernel_rfl) ?_))
      refine HRO.out.mono ?_
      rintro e5 wr ⟨t1, rfl, hS1, hmt1, hb5⟩
      have HS1 := Lib.hid hS1
      have HM1 := Lib.hid hmt1
      replace HK := Lib.hid (HK.out.below hb5 HK.out.lt)
      replace HX := Lib.hid (HX.out.below hb5 HX.out.lt)
      replace HR := Lib.hid (HR.out.below hb5 HR.out.lt)
      replace HB := Lib.hid (HB.out.trans (hb5.mono HB.out.size))
      replace HM := Lib.hid (HM.out.below hb5)
      replace HL := Lib.hid (Nat.le_trans HL.out hb5.size)
      replace HV := Lib.hid (HV.out.below hb5)
      clear hS1 hmt1 hb5 HRO
      go_upto_region 10 with (refine wpList_boxM rfl rfl _ rfl 34 #[.int .i64 0, .int .i64 0, .int .i64 0, .bool false, .slice none 0 0, .slice none 0 0, .int .i64 0] (by kernel_rfl) _ _ rfl #[.int .i64 t1.rc, .int .i64 t1.rb, .int .i64 (t1.nb : Int), .bool t1.fr, .slice t1.A t1.L.length t1.c, .slice t1.tA t1.tok.length t1.tc, .int .i64 t1.us] rfl rfl rfl (by kernel_rfl) (by kernel_rfl) ?_)
      obtain ⟨gu, hgu⟩ : ∃ g, wr.heap.size = g := ⟨_, rfl⟩
      obtain ⟨W6, hW6⟩ : ∃ W, wr.alloc (.cells #[.int .i64 t1.rc, .int .i64 t1.rb, .int .i64 (t1.nb : Int), .bool t1.fr, .slice t1.A t1.L.length t1.c, .slice t1.tA t1.tok.length t1.tc, .int .i64 t1.us] 34) = W := ⟨_, rfl⟩
      have hb6 : Below wr.heap.size wr W6 := by rw [← hW6]; exact (Below.refl _ _).alloc (Nat.le_refl _) _
      have HU : Hid (Blk W6 gu 34 #[.int .i64 t1.rc, .int .i64 t1.rb, .int .i64 (t1.nb : Int), .bool t1.fr, .slice t1.A t1.L.length t1.c, .slice t1.tA t1.tok.length t1.tc, .int .i64 t1.us]) := Lib.hid (by rw [← hW6, ← hgu]; exact Blk.new _ _ _)
      replace HK := Lib.hid (HK.out.below hb6 HK.out.lt)
      replace HX := Lib.hid (HX.out.below hb6 HX.out.lt)
      replace HR := Lib.hid (HR.out.below hb6 HR.out.lt)
      replace HB := Lib.hid (HB.out.trans (hb6.mono HB.out.size))
      replace HM := Lib.hid (HM.out.below hb6)
      replace HL := Lib.hid (Nat.le_trans HL.out hb6.size)
      replace HV := Lib.hid (HV.out.below hb6)
      replace HM1 := Lib.hid (HM1.out.below hb6)
      try simp only [hW6, hgu]
      clear hb6 hW6 hgu
      cases ok1
      · have HQR := Lib.hid (HLAY.out.trans ((HRQ.out.2 rfl)))
        clear HLAY HRQ
        go_upto_region 11 with fail
        go_wp2_with (first | (refine wpList_load_row rfl 34 _ rfl _ rfl _ _ _ _ (show _ = _ from HK.out) Tryz.underlying34 rfl (by kernel_rfl) ?_) | (refine store_box rfl 34 _ _ rfl (w.heap.size + 2) 34 #[.int .i64 0, .int .i64 0, .int .i64 0, .bool false, .slice none 0 0, .slice none 0 0, .int .i64 0] #[.int .i64 t.rc, .int .i64 t.rb, .int .i64 (t.nb : Int), .bool t.fr, .slice t.A t.L.length t.c, .slice t.tA t.tok.length t.tc, .int .i64 t.us] HR.out rfl rfl rfl (by kernel_rfl) (by kernel_rfl) ?_))
        intro wz hkz hgz
        have HKz := Lib.hid hkz
        have HBz : Hid (Below w.heap.size w wz) := Lib.hid (HB.out.grown hgz HB.out.size fun g hg => by cases hg; omega)
        have HMz := Lib.hid (HNR.out _ _ (HM.out.touch (touch_box hgz HFR.out)))
        clear hkz hgz
        go_wp2
        exact bodyPost_ret (v := .tuple #[.agg #[.int .i64 t.rc, .int .i64 t.rb, .int .i64 (t.nb : Int), .bool t.fr, .slice t.A t.L.length t.c, .slice t.tA t.tok.length t.tc, .int .i64 t.us], .int .i64 30]) (res_ct (p := 4) (q := 5) (ty := 34) Tryz.results29 _ _ (w.heap.size + 2) 34 #[.int .i64 t.rc, .int .i64 t.rb, .int .i64 (t.nb : Int), .bool t.fr, .slice t.A t.L.length t.c, .slice t.tA t.tok.length t.tc, .int .i64 t.us] (0, 0) _ rfl HKz.out Tryz.underlying34 rfl (by kernel_rfl)) rfl ⟨t, by rw [HQR.out], by rw [HQR.out], HMz.out, HBz.out⟩
      · obtain ⟨hla, hok1, hus1⟩ := HRQ.out.1 rfl
        have HQR := Lib.hid (HLAY.out.trans (hla))
        have HUS : Hid (Calls Tryz.prog 49 #[.agg #[.int .i64 t1.rc, .int .i64 t1.rb, .int .i64 (t1.nb : Int), .bool t1.fr, .slice t1.A t1.L.length t1.c, .slice t1.tA t1.tok.length t1.tc, .int .i64 t1.us], .agg #[.string ⟨e.k.toArray⟩, .int .i64 e.s, .int .i64 e.u, .int .i64 e.o, .bool e.has, .slice eA e.v.length ec, .bool wq, .bool false, .int .i64 0]] W6 (TrP F1 (useS S1 ⟨e, wq, false, 0⟩) W6)) := Lib.hid (by
          have h9 := ruse t1 F1 ⟨e, wq, false, 0⟩ eA ec W6 (fun k hk => Nat.lt_of_lt_of_le (HFL.out k hk) HL.out) HM1.out (by rw [HS1.out]; exact hok1.srt) HV.out (by have h1 := hok1.len; have h2 := hok1.rc; have h3 := trT_len t1; rw [HS1.out] at h3; omega) (by have h1 : t1.us = S1.us := congrArg Cl.us HS1.out; have h2 := hok1.u0; omega) (by have h1 : t1.us = S1.us := congrArg Cl.us HS1.out; have h2 : S1.us = t.us := hus1; have h3 := HUU.out; omega)
          rw [HS1.out] at h9
          exact h9)
        obtain ⟨S', hS'⟩ : ∃ S', useS S1 ⟨e, wq, false, 0⟩ = S' := ⟨_, rfl⟩
        rw [hS'] at HUS HQR
        clear hS' hla hok1 hus1 HLAY HRQ
        go_upto_region 12 with fail
        go_wp2_with (first | (refine wpList_load_row rfl 34 _ rfl _ rfl _ _ _ _ (show _ = _ from HU.out) Tryz.underlying34 rfl (by kernel_rfl) ?_) | (refine wpList_load_row rfl 43 _ rfl _ rfl _ _ _ _ (show _ = _ from HX.out) Tryz.underlying43 rfl (by kernel_rfl) ?_))
        refine HUS.out.mono ?_
        rintro e7 w7 ⟨t', rfl, hS5, hm7, hb7⟩
        have HS5 := Lib.hid hS5
        have HM7 := Lib.hid hm7
        replace HK := Lib.hid (HK.out.below hb7 HK.out.lt)
        replace HR := Lib.hid (HR.out.below hb7 HR.out.lt)
        replace HB := Lib.hid (HB.out.trans (hb7.mono HB.out.size))
        replace HM := Lib.hid (HM.out.below hb7)
        replace HL := Lib.hid (Nat.le_trans HL.out hb7.size)
        clear hS5 hm7 hb7 HUS HU
        go_wp2_with (first | fail | (refine store_box rfl 34 _ _ rfl (w.heap.size + 2) 34 #[.int .i64 0, .int .i64 0, .int .i64 0, .bool false, .slice none 0 0, .slice none 0 0, .int .i64 0] #[.int .i64 t'.rc, .int .i64 t'.rb, .int .i64 (t'.nb : Int), .bool t'.fr, .slice t'.A t'.L.length t'.c, .slice t'.tA t'.tok.length t'.tc, .int .i64 t'.us] HR.out rfl rfl rfl (by kernel_rfl) (by kernel_rfl) ?_))
        intro wz hkz hgz
        have HKz := Lib.hid hkz
        have HBz : Hid (Below w.heap.size w wz) := Lib.hid (HB.out.grown hgz HB.out.size fun g hg => by cases hg; omega)
        have HMz := Lib.hid (HNR.out _ _ (HM7.out.touch (touch_box hgz HFR.out)))
        clear hkz hgz
        go_wp2
        exact bodyPost_ret (v := .tuple #[.agg #[.int .i64 t'.rc, .int .i64 t'.rb, .int .i64 (t'.nb : Int), .bool t'.fr, .slice t'.A t'.L.length t'.c, .slice t'.tA t'.tok.length t'.tc, .int .i64 t'.us], .int .i64 0]) (res_ct (p := 4) (q := 5) (ty := 34) Tryz.results29 _ _ (w.heap.size + 2) 34 #[.int .i64 t'.rc, .int .i64 t'.rb, .int .i64 (t'.nb : Int), .bool t'.fr, .slice t'.A t'.L.length t'.c, .slice t'.tA t'.tok.length t'.tc, .int .i64 t'.us] (0, 0) _ rfl HKz.out Tryz.underlying34 rfl (by kernel_rfl)) rfl ⟨t', by rw [HQR.out], by rw [HQR.out]; exact HS5.out, HMz.out, HBz.out⟩
end Go.Proofs.YtpebhfjcakllmaaGreat
namespace Go.Proofs.YtpebhfjcakllmaaGreat
open Go.RowKit Go.ChangeShapes Mem Be Word Rg Go.Maps
set_option maxRecDepth 100000
set_option maxHeartbeats 8000000
set_option linter.unusedVariables false
set_option linter.unusedSimpArgs false
theorem layF_busy {S : Cl} {e : EntP} (h : layS S e true true = (S, 30)) : layF S e = (S, false, 30) := by unfold layF; rw [h]; rfl
theorem layF_ok {S S' : Cl} {e : EntP} (h : layS S e true true = (S', 0)) : layF S e = (S', true, 0) := by unfold layF; rw [h]; rfl
theorem rfill (t : Tr) (F : Nat → Prop) (e : EntP) (eA : Option Addr) (ec : Nat) (tn : Int) (w : World) (hF : ∀ k, F k → k < w.heap.size) (h : TrN F w t) (ok : OkC (trS t)) (hv : RowN F w eA (e.v.map byteV) ∧ e.v.length ≤ ec ∧ ec ≤ maxLen) (hk : e.k.length ≤ maxLen) (hu : t.us ≤ 4611686018427387904) (hq : ∀ v ∈ t.tok, v + ((trS t).T.length : Int) ≤ 4611686018427390000) :
    Calls Tryz.prog 30 #[.agg #[.int .i64 t.rc, .int .i64 t.rb, .int .i64 (t.nb : Int), .bool t.fr, .slice t.A t.L.length t.c, .slice t.tA t.tok.length t.tc, .int .i64 t.us], .agg #[.string ⟨e.k.toArray⟩, .int .i64 e.s, .int .i64 e.u, .int .i64 e.o, .bool e.has, .slice eA e.v.length ec], .int .i64 tn] w (TrF F (fillS (trS t) e tn) w) := by
  obtain ⟨rv, hrv⟩ : ∃ r, rightE e.k.length e.v.length e.s e.u e.o e.has = r := ⟨_, rfl⟩
  have HRI := Lib.hid (rright e eA ec rv hrv hk (by omega))
  have HUU := Lib.hid hu
  have HQ := Lib.hid hq
  have HOKE : Hid (okE e ↔ rv = 0) := Lib.hid (by unfold okE; rw [hrv])
  have hV1 : okE e → VlN F w e.v eA ec := fun he => ⟨hv.1, hv.2.1, hv.2.2, (sizE_le he).2.2.1⟩
  clear hu hq hv hk hrv
  have hb : Below w.heap.size w ((((w).alloc (.cells #[.int .i64 t.rc, .int .i64 t.rb, .int .i64 (t.nb : Int), .bool t.fr, .slice t.A t.L.length t.c, .slice t.tA t.tok.length t.tc, .int .i64 t.us] 34)).alloc (.cells #[.string ⟨e.k.toArray⟩, .int .i64 e.s, .int .i64 e.u, .int .i64 e.o, .bool e.has, .slice eA e.v.length ec] 43)).alloc (.cells #[.int .i64 0, .int .i64 0, .int .i64 0, .bool false, .slice none 0 0, .slice none 0 0, .int .i64 0] 34)) := (((Below.refl _ _).alloc (Nat.le_refl _) _).alloc (by simp) _).alloc (by simp; omega) _
  have h_HK : Blk ((((w).alloc (.cells #[.int .i64 t.rc, .int .i64 t.rb, .int .i64 (t.nb : Int), .bool t.fr, .slice t.A t.L.length t.c, .slice t.tA t.tok.length t.tc, .int .i64 t.us] 34)).alloc (.cells #[.string ⟨e.k.toArray⟩, .int .i64 e.s, .int .i64 e.u, .int .i64 e.o, .bool e.has, .slice eA e.v.length ec] 43)).alloc (.cells #[.int .i64 0, .int .i64 0, .int .i64 0, .bool false, .slice none 0 0, .slice none 0 0, .int .i64 0] 34)) (w.heap.size) 34 #[.int .i64 t.rc, .int .i64 t.rb, .int .i64 (t.nb : Int), .bool t.fr, .slice t.A t.L.length t.c, .slice t.tA t.tok.length t.tc, .int .i64 t.us] := (((Blk.new (w) 34 #[.int .i64 t.rc, .int .i64 t.rb, .int .i64 (t.nb : Int), .bool t.fr, .slice t.A t.L.length t.c, .slice t.tA t.tok.length t.tc, .int .i64 t.us]).alloc (.cells #[.string ⟨e.k.toArray⟩, .int .i64 e.s, .int .i64 e.u, .int .i64 e.o, .bool e.has, .slice eA e.v.length ec] 43)).alloc (.cells #[.int .i64 0, .int .i64 0, .int .i64 0, .bool false, .slice none 0 0, .slice none 0 0, .int .i64 0] 34))
  have h_HX : Blk ((((w).alloc (.cells #[.int .i64 t.rc, .int .i64 t.rb, .int .i64 (t.nb : Int), .bool t.fr, .slice t.A t.L.length t.c, .slice t.tA t.tok.length t.tc, .int .i64 t.us] 34)).alloc (.cells #[.string ⟨e.k.toArray⟩, .int .i64 e.s, .int .i64 e.u, .int .i64 e.o, .bool e.has, .slice eA e.v.length ec] 43)).alloc (.cells #[.int .i64 0, .int .i64 0, .int .i64 0, .bool false, .slice none 0 0, .slice none 0 0, .int .i64 0] 34)) (w.heap.size + 1) 43 #[.string ⟨e.k.toArray⟩, .int .i64 e.s, .int .i64 e.u, .int .i64 e.o, .bool e.has, .slice eA e.v.length ec] := blk_at (by simp) ((Blk.new ((w).alloc (.cells #[.int .i64 t.rc, .int .i64 t.rb, .int .i64 (t.nb : Int), .bool t.fr, .slice t.A t.L.length t.c, .slice t.tA t.tok.length t.tc, .int .i64 t.us] 34)) 43 #[.string ⟨e.k.toArray⟩, .int .i64 e.s, .int .i64 e.u, .int .i64 e.o, .bool e.has, .slice eA e.v.length ec]).alloc (.cells #[.int .i64 0, .int .i64 0, .int .i64 0, .bool false, .slice none 0 0, .slice none 0 0, .int .i64 0] 34))
  have h_HR : Blk ((((w).alloc (.cells #[.int .i64 t.rc, .int .i64 t.rb, .int .i64 (t.nb : Int), .bool t.fr, .slice t.A t.L.length t.c, .slice t.tA t.tok.length t.tc, .int .i64 t.us] 34)).alloc (.cells #[.string ⟨e.k.toArray⟩, .int .i64 e.s, .int .i64 e.u, .int .i64 e.o, .bool e.has, .slice eA e.v.length ec] 43)).alloc (.cells #[.int .i64 0, .int .i64 0, .int .i64 0, .bool false, .slice none 0 0, .slice none 0 0, .int .i64 0] 34)) (w.heap.size + 2) 34 #[.int .i64 0, .int .i64 0, .int .i64 0, .bool false, .slice none 0 0, .slice none 0 0, .int .i64 0] := blk_at (by simp) (Blk.new (((w).alloc (.cells #[.int .i64 t.rc, .int .i64 t.rb, .int .i64 (t.nb : Int), .bool t.fr, .slice t.A t.L.length t.c, .slice t.tA t.tok.length t.tc, .int .i64 t.us] 34)).alloc (.cells #[.string ⟨e.k.toArray⟩, .int .i64 e.s, .int .i64 e.u, .int .i64 e.o, .bool e.has, .slice eA e.v.length ec] 43)) 34 #[.int .i64 0, .int .i64 0, .int .i64 0, .bool false, .slice none 0 0, .slice none 0 0, .int .i64 0])
  have hm1 := h.wide hb
  have hV2 : okE e → VlN (More2 F w.heap.size ((((w).alloc (.cells #[.int .i64 t.rc, .int .i64 t.rb, .int .i64 (t.nb : Int), .bool t.fr, .slice t.A t.L.length t.c, .slice t.tA t.tok.length t.tc, .int .i64 t.us] 34)).alloc (.cells #[.string ⟨e.k.toArray⟩, .int .i64 e.s, .int .i64 e.u, .int .i64 e.o, .bool e.has, .slice eA e.v.length ec] 43)).alloc (.cells #[.int .i64 0, .int .i64 0, .int .i64 0, .bool false, .slice none 0 0, .slice none 0 0, .int .i64 0] 34)).heap.size) ((((w).alloc (.cells #[.int .i64 t.rc, .int .i64 t.rb, .int .i64 (t.nb : Int), .bool t.fr, .slice t.A t.L.length t.c, .slice t.tA t.tok.length t.tc, .int .i64 t.us] 34)).alloc (.cells #[.string ⟨e.k.toArray⟩, .int .i64 e.s, .int .i64 e.u, .int .i64 e.o, .bool e.has, .slice eA e.v.length ec] 43)).alloc (.cells #[.int .i64 0, .int .i64 0, .int .i64 0, .bool false, .slice none 0 0, .slice none 0 0, .int .i64 0] 34)) e.v eA ec := fun he => (hV1 he).wide hb
  obtain ⟨W1, hW1⟩ : ∃ W, (((w).alloc (.cells #[.int .i64 t.rc, .int .i64 t.rb, .int .i64 (t.nb : Int), .bool t.fr, .slice t.A t.L.length t.c, .slice t.tA t.tok.length t.tc, .int .i64 t.us] 34)).alloc (.cells #[.string ⟨e.k.toArray⟩, .int .i64 e.s, .int .i64 e.u, .int .i64 e.o, .bool e.has, .slice eA e.v.length ec] 43)).alloc (.cells #[.int .i64 0, .int .i64 0, .int .i64 0, .bool false, .slice none 0 0, .slice none 0 0, .int .i64 0] 34) = W := ⟨_, rfl⟩
  have hsz : W1.heap.size = w.heap.size + 3 := by rw [← hW1]; simp
  rw [hW1] at hb hm1 hV2 h_HK h_HX h_HR
  have HK := Lib.hid h_HK
  have HX := Lib.hid h_HX
  have HR := Lib.hid h_HR
  have HB := Lib.hid hb
  have HM := Lib.hid hm1
  have HF := Lib.hid hF
  have HSZ := Lib.hid hsz
  have HOK := Lib.hid ok
  obtain ⟨F1, hF1⟩ : ∃ F1, More2 F w.heap.size W1.heap.size = F1 := ⟨_, rfl⟩
  have HFL : Hid (∀ k, F1 k → k < W1.heap.size) := Lib.hid (by rw [← hF1]; exact more2_lt hF hb.size)
  have HFR : Hid (F1 (w.heap.size + 2)) := Lib.hid (by rw [← hF1]; exact Or.inr ⟨by omega, by omega⟩)
  have HNR : Hid (∀ (w' : World) (t' : Tr), TrN F1 w' t' → TrN F w' t') := Lib.hid (fun w' t' h => by rw [← hF1] at h; exact h.narrow)
  have HL : Hid (W1.heap.size ≤ W1.heap.size) := Lib.hid (Nat.le_refl _)
  rw [hF1] at HM hV2
  clear hb h_HK h_HX h_HR h hF hm1 hF1 hsz ok
  have HV2 := Lib.hid hV2
  clear hV1 hV2
  go_enter Tryz.func30, Tryz.ntmps30
  go_wp2_with (refine wpList_load_row rfl 43 _ rfl _ rfl _ _ _ _ (show _ = _ from HX.out) Tryz.underlying43 rfl (by kernel_rfl) ?_)
  refine (HRI.out _).mono ?_
  rintro e2 w2 ⟨rfl, hb2⟩
  replace HK := Lib.hid (HK.out.below hb2 HK.out.lt)
  replace HX := Lib.hid (HX.out.below hb2 HX.out.lt)
  replace HR := Lib.hid (HR.out.below hb2 HR.out.lt)
  replace HB := Lib.hid (HB.out.trans (hb2.mono HB.out.size))
  replace HM := Lib.hid (HM.out.below hb2)
  replace HL := Lib.hid (Nat.le_trans HL.out hb2.size)
  replace HV2 : Hid (okE e → VlN F1 w2 e.v eA ec) := Lib.hid fun he => (HV2.out he).below hb2
  clear hb2 hW1 HRI
  by_cases hr0 : rv = 0
  rotate_left
  · have HQR : Hid (fillS (trS t) e tn = (trS t, false, 2)) := Lib.hid (by unfold fillS; rw [if_pos (fun he => hr0 (HOKE.out.1 he))])
    have hr1 : (rv == 0) = false := by simpa using hr0
    go_upto_region 2 with fail
    go_wp2_with (first | (refine wpList_load_row rfl 34 _ rfl _ rfl _ _ _ _ (show _ = _ from HK.out) Tryz.underlying34 rfl (by kernel_rfl) ?_) | (refine store_box rfl 34 _ _ rfl (w.heap.size + 2) 34 #[.int .i64 0, .int .i64 0, .int .i64 0, .bool false, .slice none 0 0, .slice none 0 0, .int .i64 0] #[.int .i64 t.rc, .int .i64 t.rb, .int .i64 (t.nb : Int), .bool t.fr, .slice t.A t.L.length t.c, .slice t.tA t.tok.length t.tc, .int .i64 t.us] HR.out rfl rfl rfl (by kernel_rfl) (by kernel_rfl) ?_))
    intro wz hkz hgz
    have HKz := Lib.hid hkz
    have HBz : Hid (Below w.heap.size w wz) := Lib.hid (HB.out.grown hgz HB.out.size fun g hg => by cases hg; omega)
    have HMz := Lib.hid (HNR.out _ _ (HM.out.touch (touch_box hgz HFR.out)))
    clear hkz hgz
    go_wp2
    exact bodyPost_ret (v := .tuple #[.agg #[.int .i64 t.rc, .int .i64 t.rb, .int .i64 (t.nb : Int), .bool t.fr, .slice t.A t.L.length t.c, .slice t.tA t.tok.length t.tc, .int .i64 t.us], .bool false, .int .i64 2]) (res_ctt (p := 6) (q := 7) (r := 8) (ty := 34) Tryz.results30 _ _ (w.heap.size + 2) 34 #[.int .i64 t.rc, .int .i64 t.rb, .int .i64 (t.nb : Int), .bool t.fr, .slice t.A t.L.length t.c, .slice t.tA t.tok.length t.tc, .int .i64 t.us] (0, 0) _ rfl HKz.out Tryz.underlying34 rfl (by kernel_rfl)) rfl ⟨t, by rw [HQR.out], by rw [HQR.out], HMz.out, HBz.out⟩
  have HE := Lib.hid (HOKE.out.2 hr0)
  subst hr0
  have hr1 : ((0 : Int) == 0) = true := rfl
  have HNO : Hid (¬ ¬ okE e) := Lib.hid (fun h => h HE.out)
  have HV := Lib.hid (HV2.out HE.out)
  clear HV2 HOKE
  go_upto_region 3 with fail
  clear hr1
  obtain ⟨B, hB⟩ : ∃ B, bk t.nb e.k = B := ⟨_, rfl⟩
  have hBl : B < t.tok.length := by rw [← hB]; exact bk_lt HOK.out e.k
  have htk := tokK_eq t e.k B hB hBl
  have HBK : Hid (∀ W, Calls Tryz.prog 47 #[.agg #[.int .i64 t.rc, .int .i64 t.rb, .int .i64 (t.nb : Int), .bool t.fr, .slice t.A t.L.length t.c, .slice t.tA t.tok.length t.tc, .int .i64 t.us], .string ⟨e.k.toArray⟩] W (fun e w' => e = .returned (.int .i64 ((B : Nat) : Int)) ∧ Below W.heap.size W w')) := Lib.hid fun W => by
    have := rbucket t e.k (by have := (sizE_le HE.out).2.1; omega) HOK.out.nb W
    rw [hB] at this; exact this
  obtain ⟨bt, ot, htA, hct⟩ := tok_at HM.out B hBl
  obtain ⟨tk, htkv⟩ : ∃ v, t.tok[B] = v := ⟨_, rfl⟩
  rw [htkv] at hct htk
  have HTK := Lib.hid htk
  have hk5 : ∀ p : Later w2, p.world.cell? ⟨w.heap.size, 5, none⟩ = some (.slice (some ⟨bt, ot, none⟩) t.tok.length t.tc) := by rw [← htA]; exact later_blk_cell HK.out 5 _ rfl
  have hct2 := later_cell hct
  have HLK : Hid (∀ p : Later w2, Blk p.world w.heap.size 34 #[.int .i64 t.rc, .int .i64 t.rb, .int .i64 (t.nb : Int), .bool t.fr, .slice t.A t.L.length t.c, .slice t.tA t.tok.length t.tc, .int .i64 t.us]) := Lib.hid fun p => later_blk HK.out p
  have hx0 := later_blk_cell HX.out 0 _ rfl
  have hBi0 : (0 : Int) ≤ (B : Int) := by omega
  have hBi : (B : Int) < (t.tok.length : Int) := by omega
  have htli : (t.tok.length : Int) ≤ 100000 := by have := HM.out.tl; omega
  clear hct htA hB htk htkv hBl
  by_cases htn : tn = tk
  rotate_left
  · have HQR : Hid (fillS (trS t) e tn = (trS t, false, 0)) := Lib.hid (by unfold fillS; rw [if_neg HNO.out, HTK.out, if_pos htn])
    have e1 : (tk != tn) = true := by simpa using Ne.symm htn
    have e2 : (tk == tn) = false := by simpa using Ne.symm htn
    clear htn
    refine wp_region_later (by kernel_rfl) (by kernel_rfl) ?_
    repeat (first | (go_big_quiet_want; refine quiet_loadrow 34 (.tmp 3) rfl (w.heap.size) rfl HLK.out Tryz.underlying34 rfl (by kernel_rfl) ?_; simp only [Act.put, List.setIfInBounds_toArray, List.set_cons_succ, List.set_cons_zero]; go_big_quiet_on) | go_big_quiet_step ((go_at_call 47; exact later_of (HBK.out _))))
    refine wpQuiet_nil ?_
    intro w4 hw'
    obtain ⟨p, hp4⟩ := hw'
    have hb4 : Below w2.heap.size w2 w4 := by rw [hp4]; exact p.bel
    clear hp4 p
    replace HK := Lib.hid (HK.out.below hb4 HK.out.lt)
    replace HX := Lib.hid (HX.out.below hb4 HX.out.lt)
    replace HR := Lib.hid (HR.out.below hb4 HR.out.lt)
    replace HB := Lib.hid (HB.out.trans (hb4.mono HB.out.size))
    replace HM := Lib.hid (HM.out.below hb4)
    replace HL := Lib.hid (Nat.le_trans HL.out hb4.size)
    clear hb4 hk5 hct2 HLK hx0 HBK hBi0 hBi htli HNO HTK
    go_upto_region 4 with fail
    go_wp2_with (first | (refine wpList_load_row rfl 34 _ rfl _ rfl _ _ _ _ (show _ = _ from HK.out) Tryz.underlying34 rfl (by kernel_rfl) ?_) | (refine store_box rfl 34 _ _ rfl (w.heap.size + 2) 34 #[.int .i64 0, .int .i64 0, .int .i64 0, .bool false, .slice none 0 0, .slice none 0 0, .int .i64 0] #[.int .i64 t.rc, .int .i64 t.rb, .int .i64 (t.nb : Int), .bool t.fr, .slice t.A t.L.length t.c, .slice t.tA t.tok.length t.tc, .int .i64 t.us] HR.out rfl rfl rfl (by kernel_rfl) (by kernel_rfl) ?_))
    intro wz hkz hgz
    have HKz := Lib.hid hkz
    have HBz : Hid (Below w.heap.size w wz) := Lib.hid (HB.out.grown hgz HB.out.size fun g hg => by cases hg; omega)
    have HMz := Lib.hid (HNR.out _ _ (HM.out.touch (touch_box hgz HFR.out)))
    clear hkz hgz
    go_wp2
    exact bodyPost_ret (v := .tuple #[.agg #[.int .i64 t.rc, .int .i64 t.rb, .int .i64 (t.nb : Int), .bool t.fr, .slice t.A t.L.length t.c, .slice t.tA t.tok.length t.tc, .int .i64 t.us], .bool false, .int .i64 0]) (res_ctt (p := 6) (q := 7) (r := 8) (ty := 34) Tryz.results30 _ _ (w.heap.size + 2) 34 #[.int .i64 t.rc, .int .i64 t.rb, .int .i64 (t.nb : Int), .bool t.fr, .slice t.A t.L.length t.c, .slice t.tA t.tok.length t.tc, .int .i64 t.us] (0, 0) _ rfl HKz.out Tryz.underlying34 rfl (by kernel_rfl)) rfl ⟨t, by rw [HQR.out], by rw [HQR.out], HMz.out, HBz.out⟩
  have HTN : Hid (¬ tn ≠ tokK (trS t) e.k) := Lib.hid (fun hh => hh (by rw [HTK.out]; exact htn))
  subst htn
  have e1 : (tn != tn) = false := by simp
  have e2 : (tn == tn) = true := by simp
  refine wp_region_later (by kernel_rfl) (by kernel_rfl) ?_
  repeat (first | (go_big_quiet_want; refine quiet_loadrow 34 (.tmp 3) rfl (w.heap.size) rfl HLK.out Tryz.underlying34 rfl (by kernel_rfl) ?_; simp only [Act.put, List.setIfInBounds_toArray, List.set_cons_succ, List.set_cons_zero]; go_big_quiet_on) | go_big_quiet_step ((go_at_call 47; exact later_of (HBK.out _))))
  refine wpQuiet_nil ?_
  intro w4 hw'
  obtain ⟨p, hp4⟩ := hw'
  have hb4 : Below w2.heap.size w2 w4 := by rw [hp4]; exact p.bel
  clear hp4 p
  replace HK := Lib.hid (HK.out.below hb4 HK.out.lt)
  replace HX := Lib.hid (HX.out.below hb4 HX.out.lt)
  replace HR := Lib.hid (HR.out.below hb4 HR.out.lt)
  replace HB := Lib.hid (HB.out.trans (hb4.mono HB.out.size))
  replace HM := Lib.hid (HM.out.below hb4)
  replace HL := Lib.hid (Nat.le_trans HL.out hb4.size)
  replace HV := Lib.hid (HV.out.below hb4)
  clear hb4 hk5 hct2 HLK hx0 HBK hBi0 hBi htli
  have x0 : w4.cell? ⟨w.heap.size + 1, 0, none⟩ = some (.string ⟨e.k.toArray⟩) := HX.out.cell 0
  have HFD := Lib.hid (rfind t e.k w4 HM.out.m HOK.out.srt)
  go_wp2_with ((refine wpList_load_row rfl 34 _ rfl _ rfl _ _ _ _ (show _ = _ from HK.out) Tryz.underlying34 rfl (by kernel_rfl) ?_))
  refine HFD.out.mono ?_
  rintro e3 w3 ⟨r, rfl, hr, hb3⟩
  replace HK := Lib.hid (HK.out.below hb3 HK.out.lt)
  replace HX := Lib.hid (HX.out.below hb3 HX.out.lt)
  replace HR := Lib.hid (HR.out.below hb3 HR.out.lt)
  replace HB := Lib.hid (HB.out.trans (hb3.mono HB.out.size))
  replace HM := Lib.hid (HM.out.below hb3)
  replace HL := Lib.hid (Nat.le_trans HL.out hb3.size)
  replace HV := Lib.hid (HV.out.below hb3)
  clear hb3 HFD
  clear x0 e1 e2
  rcases hr with ⟨rfl, hget⟩ | ⟨i, hi2, rfl, hget⟩
  · have HLAY : Hid (fillS (trS t) e tn = layF (trS t) e) := Lib.hid (by unfold fillS; rw [if_neg HNO.out, if_neg HTN.out, hget])
    have hn9 : decide ((0 : Int) ≤ -1) = false := by decide
    clear hget HNO HTK HTN
    go_wp2_with fail
    refine wp_region_later (by kernel_rfl) (by kernel_rfl) ?_
    repeat (go_big_quiet_step (fail))
    refine wpQuiet_nil ?_
    intro w5 hw'
    obtain ⟨p, hp4⟩ := hw'
    have hb4 : Below w3.heap.size w3 w5 := by rw [hp4]; exact p.bel
    clear hp4 p
    replace HK := Lib.hid (HK.out.below hb4 HK.out.lt)
    replace HX := Lib.hid (HX.out.below hb4 HX.out.lt)
    replace HR := Lib.hid (HR.out.below hb4 HR.out.lt)
    replace HB := Lib.hid (HB.out.trans (hb4.mono HB.out.size))
    replace HM := Lib.hid (HM.out.below hb4)
    replace HL := Lib.hid (Nat.le_trans HL.out hb4.size)
    replace HV := Lib.hid (HV.out.below hb4)
    clear hb4
    go_upto_region 10 with fail
    clear hn9
    have HRO := Lib.hid (rroom ((trS t).T.length + 1) t F1 e eA ec w5 (fun k hk => Nat.lt_of_lt_of_le (HFL.out k hk) HL.out) HM.out HOK.out HV.out HE.out HQ.out (Nat.lt_succ_self _))
    obtain ⟨⟨S1, ok1⟩, hR⟩ : ∃ R, roomQ ((trS t).T.length + 1) (trS t) e = R := ⟨_, rfl⟩
    rw [hR] at HRO
    have HRQ := Lib.hid (lay_Q HOK.out hR true true)
    clear hR
    go_wp2_with (first | (refine wpList_load_row rfl 34 _ rfl _ rfl _ _ _ _ (show _ = _ from HK.out) Tryz.underlying34 rfl (by kernel_rfl) ?_) | (refine wpList_load_row rfl 43 _ rfl _ rfl _ _ _ _ (show _ = _ from HX.out) Tryz.underlying43 rfl (by kernel_rfl) ?_))
    refine HRO.out.mono ?_
    rintro e5 wr ⟨t1, rfl, hS1, hmt1, hb5⟩
    have HS1 := Lib.hid hS1
    have HM1 := Lib.hid hmt1
    replace HK := Lib.hid (HK.out.below hb5 HK.out.lt)
    replace HX := Lib.hid (HX.out.below hb5 HX.out.lt)
    replace HR := Lib.hid (HR.out.below hb5 HR.out.lt)
    replace HB := Lib.hid (HB.out.trans (hb5.mono HB.out.size))
    replace HM := Lib.hid (HM.out.below hb5)
    replace HL := Lib.hid (Nat.le_trans HL.out hb5.size)
    replace HV := Lib.hid (HV.out.below hb5)
    clear hS1 hmt1 hb5 HRO
    go_upto_region 11 with (refine wpList_boxM rfl rfl _ rfl 34 #[.int .i64 0, .int .i64 0, .int .i64 0, .bool false, .slice none 0 0, .slice none 0 0, .int .i64 0] (by kernel_rfl) _ _ rfl #[.int .i64 t1.rc, .int .i64 t1.rb, .int .i64 (t1.nb : Int), .bool t1.fr, .slice t1.A t1.L.length t1.c, .slice t1.tA t1.tok.length t1.tc, .int .i64 t1.us] rfl rfl rfl (by kernel_rfl) (by kernel_rfl) ?_)
    obtain ⟨gu, hgu⟩ : ∃ g, wr.heap.size = g := ⟨_, rfl⟩
    obtain ⟨W6, hW6⟩ : ∃ W, wr.alloc (.cells #[.int .i64 t1.rc, .int .i64 t1.rb, .int .i64 (t1.nb : Int), .bool t1.fr, .slice t1.A t1.L.length t1.c, .slice t1.tA t1.tok.length t1.tc, .int .i64 t1.us] 34) = W := ⟨_, rfl⟩
    have hb6 : Below wr.heap.size wr W6 := by rw [← hW6]; exact (Below.refl _ _).alloc (Nat.le_refl _) _
    have HU : Hid (Blk W6 gu 34 #[.int .i64 t1.rc, .int .i64 t1.rb, .int .i64 (t1.nb : Int), .bool t1.fr, .slice t1.A t1.L.length t1.c, .slice t1.tA t1.tok.length t1.tc, .int .i64 t1.us]) := Lib.hid (by rw [← hW6, ← hgu]; exact Blk.new _ _ _)
    replace HK := Lib.hid (HK.out.below hb6 HK.out.lt)
    replace HX := Lib.hid (HX.out.below hb6 HX.out.lt)
    replace HR := Lib.hid (HR.out.below hb6 HR.out.lt)
    replace HB := Lib.hid (HB.out.trans (hb6.mono HB.out.size))
    replace HM := Lib.hid (HM.out.below hb6)
    replace HL := Lib.hid (Nat.le_trans HL.out hb6.size)
    replace HV := Lib.hid (HV.out.below hb6)
    replace HM1 := Lib.hid (HM1.out.below hb6)
    try simp only [hW6, hgu]
    clear hb6 hW6 hgu
    cases ok1
    · have HQR := Lib.hid (HLAY.out.trans (layF_busy (HRQ.out.2 rfl)))
      clear HLAY HRQ
      go_upto_region 12 with fail
      go_wp2_with (first | (refine wpList_load_row rfl 34 _ rfl _ rfl _ _ _ _ (show _ = _ from HK.out) Tryz.underlying34 rfl (by kernel_rfl) ?_) | (refine store_box rfl 34 _ _ rfl (w.heap.size + 2) 34 #[.int .i64 0, .int .i64 0, .int .i64 0, .bool false, .slice none 0 0, .slice none 0 0, .int .i64 0] #[.int .i64 t.rc, .int .i64 t.rb, .int .i64 (t.nb : Int), .bool t.fr, .slice t.A t.L.length t.c, .slice t.tA t.tok.length t.tc, .int .i64 t.us] HR.out rfl rfl rfl (by kernel_rfl) (by kernel_rfl) ?_))
      intro wz hkz hgz
      have HKz := Lib.hid hkz
      have HBz : Hid (Below w.heap.size w wz) := Lib.hid (HB.out.grown hgz HB.out.size fun g hg => by cases hg; omega)
      have HMz := Lib.hid (HNR.out _ _ (HM.out.touch (touch_box hgz HFR.out)))
      clear hkz hgz
      go_wp2
      exact bodyPost_ret (v := .tuple #[.agg #[.int .i64 t.rc, .int .i64 t.rb, .int .i64 (t.nb : Int), .bool t.fr, .slice t.A t.L.length t.c, .slice t.tA t.tok.length t.tc, .int .i64 t.us], .bool false, .int .i64 30]) (res_ctt (p := 6) (q := 7) (r := 8) (ty := 34) Tryz.results30 _ _ (w.heap.size + 2) 34 #[.int .i64 t.rc, .int .i64 t.rb, .int .i64 (t.nb : Int), .bool t.fr, .slice t.A t.L.length t.c, .slice t.tA t.tok.length t.tc, .int .i64 t.us] (0, 0) _ rfl HKz.out Tryz.underlying34 rfl (by kernel_rfl)) rfl ⟨t, by rw [HQR.out], by rw [HQR.out], HMz.out, HBz.out⟩
    · obtain ⟨hla, hok1, hus1⟩ := HRQ.out.1 rfl
      have HQR := Lib.hid (HLAY.out.trans (layF_ok hla))
      have HUS : Hid (Calls Tryz.prog 49 #[.agg #[.int .i64 t1.rc, .int .i64 t1.rb, .int .i64 (t1.nb : Int), .bool t1.fr, .slice t1.A t1.L.length t1.c, .slice t1.tA t1.tok.length t1.tc, .int .i64 t1.us], .agg #[.string ⟨e.k.toArray⟩, .int .i64 e.s, .int .i64 e.u, .int .i64 e.o, .bool e.has, .slice eA e.v.length ec, .bool true, .bool true, .int .i64 0]] W6 (TrP F1 (useS S1 ⟨e, true, true, 0⟩) W6)) := Lib.hid (by
        have h9 := ruse t1 F1 ⟨e, true, true, 0⟩ eA ec W6 (fun k hk => Nat.lt_of_lt_of_le (HFL.out k hk) HL.out) HM1.out (by rw [HS1.out]; exact hok1.srt) HV.out (by have h1 := hok1.len; have h2 := hok1.rc; have h3 := trT_len t1; rw [HS1.out] at h3; omega) (by have h1 : t1.us = S1.us := congrArg Cl.us HS1.out; have h2 := hok1.u0; omega) (by have h1 : t1.us = S1.us := congrArg Cl.us HS1.out; have h2 : S1.us = t.us := hus1; have h3 := HUU.out; omega)
        rw [HS1.out] at h9
        exact h9)
      obtain ⟨S', hS'⟩ : ∃ S', useS S1 ⟨e, true, true, 0⟩ = S' := ⟨_, rfl⟩
      rw [hS'] at HUS HQR
      clear hS' hla hok1 hus1 HLAY HRQ
      go_upto_region 13 with fail
      go_wp2_with (first | (refine wpList_load_row rfl 34 _ rfl _ rfl _ _ _ _ (show _ = _ from HU.out) Tryz.underlying34 rfl (by kernel_rfl) ?_) | (refine wpList_load_row rfl 43 _ rfl _ rfl _ _ _ _ (show _ = _ from HX.out) Tryz.underlying43 rfl (by kernel_rfl) ?_))
      refine HUS.out.mono ?_
      rintro e7 w7 ⟨t', rfl, hS5, hm7, hb7⟩
      have HS5 := Lib.hid hS5
      have HM7 := Lib.hid hm7
      replace HK := Lib.hid (HK.out.below hb7 HK.out.lt)
      replace HR := Lib.hid (HR.out.below hb7 HR.out.lt)
      replace HB := Lib.hid (HB.out.trans (hb7.mono HB.out.size))
      replace HM := Lib.hid (HM.out.below hb7)
      replace HL := Lib.hid (Nat.le_trans HL.out hb7.size)
      clear hS5 hm7 hb7 HUS HU
      go_wp2_with (first | fail | (refine store_box rfl 34 _ _ rfl (w.heap.size + 2) 34 #[.int .i64 0, .int .i64 0, .int .i64 0, .bool false, .slice none 0 0, .slice none 0 0, .int .i64 0] #[.int .i64 t'.rc, .int .i64 t'.rb, .int .i64 (t'.nb : Int), .bool t'.fr, .slice t'.A t'.L.length t'.c, .slice t'.tA t'.tok.length t'.tc, .int .i64 t'.us] HR.out rfl rfl rfl (by kernel_rfl) (by kernel_rfl) ?_))
      intro wz hkz hgz
      have HKz := Lib.hid hkz
      have HBz : Hid (Below w.heap.size w wz) := Lib.hid (HB.out.grown hgz HB.out.size fun g hg => by cases hg; omega)
      have HMz := Lib.hid (HNR.out _ _ (HM7.out.touch (touch_box hgz HFR.out)))
      clear hkz hgz
      go_wp2
      exact bodyPost_ret (v := .tuple #[.agg #[.int .i64 t'.rc, .int .i64 t'.rb, .int .i64 (t'.nb : Int), .bool t'.fr, .slice t'.A t'.L.length t'.c, .slice t'.tA t'.tok.length t'.tc, .int .i64 t'.us], .bool true, .int .i64 0]) (res_ctt (p := 6) (q := 7) (r := 8) (ty := 34) Tryz.results30 _ _ (w.heap.size + 2) 34 #[.int .i64 t'.rc, .int .i64 t'.rb, .int .i64 (t'.nb : Int), .bool t'.fr, .slice t'.A t'.L.length t'.c, .slice t'.tA t'.tok.length t'.tc, .int .i64 t'.us] (0, 0) _ rfl HKz.out Tryz.underlying34 rfl (by kernel_rfl)) rfl ⟨t', by rw [HQR.out], by rw [HQR.out]; exact HS5.out, HMz.out, HBz.out⟩
  · have hi : i < t.L.length := by rw [trT_len] at hi2; exact hi2
    have hfst := trT_at t i hi2 hi
    obtain ⟨⟨x, xA, xc⟩, hx⟩ : ∃ p, t.L[i]'hi = p := ⟨_, rfl⟩
    rw [hfst, hx] at hget
    have hxm : (⟨x, xA, xc⟩ : CV) ∈ t.L := by rw [← hx]; exact List.getElem_mem hi
    have HVX := Lib.hid (HM.out.val hxm)
    have HGE := Lib.hid hget
    obtain ⟨b, ao, hA, hbb, hc⟩ := cells_open HM.out.m.cev.row (by omega)
    have hcc := hc i hi
    rw [hx] at hcc
    have h4 : w3.cell? ⟨w.heap.size, 4, none⟩ = some (.slice (some ⟨b, ao, none⟩) t.L.length t.c) := by rw [← hA]; exact HK.out.cell 4
    have hc0 := hcc 0 _ rfl
    rw [Nat.add_zero] at hc0
    have hc1 := hcc 1 _ rfl
    have hc2 := hcc 2 _ rfl
    have hc3 := hcc 3 _ rfl
    have hc4 := hcc 4 _ rfl
    have hc5 := hcc 5 _ rfl
    have hc6 := hcc 6 _ rfl
    have hc7 := hcc 7 _ rfl
    have hc8 := hcc 8 _ rfl
    have hii : (0 : Int) ≤ (i : Int) := by omega
    have hii2 : (i : Int) < (t.L.length : Int) := by omega
    have hlni : (t.L.length : Int) ≤ 100000 := by have := HM.out.ln; omega
    have hi9 : decide ((i : Int) < 0) = false := decide_eq_false (by omega)
    have hi10 : decide (0 ≤ (i : Int)) = true := decide_eq_true (by omega)
    obtain ⟨cv, hcv⟩ : ∃ cv, cmpT x.e.s x.e.u x.e.o e.s e.u e.o = cv := ⟨_, rfl⟩
    have HCV := Lib.hid hcv
    have HC := Lib.hid (fun p : Later w3 => refcompare_val x.e.s x.e.u x.e.o e.s e.u e.o cv HCV p.world)
    have l4 := later_cell h4
    have l1 := later_cell hc1
    have l2 := later_cell hc2
    have l3 := later_cell hc3
    have g1 := later_blk_cell HX.out 1 _ rfl
    have g2 := later_blk_cell HX.out 2 _ rfl
    have g3 := later_blk_cell HX.out 3 _ rfl
    clear hc hcc hfst hxm hbb hget hx hcv
    by_cases hcz : 0 < cv
    rotate_left
    · have HLAY : Hid (fillS (trS t) e tn = layF (trS t) e) := Lib.hid (by unfold fillS; rw [if_neg HNO.out, if_neg HTN.out, HGE.out]; simp only; rw [if_neg (by unfold cE; rw [HCV.out]; exact hcz)])
      have g5 : decide (0 < cv) = false := decide_eq_false hcz
      clear hcz HCV HGE HNO HTK HTN hA
      go_wp2_with fail
      refine wp_region_later (by kernel_rfl) (by kernel_rfl) ?_
      repeat (go_big_quiet_step ((go_at_call 51; exact later_of (HC.out _))))
      refine wpQuiet_nil ?_
      intro w5 hw'
      obtain ⟨p, hp4⟩ := hw'
      have hb4 : Below w3.heap.size w3 w5 := by rw [hp4]; exact p.bel
      clear hp4 p
      replace HK := Lib.hid (HK.out.below hb4 HK.out.lt)
      replace HX := Lib.hid (HX.out.below hb4 HX.out.lt)
      replace HR := Lib.hid (HR.out.below hb4 HR.out.lt)
      replace HB := Lib.hid (HB.out.trans (hb4.mono HB.out.size))
      replace HM := Lib.hid (HM.out.below hb4)
      replace HL := Lib.hid (Nat.le_trans HL.out hb4.size)
      replace HV := Lib.hid (HV.out.below hb4)
      clear hb4 HC l4 l1 l2 l3 g1 g2 g3 hc0 hc1 hc2 hc3 hc4 hc5 hc6 hc7 hc8 h4 HVX
      go_upto_region 10 with fail
      have HRO := Lib.hid (rroom ((trS t).T.length + 1) t F1 e eA ec w5 (fun k hk => Nat.lt_of_lt_of_le (HFL.out k hk) HL.out) HM.out HOK.out HV.out HE.out HQ.out (Nat.lt_succ_self _))
      obtain ⟨⟨S1, ok1⟩, hR⟩ : ∃ R, roomQ ((trS t).T.length + 1) (trS t) e = R := ⟨_, rfl⟩
      rw [hR] at HRO
      have HRQ := Lib.hid (lay_Q HOK.out hR true true)
      clear hR
      go_wp2_with (first | (refine wpList_load_row rfl 34 _ rfl _ rfl _ _ _ _ (show _ = _ from HK.out) Tryz.underlying34 rfl (by kernel_rfl) ?_) | (refine wpList_load_row rfl 43 _ rfl _ rfl _ _ _ _ (show _ = _ from HX.out) Tryz.underlying43 rfl (by kernel_rfl) ?_))
      refine HRO.out.mono ?_
      rintro e5 wr ⟨t1, rfl, hS1, hmt1, hb5⟩
      have HS1 := Lib.hid hS1
      have HM1 := Lib.hid hmt1
      replace HK := Lib.hid (HK.out.below hb5 HK.out.lt)
      replace HX := Lib.hid (HX.out.below hb5 HX.out.lt)
      replace HR := Lib.hid (HR.out.below hb5 HR.out.lt)
      replace HB := Lib.hid (HB.out.trans (hb5.mono HB.out.size))
      replace HM := Lib.hid (HM.out.below hb5)
      replace HL := Lib.hid (Nat.le_trans HL.out hb5.size)
      replace HV := Lib.hid (HV.out.below hb5)
      clear hS1 hmt1 hb5 HRO
      go_upto_region 11 with (refine wpList_boxM rfl rfl _ rfl 34 #[.int .i64 0, .int .i64 0, .int .i64 0, .bool false, .slice none 0 0, .slice none 0 0, .int .i64 0] (by kernel_rfl) _ _ rfl #[.int .i64 t1.rc, .int .i64 t1.rb, .int .i64 (t1.nb : Int), .bool t1.fr, .slice t1.A t1.L.length t1.c, .slice t1.tA t1.tok.length t1.tc, .int .i64 t1.us] rfl rfl rfl (by kernel_rfl) (by kernel_rfl) ?_)
      obtain ⟨gu, hgu⟩ : ∃ g, wr.heap.size = g := ⟨_, rfl⟩
      obtain ⟨W6, hW6⟩ : ∃ W, wr.alloc (.cells #[.int .i64 t1.rc, .int .i64 t1.rb, .int .i64 (t1.nb : Int), .bool t1.fr, .slice t1.A t1.L.length t1.c, .slice t1.tA t1.tok.length t1.tc, .int .i64 t1.us] 34) = W := ⟨_, rfl⟩
      have hb6 : Below wr.heap.size wr W6 := by rw [← hW6]; exact (Below.refl _ _).alloc (Nat.le_refl _) _
      have HU : Hid (Blk W6 gu 34 #[.int .i64 t1.rc, .int .i64 t1.rb, .int .i64 (t1.nb : Int), .bool t1.fr, .slice t1.A t1.L.length t1.c, .slice t1.tA t1.tok.length t1.tc, .int .i64 t1.us]) := Lib.hid (by rw [← hW6, ← hgu]; exact Blk.new _ _ _)
      replace HK := Lib.hid (HK.out.below hb6 HK.out.lt)
      replace HX := Lib.hid (HX.out.below hb6 HX.out.lt)
      replace HR := Lib.hid (HR.out.below hb6 HR.out.lt)
      replace HB := Lib.hid (HB.out.trans (hb6.mono HB.out.size))
      replace HM := Lib.hid (HM.out.below hb6)
      replace HL := Lib.hid (Nat.le_trans HL.out hb6.size)
      replace HV := Lib.hid (HV.out.below hb6)
      replace HM1 := Lib.hid (HM1.out.below hb6)
      try simp only [hW6, hgu]
      clear hb6 hW6 hgu
      cases ok1
      · have HQR := Lib.hid (HLAY.out.trans (layF_busy (HRQ.out.2 rfl)))
        clear HLAY HRQ
        go_upto_region 12 with fail
        go_wp2_with (first | (refine wpList_load_row rfl 34 _ rfl _ rfl _ _ _ _ (show _ = _ from HK.out) Tryz.underlying34 rfl (by kernel_rfl) ?_) | (refine store_box rfl 34 _ _ rfl (w.heap.size + 2) 34 #[.int .i64 0, .int .i64 0, .int .i64 0, .bool false, .slice none 0 0, .slice none 0 0, .int .i64 0] #[.int .i64 t.rc, .int .i64 t.rb, .int .i64 (t.nb : Int), .bool t.fr, .slice t.A t.L.length t.c, .slice t.tA t.tok.length t.tc, .int .i64 t.us] HR.out rfl rfl rfl (by kernel_rfl) (by kernel_rfl) ?_))
        intro wz hkz hgz
        have HKz := Lib.hid hkz
        have HBz : Hid (Below w.heap.size w wz) := Lib.hid (HB.out.grown hgz HB.out.size fun g hg => by cases hg; omega)
        have HMz := Lib.hid (HNR.out _ _ (HM.out.touch (touch_box hgz HFR.out)))
        clear hkz hgz
        go_wp2
        exact bodyPost_ret (v := .tuple #[.agg #[.int .i64 t.rc, .int .i64 t.rb, .int .i64 (t.nb : Int), .bool t.fr, .slice t.A t.L.length t.c, .slice t.tA t.tok.length t.tc, .int .i64 t.us], .bool false, .int .i64 30]) (res_ctt (p := 6) (q := 7) (r := 8) (ty := 34) Tryz.results30 _ _ (w.heap.size + 2) 34 #[.int .i64 t.rc, .int .i64 t.rb, .int .i64 (t.nb : Int), .bool t.fr, .slice t.A t.L.length t.c, .slice t.tA t.tok.length t.tc, .int .i64 t.us] (0, 0) _ rfl HKz.out Tryz.underlying34 rfl (by kernel_rfl)) rfl ⟨t, by rw [HQR.out], by rw [HQR.out], HMz.out, HBz.out⟩
      · obtain ⟨hla, hok1, hus1⟩ := HRQ.out.1 rfl
        have HQR := Lib.hid (HLAY.out.trans (layF_ok hla))
        have HUS : Hid (Calls Tryz.prog 49 #[.agg #[.int .i64 t1.rc, .int .i64 t1.rb, .int .i64 (t1.nb : Int), .bool t1.fr, .slice t1.A t1.L.length t1.c, .slice t1.tA t1.tok.length t1.tc, .int .i64 t1.us], .agg #[.string ⟨e.k.toArray⟩, .int .i64 e.s, .int .i64 e.u, .int .i64 e.o, .bool e.has, .slice eA e.v.length ec, .bool true, .bool true, .int .i64 0]] W6 (TrP F1 (useS S1 ⟨e, true, true, 0⟩) W6)) := Lib.hid (by
          have h9 := ruse t1 F1 ⟨e, true, true, 0⟩ eA ec W6 (fun k hk => Nat.lt_of_lt_of_le (HFL.out k hk) HL.out) HM1.out (by rw [HS1.out]; exact hok1.srt) HV.out (by have h1 := hok1.len; have h2 := hok1.rc; have h3 := trT_len t1; rw [HS1.out] at h3; omega) (by have h1 : t1.us = S1.us := congrArg Cl.us HS1.out; have h2 := hok1.u0; omega) (by have h1 : t1.us = S1.us := congrArg Cl.us HS1.out; have h2 : S1.us = t.us := hus1; have h3 := HUU.out; omega)
          rw [HS1.out] at h9
          exact h9)
        obtain ⟨S', hS'⟩ : ∃ S', useS S1 ⟨e, true, true, 0⟩ = S' := ⟨_, rfl⟩
        rw [hS'] at HUS HQR
        clear hS' hla hok1 hus1 HLAY HRQ
        go_upto_region 13 with fail
        go_wp2_with (first | (refine wpList_load_row rfl 34 _ rfl _ rfl _ _ _ _ (show _ = _ from HU.out) Tryz.underlying34 rfl (by kernel_rfl) ?_) | (refine wpList_load_row rfl 43 _ rfl _ rfl _ _ _ _ (show _ = _ from HX.out) Tryz.underlying43 rfl (by kernel_rfl) ?_))
        refine HUS.out.mono ?_
        rintro e7 w7 ⟨t', rfl, hS5, hm7, hb7⟩
        have HS5 := Lib.hid hS5
        have HM7 := Lib.hid hm7
        replace HK := Lib.hid (HK.out.below hb7 HK.out.lt)
        replace HR := Lib.hid (HR.out.below hb7 HR.out.lt)
        replace HB := Lib.hid (HB.out.trans (hb7.mono HB.out.size))
        replace HM := Lib.hid (HM.out.below hb7)
        replace HL := Lib.hid (Nat.le_trans HL.out hb7.size)
        clear hS5 hm7 hb7 HUS HU
        go_wp2_with (first | fail | (refine store_box rfl 34 _ _ rfl (w.heap.size + 2) 34 #[.int .i64 0, .int .i64 0, .int .i64 0, .bool false, .slice none 0 0, .slice none 0 0, .int .i64 0] #[.int .i64 t'.rc, .int .i64 t'.rb, .int .i64 (t'.nb : Int), .bool t'.fr, .slice t'.A t'.L.length t'.c, .slice t'.tA t'.tok.length t'.tc, .int .i64 t'.us] HR.out rfl rfl rfl (by kernel_rfl) (by kernel_rfl) ?_))
        intro wz hkz hgz
        have HKz := Lib.hid hkz
        have HBz : Hid (Below w.heap.size w wz) := Lib.hid (HB.out.grown hgz HB.out.size fun g hg => by cases hg; omega)
        have HMz := Lib.hid (HNR.out _ _ (HM7.out.touch (touch_box hgz HFR.out)))
        clear hkz hgz
        go_wp2
        exact bodyPost_ret (v := .tuple #[.agg #[.int .i64 t'.rc, .int .i64 t'.rb, .int .i64 (t'.nb : Int), .bool t'.fr, .slice t'.A t'.L.length t'.c, .slice t'.tA t'.tok.length t'.tc, .int .i64 t'.us], .bool true, .int .i64 0]) (res_ctt (p := 6) (q := 7) (r := 8) (ty := 34) Tryz.results30 _ _ (w.heap.size + 2) 34 #[.int .i64 t'.rc, .int .i64 t'.rb, .int .i64 (t'.nb : Int), .bool t'.fr, .slice t'.A t'.L.length t'.c, .slice t'.tA t'.tok.length t'.tc, .int .i64 t'.us] (0, 0) _ rfl HKz.out Tryz.underlying34 rfl (by kernel_rfl)) rfl ⟨t', by rw [HQR.out], by rw [HQR.out]; exact HS5.out, HMz.out, HBz.out⟩
    · have HQR : Hid (fillS (trS t) e tn = (useS (trS t) { x with wh := true }, true, 0)) := Lib.hid (by unfold fillS; rw [if_neg HNO.out, if_neg HTN.out, HGE.out]; simp only; rw [if_pos (by unfold cE; rw [HCV.out]; exact hcz)])
      have g5 : decide (0 < cv) = true := decide_eq_true hcz
      clear hcz HCV HGE HNO HTK HTN
      go_wp2_with fail
      refine wp_region_later (by kernel_rfl) (by kernel_rfl) ?_
      repeat (go_big_quiet_step ((go_at_call 51; exact later_of (HC.out _))))
      refine wpQuiet_nil ?_
      intro w4 hw'
      obtain ⟨p, hp4⟩ := hw'
      have hb4 : Below w3.heap.size w3 w4 := by rw [hp4]; exact p.bel
      have h44 : w4.cell? ⟨w.heap.size, 4, none⟩ = some (.slice (some ⟨b, ao, none⟩) t.L.length t.c) := by rw [← hA]; exact (HK.out.below hb4 HK.out.lt).cell 4
      have e0 := later_cell hc0 p
      rw [← hp4] at e0
      have e1 := later_cell hc1 p
      rw [← hp4] at e1
      have e2 := later_cell hc2 p
      rw [← hp4] at e2
      have e3 := later_cell hc3 p
      rw [← hp4] at e3
      have e4 := later_cell hc4 p
      rw [← hp4] at e4
      have e5 := later_cell hc5 p
      rw [← hp4] at e5
      have e6 := later_cell hc6 p
      rw [← hp4] at e6
      have e7 := later_cell hc7 p
      rw [← hp4] at e7
      have e8 := later_cell hc8 p
      rw [← hp4] at e8
      clear hp4 p
      replace HK := Lib.hid (HK.out.below hb4 HK.out.lt)
      replace HX := Lib.hid (HX.out.below hb4 HX.out.lt)
      replace HR := Lib.hid (HR.out.below hb4 HR.out.lt)
      replace HB := Lib.hid (HB.out.trans (hb4.mono HB.out.size))
      replace HM := Lib.hid (HM.out.below hb4)
      replace HL := Lib.hid (Nat.le_trans HL.out hb4.size)
      replace HVX := Lib.hid (HVX.out.below hb4)
      clear hb4 HC l4 l1 l2 l3 g1 g2 g3 hc0 hc1 hc2 hc3 hc4 hc5 hc6 hc7 hc8 h4 hA g5 HV HX
      go_upto_region 8 with (refine wpList_boxM rfl rfl _ rfl 88 #[.string ⟨#[]⟩, .int .i64 0, .int .i64 0, .int .i64 0, .bool false, .slice none 0 0, .bool false, .bool false, .int .i64 0] (by kernel_rfl) _ _ rfl #[.string ⟨x.e.k.toArray⟩, .int .i64 x.e.s, .int .i64 x.e.u, .int .i64 x.e.o, .bool x.e.has, .slice xA x.e.v.length xc, .bool x.wh, .bool x.cl, .int .i64 x.us] rfl rfl rfl (by kernel_rfl) (by kernel_rfl) ?_)
      obtain ⟨gc, hgc⟩ : ∃ g, w4.heap.size = g := ⟨_, rfl⟩
      obtain ⟨W5, hW5⟩ : ∃ W, w4.alloc (.cells #[.string ⟨x.e.k.toArray⟩, .int .i64 x.e.s, .int .i64 x.e.u, .int .i64 x.e.o, .bool x.e.has, .slice xA x.e.v.length xc, .bool x.wh, .bool x.cl, .int .i64 x.us] 88) = W := ⟨_, rfl⟩
      have hb5 : Below w4.heap.size w4 W5 := by rw [← hW5]; exact (Below.refl _ _).alloc (Nat.le_refl _) _
      have hkc : Blk W5 gc 88 #[.string ⟨x.e.k.toArray⟩, .int .i64 x.e.s, .int .i64 x.e.u, .int .i64 x.e.o, .bool x.e.has, .slice xA x.e.v.length xc, .bool x.wh, .bool x.cl, .int .i64 x.us] := by rw [← hW5, ← hgc]; exact Blk.new _ _ _
      have hgw : w.heap.size + 3 ≤ gc := by have := HSZ.out; have := HL.out; omega
      have hgz : gc < W5.heap.size := hkc.lt
      have hm5 := HM.out.wide hb5
      have hv5 := HVX.out.wide hb5
      have hFu : More2 F1 w4.heap.size W5.heap.size gc := Or.inr ⟨by omega, hgz⟩
      replace HK := Lib.hid (HK.out.below hb5 HK.out.lt)
      replace HR := Lib.hid (HR.out.below hb5 HR.out.lt)
      replace HB := Lib.hid (HB.out.trans (hb5.mono HB.out.size))
      replace HM := Lib.hid (HM.out.below hb5)
      replace HL := Lib.hid (Nat.le_trans HL.out hb5.size)
      try simp only [hW5, hgc]
      clear e0 e1 e2 e3 e4 e5 e6 e7 e8 h44 hW5 hgc
      have z6 := hkc.frozen 6
      have d6 : W5.cell? ⟨gc, 6, none⟩ = some (.bool x.wh) := hkc.cell 6
      have HKC : Hid (Blk (W5.setCell ⟨gc, 6, none⟩ (.bool true)) gc 88 #[.string ⟨x.e.k.toArray⟩, .int .i64 x.e.s, .int .i64 x.e.u, .int .i64 x.e.o, .bool x.e.has, .slice xA x.e.v.length xc, .bool true, .bool x.cl, .int .i64 x.us]) := Lib.hid (hkc.set_ 6 (.bool true))
      have hsg : W5.grownBy (W5.setCell ⟨gc, 6, none⟩ (.bool true)) (some gc) := grown_set _ _ _ _
      replace HM := Lib.hid (hm5.touch (touch_box hsg hFu)).narrow
      replace HVX := Lib.hid (hv5.touch (touch_box hsg hFu)).narrow
      replace HK := Lib.hid (blk_grownT HK.out hsg (by omega))
      replace HR := Lib.hid (blk_grownT HR.out hsg (by omega))
      replace HB : Hid (Below w.heap.size w (W5.setCell ⟨gc, 6, none⟩ (.bool true))) := Lib.hid (HB.out.grown hsg HB.out.size fun g hg => by cases hg; omega)
      replace HL : Hid (W1.heap.size ≤ (W5.setCell ⟨gc, 6, none⟩ (.bool true)).heap.size) := Lib.hid (Nat.le_trans HL.out hsg.size)
      obtain ⟨w6, hw6⟩ : ∃ W, W5.setCell ⟨gc, 6, none⟩ (.bool true) = W := ⟨_, rfl⟩
      rw [hw6] at HKC HM HVX HK HR HB HL
      clear hb5 hkc hm5 hv5 hsg hFu
      go_upto_region 9 with fail
      try simp only [hw6]
      clear hw6 z6 d6
      have HUS : Hid (Calls Tryz.prog 49 #[.agg #[.int .i64 t.rc, .int .i64 t.rb, .int .i64 (t.nb : Int), .bool t.fr, .slice t.A t.L.length t.c, .slice t.tA t.tok.length t.tc, .int .i64 t.us], .agg #[.string ⟨x.e.k.toArray⟩, .int .i64 x.e.s, .int .i64 x.e.u, .int .i64 x.e.o, .bool x.e.has, .slice xA x.e.v.length xc, .bool true, .bool x.cl, .int .i64 x.us]] w6 (TrP F1 (useS (trS t) { x with wh := true }) w6)) := Lib.hid (ruse t F1 { x with wh := true } xA xc w6 (fun k hk => Nat.lt_of_lt_of_le (HFL.out k hk) HL.out) HM.out HOK.out.srt HVX.out (by have h1 := HOK.out.len; have h2 := HOK.out.rc; have h3 := trT_len t; omega) HOK.out.u0 HUU.out)
      obtain ⟨S', hS'⟩ : ∃ S', useS (trS t) { x with wh := true } = S' := ⟨_, rfl⟩
      rw [hS'] at HUS HQR
      clear hS'
      go_wp2_with (first | (refine wpList_load_row rfl 34 _ rfl _ rfl _ _ _ _ (show _ = _ from HK.out) Tryz.underlying34 rfl (by kernel_rfl) ?_) | (refine wpList_load_row rfl 88 _ rfl _ rfl _ _ _ _ (show _ = _ from HKC.out) Tryz.underlying88 rfl (by kernel_rfl) ?_))
      refine HUS.out.mono ?_
      rintro e7 w7 ⟨t', rfl, hS5, hm7, hb7⟩
      have HS5 := Lib.hid hS5
      have HM7 := Lib.hid hm7
      replace HK := Lib.hid (HK.out.below hb7 HK.out.lt)
      replace HR := Lib.hid (HR.out.below hb7 HR.out.lt)
      replace HB := Lib.hid (HB.out.trans (hb7.mono HB.out.size))
      replace HM := Lib.hid (HM.out.below hb7)
      replace HL := Lib.hid (Nat.le_trans HL.out hb7.size)
      clear hS5 hm7 hb7 HUS HKC
      go_wp2_with (first | fail | (refine store_box rfl 34 _ _ rfl (w.heap.size + 2) 34 #[.int .i64 0, .int .i64 0, .int .i64 0, .bool false, .slice none 0 0, .slice none 0 0, .int .i64 0] #[.int .i64 t'.rc, .int .i64 t'.rb, .int .i64 (t'.nb : Int), .bool t'.fr, .slice t'.A t'.L.length t'.c, .slice t'.tA t'.tok.length t'.tc, .int .i64 t'.us] HR.out rfl rfl rfl (by kernel_rfl) (by kernel_rfl) ?_))
      intro wz hkz hgz
      have HKz := Lib.hid hkz
      have HBz : Hid (Below w.heap.size w wz) := Lib.hid (HB.out.grown hgz HB.out.size fun g hg => by cases hg; omega)
      have HMz := Lib.hid (HNR.out _ _ (HM7.out.touch (touch_box hgz HFR.out)))
      clear hkz hgz
      go_wp2
      exact bodyPost_ret (v := .tuple #[.agg #[.int .i64 t'.rc, .int .i64 t'.rb, .int .i64 (t'.nb : Int), .bool t'.fr, .slice t'.A t'.L.length t'.c, .slice t'.tA t'.tok.length t'.tc, .int .i64 t'.us], .bool true, .int .i64 0]) (res_ctt (p := 6) (q := 7) (r := 8) (ty := 34) Tryz.results30 _ _ (w.heap.size + 2) 34 #[.int .i64 t'.rc, .int .i64 t'.rb, .int .i64 (t'.nb : Int), .bool t'.fr, .slice t'.A t'.L.length t'.c, .slice t'.tA t'.tok.length t'.tc, .int .i64 t'.us] (0, 0) _ rfl HKz.out Tryz.underlying34 rfl (by kernel_rfl)) rfl ⟨t', by rw [HQR.out], by rw [HQR.out]; exact HS5.out, HMz.out, HBz.out⟩
end Go.Proofs.YtpebhfjcakllmaaGreat
namespace Go.Proofs.YtpebhfjcakllmaaGreat
open Go.RowKit Go.ChangeShapes Mem Be Word Rg Go.Maps
set_option maxRecDepth 100000
set_option maxHeartbeats 8000000
set_option linter.unusedVariables false
set_option linter.unusedSimpArgs false
theorem revict (t : Tr) (F : Nat → Prop) (k : List UInt8) (w : World) (hF : ∀ k, F k → k < w.heap.size) (h : TrN F w t) (ok : OkC (trS t)) (hq : ∀ v ∈ t.tok, v ≤ 4611686018427390000) :
    Calls Tryz.prog 33 #[.agg #[.int .i64 t.rc, .int .i64 t.rb, .int .i64 (t.nb : Int), .bool t.fr, .slice t.A t.L.length t.c, .slice t.tA t.tok.length t.tc, .int .i64 t.us], .string ⟨k.toArray⟩] w (RoomP F (evictS (trS t) k) w) := by
  have hb : Below w.heap.size w (((w).alloc (.cells #[.int .i64 t.rc, .int .i64 t.rb, .int .i64 (t.nb : Int), .bool t.fr, .slice t.A t.L.length t.c, .slice t.tA t.tok.length t.tc, .int .i64 t.us] 34)).alloc (.cells #[.int .i64 0, .int .i64 0, .int .i64 0, .bool false, .slice none 0 0, .slice none 0 0, .int .i64 0] 34)) := ((Below.refl _ _).alloc (Nat.le_refl _) _).alloc (by simp) _
  have h_HK : Blk (((w).alloc (.cells #[.int .i64 t.rc, .int .i64 t.rb, .int .i64 (t.nb : Int), .bool t.fr, .slice t.A t.L.length t.c, .slice t.tA t.tok.length t.tc, .int .i64 t.us] 34)).alloc (.cells #[.int .i64 0, .int .i64 0, .int .i64 0, .bool false, .slice none 0 0, .slice none 0 0, .int .i64 0] 34)) (w.heap.size) 34 #[.int .i64 t.rc, .int .i64 t.rb, .int .i64 (t.nb : Int), .bool t.fr, .slice t.A t.L.length t.c, .slice t.tA t.tok.length t.tc, .int .i64 t.us] := ((Blk.new (w) 34 #[.int .i64 t.rc, .int .i64 t.rb, .int .i64 (t.nb : Int), .bool t.fr, .slice t.A t.L.length t.c, .slice t.tA t.tok.length t.tc, .int .i64 t.us]).alloc (.cells #[.int .i64 0, .int .i64 0, .int .i64 0, .bool false, .slice none 0 0, .slice none 0 0, .int .i64 0] 34))
  have h_HR : Blk (((w).alloc (.cells #[.int .i64 t.rc, .int .i64 t.rb, .int .i64 (t.nb : Int), .bool t.fr, .slice t.A t.L.length t.c, .slice t.tA t.tok.length t.tc, .int .i64 t.us] 34)).alloc (.cells #[.int .i64 0, .int .i64 0, .int .i64 0, .bool false, .slice none 0 0, .slice none 0 0, .int .i64 0] 34)) (w.heap.size + 1) 34 #[.int .i64 0, .int .i64 0, .int .i64 0, .bool false, .slice none 0 0, .slice none 0 0, .int .i64 0] := blk_at (by simp) (Blk.new ((w).alloc (.cells #[.int .i64 t.rc, .int .i64 t.rb, .int .i64 (t.nb : Int), .bool t.fr, .slice t.A t.L.length t.c, .slice t.tA t.tok.length t.tc, .int .i64 t.us] 34)) 34 #[.int .i64 0, .int .i64 0, .int .i64 0, .bool false, .slice none 0 0, .slice none 0 0, .int .i64 0])
  have hm1 := h.wide hb
  obtain ⟨W1, hW1⟩ : ∃ W, ((w).alloc (.cells #[.int .i64 t.rc, .int .i64 t.rb, .int .i64 (t.nb : Int), .bool t.fr, .slice t.A t.L.length t.c, .slice t.tA t.tok.length t.tc, .int .i64 t.us] 34)).alloc (.cells #[.int .i64 0, .int .i64 0, .int .i64 0, .bool false, .slice none 0 0, .slice none 0 0, .int .i64 0] 34) = W := ⟨_, rfl⟩
  have hsz : W1.heap.size = w.heap.size + 2 := by rw [← hW1]; simp
  rw [hW1] at hb hm1 h_HK h_HR
  have HK := Lib.hid h_HK
  have HR := Lib.hid h_HR
  have HB := Lib.hid hb
  have HM := Lib.hid hm1
  have HF := Lib.hid hF
  have HSZ := Lib.hid hsz
  have HOK := Lib.hid ok
  obtain ⟨F1, hF1⟩ : ∃ F1, More2 F w.heap.size W1.heap.size = F1 := ⟨_, rfl⟩
  have HFL : Hid (∀ k, F1 k → k < W1.heap.size) := Lib.hid (by rw [← hF1]; exact more2_lt hF hb.size)
  have HFR : Hid (F1 (w.heap.size + 1)) := Lib.hid (by rw [← hF1]; exact Or.inr ⟨by omega, by omega⟩)
  have HNR : Hid (∀ (w' : World) (t' : Tr), TrN F1 w' t' → TrN F w' t') := Lib.hid (fun w' t' h => by rw [← hF1] at h; exact h.narrow)
  have HL : Hid (W1.heap.size ≤ W1.heap.size) := Lib.hid (Nat.le_refl _)
  rw [hF1] at HM
  clear hb h_HK h_HR h hF hm1 hF1 hsz ok
  have HQ := Lib.hid hq
  clear hq
  go_enter Tryz.func33, Tryz.ntmps33
  have HFD := Lib.hid (rfind t k W1 HM.out.m HOK.out.srt)
  go_wp2_with ((refine wpList_load_row rfl 34 _ rfl _ rfl _ _ _ _ (show _ = _ from HK.out) Tryz.underlying34 rfl (by kernel_rfl) ?_))
  refine HFD.out.mono ?_
  rintro e3 w3 ⟨r, rfl, hr, hb3⟩
  replace HK := Lib.hid (HK.out.below hb3 HK.out.lt)
  replace HR := Lib.hid (HR.out.below hb3 HR.out.lt)
  replace HB := Lib.hid (HB.out.trans (hb3.mono HB.out.size))
  replace HM := Lib.hid (HM.out.below hb3)
  replace HL := Lib.hid (Nat.le_trans HL.out hb3.size)
  clear hb3 HFD
  clear hW1
  rcases hr with ⟨rfl, hget⟩ | ⟨i, hi2, rfl, hget⟩
  · have HQR : Hid (evictS (trS t) k = (trS t, false)) := Lib.hid (by unfold evictS; rw [hget])
    have hn9 : decide ((-1 : Int) < 0) = true := by decide
    clear hget
    go_upto_region 3 with fail
    go_wp2_with (first | (refine wpList_load_row rfl 34 _ rfl _ rfl _ _ _ _ (show _ = _ from HK.out) Tryz.underlying34 rfl (by kernel_rfl) ?_) | (refine store_box rfl 34 _ _ rfl (w.heap.size + 1) 34 #[.int .i64 0, .int .i64 0, .int .i64 0, .bool false, .slice none 0 0, .slice none 0 0, .int .i64 0] #[.int .i64 t.rc, .int .i64 t.rb, .int .i64 (t.nb : Int), .bool t.fr, .slice t.A t.L.length t.c, .slice t.tA t.tok.length t.tc, .int .i64 t.us] HR.out rfl rfl rfl (by kernel_rfl) (by kernel_rfl) ?_))
    intro wz hkz hgz
    have HKz := Lib.hid hkz
    have HBz : Hid (Below w.heap.size w wz) := Lib.hid (HB.out.grown hgz HB.out.size fun g hg => by cases hg; omega)
    have HMz := Lib.hid (HNR.out _ _ (HM.out.touch (touch_box hgz HFR.out)))
    clear hkz hgz
    go_wp2
    exact bodyPost_ret (v := .tuple #[.agg #[.int .i64 t.rc, .int .i64 t.rb, .int .i64 (t.nb : Int), .bool t.fr, .slice t.A t.L.length t.c, .slice t.tA t.tok.length t.tc, .int .i64 t.us], .bool false]) (res_ct (p := 4) (q := 5) (ty := 34) Tryz.results33 _ _ (w.heap.size + 1) 34 #[.int .i64 t.rc, .int .i64 t.rb, .int .i64 (t.nb : Int), .bool t.fr, .slice t.A t.L.length t.c, .slice t.tA t.tok.length t.tc, .int .i64 t.us] (0, 0) _ rfl HKz.out Tryz.underlying34 rfl (by kernel_rfl)) rfl ⟨t, by rw [HQR.out], by rw [HQR.out], HMz.out, HBz.out⟩
  · have hkx0 : ((trS t).T[i]'hi2).e.k = k := (get_some hget).2
    have hi : i < t.L.length := by rw [trT_len] at hi2; exact hi2
    have hfst := trT_at t i hi2 hi
    obtain ⟨⟨x, xA, xc⟩, hx⟩ : ∃ p, t.L[i]'hi = p := ⟨_, rfl⟩
    rw [hfst, hx] at hget
    have hxm : (⟨x, xA, xc⟩ : CV) ∈ t.L := by rw [← hx]; exact List.getElem_mem hi
    have HVX := Lib.hid (HM.out.val hxm)
    have HGE := Lib.hid hget
    have hkx2 : x.e.k = k := (get_some hget).2
    obtain ⟨b, ao, hA, hbb, hc⟩ := cells_open HM.out.m.cev.row (by omega)
    have hcc := hc i hi
    rw [hx] at hcc
    have h4 : w3.cell? ⟨w.heap.size, 4, none⟩ = some (.slice (some ⟨b, ao, none⟩) t.L.length t.c) := by rw [← hA]; exact HK.out.cell 4
    have hc0 := hcc 0 _ rfl
    rw [Nat.add_zero] at hc0
    have hc1 := hcc 1 _ rfl
    have hc2 := hcc 2 _ rfl
    have hc3 := hcc 3 _ rfl
    have hc4 := hcc 4 _ rfl
    have hc5 := hcc 5 _ rfl
    have hc6 := hcc 6 _ rfl
    have hc7 := hcc 7 _ rfl
    have hc8 := hcc 8 _ rfl
    have hii : (0 : Int) ≤ (i : Int) := by omega
    have hii2 : (i : Int) < (t.L.length : Int) := by omega
    have hlni : (t.L.length : Int) ≤ 100000 := by have := HM.out.ln; omega
    have hi9 : decide ((i : Int) < 0) = false := decide_eq_false (by omega)
    have hi10 : decide (0 ≤ (i : Int)) = true := decide_eq_true (by omega)
    clear hc hcc hfst hxm hA hbb HVX hget
    cases hcl : x.cl
    · have HQR : Hid (evictS (trS t) k = (trS t, false)) := Lib.hid (by unfold evictS; rw [HGE.out]; simp only [hcl]; rfl)
      rw [hcl] at hc7
      clear hx hkx0 hkx2 hcl HGE
      go_upto_region 3 with fail
      clear hc0 hc1 hc2 hc3 hc4 hc5 hc6 hc7 hc8 h4
      go_wp2_with (first | (refine wpList_load_row rfl 34 _ rfl _ rfl _ _ _ _ (show _ = _ from HK.out) Tryz.underlying34 rfl (by kernel_rfl) ?_) | (refine store_box rfl 34 _ _ rfl (w.heap.size + 1) 34 #[.int .i64 0, .int .i64 0, .int .i64 0, .bool false, .slice none 0 0, .slice none 0 0, .int .i64 0] #[.int .i64 t.rc, .int .i64 t.rb, .int .i64 (t.nb : Int), .bool t.fr, .slice t.A t.L.length t.c, .slice t.tA t.tok.length t.tc, .int .i64 t.us] HR.out rfl rfl rfl (by kernel_rfl) (by kernel_rfl) ?_))
      intro wz hkz hgz
      have HKz := Lib.hid hkz
      have HBz : Hid (Below w.heap.size w wz) := Lib.hid (HB.out.grown hgz HB.out.size fun g hg => by cases hg; omega)
      have HMz := Lib.hid (HNR.out _ _ (HM.out.touch (touch_box hgz HFR.out)))
      clear hkz hgz
      go_wp2
      exact bodyPost_ret (v := .tuple #[.agg #[.int .i64 t.rc, .int .i64 t.rb, .int .i64 (t.nb : Int), .bool t.fr, .slice t.A t.L.length t.c, .slice t.tA t.tok.length t.tc, .int .i64 t.us], .bool false]) (res_ct (p := 4) (q := 5) (ty := 34) Tryz.results33 _ _ (w.heap.size + 1) 34 #[.int .i64 t.rc, .int .i64 t.rb, .int .i64 (t.nb : Int), .bool t.fr, .slice t.A t.L.length t.c, .slice t.tA t.tok.length t.tc, .int .i64 t.us] (0, 0) _ rfl HKz.out Tryz.underlying34 rfl (by kernel_rfl)) rfl ⟨t, by rw [HQR.out], by rw [HQR.out], HMz.out, HBz.out⟩
    · have HQR : Hid (evictS (trS t) k = (goneS (trS t) k, true)) := Lib.hid (by unfold evictS; rw [HGE.out]; simp only [hcl]; rfl)
      rw [hcl] at hc7
      have HGO : Hid (Calls Tryz.prog 54 #[.agg #[.int .i64 t.rc, .int .i64 t.rb, .int .i64 (t.nb : Int), .bool t.fr, .slice t.A t.L.length t.c, .slice t.tA t.tok.length t.tc, .int .i64 t.us], .int .i64 (i : Int)] w3 (TrP F1 (goneS (trS t) k) w3)) := Lib.hid (by
        have := rgone t F1 i hi w3 (fun k hk => Nat.lt_of_lt_of_le (HFL.out k hk) HL.out) HM.out HOK.out HQ.out
        rw [hx] at this
        rw [← hkx2]; exact this)
      obtain ⟨S', hS'⟩ : ∃ S', goneS (trS t) k = S' := ⟨_, rfl⟩
      rw [hS'] at HGO HQR
      clear hx hkx0 hkx2 hcl HGE hS'
      go_upto_region 4 with fail
      clear hc0 hc1 hc2 hc3 hc4 hc5 hc6 hc7 hc8 h4
      go_wp2_with (refine wpList_load_row rfl 34 _ rfl _ rfl _ _ _ _ (show _ = _ from HK.out) Tryz.underlying34 rfl (by kernel_rfl) ?_)
      refine HGO.out.mono ?_
      rintro e5 w5 ⟨t', rfl, hS5, hm5, hb5⟩
      have HS5 := Lib.hid hS5
      have HM5 := Lib.hid hm5
      replace HK := Lib.hid (HK.out.below hb5 HK.out.lt)
      replace HR := Lib.hid (HR.out.below hb5 HR.out.lt)
      replace HB := Lib.hid (HB.out.trans (hb5.mono HB.out.size))
      replace HM := Lib.hid (HM.out.below hb5)
      replace HL := Lib.hid (Nat.le_trans HL.out hb5.size)
      clear hS5 hm5 hb5 HGO
      go_wp2_with (first | fail | (refine store_box rfl 34 _ _ rfl (w.heap.size + 1) 34 #[.int .i64 0, .int .i64 0, .int .i64 0, .bool false, .slice none 0 0, .slice none 0 0, .int .i64 0] #[.int .i64 t'.rc, .int .i64 t'.rb, .int .i64 (t'.nb : Int), .bool t'.fr, .slice t'.A t'.L.length t'.c, .slice t'.tA t'.tok.length t'.tc, .int .i64 t'.us] HR.out rfl rfl rfl (by kernel_rfl) (by kernel_rfl) ?_))
      intro wz hkz hgz
      have HKz := Lib.hid hkz
      have HBz : Hid (Below w.heap.size w wz) := Lib.hid (HB.out.grown hgz HB.out.size fun g hg => by cases hg; omega)
      have HMz := Lib.hid (HNR.out _ _ (HM5.out.touch (touch_box hgz HFR.out)))
      clear hkz hgz
      go_wp2
      exact bodyPost_ret (v := .tuple #[.agg #[.int .i64 t'.rc, .int .i64 t'.rb, .int .i64 (t'.nb : Int), .bool t'.fr, .slice t'.A t'.L.length t'.c, .slice t'.tA t'.tok.length t'.tc, .int .i64 t'.us], .bool true]) (res_ct (p := 4) (q := 5) (ty := 34) Tryz.results33 _ _ (w.heap.size + 1) 34 #[.int .i64 t'.rc, .int .i64 t'.rb, .int .i64 (t'.nb : Int), .bool t'.fr, .slice t'.A t'.L.length t'.c, .slice t'.tA t'.tok.length t'.tc, .int .i64 t'.us] (0, 0) _ rfl HKz.out Tryz.underlying34 rfl (by kernel_rfl)) rfl ⟨t', by rw [HQR.out], by rw [HQR.out]; exact HS5.out, HMz.out, HBz.out⟩
theorem rclean (t : Tr) (F : Nat → Prop) (k : List UInt8) (s u o : Int) (w : World) (hF : ∀ k, F k → k < w.heap.size) (h : TrN F w t) (ok : OkC (trS t)) :
    Calls Tryz.prog 31 #[.agg #[.int .i64 t.rc, .int .i64 t.rb, .int .i64 (t.nb : Int), .bool t.fr, .slice t.A t.L.length t.c, .slice t.tA t.tok.length t.tc, .int .i64 t.us], .string ⟨k.toArray⟩, .agg #[.int .i64 s, .int .i64 u, .int .i64 o]] w (RoomP F (cleanS (trS t) k s u o) w) := by
  have hb : Below w.heap.size w ((((w).alloc (.cells #[.int .i64 t.rc, .int .i64 t.rb, .int .i64 (t.nb : Int), .bool t.fr, .slice t.A t.L.length t.c, .slice t.tA t.tok.length t.tc, .int .i64 t.us] 34)).alloc (.cells #[.int .i64 s, .int .i64 u, .int .i64 o] 38)).alloc (.cells #[.int .i64 0, .int .i64 0, .int .i64 0, .bool false, .slice none 0 0, .slice none 0 0, .int .i64 0] 34)) := (((Below.refl _ _).alloc (Nat.le_refl _) _).alloc (by simp) _).alloc (by simp; omega) _
  have h_HK : Blk ((((w).alloc (.cells #[.int .i64 t.rc, .int .i64 t.rb, .int .i64 (t.nb : Int), .bool t.fr, .slice t.A t.L.length t.c, .slice t.tA t.tok.length t.tc, .int .i64 t.us] 34)).alloc (.cells #[.int .i64 s, .int .i64 u, .int .i64 o] 38)).alloc (.cells #[.int .i64 0, .int .i64 0, .int .i64 0, .bool false, .slice none 0 0, .slice none 0 0, .int .i64 0] 34)) (w.heap.size) 34 #[.int .i64 t.rc, .int .i64 t.rb, .int .i64 (t.nb : Int), .bool t.fr, .slice t.A t.L.length t.c, .slice t.tA t.tok.length t.tc, .int .i64 t.us] := (((Blk.new (w) 34 #[.int .i64 t.rc, .int .i64 t.rb, .int .i64 (t.nb : Int), .bool t.fr, .slice t.A t.L.length t.c, .slice t.tA t.tok.length t.tc, .int .i64 t.us]).alloc (.cells #[.int .i64 s, .int .i64 u, .int .i64 o] 38)).alloc (.cells #[.int .i64 0, .int .i64 0, .int .i64 0, .bool false, .slice none 0 0, .slice none 0 0, .int .i64 0] 34))
  have h_HG : Blk ((((w).alloc (.cells #[.int .i64 t.rc, .int .i64 t.rb, .int .i64 (t.nb : Int), .bool t.fr, .slice t.A t.L.length t.c, .slice t.tA t.tok.length t.tc, .int .i64 t.us] 34)).alloc (.cells #[.int .i64 s, .int .i64 u, .int .i64 o] 38)).alloc (.cells #[.int .i64 0, .int .i64 0, .int .i64 0, .bool false, .slice none 0 0, .slice none 0 0, .int .i64 0] 34)) (w.heap.size + 1) 38 #[.int .i64 s, .int .i64 u, .int .i64 o] := blk_at (by simp) ((Blk.new ((w).alloc (.cells #[.int .i64 t.rc, .int .i64 t.rb, .int .i64 (t.nb : Int), .bool t.fr, .slice t.A t.L.length t.c, .slice t.tA t.tok.length t.tc, .int .i64 t.us] 34)) 38 #[.int .i64 s, .int .i64 u, .int .i64 o]).alloc (.cells #[.int .i64 0, .int .i64 0, .int .i64 0, .bool false, .slice none 0 0, .slice none 0 0, .int .i64 0] 34))
  have h_HR : Blk ((((w).alloc (.cells #[.int .i64 t.rc, .int .i64 t.rb, .int .i64 (t.nb : Int), .bool t.fr, .slice t.A t.L.length t.c, .slice t.tA t.tok.length t.tc, .int .i64 t.us] 34)).alloc (.cells #[.int .i64 s, .int .i64 u, .int .i64 o] 38)).alloc (.cells #[.int .i64 0, .int .i64 0, .int .i64 0, .bool false, .slice none 0 0, .slice none 0 0, .int .i64 0] 34)) (w.heap.size + 2) 34 #[.int .i64 0, .int .i64 0, .int .i64 0, .bool false, .slice none 0 0, .slice none 0 0, .int .i64 0] := blk_at (by simp) (Blk.new (((w).alloc (.cells #[.int .i64 t.rc, .int .i64 t.rb, .int .i64 (t.nb : Int), .bool t.fr, .slice t.A t.L.length t.c, .slice t.tA t.tok.length t.tc, .int .i64 t.us] 34)).alloc (.cells #[.int .i64 s, .int .i64 u, .int .i64 o] 38)) 34 #[.int .i64 0, .int .i64 0, .int .i64 0, .bool false, .slice none 0 0, .slice none 0 0, .int .i64 0])
  have hm1 := h.wide hb
  obtain ⟨W1, hW1⟩ : ∃ W, (((w).alloc (.cells #[.int .i64 t.rc, .int .i64 t.rb, .int .i64 (t.nb : Int), .bool t.fr, .slice t.A t.L.length t.c, .slice t.tA t.tok.length t.tc, .int .i64 t.us] 34)).alloc (.cells #[.int .i64 s, .int .i64 u, .int .i64 o] 38)).alloc (.cells #[.int .i64 0, .int .i64 0, .int .i64 0, .bool false, .slice none 0 0, .slice none 0 0, .int .i64 0] 34) = W := ⟨_, rfl⟩
  have hsz : W1.heap.size = w.heap.size + 3 := by rw [← hW1]; simp
  rw [hW1] at hb hm1 h_HK h_HG h_HR
  have HK := Lib.hid h_HK
  have HG := Lib.hid h_HG
  have HR := Lib.hid h_HR
  have HB := Lib.hid hb
  have HM := Lib.hid hm1
  have HF := Lib.hid hF
  have HSZ := Lib.hid hsz
  have HOK := Lib.hid ok
  obtain ⟨F1, hF1⟩ : ∃ F1, More2 F w.heap.size W1.heap.size = F1 := ⟨_, rfl⟩
  have HFL : Hid (∀ k, F1 k → k < W1.heap.size) := Lib.hid (by rw [← hF1]; exact more2_lt hF hb.size)
  have HFR : Hid (F1 (w.heap.size + 2)) := Lib.hid (by rw [← hF1]; exact Or.inr ⟨by omega, by omega⟩)
  have HNR : Hid (∀ (w' : World) (t' : Tr), TrN F1 w' t' → TrN F w' t') := Lib.hid (fun w' t' h => by rw [← hF1] at h; exact h.narrow)
  have HL : Hid (W1.heap.size ≤ W1.heap.size) := Lib.hid (Nat.le_refl _)
  rw [hF1] at HM
  clear hb h_HK h_HG h_HR h hF hm1 hF1 hsz ok
  go_enter Tryz.func31, Tryz.ntmps31
  have HFD := Lib.hid (rfind t k W1 HM.out.m HOK.out.srt)
  go_wp2_with ((refine wpList_load_row rfl 34 _ rfl _ rfl _ _ _ _ (show _ = _ from HK.out) Tryz.underlying34 rfl (by kernel_rfl) ?_))
  refine HFD.out.mono ?_
  rintro e3 w3 ⟨r, rfl, hr, hb3⟩
  replace HK := Lib.hid (HK.out.below hb3 HK.out.lt)
  replace HG := Lib.hid (HG.out.below hb3 HG.out.lt)
  replace HR := Lib.hid (HR.out.below hb3 HR.out.lt)
  replace HB := Lib.hid (HB.out.trans (hb3.mono HB.out.size))
  replace HM := Lib.hid (HM.out.below hb3)
  replace HL := Lib.hid (Nat.le_trans HL.out hb3.size)
  clear hb3 HFD
  clear hW1
  rcases hr with ⟨rfl, hget⟩ | ⟨i, hi2, rfl, hget⟩
  · have HQR : Hid (cleanS (trS t) k s u o = (trS t, false)) := Lib.hid (by unfold cleanS; rw [hget])
    have hn9 : decide ((-1 : Int) < 0) = true := by decide
    clear hget
    go_wp2_with fail
    refine wp_region_later (by kernel_rfl) (by kernel_rfl) ?_
    repeat (go_big_quiet_step (fail))
    refine wpQuiet_nil ?_
    intro w4 hw'
    obtain ⟨p, hp4⟩ := hw'
    have hb4 : Below w3.heap.size w3 w4 := by rw [hp4]; exact p.bel
    clear hp4 p
    replace HK := Lib.hid (HK.out.below hb4 HK.out.lt)
    replace HG := Lib.hid (HG.out.below hb4 HG.out.lt)
    replace HR := Lib.hid (HR.out.below hb4 HR.out.lt)
    replace HB := Lib.hid (HB.out.trans (hb4.mono HB.out.size))
    replace HM := Lib.hid (HM.out.below hb4)
    replace HL := Lib.hid (Nat.le_trans HL.out hb4.size)
    clear hb4
    go_wp2_with (first | (refine wpList_load_row rfl 34 _ rfl _ rfl _ _ _ _ (show _ = _ from HK.out) Tryz.underlying34 rfl (by kernel_rfl) ?_) | (refine store_box rfl 34 _ _ rfl (w.heap.size + 2) 34 #[.int .i64 0, .int .i64 0, .int .i64 0, .bool false, .slice none 0 0, .slice none 0 0, .int .i64 0] #[.int .i64 t.rc, .int .i64 t.rb, .int .i64 (t.nb : Int), .bool t.fr, .slice t.A t.L.length t.c, .slice t.tA t.tok.length t.tc, .int .i64 t.us] HR.out rfl rfl rfl (by kernel_rfl) (by kernel_rfl) ?_))
    intro wz hkz hgz
    have HKz := Lib.hid hkz
    have HBz : Hid (Below w.heap.size w wz) := Lib.hid (HB.out.grown hgz HB.out.size fun g hg => by cases hg; omega)
    have HMz := Lib.hid (HNR.out _ _ (HM.out.touch (touch_box hgz HFR.out)))
    clear hkz hgz
    go_wp2
    exact bodyPost_ret (v := .tuple #[.agg #[.int .i64 t.rc, .int .i64 t.rb, .int .i64 (t.nb : Int), .bool t.fr, .slice t.A t.L.length t.c, .slice t.tA t.tok.length t.tc, .int .i64 t.us], .bool false]) (res_ct (p := 6) (q := 7) (ty := 34) Tryz.results31 _ _ (w.heap.size + 2) 34 #[.int .i64 t.rc, .int .i64 t.rb, .int .i64 (t.nb : Int), .bool t.fr, .slice t.A t.L.length t.c, .slice t.tA t.tok.length t.tc, .int .i64 t.us] (0, 0) _ rfl HKz.out Tryz.underlying34 rfl (by kernel_rfl)) rfl ⟨t, by rw [HQR.out], by rw [HQR.out], HMz.out, HBz.out⟩
  · have hi : i < t.L.length := by rw [trT_len] at hi2; exact hi2
    have hfst := trT_at t i hi2 hi
    obtain ⟨⟨x, xA, xc⟩, hx⟩ : ∃ p, t.L[i]'hi = p := ⟨_, rfl⟩
    rw [hfst, hx] at hget
    have hxm : (⟨x, xA, xc⟩ : CV) ∈ t.L := by rw [← hx]; exact List.getElem_mem hi
    have HVX := Lib.hid (HM.out.val hxm)
    have HGE := Lib.hid hget
    obtain ⟨b, ao, hA, hbb, hc⟩ := cells_open HM.out.m.cev.row (by omega)
    have hcc := hc i hi
    rw [hx] at hcc
    have h4 : w3.cell? ⟨w.heap.size, 4, none⟩ = some (.slice (some ⟨b, ao, none⟩) t.L.length t.c) := by rw [← hA]; exact HK.out.cell 4
    have hc0 := hcc 0 _ rfl
    rw [Nat.add_zero] at hc0
    have hc1 := hcc 1 _ rfl
    have hc2 := hcc 2 _ rfl
    have hc3 := hcc 3 _ rfl
    have hc4 := hcc 4 _ rfl
    have hc5 := hcc 5 _ rfl
    have hc6 := hcc 6 _ rfl
    have hc7 := hcc 7 _ rfl
    have hc8 := hcc 8 _ rfl
    have hii : (0 : Int) ≤ (i : Int) := by omega
    have hii2 : (i : Int) < (t.L.length : Int) := by omega
    have hlni : (t.L.length : Int) ≤ 100000 := by have := HM.out.ln; omega
    have hi9 : decide ((i : Int) < 0) = false := decide_eq_false (by omega)
    have hi10 : decide (0 ≤ (i : Int)) = true := decide_eq_true (by omega)
    obtain ⟨cv, hcv⟩ : ∃ cv, cmpT x.e.s x.e.u x.e.o s u o = cv := ⟨_, rfl⟩
    have HCV := Lib.hid hcv
    have HC := Lib.hid (fun p : Later w3 => refcompare_val x.e.s x.e.u x.e.o s u o cv HCV p.world)
    have l4 := later_cell h4
    have l1 := later_cell hc1
    have l2 := later_cell hc2
    have l3 := later_cell hc3
    have g0 := later_blk_cell HG.out 0 _ rfl
    have g1 := later_blk_cell HG.out 1 _ rfl
    have g2 := later_blk_cell HG.out 2 _ rfl
    clear hc hcc hfst hxm hbb hget hx hcv
    by_cases hcz : 0 < cv
    · have HQR : Hid (cleanS (trS t) k s u o = (trS t, false)) := Lib.hid (by unfold cleanS; rw [HGE.out]; simp only; rw [if_pos (by rw [HCV.out]; exact hcz)])
      have g5 : decide (0 < cv) = true := decide_eq_true hcz
      clear hcz HCV HGE hA
      go_wp2_with fail
      refine wp_region_later (by kernel_rfl) (by kernel_rfl) ?_
      repeat (go_big_quiet_step ((go_at_call 51; exact later_of (HC.out _))))
      refine wpQuiet_nil ?_
      intro w4 hw'
      obtain ⟨p, hp4⟩ := hw'
      have hb4 : Below w3.heap.size w3 w4 := by rw [hp4]; exact p.bel
      clear hp4 p
      replace HK := Lib.hid (HK.out.below hb4 HK.out.lt)
      replace HG := Lib.hid (HG.out.below hb4 HG.out.lt)
      replace HR := Lib.hid (HR.out.below hb4 HR.out.lt)
      replace HB := Lib.hid (HB.out.trans (hb4.mono HB.out.size))
      replace HM := Lib.hid (HM.out.below hb4)
      replace HL := Lib.hid (Nat.le_trans HL.out hb4.size)
      clear hb4 HC l4 l1 l2 l3 g0 g1 g2 hc0 hc1 hc2 hc3 hc4 hc5 hc6 hc7 hc8 h4
      go_wp2_with (first | (refine wpList_load_row rfl 34 _ rfl _ rfl _ _ _ _ (show _ = _ from HK.out) Tryz.underlying34 rfl (by kernel_rfl) ?_) | (refine store_box rfl 34 _ _ rfl (w.heap.size + 2) 34 #[.int .i64 0, .int .i64 0, .int .i64 0, .bool false, .slice none 0 0, .slice none 0 0, .int .i64 0] #[.int .i64 t.rc, .int .i64 t.rb, .int .i64 (t.nb : Int), .bool t.fr, .slice t.A t.L.length t.c, .slice t.tA t.tok.length t.tc, .int .i64 t.us] HR.out rfl rfl rfl (by kernel_rfl) (by kernel_rfl) ?_))
      intro wz hkz hgz
      have HKz := Lib.hid hkz
      have HBz : Hid (Below w.heap.size w wz) := Lib.hid (HB.out.grown hgz HB.out.size fun g hg => by cases hg; omega)
      have HMz := Lib.hid (HNR.out _ _ (HM.out.touch (touch_box hgz HFR.out)))
      clear hkz hgz
      go_wp2
      exact bodyPost_ret (v := .tuple #[.agg #[.int .i64 t.rc, .int .i64 t.rb, .int .i64 (t.nb : Int), .bool t.fr, .slice t.A t.L.length t.c, .slice t.tA t.tok.length t.tc, .int .i64 t.us], .bool false]) (res_ct (p := 6) (q := 7) (ty := 34) Tryz.results31 _ _ (w.heap.size + 2) 34 #[.int .i64 t.rc, .int .i64 t.rb, .int .i64 (t.nb : Int), .bool t.fr, .slice t.A t.L.length t.c, .slice t.tA t.tok.length t.tc, .int .i64 t.us] (0, 0) _ rfl HKz.out Tryz.underlying34 rfl (by kernel_rfl)) rfl ⟨t, by rw [HQR.out], by rw [HQR.out], HMz.out, HBz.out⟩
    · have HQR : Hid (cleanS (trS t) k s u o = ({ trS t with T := putK kP (trS t).T { x with cl := true } }, true)) := Lib.hid (by unfold cleanS; rw [HGE.out]; simp only; rw [if_neg (by rw [HCV.out]; exact hcz)])
      have g5 : decide (0 < cv) = false := decide_eq_false hcz
      clear hcz HCV HGE
      go_wp2_with fail
      refine wp_region_later (by kernel_rfl) (by kernel_rfl) ?_
      repeat (go_big_quiet_step ((go_at_call 51; exact later_of (HC.out _))))
      refine wpQuiet_nil ?_
      intro w4 hw'
      obtain ⟨p, hp4⟩ := hw'
      have hb4 : Below w3.heap.size w3 w4 := by rw [hp4]; exact p.bel
      have h44 : w4.cell? ⟨w.heap.size, 4, none⟩ = some (.slice (some ⟨b, ao, none⟩) t.L.length t.c) := by rw [← hA]; exact (HK.out.below hb4 HK.out.lt).cell 4
      have e0 := later_cell hc0 p
      rw [← hp4] at e0
      have e1 := later_cell hc1 p
      rw [← hp4] at e1
      have e2 := later_cell hc2 p
      rw [← hp4] at e2
      have e3 := later_cell hc3 p
      rw [← hp4] at e3
      have e4 := later_cell hc4 p
      rw [← hp4] at e4
      have e5 := later_cell hc5 p
      rw [← hp4] at e5
      have e6 := later_cell hc6 p
      rw [← hp4] at e6
      have e7 := later_cell hc7 p
      rw [← hp4] at e7
      have e8 := later_cell hc8 p
      rw [← hp4] at e8
      clear hp4 p
      replace HK := Lib.hid (HK.out.below hb4 HK.out.lt)
      replace HG := Lib.hid (HG.out.below hb4 HG.out.lt)
      replace HR := Lib.hid (HR.out.below hb4 HR.out.lt)
      replace HB := Lib.hid (HB.out.trans (hb4.mono HB.out.size))
      replace HM := Lib.hid (HM.out.below hb4)
      replace HL := Lib.hid (Nat.le_trans HL.out hb4.size)
      replace HVX := Lib.hid (HVX.out.below hb4)
      clear hb4 HC l4 l1 l2 l3 g0 g1 g2 hc0 hc1 hc2 hc3 hc4 hc5 hc6 hc7 hc8 h4 hA g5
      go_upto_region 5 with (refine wpList_boxM rfl rfl _ rfl 88 #[.string ⟨#[]⟩, .int .i64 0, .int .i64 0, .int .i64 0, .bool false, .slice none 0 0, .bool false, .bool false, .int .i64 0] (by kernel_rfl) _ _ rfl #[.string ⟨x.e.k.toArray⟩, .int .i64 x.e.s, .int .i64 x.e.u, .int .i64 x.e.o, .bool x.e.has, .slice xA x.e.v.length xc, .bool x.wh, .bool x.cl, .int .i64 x.us] rfl rfl rfl (by kernel_rfl) (by kernel_rfl) ?_)
      obtain ⟨gc, hgc⟩ : ∃ g, w4.heap.size = g := ⟨_, rfl⟩
      obtain ⟨W5, hW5⟩ : ∃ W, w4.alloc (.cells #[.string ⟨x.e.k.toArray⟩, .int .i64 x.e.s, .int .i64 x.e.u, .int .i64 x.e.o, .bool x.e.has, .slice xA x.e.v.length xc, .bool x.wh, .bool x.cl, .int .i64 x.us] 88) = W := ⟨_, rfl⟩
      have hb5 : Below w4.heap.size w4 W5 := by rw [← hW5]; exact (Below.refl _ _).alloc (Nat.le_refl _) _
      have hkc : Blk W5 gc 88 #[.string ⟨x.e.k.toArray⟩, .int .i64 x.e.s, .int .i64 x.e.u, .int .i64 x.e.o, .bool x.e.has, .slice xA x.e.v.length xc, .bool x.wh, .bool x.cl, .int .i64 x.us] := by rw [← hW5, ← hgc]; exact Blk.new _ _ _
      have hgw : w.heap.size + 3 ≤ gc := by have := HSZ.out; have := HL.out; omega
      have hgz : gc < W5.heap.size := hkc.lt
      have hm5 := HM.out.wide hb5
      have hv5 := HVX.out.wide hb5
      have hFu : More2 F1 w4.heap.size W5.heap.size gc := Or.inr ⟨by omega, hgz⟩
      replace HK := Lib.hid (HK.out.below hb5 HK.out.lt)
      replace HG := Lib.hid (HG.out.below hb5 HG.out.lt)
      replace HR := Lib.hid (HR.out.below hb5 HR.out.lt)
      replace HB := Lib.hid (HB.out.trans (hb5.mono HB.out.size))
      replace HM := Lib.hid (HM.out.below hb5)
      replace HL := Lib.hid (Nat.le_trans HL.out hb5.size)
      try simp only [hW5, hgc]
      clear e0 e1 e2 e3 e4 e5 e6 e7 e8 h44 hW5 hgc
      have z7 := hkc.frozen 7
      have d7 : W5.cell? ⟨gc, 7, none⟩ = some (.bool x.cl) := hkc.cell 7
      have HKC : Hid (Blk (W5.setCell ⟨gc, 7, none⟩ (.bool true)) gc 88 #[.string ⟨x.e.k.toArray⟩, .int .i64 x.e.s, .int .i64 x.e.u, .int .i64 x.e.o, .bool x.e.has, .slice xA x.e.v.length xc, .bool x.wh, .bool true, .int .i64 x.us]) := Lib.hid (hkc.set_ 7 (.bool true))
      have hsg : W5.grownBy (W5.setCell ⟨gc, 7, none⟩ (.bool true)) (some gc) := grown_set _ _ _ _
      replace HM := Lib.hid (hm5.touch (touch_box hsg hFu)).narrow
      replace HVX := Lib.hid (hv5.touch (touch_box hsg hFu)).narrow
      replace HK := Lib.hid (blk_grownT HK.out hsg (by omega))
      replace HR := Lib.hid (blk_grownT HR.out hsg (by omega))
      replace HB : Hid (Below w.heap.size w (W5.setCell ⟨gc, 7, none⟩ (.bool true))) := Lib.hid (HB.out.grown hsg HB.out.size fun g hg => by cases hg; omega)
      replace HL : Hid (W1.heap.size ≤ (W5.setCell ⟨gc, 7, none⟩ (.bool true)).heap.size) := Lib.hid (Nat.le_trans HL.out hsg.size)
      obtain ⟨w6, hw6⟩ : ∃ W, W5.setCell ⟨gc, 7, none⟩ (.bool true) = W := ⟨_, rfl⟩
      rw [hw6] at HKC HM HVX HK HR HB HL
      clear hb5 hkc hm5 hv5 hsg hFu HG
      go_upto_region 6 with fail
      try simp only [hw6]
      clear hw6 z7 d7
      have HWI : Hid (Calls Tryz.prog 53 #[.agg #[.int .i64 t.rc, .int .i64 t.rb, .int .i64 (t.nb : Int), .bool t.fr, .slice t.A t.L.length t.c, .slice t.tA t.tok.length t.tc, .int .i64 t.us], .agg #[.string ⟨x.e.k.toArray⟩, .int .i64 x.e.s, .int .i64 x.e.u, .int .i64 x.e.o, .bool x.e.has, .slice xA x.e.v.length xc, .bool x.wh, .bool true, .int .i64 x.us]] w6 (TrP F1 { trS t with T := putK kP (trS t).T { x with cl := true } } w6)) := Lib.hid (rwith t F1 { x with cl := true } xA xc w6 (fun k hk => Nat.lt_of_lt_of_le (HFL.out k hk) HL.out) HM.out HOK.out.srt HVX.out (by have h1 := HOK.out.len; have h2 := HOK.out.rc; have h3 := trT_len t; omega))
      obtain ⟨S', hS'⟩ : ∃ S', ({ trS t with T := putK kP (trS t).T { x with cl := true } } : Cl) = S' := ⟨_, rfl⟩
      rw [hS'] at HWI HQR
      clear hS'
      go_wp2_with (first | (refine wpList_load_row rfl 34 _ rfl _ rfl _ _ _ _ (show _ = _ from HK.out) Tryz.underlying34 rfl (by kernel_rfl) ?_) | (refine wpList_load_row rfl 88 _ rfl _ rfl _ _ _ _ (show _ = _ from HKC.out) Tryz.underlying88 rfl (by kernel_rfl) ?_))
      refine HWI.out.mono ?_
      rintro e7 w7 ⟨t', rfl, hS5, hm7, hb7⟩
      have HS5 := Lib.hid hS5
      have HM7 := Lib.hid hm7
      replace HK := Lib.hid (HK.out.below hb7 HK.out.lt)
      replace HR := Lib.hid (HR.out.below hb7 HR.out.lt)
      replace HB := Lib.hid (HB.out.trans (hb7.mono HB.out.size))
      replace HM := Lib.hid (HM.out.below hb7)
      replace HL := Lib.hid (Nat.le_trans HL.out hb7.size)
      clear hS5 hm7 hb7 HWI HKC
      go_wp2_with (first | fail | (refine store_box rfl 34 _ _ rfl (w.heap.size + 2) 34 #[.int .i64 0, .int .i64 0, .int .i64 0, .bool false, .slice none 0 0, .slice none 0 0, .int .i64 0] #[.int .i64 t'.rc, .int .i64 t'.rb, .int .i64 (t'.nb : Int), .bool t'.fr, .slice t'.A t'.L.length t'.c, .slice t'.tA t'.tok.length t'.tc, .int .i64 t'.us] HR.out rfl rfl rfl (by kernel_rfl) (by kernel_rfl) ?_))
      intro wz hkz hgz
      have HKz := Lib.hid hkz
      have HBz : Hid (Below w.heap.size w wz) := Lib.hid (HB.out.grown hgz HB.out.size fun g hg => by cases hg; omega)
      have HMz := Lib.hid (HNR.out _ _ (HM7.out.touch (touch_box hgz HFR.out)))
      clear hkz hgz
      go_wp2
      exact bodyPost_ret (v := .tuple #[.agg #[.int .i64 t'.rc, .int .i64 t'.rb, .int .i64 (t'.nb : Int), .bool t'.fr, .slice t'.A t'.L.length t'.c, .slice t'.tA t'.tok.length t'.tc, .int .i64 t'.us], .bool true]) (res_ct (p := 6) (q := 7) (ty := 34) Tryz.results31 _ _ (w.heap.size + 2) 34 #[.int .i64 t'.rc, .int .i64 t'.rb, .int .i64 (t'.nb : Int), .bool t'.fr, .slice t'.A t'.L.length t'.c, .slice t'.tA t'.tok.length t'.tc, .int .i64 t'.us] (0, 0) _ rfl HKz.out Tryz.underlying34 rfl (by kernel_rfl)) rfl ⟨t', by rw [HQR.out], by rw [HQR.out]; exact HS5.out, HMz.out, HBz.out⟩
end Go.Proofs.YtpebhfjcakllmaaGreat
namespace Go.Proofs.YtpebhfjcakllmaaGreat
open Go.RowKit Go.ChangeShapes Mem Be Word Rg Go.Maps
set_option maxRecDepth 100000
set_option maxHeartbeats 8000000
set_option linter.unusedVariables false
set_option linter.unusedSimpArgs false
theorem rnew_bad (rc rb nb : Int) (fr : Bool) (hr : ¬ RoomOk rc rb nb) (w : World) :
    Calls Tryz.prog 7 #[.agg #[.int .i64 rc, .int .i64 rb, .int .i64 nb, .bool fr]] w (fun e w' => e = .returned (.tuple #[.agg #[.int .i64 0, .int .i64 0, .int .i64 0, .bool false, .slice none 0 0, .slice none 0 0, .int .i64 0], .int .i64 2]) ∧ Below w.heap.size w w') := by
  have hb : Below w.heap.size w ((w.alloc (.cells #[.int .i64 rc, .int .i64 rb, .int .i64 nb, .bool fr] 23)).alloc (.cells #[.int .i64 0, .int .i64 0, .int .i64 0, .bool false, .slice none 0 0, .slice none 0 0, .int .i64 0] 34)) := ((Below.refl _ _).alloc (Nat.le_refl _) _).alloc (by simp) _
  have h_HX : Blk ((w.alloc (.cells #[.int .i64 rc, .int .i64 rb, .int .i64 nb, .bool fr] 23)).alloc (.cells #[.int .i64 0, .int .i64 0, .int .i64 0, .bool false, .slice none 0 0, .slice none 0 0, .int .i64 0] 34)) w.heap.size 23 #[.int .i64 rc, .int .i64 rb, .int .i64 nb, .bool fr] := (Blk.new w 23 #[.int .i64 rc, .int .i64 rb, .int .i64 nb, .bool fr]).alloc (.cells #[.int .i64 0, .int .i64 0, .int .i64 0, .bool false, .slice none 0 0, .slice none 0 0, .int .i64 0] 34)
  have h_HR : Blk ((w.alloc (.cells #[.int .i64 rc, .int .i64 rb, .int .i64 nb, .bool fr] 23)).alloc (.cells #[.int .i64 0, .int .i64 0, .int .i64 0, .bool false, .slice none 0 0, .slice none 0 0, .int .i64 0] 34)) (w.heap.size + 1) 34 #[.int .i64 0, .int .i64 0, .int .i64 0, .bool false, .slice none 0 0, .slice none 0 0, .int .i64 0] := blk_at (by simp) (Blk.new _ _ _)
  obtain ⟨W1, hW1⟩ : ∃ W, (w.alloc (.cells #[.int .i64 rc, .int .i64 rb, .int .i64 nb, .bool fr] 23)).alloc (.cells #[.int .i64 0, .int .i64 0, .int .i64 0, .bool false, .slice none 0 0, .slice none 0 0, .int .i64 0] 34) = W := ⟨_, rfl⟩
  have hsz : W1.heap.size = w.heap.size + 2 := by rw [← hW1]; simp
  rw [hW1] at hb h_HX h_HR
  have HX := Lib.hid h_HX
  have r0 : W1.cell? ⟨w.heap.size, 0, none⟩ = some (.int .i64 rc) := h_HX.cell 0
  have r1 : W1.cell? ⟨w.heap.size, 1, none⟩ = some (.int .i64 rb) := h_HX.cell 1
  have r2 : W1.cell? ⟨w.heap.size, 2, none⟩ = some (.int .i64 nb) := h_HX.cell 2
  have HR := Lib.hid h_HR
  have HB := Lib.hid hb
  have HSZ := Lib.hid hsz
  clear hb h_HX h_HR hsz
  by_cases c0 : rc < 1
  · have d0 : decide (rc < 1) = true := decide_eq_true c0
    clear hr
    go_enter Tryz.func7, Tryz.ntmps7
    go_upto_region 2 with fail
    try simp only [hW1]
    go_wp2_with (refine store_box rfl 34 _ _ rfl (w.heap.size + 1) 34 #[.int .i64 0, .int .i64 0, .int .i64 0, .bool false, .slice none 0 0, .slice none 0 0, .int .i64 0] #[.int .i64 0, .int .i64 0, .int .i64 0, .bool false, .slice none 0 0, .slice none 0 0, .int .i64 0] HR.out rfl rfl rfl (by kernel_rfl) (by kernel_rfl) ?_)
    intro wz hkz hgz
    have HKz := Lib.hid hkz
    have HBz : Hid (Below w.heap.size w wz) := Lib.hid (HB.out.grown hgz HB.out.size fun g hg => by cases hg; omega)
    clear hkz hgz
    go_wp2
    exact bodyPost_ret (v := .tuple #[.agg #[.int .i64 0, .int .i64 0, .int .i64 0, .bool false, .slice none 0 0, .slice none 0 0, .int .i64 0], .int .i64 2]) (res_ct (p := 2) (q := 3) (ty := 34) Tryz.results7 _ _ (w.heap.size + 1) 34 #[.int .i64 0, .int .i64 0, .int .i64 0, .bool false, .slice none 0 0, .slice none 0 0, .int .i64 0] (0, 0) _ rfl HKz.out Tryz.underlying34 rfl (by kernel_rfl)) rfl ⟨rfl, HBz.out⟩
  have d0 : decide (rc < 1) = false := decide_eq_false c0
  by_cases c1 : 4096 < rc
  · have d1 : decide (4096 < rc) = true := decide_eq_true c1
    clear hr
    go_enter Tryz.func7, Tryz.ntmps7
    go_upto_region 2 with fail
    try simp only [hW1]
    go_wp2_with (refine store_box rfl 34 _ _ rfl (w.heap.size + 1) 34 #[.int .i64 0, .int .i64 0, .int .i64 0, .bool false, .slice none 0 0, .slice none 0 0, .int .i64 0] #[.int .i64 0, .int .i64 0, .int .i64 0, .bool false, .slice none 0 0, .slice none 0 0, .int .i64 0] HR.out rfl rfl rfl (by kernel_rfl) (by kernel_rfl) ?_)
    intro wz hkz hgz
    have HKz := Lib.hid hkz
    have HBz : Hid (Below w.heap.size w wz) := Lib.hid (HB.out.grown hgz HB.out.size fun g hg => by cases hg; omega)
    clear hkz hgz
    go_wp2
    exact bodyPost_ret (v := .tuple #[.agg #[.int .i64 0, .int .i64 0, .int .i64 0, .bool false, .slice none 0 0, .slice none 0 0, .int .i64 0], .int .i64 2]) (res_ct (p := 2) (q := 3) (ty := 34) Tryz.results7 _ _ (w.heap.size + 1) 34 #[.int .i64 0, .int .i64 0, .int .i64 0, .bool false, .slice none 0 0, .slice none 0 0, .int .i64 0] (0, 0) _ rfl HKz.out Tryz.underlying34 rfl (by kernel_rfl)) rfl ⟨rfl, HBz.out⟩
  have d1 : decide (4096 < rc) = false := decide_eq_false c1
  by_cases c2 : rb < 1
  · have d2 : decide (rb < 1) = true := decide_eq_true c2
    clear hr
    go_enter Tryz.func7, Tryz.ntmps7
    go_upto_region 2 with fail
    try simp only [hW1]
    go_wp2_with (refine store_box rfl 34 _ _ rfl (w.heap.size + 1) 34 #[.int .i64 0, .int .i64 0, .int .i64 0, .bool false, .slice none 0 0, .slice none 0 0, .int .i64 0] #[.int .i64 0, .int .i64 0, .int .i64 0, .bool false, .slice none 0 0, .slice none 0 0, .int .i64 0] HR.out rfl rfl rfl (by kernel_rfl) (by kernel_rfl) ?_)
    intro wz hkz hgz
    have HKz := Lib.hid hkz
    have HBz : Hid (Below w.heap.size w wz) := Lib.hid (HB.out.grown hgz HB.out.size fun g hg => by cases hg; omega)
    clear hkz hgz
    go_wp2
    exact bodyPost_ret (v := .tuple #[.agg #[.int .i64 0, .int .i64 0, .int .i64 0, .bool false, .slice none 0 0, .slice none 0 0, .int .i64 0], .int .i64 2]) (res_ct (p := 2) (q := 3) (ty := 34) Tryz.results7 _ _ (w.heap.size + 1) 34 #[.int .i64 0, .int .i64 0, .int .i64 0, .bool false, .slice none 0 0, .slice none 0 0, .int .i64 0] (0, 0) _ rfl HKz.out Tryz.underlying34 rfl (by kernel_rfl)) rfl ⟨rfl, HBz.out⟩
  have d2 : decide (rb < 1) = false := decide_eq_false c2
  by_cases c3 : 4194304 < rb
  · have d3 : decide (4194304 < rb) = true := decide_eq_true c3
    clear hr
    go_enter Tryz.func7, Tryz.ntmps7
    go_upto_region 2 with fail
    try simp only [hW1]
    go_wp2_with (refine store_box rfl 34 _ _ rfl (w.heap.size + 1) 34 #[.int .i64 0, .int .i64 0, .int .i64 0, .bool false, .slice none 0 0, .slice none 0 0, .int .i64 0] #[.int .i64 0, .int .i64 0, .int .i64 0, .bool false, .slice none 0 0, .slice none 0 0, .int .i64 0] HR.out rfl rfl rfl (by kernel_rfl) (by kernel_rfl) ?_)
    intro wz hkz hgz
    have HKz := Lib.hid hkz
    have HBz : Hid (Below w.heap.size w wz) := Lib.hid (HB.out.grown hgz HB.out.size fun g hg => by cases hg; omega)
    clear hkz hgz
    go_wp2
    exact bodyPost_ret (v := .tuple #[.agg #[.int .i64 0, .int .i64 0, .int .i64 0, .bool false, .slice none 0 0, .slice none 0 0, .int .i64 0], .int .i64 2]) (res_ct (p := 2) (q := 3) (ty := 34) Tryz.results7 _ _ (w.heap.size + 1) 34 #[.int .i64 0, .int .i64 0, .int .i64 0, .bool false, .slice none 0 0, .slice none 0 0, .int .i64 0] (0, 0) _ rfl HKz.out Tryz.underlying34 rfl (by kernel_rfl)) rfl ⟨rfl, HBz.out⟩
  have d3 : decide (4194304 < rb) = false := decide_eq_false c3
  by_cases c4 : nb < 1
  · have d4 : decide (nb < 1) = true := decide_eq_true c4
    clear hr
    go_enter Tryz.func7, Tryz.ntmps7
    go_upto_region 2 with fail
    try simp only [hW1]
    go_wp2_with (refine store_box rfl 34 _ _ rfl (w.heap.size + 1) 34 #[.int .i64 0, .int .i64 0, .int .i64 0, .bool false, .slice none 0 0, .slice none 0 0, .int .i64 0] #[.int .i64 0, .int .i64 0, .int .i64 0, .bool false, .slice none 0 0, .slice none 0 0, .int .i64 0] HR.out rfl rfl rfl (by kernel_rfl) (by kernel_rfl) ?_)
    intro wz hkz hgz
    have HKz := Lib.hid hkz
    have HBz : Hid (Below w.heap.size w wz) := Lib.hid (HB.out.grown hgz HB.out.size fun g hg => by cases hg; omega)
    clear hkz hgz
    go_wp2
    exact bodyPost_ret (v := .tuple #[.agg #[.int .i64 0, .int .i64 0, .int .i64 0, .bool false, .slice none 0 0, .slice none 0 0, .int .i64 0], .int .i64 2]) (res_ct (p := 2) (q := 3) (ty := 34) Tryz.results7 _ _ (w.heap.size + 1) 34 #[.int .i64 0, .int .i64 0, .int .i64 0, .bool false, .slice none 0 0, .slice none 0 0, .int .i64 0] (0, 0) _ rfl HKz.out Tryz.underlying34 rfl (by kernel_rfl)) rfl ⟨rfl, HBz.out⟩
  have d4 : decide (nb < 1) = false := decide_eq_false c4
  by_cases c5 : 256 < nb
  · have d5 : decide (256 < nb) = true := decide_eq_true c5
    clear hr
    go_enter Tryz.func7, Tryz.ntmps7
    go_upto_region 2 with fail
    try simp only [hW1]
    go_wp2_with (refine store_box rfl 34 _ _ rfl (w.heap.size + 1) 34 #[.int .i64 0, .int .i64 0, .int .i64 0, .bool false, .slice none 0 0, .slice none 0 0, .int .i64 0] #[.int .i64 0, .int .i64 0, .int .i64 0, .bool false, .slice none 0 0, .slice none 0 0, .int .i64 0] HR.out rfl rfl rfl (by kernel_rfl) (by kernel_rfl) ?_)
    intro wz hkz hgz
    have HKz := Lib.hid hkz
    have HBz : Hid (Below w.heap.size w wz) := Lib.hid (HB.out.grown hgz HB.out.size fun g hg => by cases hg; omega)
    clear hkz hgz
    go_wp2
    exact bodyPost_ret (v := .tuple #[.agg #[.int .i64 0, .int .i64 0, .int .i64 0, .bool false, .slice none 0 0, .slice none 0 0, .int .i64 0], .int .i64 2]) (res_ct (p := 2) (q := 3) (ty := 34) Tryz.results7 _ _ (w.heap.size + 1) 34 #[.int .i64 0, .int .i64 0, .int .i64 0, .bool false, .slice none 0 0, .slice none 0 0, .int .i64 0] (0, 0) _ rfl HKz.out Tryz.underlying34 rfl (by kernel_rfl)) rfl ⟨rfl, HBz.out⟩
  have d5 : decide (256 < nb) = false := decide_eq_false c5
  exact absurd ⟨by omega, by omega, by omega⟩ hr
theorem newS_true (rc rb : Int) (nb : Nat) (A : Option Addr) (c : Nat) : trS ⟨rc, rb, nb, true, [], none, 0, List.replicate nb 0, A, c, 0⟩ = newS rc rb nb true := by
  simp [trS, newS, new0, forgetS]
theorem rnew_true (rc rb : Int) (nb : Nat) (hr : RoomOk rc rb (nb : Int)) (F : Nat → Prop) (w : World) (hF : ∀ k, F k → k < w.heap.size) :
    Calls Tryz.prog 7 #[.agg #[.int .i64 rc, .int .i64 rb, .int .i64 (nb : Int), .bool true]] w (TrI F (newS rc rb nb true, 0) w) := by
  obtain ⟨i0, hi0, hz0, hz1, hz2⟩ := info_parts info_i
  have hb : Below w.heap.size w ((w.alloc (.cells #[.int .i64 rc, .int .i64 rb, .int .i64 (nb : Int), .bool true] 23)).alloc (.cells #[.int .i64 0, .int .i64 0, .int .i64 0, .bool false, .slice none 0 0, .slice none 0 0, .int .i64 0] 34)) := ((Below.refl _ _).alloc (Nat.le_refl _) _).alloc (by simp) _
  have h_HX : Blk ((w.alloc (.cells #[.int .i64 rc, .int .i64 rb, .int .i64 (nb : Int), .bool true] 23)).alloc (.cells #[.int .i64 0, .int .i64 0, .int .i64 0, .bool false, .slice none 0 0, .slice none 0 0, .int .i64 0] 34)) w.heap.size 23 #[.int .i64 rc, .int .i64 rb, .int .i64 (nb : Int), .bool true] := (Blk.new w 23 #[.int .i64 rc, .int .i64 rb, .int .i64 (nb : Int), .bool true]).alloc (.cells #[.int .i64 0, .int .i64 0, .int .i64 0, .bool false, .slice none 0 0, .slice none 0 0, .int .i64 0] 34)
  have h_HR : Blk ((w.alloc (.cells #[.int .i64 rc, .int .i64 rb, .int .i64 (nb : Int), .bool true] 23)).alloc (.cells #[.int .i64 0, .int .i64 0, .int .i64 0, .bool false, .slice none 0 0, .slice none 0 0, .int .i64 0] 34)) (w.heap.size + 1) 34 #[.int .i64 0, .int .i64 0, .int .i64 0, .bool false, .slice none 0 0, .slice none 0 0, .int .i64 0] := blk_at (by simp) (Blk.new _ _ _)
  obtain ⟨W1, hW1⟩ : ∃ W, (w.alloc (.cells #[.int .i64 rc, .int .i64 rb, .int .i64 (nb : Int), .bool true] 23)).alloc (.cells #[.int .i64 0, .int .i64 0, .int .i64 0, .bool false, .slice none 0 0, .slice none 0 0, .int .i64 0] 34) = W := ⟨_, rfl⟩
  have hsz : W1.heap.size = w.heap.size + 2 := by rw [← hW1]; simp
  rw [hW1] at hb h_HX h_HR
  have HX := Lib.hid h_HX
  have r0 : W1.cell? ⟨w.heap.size, 0, none⟩ = some (.int .i64 rc) := h_HX.cell 0
  have r1 : W1.cell? ⟨w.heap.size, 1, none⟩ = some (.int .i64 rb) := h_HX.cell 1
  have r2 : W1.cell? ⟨w.heap.size, 2, none⟩ = some (.int .i64 nb) := h_HX.cell 2
  have HR := Lib.hid h_HR
  have HB := Lib.hid hb
  have HSZ := Lib.hid hsz
  clear hb h_HX h_HR hsz
  have HF := Lib.hid hF
  obtain ⟨⟨c0, c1⟩, ⟨c2, c3⟩, ⟨c4, c5⟩⟩ := hr
  have d0 : decide (rc < 1) = false := decide_eq_false (by omega)
  have d1 : decide (4096 < rc) = false := decide_eq_false (by omega)
  have d2 : decide (rb < 1) = false := decide_eq_false (by omega)
  have d3 : decide (4194304 < rb) = false := decide_eq_false (by omega)
  have d4 : decide ((nb : Int) < 1) = false := decide_eq_false (by omega)
  have d5 : decide (256 < (nb : Int)) = false := decide_eq_false (by omega)
  clear hF
  go_enter Tryz.func7, Tryz.ntmps7
  go_upto_region 3 with fail
  try simp only [hW1]
  clear hW1 d0 d1 d2 d3 d4 d5 r0 r1 r2
  go_upto_region 4 with (first | (refine wpList_load_row rfl 23 _ rfl _ rfl _ _ _ _ (show _ = _ from HX.out) Tryz.underlying23 rfl (by kernel_rfl) ?_) | (refine wpList_boxM rfl rfl _ rfl 34 #[.int .i64 0, .int .i64 0, .int .i64 0, .bool false, .slice none 0 0, .slice none 0 0, .int .i64 0] (by kernel_rfl) _ _ rfl #[.int .i64 rc, .int .i64 rb, .int .i64 (nb : Int), .bool true, .slice none 0 0, .slice none 0 0, .int .i64 0] rfl rfl rfl (by kernel_rfl) (by kernel_rfl) ?_))
  obtain ⟨gt, hgt⟩ : ∃ g, W1.heap.size = g := ⟨_, rfl⟩
  obtain ⟨W2, hW2⟩ : ∃ W, W1.alloc (.cells #[.int .i64 rc, .int .i64 rb, .int .i64 (nb : Int), .bool true, .slice none 0 0, .slice none 0 0, .int .i64 0] 34) = W := ⟨_, rfl⟩
  have hb2 : Below W1.heap.size W1 W2 := by rw [← hW2]; exact (Below.refl _ _).alloc (Nat.le_refl _) _
  have HT : Hid (Blk W2 gt 34 #[.int .i64 rc, .int .i64 rb, .int .i64 (nb : Int), .bool true, .slice none 0 0, .slice none 0 0, .int .i64 0]) := Lib.hid (by rw [← hW2, ← hgt]; exact Blk.new _ _ _)
  replace HX := Lib.hid (HX.out.below hb2 HX.out.lt)
  replace HR := Lib.hid (HR.out.below hb2 HR.out.lt)
  replace HB := Lib.hid (HB.out.trans (hb2.mono HB.out.size))
  have HGT : Hid (w.heap.size + 1 < gt ∧ gt < W2.heap.size) := Lib.hid ⟨by have := HSZ.out; omega, HT.out.lt⟩
  try simp only [hW2, hgt]
  clear hb2 hW2 hgt
  have hni0 : (0 : Int) ≤ (nb : Int) := by omega
  have hni1 : (nb : Int) ≤ 256 := by omega
  clear c0 c1 c2 c3 c4 c5
  go_wp2
  go_loopw [5] (fun z wr => ∃ (j : Nat) (A1 : Option Addr) (c1 : Nat), j ≤ nb ∧ z = .int .i64 (j : Int) ∧ Hid (wr.ownsRow W2.heap.size 3 1 (.slice A1 j c1) j ((List.replicate j (0 : Int)).map iV)) ∧ Hid (Blk wr gt 34 #[.int .i64 rc, .int .i64 rb, .int .i64 (nb : Int), .bool true, .slice none 0 0, .slice A1 j c1, .int .i64 0]) ∧ Hid (Blk wr w.heap.size 23 #[.int .i64 rc, .int .i64 rb, .int .i64 (nb : Int), .bool true]) ∧ Hid (Blk wr (w.heap.size + 1) 34 #[.int .i64 0, .int .i64 0, .int .i64 0, .bool false, .slice none 0 0, .slice none 0 0, .int .i64 0]) ∧ Hid (Below w.heap.size w wr) ∧ Hid (W2.heap.size ≤ wr.heap.size)) (fun z _ => nb - (intOf z).toNat)
  case atStart => exact ⟨0, none, 0, Nat.zero_le _, rfl, Lib.hid (World.ownsRow_nil _ _ _ _), HT, HX, HR, HB, Lib.hid (Nat.le_refl _)⟩
  case round =>
    obtain ⟨j, A1, c1, hj, rfl, HO, HT, HX, HR, HB, HL⟩ := hrel
    have r2 : wr.cell? ⟨w.heap.size, 2, none⟩ = some (.int .i64 (nb : Int)) := HX.out.cell 2
    have r3 : wr.cell? ⟨w.heap.size, 3, none⟩ = some (.bool true) := HX.out.cell 3
    by_cases hlt : j < nb
    · have hji : (0 : Int) ≤ (j : Int) := by omega
      have hji2 : (j : Int) < (nb : Int) := by omega
      have t5 : wr.cell? ⟨gt, 5, none⟩ = some (.slice A1 j c1) := HT.out.cell 5
      have hal := (Below.refl wr.heap.size wr).alloc (Nat.le_refl _) (.cells #[.int .i64 0] 3)
      have HO4 := Lib.hid (own_later HO.out hal)
      have HT4 := Lib.hid (HT.out.below hal HT.out.lt)
      have HX4 := Lib.hid (HX.out.below hal HX.out.lt)
      have HR4 := Lib.hid (HR.out.below hal HR.out.lt)
      have HB4 := Lib.hid (HB.out.trans (hal.mono HB.out.size))
      have HL4 : Hid (W2.heap.size ≤ (wr.alloc (.cells #[.int .i64 0] 3)).heap.size) := Lib.hid (Nat.le_trans HL.out hal.size)
      clear hal
      go_wp2_with (at_builtin; refine wpList_app _ rfl _ _ 32 rfl W2.heap.size 3 i0 _ 8 Tryz.underlying32 hi0 hz0 hz1 hz2 rfl _ j ((List.replicate j (0 : Int)).map iV) rfl HO4.out (wr.heap.size + 1) (some ⟨wr.heap.size, 0, none⟩) 1 1 ([(0 : Int)].map iV) rfl rfl (int_row wr 0) (iV_one _) (by unfold maxLen; omega) (by omega) (by have := HL4.out; simpa using this) ?_)
      intro v' w5 hown hgr _
      obtain ⟨A5, c5, rfl, _, _⟩ := ownShape hown
      have hne : ∀ b, b < W2.heap.size → (Value.slice A1 j c1).ownBlock ≠ some b := fun b hb e => by have := (HO4.out.lt b e).1; omega
      have ht5 : Blk w5 gt 34 #[.int .i64 rc, .int .i64 rb, .int .i64 (nb : Int), .bool true, .slice none 0 0, .slice A1 j c1, .int .i64 0] := (hgr.block gt HT4.out.lt (fun e => hne gt HGT.out.2 e.symm)).trans HT4.out
      have hx5 : Blk w5 w.heap.size 23 #[.int .i64 rc, .int .i64 rb, .int .i64 (nb : Int), .bool true] := (hgr.block _ HX4.out.lt (fun e => hne _ (by have := HGT.out; omega) e.symm)).trans HX4.out
      have hr5 : Blk w5 (w.heap.size + 1) 34 #[.int .i64 0, .int .i64 0, .int .i64 0, .bool false, .slice none 0 0, .slice none 0 0, .int .i64 0] := (hgr.block _ HR4.out.lt (fun e => hne _ (by have := HGT.out; omega) e.symm)).trans HR4.out
      have z5 := ht5.frozen 5
      have d5 : w5.cell? ⟨gt, 5, none⟩ = some (.slice A1 j c1) := ht5.cell 5
      have hsg : w5.grownBy (w5.setCell ⟨gt, 5, none⟩ (.slice A5 (j + 1) c5)) (some gt) := grown_set _ _ _ _
      have HO5 : Hid ((w5.setCell ⟨gt, 5, none⟩ (.slice A5 (j + 1) c5)).ownsRow W2.heap.size 3 1 (.slice A5 (j + 1) c5) (j + 1) ((List.replicate (j + 1) (0 : Int)).map iV)) := Lib.hid (own_upT (by simpa [List.replicate_succ'] using hown) hsg HGT.out.2)
      have HT5 : Hid (Blk (w5.setCell ⟨gt, 5, none⟩ (.slice A5 (j + 1) c5)) gt 34 #[.int .i64 rc, .int .i64 rb, .int .i64 (nb : Int), .bool true, .slice none 0 0, .slice A5 (j + 1) c5, .int .i64 0]) := Lib.hid (ht5.set_ 5 (.slice A5 (j + 1) c5))
      have HX5 : Hid (Blk (w5.setCell ⟨gt, 5, none⟩ (.slice A5 (j + 1) c5)) w.heap.size 23 #[.int .i64 rc, .int .i64 rb, .int .i64 (nb : Int), .bool true]) := Lib.hid (hx5.far (p := ⟨gt, 5, none⟩) (by have := HGT.out; simp; omega) _)
      have HR5 : Hid (Blk (w5.setCell ⟨gt, 5, none⟩ (.slice A5 (j + 1) c5)) (w.heap.size + 1) 34 #[.int .i64 0, .int .i64 0, .int .i64 0, .bool false, .slice none 0 0, .slice none 0 0, .int .i64 0]) := Lib.hid (hr5.far (p := ⟨gt, 5, none⟩) (by have := HGT.out; simp; omega) _)
      have HB5 : Hid (Below w.heap.size w (w5.setCell ⟨gt, 5, none⟩ (.slice A5 (j + 1) c5))) := Lib.hid ((HB4.out.grown hgr HB4.out.size fun g h => by have := (HO4.out.lt g h).1; have := HGT.out; omega).setCell (p := ⟨gt, 5, none⟩) (by have := HGT.out; simp; omega) _)
      have HL5 : Hid (W2.heap.size ≤ (w5.setCell ⟨gt, 5, none⟩ (.slice A5 (j + 1) c5)).heap.size) := Lib.hid (Nat.le_trans HL4.out (Nat.le_trans hgr.size hsg.size))
      clear hown hgr ht5 hx5 hr5 hsg hne t5 r2 r3 HO HT HX HR HB HL HO4 HT4 HX4 HR4 HB4 HL4
      go_wp2
      go_roundw
      case rel => exact ⟨j + 1, A5, c5, by omega, by go_num, HO5, HT5, HX5, HR5, HB5, HL5⟩
      case measure => simp [intOf]; omega
    · obtain rfl : j = nb := by omega
      go_upto_region 11 with fail
      clear r2 r3
      go_wp2_with (first | (refine wpList_load_row rfl 34 _ rfl _ rfl _ _ _ _ (show _ = _ from HT.out) Tryz.underlying34 rfl (by kernel_rfl) ?_) | (refine store_box rfl 34 _ _ rfl (w.heap.size + 1) 34 #[.int .i64 0, .int .i64 0, .int .i64 0, .bool false, .slice none 0 0, .slice none 0 0, .int .i64 0] #[.int .i64 rc, .int .i64 rb, .int .i64 (j : Int), .bool true, .slice none 0 0, .slice A1 j c1, .int .i64 0] HR.out rfl rfl rfl (by kernel_rfl) (by kernel_rfl) ?_))
      intro wz hkz hgz
      have HKz := Lib.hid hkz
      have HBz : Hid (Below w.heap.size w wz) := Lib.hid (HB.out.grown hgz HB.out.size fun g hg => by cases hg; omega)
      have hro : RowN F wz A1 ((List.replicate j (0 : Int)).map iV) := rowN_own HF.out (ownBase (own_upT HO.out hgz (by have := HGT.out; omega)) (by have := HGT.out; omega))
      have HMz : Hid (TrN F wz ⟨rc, rb, j, true, [], none, 0, List.replicate j 0, A1, c1, 0⟩) := Lib.hid ⟨⟨Or.inl rfl, fun x hx => (by cases hx)⟩, Nat.le_refl _, hro, Nat.zero_le _, by simp only [List.length_replicate]; omega⟩
      clear hkz hgz hro
      go_wp2
      exact bodyPost_ret (v := .tuple #[.agg #[.int .i64 rc, .int .i64 rb, .int .i64 (j : Int), .bool true, .slice none 0 0, .slice A1 j c1, .int .i64 0], .int .i64 0]) (res_ct (p := 2) (q := 3) (ty := 34) Tryz.results7 _ _ (w.heap.size + 1) 34 #[.int .i64 rc, .int .i64 rb, .int .i64 (j : Int), .bool true, .slice none 0 0, .slice A1 j c1, .int .i64 0] (0, 0) _ rfl HKz.out Tryz.underlying34 rfl (by kernel_rfl)) rfl ⟨⟨rc, rb, j, true, [], none, 0, List.replicate j 0, A1, c1, 0⟩, by simp only [List.length_replicate]; rfl, newS_true _ _ _ _ _, HMz.out, HBz.out⟩
theorem newS_false (rc rb : Int) (nb : Nat) (A : Option Addr) (c : Nat) : trS ⟨rc, rb, nb, false, [], none, 0, List.replicate nb 1, A, c, 0⟩ = newS rc rb nb false := by
  simp [trS, newS, new0, forgetS]
theorem rnew_false (rc rb : Int) (nb : Nat) (hr : RoomOk rc rb (nb : Int)) (F : Nat → Prop) (w : World) (hF : ∀ k, F k → k < w.heap.size) :
    Calls Tryz.prog 7 #[.agg #[.int .i64 rc, .int .i64 rb, .int .i64 (nb : Int), .bool false]] w (TrI F (newS rc rb nb false, 0) w) := by
  obtain ⟨i0, hi0, hz0, hz1, hz2⟩ := info_parts info_i
  have hb : Below w.heap.size w ((w.alloc (.cells #[.int .i64 rc, .int .i64 rb, .int .i64 (nb : Int), .bool false] 23)).alloc (.cells #[.int .i64 0, .int .i64 0, .int .i64 0, .bool false, .slice none 0 0, .slice none 0 0, .int .i64 0] 34)) := ((Below.refl _ _).alloc (Nat.le_refl _) _).alloc (by simp) _
  have h_HX : Blk ((w.alloc (.cells #[.int .i64 rc, .int .i64 rb, .int .i64 (nb : Int), .bool false] 23)).alloc (.cells #[.int .i64 0, .int .i64 0, .int .i64 0, .bool false, .slice none 0 0, .slice none 0 0, .int .i64 0] 34)) w.heap.size 23 #[.int .i64 rc, .int .i64 rb, .int .i64 (nb : Int), .bool false] := (Blk.new w 23 #[.int .i64 rc, .int .i64 rb, .int .i64 (nb : Int), .bool false]).alloc (.cells #[.int .i64 0, .int .i64 0, .int .i64 0, .bool false, .slice none 0 0, .slice none 0 0, .int .i64 0] 34)
  have h_HR : Blk ((w.alloc (.cells #[.int .i64 rc, .int .i64 rb, .int .i64 (nb : Int), .bool false] 23)).alloc (.cells #[.int .i64 0, .int .i64 0, .int .i64 0, .bool false, .slice none 0 0, .slice none 0 0, .int .i64 0] 34)) (w.heap.size + 1) 34 #[.int .i64 0, .int .i64 0, .int .i64 0, .bool false, .slice none 0 0, .slice none 0 0, .int .i64 0] := blk_at (by simp) (Blk.new _ _ _)
  obtain ⟨W1, hW1⟩ : ∃ W, (w.alloc (.cells #[.int .i64 rc, .int .i64 rb, .int .i64 (nb : Int), .bool false] 23)).alloc (.cells #[.int .i64 0, .int .i64 0, .int .i64 0, .bool false, .slice none 0 0, .slice none 0 0, .int .i64 0] 34) = W := ⟨_, rfl⟩
  have hsz : W1.heap.size = w.heap.size + 2 := by rw [← hW1]; simp
  rw [hW1] at hb h_HX h_HR
  have HX := Lib.hid h_HX
  have r0 : W1.cell? ⟨w.heap.size, 0, none⟩ = some (.int .i64 rc) := h_HX.cell 0
  have r1 : W1.cell? ⟨w.heap.size, 1, none⟩ = some (.int .i64 rb) := h_HX.cell 1
  have r2 : W1.cell? ⟨w.heap.size, 2, none⟩ = some (.int .i64 nb) := h_HX.cell 2
  have HR := Lib.hid h_HR
  have HB := Lib.hid hb
  have HSZ := Lib.hid hsz
  clear hb h_HX h_HR hsz
  have HF := Lib.hid hF
  obtain ⟨⟨c0, c1⟩, ⟨c2, c3⟩, ⟨c4, c5⟩⟩ := hr
  have d0 : decide (rc < 1) = false := decide_eq_false (by omega)
  have d1 : decide (4096 < rc) = false := decide_eq_false (by omega)
  have d2 : decide (rb < 1) = false := decide_eq_false (by omega)
  have d3 : decide (4194304 < rb) = false := decide_eq_false (by omega)
  have d4 : decide ((nb : Int) < 1) = false := decide_eq_false (by omega)
  have d5 : decide (256 < (nb : Int)) = false := decide_eq_false (by omega)
  clear hF
  go_enter Tryz.func7, Tryz.ntmps7
  go_upto_region 3 with fail
  try simp only [hW1]
  clear hW1 d0 d1 d2 d3 d4 d5 r0 r1 r2
  go_upto_region 4 with (first | (refine wpList_load_row rfl 23 _ rfl _ rfl _ _ _ _ (show _ = _ from HX.out) Tryz.underlying23 rfl (by kernel_rfl) ?_) | (refine wpList_boxM rfl rfl _ rfl 34 #[.int .i64 0, .int .i64 0, .int .i64 0, .bool false, .slice none 0 0, .slice none 0 0, .int .i64 0] (by kernel_rfl) _ _ rfl #[.int .i64 rc, .int .i64 rb, .int .i64 (nb : Int), .bool false, .slice none 0 0, .slice none 0 0, .int .i64 0] rfl rfl rfl (by kernel_rfl) (by kernel_rfl) ?_))
  obtain ⟨gt, hgt⟩ : ∃ g, W1.heap.size = g := ⟨_, rfl⟩
  obtain ⟨W2, hW2⟩ : ∃ W, W1.alloc (.cells #[.int .i64 rc, .int .i64 rb, .int .i64 (nb : Int), .bool false, .slice none 0 0, .slice none 0 0, .int .i64 0] 34) = W := ⟨_, rfl⟩
  have hb2 : Below W1.heap.size W1 W2 := by rw [← hW2]; exact (Below.refl _ _).alloc (Nat.le_refl _) _
  have HT : Hid (Blk W2 gt 34 #[.int .i64 rc, .int .i64 rb, .int .i64 (nb : Int), .bool false, .slice none 0 0, .slice none 0 0, .int .i64 0]) := Lib.hid (by rw [← hW2, ← hgt]; exact Blk.new _ _ _)
  replace HX := Lib.hid (HX.out.below hb2 HX.out.lt)
  replace HR := Lib.hid (HR.out.below hb2 HR.out.lt)
  replace HB := Lib.hid (HB.out.trans (hb2.mono HB.out.size))
  have HGT : Hid (w.heap.size + 1 < gt ∧ gt < W2.heap.size) := Lib.hid ⟨by have := HSZ.out; omega, HT.out.lt⟩
  try simp only [hW2, hgt]
  clear hb2 hW2 hgt
  have hni0 : (0 : Int) ≤ (nb : Int) := by omega
  have hni1 : (nb : Int) ≤ 256 := by omega
  clear c0 c1 c2 c3 c4 c5
  go_wp2
  go_loopw [5] (fun z wr => ∃ (j : Nat) (A1 : Option Addr) (c1 : Nat), j ≤ nb ∧ z = .int .i64 (j : Int) ∧ Hid (wr.ownsRow W2.heap.size 3 1 (.slice A1 j c1) j ((List.replicate j (1 : Int)).map iV)) ∧ Hid (Blk wr gt 34 #[.int .i64 rc, .int .i64 rb, .int .i64 (nb : Int), .bool false, .slice none 0 0, .slice A1 j c1, .int .i64 0]) ∧ Hid (Blk wr w.heap.size 23 #[.int .i64 rc, .int .i64 rb, .int .i64 (nb : Int), .bool false]) ∧ Hid (Blk wr (w.heap.size + 1) 34 #[.int .i64 0, .int .i64 0, .int .i64 0, .bool false, .slice none 0 0, .slice none 0 0, .int .i64 0]) ∧ Hid (Below w.heap.size w wr) ∧ Hid (W2.heap.size ≤ wr.heap.size)) (fun z _ => nb - (intOf z).toNat)
  case atStart => exact ⟨0, none, 0, Nat.zero_le _, rfl, Lib.hid (World.ownsRow_nil _ _ _ _), HT, HX, HR, HB, Lib.hid (Nat.le_refl _)⟩
  case round =>
    obtain ⟨j, A1, c1, hj, rfl, HO, HT, HX, HR, HB, HL⟩ := hrel
    have r2 : wr.cell? ⟨w.heap.size, 2, none⟩ = some (.int .i64 (nb : Int)) := HX.out.cell 2
    have r3 : wr.cell? ⟨w.heap.size, 3, none⟩ = some (.bool false) := HX.out.cell 3
    by_cases hlt : j < nb
    · have hji : (0 : Int) ≤ (j : Int) := by omega
      have hji2 : (j : Int) < (nb : Int) := by omega
      have t5 : wr.cell? ⟨gt, 5, none⟩ = some (.slice A1 j c1) := HT.out.cell 5
      have hal := (Below.refl wr.heap.size wr).alloc (Nat.le_refl _) (.cells #[.int .i64 1] 3)
      have HO4 := Lib.hid (own_later HO.out hal)
      have HT4 := Lib.hid (HT.out.below hal HT.out.lt)
      have HX4 := Lib.hid (HX.out.below hal HX.out.lt)
      have HR4 := Lib.hid (HR.out.below hal HR.out.lt)
      have HB4 := Lib.hid (HB.out.trans (hal.mono HB.out.size))
      have HL4 : Hid (W2.heap.size ≤ (wr.alloc (.cells #[.int .i64 1] 3)).heap.size) := Lib.hid (Nat.le_trans HL.out hal.size)
      clear hal
      go_wp2_with (at_builtin; refine wpList_app _ rfl _ _ 32 rfl W2.heap.size 3 i0 _ 8 Tryz.underlying32 hi0 hz0 hz1 hz2 rfl _ j ((List.replicate j (1 : Int)).map iV) rfl HO4.out (wr.heap.size + 1) (some ⟨wr.heap.size, 0, none⟩) 1 1 ([(1 : Int)].map iV) rfl rfl (int_row wr 1) (iV_one _) (by unfold maxLen; omega) (by omega) (by have := HL4.out; simpa using this) ?_)
      intro v' w5 hown hgr _
      obtain ⟨A5, c5, rfl, _, _⟩ := ownShape hown
      have hne : ∀ b, b < W2.heap.size → (Value.slice A1 j c1).ownBlock ≠ some b := fun b hb e => by have := (HO4.out.lt b e).1; omega
      have ht5 : Blk w5 gt 34 #[.int .i64 rc, .int .i64 rb, .int .i64 (nb : Int), .bool false, .slice none 0 0, .slice A1 j c1, .int .i64 0] := (hgr.block gt HT4.out.lt (fun e => hne gt HGT.out.2 e.symm)).trans HT4.out
      have hx5 : Blk w5 w.heap.size 23 #[.int .i64 rc, .int .i64 rb, .int .i64 (nb : Int), .bool false] := (hgr.block _ HX4.out.lt (fun e => hne _ (by have := HGT.out; omega) e.symm)).trans HX4.out
      have hr5 : Blk w5 (w.heap.size + 1) 34 #[.int .i64 0, .int .i64 0, .int .i64 0, .bool false, .slice none 0 0, .slice none 0 0, .int .i64 0] := (hgr.block _ HR4.out.lt (fun e => hne _ (by have := HGT.out; omega) e.symm)).trans HR4.out
      have z5 := ht5.frozen 5
      have d5 : w5.cell? ⟨gt, 5, none⟩ = some (.slice A1 j c1) := ht5.cell 5
      have hsg : w5.grownBy (w5.setCell ⟨gt, 5, none⟩ (.slice A5 (j + 1) c5)) (some gt) := grown_set _ _ _ _
      have HO5 : Hid ((w5.setCell ⟨gt, 5, none⟩ (.slice A5 (j + 1) c5)).ownsRow W2.heap.size 3 1 (.slice A5 (j + 1) c5) (j + 1) ((List.replicate (j + 1) (1 : Int)).map iV)) := Lib.hid (own_upT (by simpa [List.replicate_succ'] using hown) hsg HGT.out.2)
      have HT5 : Hid (Blk (w5.setCell ⟨gt, 5, none⟩ (.slice A5 (j + 1) c5)) gt 34 #[.int .i64 rc, .int .i64 rb, .int .i64 (nb : Int), .bool false, .slice none 0 0, .slice A5 (j + 1) c5, .int .i64 0]) := Lib.hid (ht5.set_ 5 (.slice A5 (j + 1) c5))
      have HX5 : Hid (Blk (w5.setCell ⟨gt, 5, none⟩ (.slice A5 (j + 1) c5)) w.heap.size 23 #[.int .i64 rc, .int .i64 rb, .int .i64 (nb : Int), .bool false]) := Lib.hid (hx5.far (p := ⟨gt, 5, none⟩) (by have := HGT.out; simp; omega) _)
      have HR5 : Hid (Blk (w5.setCell ⟨gt, 5, none⟩ (.slice A5 (j + 1) c5)) (w.heap.size + 1) 34 #[.int .i64 0, .int .i64 0, .int .i64 0, .bool false, .slice none 0 0, .slice none 0 0, .int .i64 0]) := Lib.hid (hr5.far (p := ⟨gt, 5, none⟩) (by have := HGT.out; simp; omega) _)
      have HB5 : Hid (Below w.heap.size w (w5.setCell ⟨gt, 5, none⟩ (.slice A5 (j + 1) c5))) := Lib.hid ((HB4.out.grown hgr HB4.out.size fun g h => by have := (HO4.out.lt g h).1; have := HGT.out; omega).setCell (p := ⟨gt, 5, none⟩) (by have := HGT.out; simp; omega) _)
      have HL5 : Hid (W2.heap.size ≤ (w5.setCell ⟨gt, 5, none⟩ (.slice A5 (j + 1) c5)).heap.size) := Lib.hid (Nat.le_trans HL4.out (Nat.le_trans hgr.size hsg.size))
      clear hown hgr ht5 hx5 hr5 hsg hne t5 r2 r3 HO HT HX HR HB HL HO4 HT4 HX4 HR4 HB4 HL4
      go_wp2
      go_roundw
      case rel => exact ⟨j + 1, A5, c5, by omega, by go_num, HO5, HT5, HX5, HR5, HB5, HL5⟩
      case measure => simp [intOf]; omega
    · obtain rfl : j = nb := by omega
      go_upto_region 11 with fail
      clear r2 r3
      go_wp2_with (first | (refine wpList_load_row rfl 34 _ rfl _ rfl _ _ _ _ (show _ = _ from HT.out) Tryz.underlying34 rfl (by kernel_rfl) ?_) | (refine store_box rfl 34 _ _ rfl (w.heap.size + 1) 34 #[.int .i64 0, .int .i64 0, .int .i64 0, .bool false, .slice none 0 0, .slice none 0 0, .int .i64 0] #[.int .i64 rc, .int .i64 rb, .int .i64 (j : Int), .bool false, .slice none 0 0, .slice A1 j c1, .int .i64 0] HR.out rfl rfl rfl (by kernel_rfl) (by kernel_rfl) ?_))
      intro wz hkz hgz
      have HKz := Lib.hid hkz
      have HBz : Hid (Below w.heap.size w wz) := Lib.hid (HB.out.grown hgz HB.out.size fun g hg => by cases hg; omega)
      have hro : RowN F wz A1 ((List.replicate j (1 : Int)).map iV) := rowN_own HF.out (ownBase (own_upT HO.out hgz (by have := HGT.out; omega)) (by have := HGT.out; omega))
      have HMz : Hid (TrN F wz ⟨rc, rb, j, false, [], none, 0, List.replicate j 1, A1, c1, 0⟩) := Lib.hid ⟨⟨Or.inl rfl, fun x hx => (by cases hx)⟩, Nat.le_refl _, hro, Nat.zero_le _, by simp only [List.length_replicate]; omega⟩
      clear hkz hgz hro
      go_wp2
      exact bodyPost_ret (v := .tuple #[.agg #[.int .i64 rc, .int .i64 rb, .int .i64 (j : Int), .bool false, .slice none 0 0, .slice A1 j c1, .int .i64 0], .int .i64 0]) (res_ct (p := 2) (q := 3) (ty := 34) Tryz.results7 _ _ (w.heap.size + 1) 34 #[.int .i64 rc, .int .i64 rb, .int .i64 (j : Int), .bool false, .slice none 0 0, .slice A1 j c1, .int .i64 0] (0, 0) _ rfl HKz.out Tryz.underlying34 rfl (by kernel_rfl)) rfl ⟨⟨rc, rb, j, false, [], none, 0, List.replicate j 1, A1, c1, 0⟩, by simp only [List.length_replicate]; rfl, newS_false _ _ _ _ _, HMz.out, HBz.out⟩
end Go.Proofs.YtpebhfjcakllmaaGreat
namespace Go.Proofs.YtpebhfjcakllmaaGreat
open Go.RowKit Go.ChangeShapes Mem Be Word Rg Go.Maps
set_option maxRecDepth 100000
set_option maxHeartbeats 8000000
set_option linter.unusedVariables false
set_option linter.unusedSimpArgs false
theorem touch_grownT {Fx : Nat → Prop} {w0 w w' : World} {o : Option Nat} (h : Touch Fx w0 w) (hg : w.grownBy w' o) (ho : ∀ g, o = some g → w0.heap.size ≤ g ∨ Fx g) : Touch Fx w0 w' :=
  ⟨hg.os.trans h.os, hg.tape.trans h.tape, hg.output.trans h.output, Nat.le_trans h.size hg.size, fun k hk hn => (hg.block k (Nat.lt_of_lt_of_le hk h.size) (fun e => by
    rcases ho k e.symm with h1 | h1
    · omega
    · exact hn h1)).trans (h.block k hk hn)⟩
def unV (x : CV) : CV := (unW x.1, x.2)
theorem take_mapT {α β : Type} (f : α → β) (l : List α) (j : Nat) (h : j < l.length) : (l.take (j + 1)).map f = (l.take j).map f ++ [f l[j]] := by
  rw [List.take_succ_eq_append_getElem h, List.map_append]; rfl
theorem gives_appI {P : Program} {o : Oper} {a : Act} {w : World} {R : Value → World → Prop} (s x : Operand) (t : TypeId)
    (ho : o.op = .call { callee := .builtin .append, args := #[s, x], argTypes := #[t, t] })
    (base : Nat) (e : TypeId) (i : TypeInfo) (z : Value) (bytes : Nat) (ht : P.underlying t = some (.slice e)) (hi : P.info? e = some i) (hz : i.zero = some z)
    (hsize : i.size = 1) (hby : i.bytes = bytes) (hzs : z.cells.size = 1)
    (v : Value) (n : Nat) (xs : List Value) (hs : a.eval s = v) (hown : w.ownsRow base e 1 v n xs)
    (B : Nat) (A : Option Addr) (m c : Nat) (news : List Value) (hx : a.eval x = .slice A m c) (hl : news.length = m) (hr : Row w B A news) (h1 : ∀ u ∈ news, u.oneCell' = true)
    (h63 : n + m ≤ maxLen) (hbytes : (n + m) * bytes ≤ 140737488355328) (hbase : base ≤ w.heap.size)
    (h : ∀ v' w', w'.ownsRow base e 1 v' (n + m) (xs ++ news) → w.grownBy w' v.ownBlock → R v' w') : Rely.gives P o a w R := by
  obtain ⟨v', w', hrun, h2, h3, h4⟩ := run_app (P := P) w base t o.type e i z bytes ht hi hz hsize hby hzs v n xs hown B A m c news hl hr h1 h63 hbytes hbase
  unfold Rely.gives execOp
  simp only [ho, resolve, invoke, builtin, Sem.run_bind, Sem.run_pure, Result.andThen_ok, List.map_toArray, List.map_cons, List.map_nil, hs, hx, hrun]
  exact h v' w' h2 h3
/-- What each of the append's operations needs. -/
def depF : Nat → List Nat
  | 1 => [0] | 3 => [2] | 5 => [3, 4] | 6 => [5] | 7 => [6] | 8 => [7] | 9 => [1, 8] | 10 => [9] | 11 => [9, 10] | _ => []
def VF (gu g0 : Nat) (X Y : Value) (bt oj j : Nat) (v : Int) : Nat → Value → Prop
  | 0, u => u = .pointer (some ⟨gu, 5, none⟩)
  | 1, u => u = X
  | 2, u => u = .pointer (some ⟨g0, 5, none⟩)
  | 3, u => u = Y
  | 4, u => u = .int .i64 (j : Int)
  | 5, u => u = .pointer (some ⟨bt, oj, none⟩)
  | 6, u => u = .int .i64 v
  | 7, u => u = .int .i64 (v + 1)
  | 10, u => u = .pointer (some ⟨gu, 5, none⟩)
  | _, _ => True
structure JF (Wr : World) (V : Nat → Value → Prop) (v : Int) (mid fin : Value → World → Prop) (S : Nat → Bool) (vs : Nat → Value) (w : World) : Prop where
  clo : ∀ k, S k = true → ∀ m ∈ depF k, S m = true
  vals : ∀ i, S i = true → V i (vs i)
  pre : S 9 = false → Below Wr.heap.size Wr w ∧ (S 8 = true → ∃ g, vs 8 = .slice (some ⟨g, 0, none⟩) 1 1 ∧ Row w w.heap.size (some ⟨g, 0, none⟩) [.int .i64 (v + 1)])
  mid : S 9 = true → S 11 = false → mid (vs 9) w
  fin : S 11 = true → fin (vs 9) w
section
variable {Wr : World} {V : Nat → Value → Prop} {v : Int} {mid fin : Value → World → Prop} {S : Nat → Bool} {vs : Nat → Value} {w w' : World}
theorem clo_up (h : ∀ k, S k = true → ∀ m ∈ depF k, S m = true) (i : Nat) (hd : ∀ m ∈ depF i, S m = true) : ∀ k, RelyJ.up S i true k = true → ∀ m ∈ depF k, RelyJ.up S i true m = true := fun k hk m hm => by
  by_cases e : m = i
  · subst e; exact RelyJ.up_same _ _ _
  · rw [RelyJ.up_ne _ _ e]
    by_cases e2 : k = i
    · subst e2; exact hd m hm
    · rw [RelyJ.up_ne _ _ e2] at hk; exact h k hk m hm
theorem vals_up {V : Nat → Value → Prop} (h : ∀ i, S i = true → V i (vs i)) (i : Nat) (u : Value) (hv : V i u) : ∀ k, RelyJ.up S i true k = true → V k (RelyJ.up vs i u k) := fun k hk => by
  by_cases e : k = i
  · subst e; rw [RelyJ.up_same]; exact hv
  · rw [RelyJ.up_ne _ _ e] at hk ⊢; exact h k hk
theorem JF.early (h : JF Wr V v mid fin S vs w) (i : Nat) (hi : i < 9) (hS : S i = false) : S 9 = false ∧ Below Wr.heap.size Wr w := by
  have h9 : S 9 = false := by
    cases e : S 9
    · rfl
    · have h1 := h.clo 9 e 1 (by simp [depF])
      have h8 := h.clo 9 e 8 (by simp [depF])
      have h0 := h.clo 1 h1 0 (by simp [depF])
      have h7 := h.clo 8 h8 7 (by simp [depF])
      have h6 := h.clo 7 h7 6 (by simp [depF])
      have h5 := h.clo 6 h6 5 (by simp [depF])
      have h3 := h.clo 5 h5 3 (by simp [depF])
      have h4 := h.clo 5 h5 4 (by simp [depF])
      have h2 := h.clo 3 h3 2 (by simp [depF])
      have : i = 0 ∨ i = 1 ∨ i = 2 ∨ i = 3 ∨ i = 4 ∨ i = 5 ∨ i = 6 ∨ i = 7 ∨ i = 8 := by omega
      rcases this with rfl | rfl | rfl | rfl | rfl | rfl | rfl | rfl | rfl <;> simp_all
  exact ⟨h9, (h.pre h9).1⟩
theorem JF.quiet (h : JF Wr V v mid fin S vs w) (i : Nat) (hi : i ≠ 8 ∧ i ≠ 9 ∧ i ≠ 11) (hd : ∀ m ∈ depF i, S m = true) (u : Value) (hv : V i u) : JF Wr V v mid fin (RelyJ.up S i true) (RelyJ.up vs i u) w :=
  ⟨clo_up h.clo i hd, vals_up h.vals i u hv, fun h9 => by
    rw [RelyJ.up_ne _ _ (Ne.symm hi.2.1)] at h9
    rw [RelyJ.up_ne _ _ (Ne.symm hi.1), RelyJ.up_ne _ _ (Ne.symm hi.1)]
    exact h.pre h9, fun h9 h11 => by
    rw [RelyJ.up_ne _ _ (Ne.symm hi.2.1)] at h9
    rw [RelyJ.up_ne _ _ (Ne.symm hi.2.2)] at h11
    rw [RelyJ.up_ne _ _ (Ne.symm hi.2.1)]
    exact h.mid h9 h11, fun h11 => by
    rw [RelyJ.up_ne _ _ (Ne.symm hi.2.2)] at h11
    rw [RelyJ.up_ne _ _ (Ne.symm hi.2.1)]
    exact h.fin h11⟩
theorem JF.made (h : JF Wr V v mid fin S vs w) (hS : S 8 = false) (hd : S 7 = true) (u : Value) (g : Nat) (hu : u = .slice (some ⟨g, 0, none⟩) 1 1) (hr : Row w' w'.heap.size (some ⟨g, 0, none⟩) [.int .i64 (v + 1)]) (hb : Below w.heap.size w w') (hv : V 8 u) : JF Wr V v mid fin (RelyJ.up S 8 true) (RelyJ.up vs 8 u) w' := by
  obtain ⟨h9, hb0⟩ := h.early 8 (by omega) hS
  have h11 : S 11 = false := by
    cases e : S 11
    · rfl
    · have := h.clo 11 e 9 (by simp [depF]); rw [h9] at this; cases this
  refine ⟨clo_up h.clo 8 (fun m hm => by simp [depF] at hm; subst hm; exact hd), vals_up h.vals 8 u hv, fun _ => ⟨hb0.trans (hb.mono hb0.size), fun _ => ⟨g, by rw [RelyJ.up_same]; exact hu, hr⟩⟩, fun q => ?_, fun q => ?_⟩
  · rw [RelyJ.up_ne _ _ (by decide), h9] at q; cases q
  · rw [RelyJ.up_ne _ _ (by decide), h11] at q; cases q
theorem JF.app (h : JF Wr V v mid fin S vs w) (hS : S 9 = false) (hd : S 1 = true ∧ S 8 = true) (u : Value) (hm : mid u w') (hv : V 9 u) : JF Wr V v mid fin (RelyJ.up S 9 true) (RelyJ.up vs 9 u) w' := by
  have h11 : S 11 = false := by
    cases e : S 11
    · rfl
    · have := h.clo 11 e 9 (by simp [depF]); rw [hS] at this; cases this
  refine ⟨clo_up h.clo 9 (fun m hm => by simp [depF] at hm; rcases hm with rfl | rfl; exact hd.1; exact hd.2), vals_up h.vals 9 u hv, fun q => ?_, fun _ _ => by rw [RelyJ.up_same]; exact hm, fun q => ?_⟩
  · rw [RelyJ.up_same] at q; cases q
  · rw [RelyJ.up_ne _ _ (by decide), h11] at q; cases q
theorem JF.end_ (h : JF Wr V v mid fin S vs w) (hd : S 9 = true ∧ S 10 = true) (u : Value) (hf : fin (vs 9) w') (hv : V 11 u) : JF Wr V v mid fin (RelyJ.up S 11 true) (RelyJ.up vs 11 u) w' := by
  refine ⟨clo_up h.clo 11 (fun m hm => by simp [depF] at hm; rcases hm with rfl | rfl; exact hd.1; exact hd.2), vals_up h.vals 11 u hv, fun q => ?_, fun _ q => ?_, fun _ => ?_⟩
  · rw [RelyJ.up_ne _ _ (by decide), hd.1] at q; cases q
  · rw [RelyJ.up_same] at q; cases q
  · rw [RelyJ.up_ne _ _ (by decide)]; exact hf
end
theorem forget_tr (t : Tr) (A1 : Option Addr) (c1 : Nat) (A2 : Option Addr) (c2 : Nat) : trS ⟨t.rc, t.rb, t.nb, t.fr, t.L.map unV, A1, c1, t.tok.map (· + 1), A2, c2, t.us⟩ = forgetS (trS t) := by
  unfold trS forgetS
  simp only [List.map_map]
  rfl
theorem rforget (t : Tr) (F : Nat → Prop) (w : World) (hF : ∀ k, F k → k < w.heap.size) (h : TrN F w t) (ok : OkC (trS t)) (hq : ∀ v ∈ t.tok, v ≤ 4611686018427390000) :
    Calls Tryz.prog 32 #[.agg #[.int .i64 t.rc, .int .i64 t.rb, .int .i64 (t.nb : Int), .bool t.fr, .slice t.A t.L.length t.c, .slice t.tA t.tok.length t.tc, .int .i64 t.us]] w (TrP F (forgetS (trS t)) w) := by
  obtain ⟨i0, hi0, hz0, hz1, hz2⟩ := info_parts info_cell
  obtain ⟨k0, hk0, hy0, hy1, hy2⟩ := info_parts info_i
  have hb : Below w.heap.size w (((w).alloc (.cells #[.int .i64 t.rc, .int .i64 t.rb, .int .i64 (t.nb : Int), .bool t.fr, .slice t.A t.L.length t.c, .slice t.tA t.tok.length t.tc, .int .i64 t.us] 34)).alloc (.cells #[.int .i64 0, .int .i64 0, .int .i64 0, .bool false, .slice none 0 0, .slice none 0 0, .int .i64 0] 34)) := ((Below.refl _ _).alloc (Nat.le_refl _) _).alloc (by simp) _
  have h_HK : Blk (((w).alloc (.cells #[.int .i64 t.rc, .int .i64 t.rb, .int .i64 (t.nb : Int), .bool t.fr, .slice t.A t.L.length t.c, .slice t.tA t.tok.length t.tc, .int .i64 t.us] 34)).alloc (.cells #[.int .i64 0, .int .i64 0, .int .i64 0, .bool false, .slice none 0 0, .slice none 0 0, .int .i64 0] 34)) (w.heap.size) 34 #[.int .i64 t.rc, .int .i64 t.rb, .int .i64 (t.nb : Int), .bool t.fr, .slice t.A t.L.length t.c, .slice t.tA t.tok.length t.tc, .int .i64 t.us] := ((Blk.new (w) 34 #[.int .i64 t.rc, .int .i64 t.rb, .int .i64 (t.nb : Int), .bool t.fr, .slice t.A t.L.length t.c, .slice t.tA t.tok.length t.tc, .int .i64 t.us]).alloc (.cells #[.int .i64 0, .int .i64 0, .int .i64 0, .bool false, .slice none 0 0, .slice none 0 0, .int .i64 0] 34))
  have h_HR : Blk (((w).alloc (.cells #[.int .i64 t.rc, .int .i64 t.rb, .int .i64 (t.nb : Int), .bool t.fr, .slice t.A t.L.length t.c, .slice t.tA t.tok.length t.tc, .int .i64 t.us] 34)).alloc (.cells #[.int .i64 0, .int .i64 0, .int .i64 0, .bool false, .slice none 0 0, .slice none 0 0, .int .i64 0] 34)) (w.heap.size + 1) 34 #[.int .i64 0, .int .i64 0, .int .i64 0, .bool false, .slice none 0 0, .slice none 0 0, .int .i64 0] := blk_at (by simp) (Blk.new ((w).alloc (.cells #[.int .i64 t.rc, .int .i64 t.rb, .int .i64 (t.nb : Int), .bool t.fr, .slice t.A t.L.length t.c, .slice t.tA t.tok.length t.tc, .int .i64 t.us] 34)) 34 #[.int .i64 0, .int .i64 0, .int .i64 0, .bool false, .slice none 0 0, .slice none 0 0, .int .i64 0])
  have hm1 := h.wide hb
  obtain ⟨W1, hW1⟩ : ∃ W, ((w).alloc (.cells #[.int .i64 t.rc, .int .i64 t.rb, .int .i64 (t.nb : Int), .bool t.fr, .slice t.A t.L.length t.c, .slice t.tA t.tok.length t.tc, .int .i64 t.us] 34)).alloc (.cells #[.int .i64 0, .int .i64 0, .int .i64 0, .bool false, .slice none 0 0, .slice none 0 0, .int .i64 0] 34) = W := ⟨_, rfl⟩
  have hsz : W1.heap.size = w.heap.size + 2 := by rw [← hW1]; simp
  rw [hW1] at hb hm1 h_HK h_HR
  have HK := Lib.hid h_HK
  have HR := Lib.hid h_HR
  have HB := Lib.hid hb
  have HM := Lib.hid hm1
  have HF := Lib.hid hF
  have HSZ := Lib.hid hsz
  have HOK := Lib.hid ok
  obtain ⟨F1, hF1⟩ : ∃ F1, More2 F w.heap.size W1.heap.size = F1 := ⟨_, rfl⟩
  have HFL : Hid (∀ k, F1 k → k < W1.heap.size) := Lib.hid (by rw [← hF1]; exact more2_lt hF hb.size)
  have HFR : Hid (F1 (w.heap.size + 1)) := Lib.hid (by rw [← hF1]; exact Or.inr ⟨by omega, by omega⟩)
  have HNR : Hid (∀ (w' : World) (t' : Tr), TrN F1 w' t' → TrN F w' t') := Lib.hid (fun w' t' h => by rw [← hF1] at h; exact h.narrow)
  have HL : Hid (W1.heap.size ≤ W1.heap.size) := Lib.hid (Nat.le_refl _)
  rw [hF1] at HM
  clear hb h_HK h_HR h hF hm1 hF1 hsz ok
  have HQ := Lib.hid hq
  clear hq
  have c0 : W1.cell? ⟨w.heap.size, 0, none⟩ = some (.int .i64 t.rc) := HK.out.cell 0
  have c1 : W1.cell? ⟨w.heap.size, 1, none⟩ = some (.int .i64 t.rb) := HK.out.cell 1
  have c2 : W1.cell? ⟨w.heap.size, 2, none⟩ = some (.int .i64 (t.nb : Int)) := HK.out.cell 2
  have c3 : W1.cell? ⟨w.heap.size, 3, none⟩ = some (.bool t.fr) := HK.out.cell 3
  have c6 : W1.cell? ⟨w.heap.size, 6, none⟩ = some (.int .i64 t.us) := HK.out.cell 6
  go_enter Tryz.func32, Tryz.ntmps32
  go_upto_region 2 with (refine wpList_boxM rfl rfl _ rfl 34 #[.int .i64 0, .int .i64 0, .int .i64 0, .bool false, .slice none 0 0, .slice none 0 0, .int .i64 0] (by kernel_rfl) _ _ rfl #[.int .i64 t.rc, .int .i64 t.rb, .int .i64 (t.nb : Int), .bool t.fr, .slice none 0 0, .slice none 0 0, .int .i64 t.us] rfl rfl rfl (by kernel_rfl) (by kernel_rfl) ?_)
  obtain ⟨gu, hgu⟩ : ∃ g, W1.heap.size = g := ⟨_, rfl⟩
  obtain ⟨W2, hW2⟩ : ∃ W, W1.alloc (.cells #[.int .i64 t.rc, .int .i64 t.rb, .int .i64 (t.nb : Int), .bool t.fr, .slice none 0 0, .slice none 0 0, .int .i64 t.us] 34) = W := ⟨_, rfl⟩
  have hb2 : Below W1.heap.size W1 W2 := by rw [← hW2]; exact (Below.refl _ _).alloc (Nat.le_refl _) _
  have HU : Hid (Blk W2 gu 34 #[.int .i64 t.rc, .int .i64 t.rb, .int .i64 (t.nb : Int), .bool t.fr, .slice none 0 0, .slice none 0 0, .int .i64 t.us]) := Lib.hid (by rw [← hW2, ← hgu]; exact Blk.new _ _ _)
  obtain ⟨F2, hF2⟩ : ∃ F2, More2 F1 W1.heap.size W2.heap.size = F2 := ⟨_, rfl⟩
  have HM2 := Lib.hid (HM.out.wide hb2)
  rw [hF2] at HM2
  have HFL2 : Hid (∀ k, F2 k → k < W2.heap.size) := Lib.hid (by rw [← hF2]; exact more2_lt HFL.out hb2.size)
  have HFU : Hid (F2 gu) := Lib.hid (by rw [← hF2, ← hgu]; exact Or.inr ⟨Nat.le_refl _, by have := HU.out.lt; omega⟩)
  have HFR2 : Hid (F2 (w.heap.size + 1)) := Lib.hid (by rw [← hF2]; exact Or.inl HFR.out)
  have HNR2 : Hid (∀ (w' : World) (t' : Tr), TrN F2 w' t' → TrN F w' t') := Lib.hid (fun w' t' h => by rw [← hF2] at h; exact HNR.out _ _ h.narrow)
  have HGU : Hid (w.heap.size + 1 < gu ∧ gu < W2.heap.size) := Lib.hid ⟨by have := HSZ.out; omega, HU.out.lt⟩
  replace HK := Lib.hid (HK.out.below hb2 HK.out.lt)
  replace HR := Lib.hid (HR.out.below hb2 HR.out.lt)
  replace HB := Lib.hid (HB.out.trans (hb2.mono HB.out.size))
  replace HM := Lib.hid (HM.out.below hb2)
  replace HL := Lib.hid (Nat.le_trans HL.out hb2.size)
  try simp only [hW2, hgu]
  clear hb2 hW2 hgu hF2 hW1 c0 c1 c2 c3 c6 HM
  have hni0 : (0 : Int) ≤ (t.L.length : Int) := by omega
  have hni1 : (t.L.length : Int) ≤ 100000 := by have := HM2.out.ln; omega
  have hmi0 : (0 : Int) ≤ (t.tok.length : Int) := by omega
  have hmi1 : (t.tok.length : Int) ≤ 100000 := by have := HM2.out.tl; omega
  go_wp2
  go_loopw [4] (fun z wr => ∃ (j : Nat) (A1 : Option Addr) (c1 : Nat), j ≤ t.L.length ∧ z = .int .i64 (j : Int) ∧ Hid (wr.ownsRow W2.heap.size 88 9 (.slice A1 j c1) j (cellsC ((t.L.take j).map unV))) ∧ Hid (Blk wr gu 34 #[.int .i64 t.rc, .int .i64 t.rb, .int .i64 (t.nb : Int), .bool t.fr, .slice A1 j c1, .slice none 0 0, .int .i64 t.us]) ∧ Hid (Touch (fun k => k = gu) W2 wr)) (fun z _ => t.L.length - (intOf z).toNat)
  case atStart => exact ⟨0, none, 0, Nat.zero_le _, rfl, Lib.hid (World.ownsRow_nil _ _ _ _), HU, Lib.hid (Touch.ofBelow (Below.refl _ _))⟩
  case round =>
    obtain ⟨j, A1, c1, hj, rfl, HO, HU, HTO⟩ := hrel
    have HKr : Hid (Blk wr w.heap.size 34 #[.int .i64 t.rc, .int .i64 t.rb, .int .i64 (t.nb : Int), .bool t.fr, .slice t.A t.L.length t.c, .slice t.tA t.tok.length t.tc, .int .i64 t.us]) := Lib.hid ((HTO.out.block _ HK.out.lt (by have := HGU.out; omega)).trans HK.out)
    have HMr : Hid (TrN F2 wr t) := Lib.hid (HM2.out.touch ⟨HTO.out.os, HTO.out.tape, HTO.out.output, HTO.out.size, fun k hk hn => HTO.out.block k hk fun q => hn (by rw [q]; exact HFU.out)⟩)
    by_cases hlt : j < t.L.length
    · have hsn := take_mapT unV t.L j hlt
      obtain ⟨b, o, hA, hbb, hc⟩ := cells_open HMr.out.m.cev.row (by omega)
      have hcc := hc j hlt
      obtain ⟨⟨x, xA, xc⟩, hx⟩ : ∃ p, t.L[j]'hlt = p := ⟨_, rfl⟩
      rw [hx] at hcc hsn
      have HSN := Lib.hid hsn
      have h4 : wr.cell? ⟨w.heap.size, 4, none⟩ = some (.slice (some ⟨b, o, none⟩) t.L.length t.c) := by rw [← hA]; exact HKr.out.cell 4
      have hc0 := hcc 0 _ rfl
      rw [Nat.add_zero] at hc0
      have hc1 := hcc 1 _ rfl
      have hc2 := hcc 2 _ rfl
      have hc3 := hcc 3 _ rfl
      have hc4 := hcc 4 _ rfl
      have hc5 := hcc 5 _ rfl
      have hc6 := hcc 6 _ rfl
      have hc7 := hcc 7 _ rfl
      have hc8 := hcc 8 _ rfl
      have hji : (0 : Int) ≤ (j : Int) := by omega
      have hji2 : (j : Int) < (t.L.length : Int) := by omega
      clear hc hcc hA hbb hx hsn
      go_upto_region 6 with (refine wpList_boxM rfl rfl _ rfl 88 #[.string ⟨#[]⟩, .int .i64 0, .int .i64 0, .int .i64 0, .bool false, .slice none 0 0, .bool false, .bool false, .int .i64 0] (by kernel_rfl) _ _ rfl #[.string ⟨x.e.k.toArray⟩, .int .i64 x.e.s, .int .i64 x.e.u, .int .i64 x.e.o, .bool x.e.has, .slice xA x.e.v.length xc, .bool x.wh, .bool x.cl, .int .i64 x.us] rfl rfl rfl (by kernel_rfl) (by kernel_rfl) ?_)
      obtain ⟨gc, hgc⟩ : ∃ g, wr.heap.size = g := ⟨_, rfl⟩
      obtain ⟨W3, hW3⟩ : ∃ W, wr.alloc (.cells #[.string ⟨x.e.k.toArray⟩, .int .i64 x.e.s, .int .i64 x.e.u, .int .i64 x.e.o, .bool x.e.has, .slice xA x.e.v.length xc, .bool x.wh, .bool x.cl, .int .i64 x.us] 88) = W := ⟨_, rfl⟩
      have hb3 : Below wr.heap.size wr W3 := by rw [← hW3]; exact (Below.refl _ _).alloc (Nat.le_refl _) _
      have hkc : Blk W3 gc 88 #[.string ⟨x.e.k.toArray⟩, .int .i64 x.e.s, .int .i64 x.e.u, .int .i64 x.e.o, .bool x.e.has, .slice xA x.e.v.length xc, .bool x.wh, .bool x.cl, .int .i64 x.us] := by rw [← hW3, ← hgc]; exact Blk.new _ _ _
      have hgw : W2.heap.size ≤ gc := by rw [← hgc]; exact HTO.out.size
      have hu3 := HU.out.below hb3 HU.out.lt
      have ho3 := ownLater HO.out hb3
      have hto3 : Touch (fun k => k = gu) W2 W3 := touch_transV HTO.out (Touch.ofBelow hb3)
      try simp only [hW3, hgc]
      have z6 := hkc.frozen 6
      have d6 : W3.cell? ⟨gc, 6, none⟩ = some (.bool x.wh) := hkc.cell 6
      have HC6 : Hid (Blk (W3.setCell ⟨gc, 6, none⟩ (.bool false)) gc 88 #[.string ⟨x.e.k.toArray⟩, .int .i64 x.e.s, .int .i64 x.e.u, .int .i64 x.e.o, .bool x.e.has, .slice xA x.e.v.length xc, .bool false, .bool x.cl, .int .i64 x.us]) := Lib.hid (hkc.set_ 6 (.bool false))
      have hsg : W3.grownBy (W3.setCell ⟨gc, 6, none⟩ (.bool false)) (some gc) := grown_set _ _ _ _
      have HU6 := Lib.hid (blk_grownT hu3 hsg (by have := HGU.out; omega))
      have HO6 := Lib.hid (ho3.kept hsg (Or.inr fun e => by have h1 := (HO.out.lt gc e).2; omega))
      have HT6 : Hid (Touch (fun k => k = gu) W2 (W3.setCell ⟨gc, 6, none⟩ (.bool false))) := Lib.hid (touch_grownT hto3 hsg fun g hg => by cases hg; exact Or.inl hgw)
      obtain ⟨w6, hw6⟩ : ∃ W, W3.setCell ⟨gc, 6, none⟩ (.bool false) = W := ⟨_, rfl⟩
      rw [hw6] at HC6 HU6 HO6 HT6
      clear hb3 hkc hu3 ho3 hto3 hsg hW3 hgc h4 hc0 hc1 hc2 hc3 hc4 hc5 hc6 hc7 hc8 HO HU HTO HKr HMr
      go_upto_region 7 with fail
      try simp only [hw6]
      clear hw6 z6 d6
      have u4 : w6.cell? ⟨gu, 4, none⟩ = some (.slice A1 j c1) := HU6.out.cell 4
      have hal := (Below.refl w6.heap.size w6).alloc (Nat.le_refl _) (.cells ⟨cellC (unW x, xA, xc)⟩ 88)
      have HO4 := Lib.hid (ownLater HO6.out hal)
      have HBL : Hid (Blk (w6.alloc (.cells ⟨cellC (unW x, xA, xc)⟩ 88)) w6.heap.size 88 ⟨cellC (unW x, xA, xc)⟩) := Lib.hid (Blk.new _ _ _)
      have HU4 := Lib.hid (HU6.out.below hal HU6.out.lt)
      have HT4 : Hid (Touch (fun k => k = gu) W2 (w6.alloc (.cells ⟨cellC (unW x, xA, xc)⟩ 88))) := Lib.hid (touch_transV HT6.out (Touch.ofBelow hal))
      clear hal
      go_wp2_with (first | (refine wpList_load_row rfl 88 _ rfl _ rfl _ _ _ _ (show _ = _ from HC6.out) Tryz.underlying88 rfl (by kernel_rfl) ?_) | (at_builtin; refine wpList_appS (P := Tryz.prog) (by rfl) _ _ _ (by rfl) W2.heap.size 88 i0 (cV (cvN [])) 9 88 Tryz.underlying31 hi0 hz0 hz1 hz2 rfl (by decide) _ j (cellsC ((t.L.take j).map unV)) (by rfl) (by exact HO4.out) (w6.heap.size + 1) (some ⟨w6.heap.size, 0, none⟩) (1) (1) (cellsC [(unW x, xA, xc)]) (by rfl) (by rfl) (by exact cell_lit HBL.out (by omega)) (cellsC_one _) (by unfold maxLen; omega) (by omega) (by exact HT4.out.size) ?_))
      intro v' w5 hown hgr hat
      obtain ⟨A5, c5, rfl, _, _⟩ := ownShape hown
      have hne : ∀ b, b < W2.heap.size → (Value.slice A1 j c1).ownBlock ≠ some b := fun b hb e => by have := (HO4.out.lt b e).1; omega
      have hu5 : Blk w5 gu 34 #[.int .i64 t.rc, .int .i64 t.rb, .int .i64 (t.nb : Int), .bool t.fr, .slice A1 j c1, .slice none 0 0, .int .i64 t.us] := (hgr.block gu HU4.out.lt (fun e => hne gu HGU.out.2 e.symm)).trans HU4.out
      have z4 := hu5.frozen 4
      have d4 : w5.cell? ⟨gu, 4, none⟩ = some (.slice A1 j c1) := hu5.cell 4
      have hsg : w5.grownBy (w5.setCell ⟨gu, 4, none⟩ (.slice A5 (j + 1) c5)) (some gu) := grown_set _ _ _ _
      have HO5 : Hid ((w5.setCell ⟨gu, 4, none⟩ (.slice A5 (j + 1) c5)).ownsRow W2.heap.size 88 9 (.slice A5 (j + 1) c5) (j + 1) (cellsC ((t.L.take (j + 1)).map unV))) := Lib.hid (own_upT (by rw [HSN.out, cellsC_app]; simpa [cellsC, unV, List.map_take] using hown) hsg HGU.out.2)
      have HU5 : Hid (Blk (w5.setCell ⟨gu, 4, none⟩ (.slice A5 (j + 1) c5)) gu 34 #[.int .i64 t.rc, .int .i64 t.rb, .int .i64 (t.nb : Int), .bool t.fr, .slice A5 (j + 1) c5, .slice none 0 0, .int .i64 t.us]) := Lib.hid (hu5.set_ 4 (.slice A5 (j + 1) c5))
      have HT5 : Hid (Touch (fun k => k = gu) W2 (w5.setCell ⟨gu, 4, none⟩ (.slice A5 (j + 1) c5))) := Lib.hid (touch_grownT (touch_grownT HT4.out hgr fun g hg => Or.inl (HO4.out.lt g hg).1) hsg fun g hg => by cases hg; exact Or.inr rfl)
      clear hown hgr hat hu5 hsg hne u4 HO4 HU4 HT4 HO6 HU6 HT6 HC6 HBL
      go_wp2
      go_roundw
      case rel => exact ⟨j + 1, A5, c5, by omega, by go_num, HO5, HU5, HT5⟩
      case measure => simp [intOf]; omega
    · obtain rfl : j = t.L.length := by omega
      have h4 : wr.cell? ⟨w.heap.size, 4, none⟩ = some (.slice t.A t.L.length t.c) := HKr.out.cell 4
      have hcap : t.L.length ≤ c1 := by
        obtain ⟨_, _, e, hc, _⟩ := ownShape HO.out
        injection e with _ _ e
        omega
      have HCAP := Lib.hid hcap
      have HRW : Hid (RowN F2 wr A1 (cellsC (t.L.map unV))) := Lib.hid (by
        have := rowN_own (w := W2) HFL2.out HO.out
        rwa [List.take_length] at this)
      have HRr : Hid (Blk wr (w.heap.size + 1) 34 #[.int .i64 0, .int .i64 0, .int .i64 0, .bool false, .slice none 0 0, .slice none 0 0, .int .i64 0]) := Lib.hid ((HTO.out.block _ HR.out.lt (by have := HGU.out; omega)).trans HR.out)
      have HBr : Hid (Below w.heap.size w wr) := Lib.hid (HB.out.trans (HTO.out.below (B := w.heap.size) HB.out.size fun k hk => by have := HGU.out; omega))
      have HZr : Hid (W2.heap.size ≤ wr.heap.size) := Lib.hid HTO.out.size
      have HU0 := HU
      clear hcap HO HTO HR HB HK HM2 HU
      go_wp2
      clear h4
      obtain ⟨wq, hwq⟩ : ∃ W, W = wr := ⟨_, rfl⟩
      subst hwq
      go_loopw [6] (fun z wr => ∃ (j : Nat) (A2 : Option Addr) (c2 : Nat), j ≤ t.tok.length ∧ z = .int .i64 (j : Int) ∧ Hid (wr.ownsRow wq.heap.size 3 1 (.slice A2 j c2) j (((t.tok.take j).map (· + 1)).map iV)) ∧ Hid (Blk wr gu 34 #[.int .i64 t.rc, .int .i64 t.rb, .int .i64 (t.nb : Int), .bool t.fr, .slice A1 t.L.length c1, .slice A2 j c2, .int .i64 t.us]) ∧ Hid (Touch (fun k => k = gu) wq wr)) (fun z _ => t.tok.length - (intOf z).toNat)
      case atStart => exact ⟨0, none, 0, Nat.zero_le _, rfl, Lib.hid (World.ownsRow_nil _ _ _ _), HU0, Lib.hid (Touch.ofBelow (Below.refl _ _))⟩
      case round =>
        obtain ⟨j, A2, c2, hj, rfl, HO, HU, HTO⟩ := hrel
        have HK2 : Hid (Blk wr w.heap.size 34 #[.int .i64 t.rc, .int .i64 t.rb, .int .i64 (t.nb : Int), .bool t.fr, .slice t.A t.L.length t.c, .slice t.tA t.tok.length t.tc, .int .i64 t.us]) := Lib.hid ((HTO.out.block _ HKr.out.lt (by have := HGU.out; omega)).trans HKr.out)
        have HM2 : Hid (TrN F2 wr t) := Lib.hid (HMr.out.touch ⟨HTO.out.os, HTO.out.tape, HTO.out.output, HTO.out.size, fun k hk hn => HTO.out.block k hk fun q => hn (by rw [q]; exact HFU.out)⟩)
        by_cases hlt : j < t.tok.length
        · have hsn := take_mapT (· + 1) t.tok j hlt
          obtain ⟨bt, ot, htA, hct⟩ := tok_at HM2.out j hlt
          have hv1 := HQ.out _ (List.getElem_mem hlt)
          have hv0 := HOK.out.t0 (t.tok[j]'hlt) (List.getElem_mem hlt)
          obtain ⟨v, hv⟩ : ∃ v, t.tok[j]'hlt = v := ⟨_, rfl⟩
          rw [hv] at hsn hct hv1 hv0
          have HSN := Lib.hid hsn
          have hwr : IntKind.i64.wrap (v + 1) = v + 1 := by rw [IntKind.wrap_i64]; omega
          have t5 : wr.cell? ⟨w.heap.size, 5, none⟩ = some (.slice (some ⟨bt, ot, none⟩) t.tok.length t.tc) := by rw [← htA]; exact HK2.out.cell 5
          have lt5 := later_cell t5
          have lv := later_cell hct
          have lu5 := later_blk_cell HU.out 5 _ rfl
          have hji : (0 : Int) ≤ (j : Int) := by omega
          have hji2 : (j : Int) < (t.tok.length : Int) := by omega
          clear hsn hct hv
          go_upto_region 11 with fail
          have HTA := Lib.hid htA
          have HLV := Lib.hid lv
          clear lt5 lv lu5 t5 htA
          refine RelyJ.wp_region_byJ [[], [(0, 38)], [], [(2, 40)], [], [(3, 41), (4, 42)], [(5, 43)], [(6, 44)], [(7, 45)], [(1, 39), (8, 46)], [], [(9, 47), (10, 48)]] [(0, 38), (1, 39), (2, 40), (3, 41), (4, 42), (5, 43), (6, 44), (7, 45), (8, 46), (9, 47), (10, 48)] (JF wr (VF gu w.heap.size (.slice A2 j c2) (.slice (some ⟨bt, ot, none⟩) t.tok.length t.tc) bt (ot + j) j v) v (fun u w5 => ∃ A5 c5, u = .slice A5 (j + 1) c5 ∧ w5.ownsRow wq.heap.size 3 1 (.slice A5 (j + 1) c5) (j + 1) (((t.tok.take (j + 1)).map (· + 1)).map iV) ∧ Blk w5 gu 34 #[.int .i64 t.rc, .int .i64 t.rb, .int .i64 (t.nb : Int), .bool t.fr, .slice A1 t.L.length c1, .slice A2 j c2, .int .i64 t.us] ∧ Touch (fun k => k = gu) wq w5) (fun _ w5 => ∃ A5 c5, w5.ownsRow wq.heap.size 3 1 (.slice A5 (j + 1) c5) (j + 1) (((t.tok.take (j + 1)).map (· + 1)).map iV) ∧ Blk w5 gu 34 #[.int .i64 t.rc, .int .i64 t.rb, .int .i64 (t.nb : Int), .bool t.fr, .slice A1 t.L.length c1, .slice A5 (j + 1) c5, .int .i64 t.us] ∧ Touch (fun k => k = gu) wq w5)) (by kernel_rfl) (by kernel_rfl) (by kernel_rfl) (by kernel_rfl) (by kernel_rfl) ?_ ?_ ?_
          · exact fun vs => ⟨fun k hk => (by cases hk), fun k hk => (by cases hk), fun _ => ⟨(Below.refl _ _).drew, fun hk => (by cases hk)⟩, fun hk => (by cases hk), fun hk => (by cases hk)⟩
          refine RelyJ.stepsZ_cons (by
              as_aux_lemma =>
              intro S vs w' hS hA hJ
              rw [if_pos (show Region.wanted _ _ = true from rfl)]
              refine RelyJ.gives_mono (R' := fun u w'' => u = .pointer (some ⟨gu, 5, none⟩) ∧ w'' = w') ?_ (by rintro u w2 ⟨rfl, rfl⟩; exact hJ.quiet 0 (by decide) (fun m hm => by simp [depF] at hm) _ rfl)
              clear hJ hA hS
              unfold Rely.gives
              simp only [Rely.sel, List.foldl_cons, List.foldl_nil]
              go_simp
              simp [Rely.GivesR]) ?_
          refine RelyJ.stepsZ_cons (by
              as_aux_lemma =>
              intro S vs w' hS hA hJ
              rw [if_pos (show Region.wanted _ _ = true from rfl)]
              refine RelyJ.gives_mono (R' := fun u w'' => u = .slice A2 j c2 ∧ w'' = w') ?_ (by rintro u w2 ⟨rfl, rfl⟩; exact hJ.quiet 1 (by decide) (fun m hm => by simp [depF] at hm; subst hm; exact hA ⟨0, Ground.data⟩ (by simp) rfl) _ rfl)
              have hx0 := hJ.vals 0 (hA ⟨0, Ground.data⟩ (by simp) rfl)
              simp only [VF] at hx0
              have hbw := (hJ.early 1 (by decide) hS).2
              have l5 : w'.cell? ⟨gu, 5, none⟩ = some (.slice A2 j c2) := (HU.out.below hbw HU.out.lt).cell 5
              clear hbw
              clear hJ hA hS
              unfold Rely.gives
              simp only [Rely.sel, List.foldl_cons, List.foldl_nil, hx0]
              go_simp
              simp [Rely.GivesR]) ?_
          refine RelyJ.stepsZ_cons (by
              as_aux_lemma =>
              intro S vs w' hS hA hJ
              rw [if_pos (show Region.wanted _ _ = true from rfl)]
              refine RelyJ.gives_mono (R' := fun u w'' => u = .pointer (some ⟨w.heap.size, 5, none⟩) ∧ w'' = w') ?_ (by rintro u w2 ⟨rfl, rfl⟩; exact hJ.quiet 2 (by decide) (fun m hm => by simp [depF] at hm) _ rfl)
              clear hJ hA hS
              unfold Rely.gives
              simp only [Rely.sel, List.foldl_cons, List.foldl_nil]
              go_simp
              simp [Rely.GivesR]) ?_
          refine RelyJ.stepsZ_cons (by
              as_aux_lemma =>
              intro S vs w' hS hA hJ
              rw [if_pos (show Region.wanted _ _ = true from rfl)]
              refine RelyJ.gives_mono (R' := fun u w'' => u = .slice (some ⟨bt, ot, none⟩) t.tok.length t.tc ∧ w'' = w') ?_ (by rintro u w2 ⟨rfl, rfl⟩; exact hJ.quiet 3 (by decide) (fun m hm => by simp [depF] at hm; subst hm; exact hA ⟨2, Ground.data⟩ (by simp) rfl) _ rfl)
              have hx2 := hJ.vals 2 (hA ⟨2, Ground.data⟩ (by simp) rfl)
              simp only [VF] at hx2
              have hbw := (hJ.early 3 (by decide) hS).2
              have l5 : w'.cell? ⟨w.heap.size, 5, none⟩ = some (.slice (some ⟨bt, ot, none⟩) t.tok.length t.tc) := by rw [← HTA.out]; exact (HK2.out.below hbw HK2.out.lt).cell 5
              clear hbw
              clear hJ hA hS
              unfold Rely.gives
              simp only [Rely.sel, List.foldl_cons, List.foldl_nil, hx2]
              go_simp
              simp [Rely.GivesR]) ?_
          refine RelyJ.stepsZ_cons (by
              as_aux_lemma =>
              intro S vs w' hS hA hJ
              rw [if_pos (show Region.wanted _ _ = true from rfl)]
              refine RelyJ.gives_mono (R' := fun u w'' => u = .int .i64 (j : Int) ∧ w'' = w') ?_ (by rintro u w2 ⟨rfl, rfl⟩; exact hJ.quiet 4 (by decide) (fun m hm => by simp [depF] at hm) _ rfl)
              clear hJ hA hS
              unfold Rely.gives
              simp only [Rely.sel, List.foldl_cons, List.foldl_nil]
              go_simp
              simp [Rely.GivesR]) ?_
          refine RelyJ.stepsZ_cons (by
              as_aux_lemma =>
              intro S vs w' hS hA hJ
              rw [if_pos (show Region.wanted _ _ = true from rfl)]
              refine RelyJ.gives_mono (R' := fun u w'' => u = .pointer (some ⟨bt, ot + j, none⟩) ∧ w'' = w') ?_ (by rintro u w2 ⟨rfl, rfl⟩; exact hJ.quiet 5 (by decide) (fun m hm => by simp [depF] at hm; rcases hm with rfl | rfl; exact hA ⟨3, Ground.data⟩ (by simp) rfl; exact hA ⟨4, Ground.data⟩ (by simp) rfl) _ rfl)
              have hx3 := hJ.vals 3 (hA ⟨3, Ground.data⟩ (by simp) rfl)
              simp only [VF] at hx3
              have hx4 := hJ.vals 4 (hA ⟨4, Ground.data⟩ (by simp) rfl)
              simp only [VF] at hx4
              clear hJ hA hS
              unfold Rely.gives
              simp only [Rely.sel, List.foldl_cons, List.foldl_nil, hx3, hx4]
              go_simp
              simp [Rely.GivesR]) ?_
          refine RelyJ.stepsZ_cons (by
              as_aux_lemma =>
              intro S vs w' hS hA hJ
              rw [if_pos (show Region.wanted _ _ = true from rfl)]
              refine RelyJ.gives_mono (R' := fun u w'' => u = .int .i64 v ∧ w'' = w') ?_ (by rintro u w2 ⟨rfl, rfl⟩; exact hJ.quiet 6 (by decide) (fun m hm => by simp [depF] at hm; subst hm; exact hA ⟨5, Ground.data⟩ (by simp) rfl) _ rfl)
              have hx5 := hJ.vals 5 (hA ⟨5, Ground.data⟩ (by simp) rfl)
              simp only [VF] at hx5
              have hbw := (hJ.early 6 (by decide) hS).2
              have l6 : w'.cell? ⟨bt, ot + j, none⟩ = some (.int .i64 v) := HLV.out ⟨w', hbw⟩
              clear hbw
              clear hJ hA hS
              unfold Rely.gives
              simp only [Rely.sel, List.foldl_cons, List.foldl_nil, hx5]
              go_simp
              simp [Rely.GivesR]) ?_
          refine RelyJ.stepsZ_cons (by
              as_aux_lemma =>
              intro S vs w' hS hA hJ
              rw [if_pos (show Region.wanted _ _ = true from rfl)]
              refine RelyJ.gives_mono (R' := fun u w'' => u = .int .i64 (v + 1) ∧ w'' = w') ?_ (by rintro u w2 ⟨rfl, rfl⟩; exact hJ.quiet 7 (by decide) (fun m hm => by simp [depF] at hm; subst hm; exact hA ⟨6, Ground.data⟩ (by simp) rfl) _ rfl)
              have hx6 := hJ.vals 6 (hA ⟨6, Ground.data⟩ (by simp) rfl)
              simp only [VF] at hx6
              clear hJ hA hS
              unfold Rely.gives
              simp only [Rely.sel, List.foldl_cons, List.foldl_nil, hx6]
              go_simp
              simp [Rely.GivesR]) ?_
          refine RelyJ.stepsZ_cons (by
              as_aux_lemma =>
              intro S vs w' hS hA hJ
              rw [if_pos (show Region.wanted _ _ = true from rfl)]
              refine RelyJ.gives_mono (R' := fun u w'' => u = .slice (some ⟨w'.heap.size, 0, none⟩) 1 1 ∧ w'' = w'.alloc (.cells #[.int .i64 (v + 1)] 3)) ?_ (by rintro u w2 ⟨rfl, rfl⟩; exact hJ.made hS (hA ⟨7, Ground.data⟩ (by simp) rfl) _ _ rfl (by simpa [iV] using int_row w' (v + 1)) ((Below.refl _ _).alloc (Nat.le_refl _) _) trivial)
              have hx7 := hJ.vals 7 (hA ⟨7, Ground.data⟩ (by simp) rfl)
              simp only [VF] at hx7
              clear hJ hA hS
              unfold Rely.gives
              simp only [Rely.sel, List.foldl_cons, List.foldl_nil, hx7]
              go_simp
              simp [Rely.GivesR]) ?_
          refine RelyJ.stepsZ_cons (by
              as_aux_lemma =>
              intro S vs w' hS hA hJ
              rw [if_pos (show Region.wanted _ _ = true from rfl)]
              have hx1 := hJ.vals 1 (hA ⟨1, Ground.data⟩ (by simp) rfl)
              simp only [VF] at hx1
              obtain ⟨hbw, hx8⟩ := hJ.pre hS
              obtain ⟨g, hx8, hrw⟩ := hx8 (hA ⟨8, Ground.data⟩ (by simp) rfl)
              have hown6 := own_later HO.out hbw
              refine gives_appI (.tmp 39) (.tmp 46) 32 rfl wq.heap.size 3 k0 _ 8 Tryz.underlying32 hk0 hy0 hy1 hy2 rfl (.slice A2 j c2) j (((t.tok.take j).map (· + 1)).map iV) (by simp only [Rely.sel, List.foldl_cons, List.foldl_nil, hx1]; rfl) hown6 w'.heap.size (some ⟨g, 0, none⟩) 1 1 ([v + 1].map iV) (by simp only [Rely.sel, List.foldl_cons, List.foldl_nil, hx8]; rfl) rfl (by simpa [iV] using hrw) (iV_one _) (by unfold maxLen; omega) (by omega) (Nat.le_trans HTO.out.size hbw.size) ?_
              intro u w5 hown hgr
              refine hJ.app hS ⟨hA ⟨1, Ground.data⟩ (by simp) rfl, hA ⟨8, Ground.data⟩ (by simp) rfl⟩ _ ?_ trivial
              obtain ⟨A5, c5, rfl, _, _⟩ := ownShape hown
              have hgz : gu < wq.heap.size := by have := HGU.out; have := HZr.out; omega
              have hu6 := HU.out.below hbw HU.out.lt
              exact ⟨A5, c5, rfl, by rw [HSN.out, List.map_append]; simpa [List.map_take] using hown, (hgr.block gu hu6.lt (fun e => by have := (hown6.lt gu e.symm).1; omega)).trans hu6, touch_grownT (touch_transV HTO.out (Touch.ofBelow hbw)) hgr fun g hg => Or.inl (hown6.lt g hg).1⟩) ?_
          refine RelyJ.stepsZ_cons (by
              as_aux_lemma =>
              intro S vs w' hS hA hJ
              rw [if_pos (show Region.wanted _ _ = true from rfl)]
              refine RelyJ.gives_mono (R' := fun u w'' => u = .pointer (some ⟨gu, 5, none⟩) ∧ w'' = w') ?_ (by rintro u w2 ⟨rfl, rfl⟩; exact hJ.quiet 10 (by decide) (fun m hm => by simp [depF] at hm; subst hm; exact hA ⟨9, Ground.phase⟩ (by simp) rfl) _ rfl)
              clear hJ hA hS
              unfold Rely.gives
              simp only [Rely.sel, List.foldl_cons, List.foldl_nil]
              go_simp
              simp [Rely.GivesR]) ?_
          refine RelyJ.stepsZ_cons (by
              as_aux_lemma =>
              intro S vs w' hS hA hJ
              rw [if_pos (show Region.wanted _ _ = true from rfl)]
              have hx10 := hJ.vals 10 (hA ⟨10, Ground.data⟩ (by simp) rfl)
              simp only [VF] at hx10
              obtain ⟨A5, c5, hx9, hown, hu5, hto⟩ := hJ.mid (hA ⟨9, Ground.data⟩ (by simp) rfl) hS
              have hgz : gu < wq.heap.size := by have := HGU.out; have := HZr.out; omega
              have z5 := hu5.frozen 5
              have d5 : w'.cell? ⟨gu, 5, none⟩ = some (.slice A2 j c2) := hu5.cell 5
              have hsg : w'.grownBy (w'.setCell ⟨gu, 5, none⟩ (.slice A5 (j + 1) c5)) (some gu) := grown_set _ _ _ _
              refine RelyJ.gives_mono (R' := fun u w'' => u = undef ∧ w'' = w'.setCell ⟨gu, 5, none⟩ (.slice A5 (j + 1) c5)) ?_ (by rintro u w2 ⟨rfl, rfl⟩; exact hJ.end_ ⟨hA ⟨9, Ground.data⟩ (by simp) rfl, hA ⟨10, Ground.data⟩ (by simp) rfl⟩ _ ⟨A5, c5, own_upT hown hsg hgz, hu5.set_ 5 (.slice A5 (j + 1) c5), touch_grownT hto hsg fun g hg => by cases hg; exact Or.inr rfl⟩ trivial)
              clear hJ hA hS hown hu5 hto hsg
              unfold Rely.gives
              simp only [Rely.sel, List.foldl_cons, List.foldl_nil, hx10, hx9]
              go_simp
              simp [Rely.GivesR]) ?_
          exact RelyJ.stepsZ_nil
          intro S vs w5 hS hJ
          obtain ⟨A5, c5, ho5, hu5, ht5⟩ := hJ.fin (hS 11 (by decide))
          have HO5 := Lib.hid ho5
          have HU5 := Lib.hid hu5
          have HT5 := Lib.hid ht5
          clear hS hJ ho5 hu5 ht5 HU HO HTO HK2 HM2
          simp only [Rely.sel, List.foldl_cons, List.foldl_nil]
          simp only [Act.put, List.setIfInBounds_toArray, List.set_cons_succ, List.set_cons_zero]
          go_wp2
          go_roundw
          case rel => exact ⟨j + 1, A5, c5, by omega, by go_num, HO5, HU5, HT5⟩
          case measure => simp [intOf]; omega
        · obtain rfl : j = t.tok.length := by omega
          have h5 : wr.cell? ⟨w.heap.size, 5, none⟩ = some (.slice t.tA t.tok.length t.tc) := HK2.out.cell 5
          have HR2 : Hid (Blk wr (w.heap.size + 1) 34 #[.int .i64 0, .int .i64 0, .int .i64 0, .bool false, .slice none 0 0, .slice none 0 0, .int .i64 0]) := Lib.hid ((HTO.out.block _ HRr.out.lt (by have := HGU.out; omega)).trans HRr.out)
          have HB2 : Hid (Below w.heap.size w wr) := Lib.hid (HBr.out.trans (HTO.out.below (B := w.heap.size) HBr.out.size fun k hk => by have := HGU.out; omega))
          have HRW2 : Hid (RowN F2 wr A1 (cellsC (t.L.map unV))) := Lib.hid (HRW.out.touch ⟨HTO.out.os, HTO.out.tape, HTO.out.output, HTO.out.size, fun k hk hn => HTO.out.block k hk fun q => hn (by rw [q]; exact HFU.out)⟩)
          have HRT2 : Hid (RowN F2 wr A2 ((t.tok.map (· + 1)).map iV)) := Lib.hid (by
            have := rowN_own (w := wq) (fun k hk => Nat.lt_of_lt_of_le (HFL2.out k hk) HZr.out) HO.out
            rwa [List.take_length] at this)
          clear HO HTO
          go_upto_region 12 with fail
          clear h5
          go_wp2_with (first | (refine wpList_load_row rfl 34 _ rfl _ rfl _ _ _ _ (show _ = _ from HU.out) Tryz.underlying34 rfl (by kernel_rfl) ?_) | (refine store_box rfl 34 _ _ rfl (w.heap.size + 1) 34 #[.int .i64 0, .int .i64 0, .int .i64 0, .bool false, .slice none 0 0, .slice none 0 0, .int .i64 0] #[.int .i64 t.rc, .int .i64 t.rb, .int .i64 (t.nb : Int), .bool t.fr, .slice A1 t.L.length c1, .slice A2 t.tok.length c2, .int .i64 t.us] HR2.out rfl rfl rfl (by kernel_rfl) (by kernel_rfl) ?_))
          intro wz hkz hgz
          have HKz := Lib.hid hkz
          have HBz : Hid (Below w.heap.size w wz) := Lib.hid (HB2.out.grown hgz HB2.out.size fun g hg => by cases hg; omega)
          have htb := touch_box hgz HFR2.out
          have HMz : Hid (TrN F2 wz ⟨t.rc, t.rb, t.nb, t.fr, t.L.map unV, A1, c1, t.tok.map (· + 1), A2, c2, t.us⟩) := Lib.hid ⟨⟨HRW2.out.touch htb, fun y hy => by
            obtain ⟨x, hx, rfl⟩ := List.mem_map.1 hy
            exact ((HM2.out.touch htb).val (x := x) hx)⟩, by simp only [List.length_map]; exact HCAP.out, HRT2.out.touch htb, by simp only [List.length_map]; exact HM2.out.ln, by simp only [List.length_map]; exact HM2.out.tl⟩
          clear hkz hgz htb
          go_wp2
          exact bodyPost_ret (v := .agg #[.int .i64 t.rc, .int .i64 t.rb, .int .i64 (t.nb : Int), .bool t.fr, .slice A1 t.L.length c1, .slice A2 t.tok.length c2, .int .i64 t.us]) (results_cell_row (p := 2) (ty := 34) Tryz.results32 _ _ (w.heap.size + 1) 34 #[.int .i64 t.rc, .int .i64 t.rb, .int .i64 (t.nb : Int), .bool t.fr, .slice A1 t.L.length c1, .slice A2 t.tok.length c2, .int .i64 t.us] (0, 0) _ rfl HKz.out Tryz.underlying34 rfl (by kernel_rfl)) rfl ⟨⟨t.rc, t.rb, t.nb, t.fr, t.L.map unV, A1, c1, t.tok.map (· + 1), A2, c2, t.us⟩, by simp only [List.length_map], forget_tr t A1 c1 A2 c2, HNR2.out _ _ HMz.out, HBz.out⟩
end Go.Proofs.YtpebhfjcakllmaaGreat
