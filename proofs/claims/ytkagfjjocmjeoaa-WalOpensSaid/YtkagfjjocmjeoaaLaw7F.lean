/- The law WalOpens, walked. -/
import Derived.Test.YtkagfjjocmjeoaaLaw7A
import Derived.Test.YtkagfjjocmjeoaaSame7
namespace Go.Proofs.Ytkagfjjocmjeoaa
open Go.RowKit Mem Be Word Frm
set_option maxRecDepth 100000
set_option maxHeartbeats 4000000
set_option linter.unusedVariables false
set_option linter.unusedSimpArgs false
theorem opens7_walk (A AT : Option Addr) (bs ts : List UInt8) (n c m d : Nat) (hn : n = bs.length) (hm : m = ts.length) (hnl : n ≤ 140737488355328) (hml : m ≤ 140737488355328) (w : World) (hx : Row w w.heap.size A (bs.map byteV)) (hy : Row w w.heap.size AT (ts.map byteV)) :
    Calls Try.prog 4 #[.slice A n c, .slice AT m d] w (IsT true w) := by
  subst hn; subst hm
  obtain ⟨i0, hi0, hz0, hz1, hz2⟩ := info_parts info_b
  have HX0 := Lib.hid hx
  have HY0 := Lib.hid hy
  have hni : (bs.length : Int) ≤ 140737488355328 := by omega
  have hmi : (ts.length : Int) ≤ 140737488355328 := by omega
  clear hx hy
  go_enter Try.func4, Try.ntmps4
  by_cases hbig : 1500 < bs.length + ts.length
  · have hbi : (1500 : Int) < (bs.length : Int) + (ts.length : Int) := by omega
    go_wp2_with fail
    refine (known7_any _).mono ?_
    rintro e w1 ⟨rfl, hb⟩
    have HB := Lib.hid hb
    clear hb
    go_wp2
    go_ret
    exact ⟨rfl, HB.out⟩
  have hbi : ¬ (1500 : Int) < (bs.length : Int) + (ts.length : Int) := by omega
  have HSM : Hid (bs.length + ts.length ≤ 1500) := Lib.hid (by omega)
  clear hbig hnl hml
  go_wp2_with fail
  refine (of_any bs.length w.heap.size c bs A rfl (by have := HSM.out; omega) w HX0.out (Nat.le_refl _)).mono ?_
  rintro e w1 ⟨y, FY, rfl, hfy, hdy, hb1⟩
  simp only
  have hif : ¬ 4194304 < bs.length + ([] : List UInt8).length + ts.length := by have := HSM.out; simp; omega
  have hap := append_one w1.heap.size FY y 0 bs [] AT ts d w1 rfl hdy (RowN.of_low (B := w.heap.size) (HY0.out.below hb1) hb1.size hfy) (by have := HSM.out; unfold maxLen; omega)
  rw [if_neg hif] at hap
  simp only [List.nil_append] at hap
  have HAP := Lib.hid hap
  have HB1 := Lib.hid hb1
  have HFY := Lib.hid hfy
  clear hif hap hb1 hfy hdy
  go_wp2_with fail
  refine HAP.out.mono ?_
  rintro e w2 ⟨rfl, F2, hf2, hd2, ht2⟩
  simp only
  have HB2 : Hid (Below w.heap.size w w2) := Lib.hid (HB1.out.trans (ht2.below HB1.out.size HFY.out))
  have HD2 := Lib.hid hd2
  have hop := open_any F2 y 0 bs ts w2 hd2
  obtain ⟨X, hX⟩ : ∃ X, bs ++ ts = X := ⟨_, rfl⟩
  rw [hX] at hop
  have HOP := Lib.hid hop
  have HX := Lib.hid hX
  have hXl : X.length ≤ 1500 := by rw [← hX, List.length_append]; exact HSM.out
  clear hf2 hd2 ht2 hop HAP HFY HB1 hX
  go_wp2_with fail
  refine HOP.out.mono ?_
  rintro e w3 ⟨g, FG, rfl, hfg, hlg, hb3⟩
  simp only
  have HB3 : Hid (Below w.heap.size w w3) := Lib.hid (HB2.out.trans (hb3.mono HB2.out.size))
  have HD3 := Lib.hid (HD2.out.below hb3)
  have HLG := Lib.hid hlg
  have HXA := Lib.hid ((HX0.out.below HB3.out).more HB3.out.size)
  clear hfg hlg hb3 HOP HB2 HD2
  go_wp2_with (at_builtin; refine wpList_app _ rfl _ _ 27 rfl w3.heap.size 5 i0 (.int .u8 0) 1 Try.underlying27 hi0 hz0 hz1 hz2 rfl (.slice none 0 0) 0 [] rfl (World.ownsRow_nil _ _ _ _) w3.heap.size A bs.length c (bs.map byteV) rfl (by simp) HXA.out (byte_one _) (by have := HSM.out; unfold maxLen; omega) (by have := HSM.out; omega) (Nat.le_refl _) ?_)
  intro v' w4 hown hgr _
  have HB4 : Hid (Below w3.heap.size w3 w4) := Lib.hid ((Below.refl _ _).grown hgr (Nat.le_refl _) (fun g hg => by simp [Value.ownBlock] at hg))
  obtain ⟨A4, c4, hv, ho4, _⟩ := made_of (bs := bs) hown (by simp) HB4.out
  injection hv with hv
  subst hv
  have HO4 := Lib.hid ho4
  have HYA := Lib.hid ((HY0.out.below (HB3.out.trans (HB4.out.mono HB3.out.size))).more (HB3.out.trans (HB4.out.mono HB3.out.size)).size)
  clear hown hgr ho4
  go_wp2_with (at_builtin; refine wpList_app _ rfl _ _ 27 rfl w3.heap.size 5 i0 (.int .u8 0) 1 Try.underlying27 hi0 hz0 hz1 hz2 rfl _ bs.length _ rfl HO4.out w4.heap.size AT ts.length d (ts.map byteV) rfl (by simp) HYA.out (byte_one _) (by have := HSM.out; unfold maxLen; omega) (by have := HSM.out; omega) HB4.out.size ?_)
  intro v' w5 hown hgr _
  have HB5 : Hid (Below w3.heap.size w3 w5) := Lib.hid (HB4.out.grown hgr HB4.out.size fun g hg => (HO4.out.lt g hg).1)
  obtain ⟨A5, c5, hv, ho5, _⟩ := made_of (bs := X) hown (by rw [← HX.out, List.map_append]) HB5.out
  injection hv with hv
  subst hv
  have HO5 := Lib.hid ho5
  have HC5 := Lib.hid (own_cap ho5).1
  have HRO := Lib.hid (refopen_any X.length c5 A5 X rfl HC5.out (by omega) w5 (Row.of_own ho5))
  clear hown hgr ho5 HO4 HXA HYA HB4
  go_wp2_with fail
  refine HRO.out.mono ?_
  rintro e w6 ⟨AL, cL, vs, R, cR, hvs, rfl, hoL, hoR, hrR, hb6⟩
  have hlg0 := HLG.out
  have hag := scan_again X
  have hss := scan_short X
  obtain ⟨s, hs⟩ : ∃ s, (scanS X).2.1 = s := ⟨_, rfl⟩
  obtain ⟨rs, hrs⟩ : ∃ rs, (scanS X).1 = rs := ⟨_, rfl⟩
  have hat := scan_at X
  rw [hs] at hoL hag hat ⊢
  rw [hrs] at hvs hlg0 hag hss
  have hvl : vs.length = rs.length := by rw [← hvs, List.length_map]
  have hsl : (X.take s).length = s := by rw [List.length_take]; omega
  have hsc : scanS (X.take s) = (rs, s, 0) := by rw [← hag, scan_all rs hss, hag, hsl]
  have hcap : vs.length ≤ cR := by
    obtain ⟨A', c', he, h2, _⟩ := ownShape hoR
    injection he with _ _ he
    omega
  rw [hvl] at hcap ⊢
  simp only
  obtain ⟨wa, hwa⟩ : ∃ wa, w6.alloc (.cells #[.slice AL s cL, .slice none 0 0, .int .i64 0, .slice R rs.length cR, .int .i64 (rs.length : Int)] 32) = wa := ⟨_, rfl⟩
  have hba : Below w6.heap.size w6 wa := by rw [← hwa]; exact (Below.refl _ _).alloc (Nat.le_refl _) _
  have hblk : Blk wa w6.heap.size 32 #[.slice AL s cL, .slice none 0 0, .int .i64 0, .slice R rs.length cR, .int .i64 (rs.length : Int)] := by rw [← hwa]; exact Blk.new _ _ _
  obtain ⟨b, hbb⟩ : ∃ b, w6.heap.size = b := ⟨_, rfl⟩
  rw [hbb] at hblk
  have HBK := Lib.hid hblk
  have hb6a : Below w5.heap.size w5 wa := hb6.trans (hba.mono hb6.size)
  have HBA : Hid (Below w3.heap.size w3 wa) := Lib.hid (HB5.out.trans (hb6a.mono HB5.out.size))
  have HRL : Hid (∀ W, Below wa.heap.size wa W → Row W W.heap.size AL ((X.take s).map byteV)) := Lib.hid fun W hb => by
    have h1 := hba.trans (hb.mono hba.size)
    exact ((Row.of_own hoL).below h1).more h1.size
  have HIR : Hid (∀ W, Below wa.heap.size wa W → InRs W R vs) := Lib.hid fun W hb => (inRs_of hoR hrR).later (hba.trans (hb.mono hba.size))
  have HLGA : Hid (∀ W, Below wa.heap.size wa W → LgAt W FG g rs rs.length 0) := Lib.hid fun W hb => (hlg0.below HBA.out).below hb
  have HTK : Hid (allB (rs.take rs.length) = X.take s ∧ allB (rs.drop rs.length) = []) := Lib.hid ⟨by rw [List.take_length]; exact hag, by rw [List.drop_length]; rfl⟩
  have HS7 : Hid (∀ W g' F', Below wa.heap.size wa W → LgAt W F' g' rs rs.length 0 → Calls Try.prog 15 #[.pointer (some ⟨g', 0, none⟩), .agg #[.slice AL s cL, .slice none 0 0, .int .i64 0, .slice R rs.length cR, .int .i64 (rs.length : Int)]] W (IsT true W)) := Lib.hid fun W g' F' hb hl =>
    same7_any F' g' rs.length 0 s 0 rs.length cL 0 cR rs (X.take s) [] vs AL none R 0 HTK.out.1 HTK.out.2 hsl.symm rfl rfl hcap hvs W hl (HRL.out W hb) (Row.nil _ _ _) (HIR.out W hb)
  have HO5A := Lib.hid (own_later HO5.out hb6a)
  have HD5A := Lib.hid (HD3.out.below HBA.out)
  have HSC := Lib.hid (And.intro hsc hsl)
  have HWA := Lib.hid hwa
  have HBB := Lib.hid hbb
  clear hlg0 hag hss hvs hoL hoR hrR hb6 hs hrs hat hvl hsl hsc hcap hwa hba hblk hbb hb6a HRO HLG HO5 HD3 HB5
  go_wp2_with fail
  rw [HWA.out]
  rw [HBB.out]
  refine (HS7.out wa g FG (Below.refl _ _) (HLGA.out wa (Below.refl _ _))).mono ?_
  rintro e w7 ⟨rfl, hb7⟩
  have HB7 := Lib.hid hb7
  have hdk := disk7_any FG g rs.length 0 rs w7 (HLGA.out w7 hb7)
  rw [HTK.out.1, HTK.out.2] at hdk
  have HDK := Lib.hid hdk
  clear hb7 hdk
  go_wp2_with fail
  refine HDK.out.mono ?_
  rintro e w8 ⟨yd, FD, rfl, hfd, hdd, hb8⟩
  have HB8 : Hid (Below wa.heap.size wa w8) := Lib.hid (HB7.out.trans (hb8.mono HB7.out.size))
  simp only [id]
  have hop := open_any FD yd 0 (X.take s) [] w8 hdd
  unfold OpenP at hop
  rw [List.append_nil, HSC.out.1] at hop
  simp only at hop
  rw [HSC.out.2, show ((s : Int) - (s : Int)) = 0 by omega] at hop
  have HOP := Lib.hid hop
  clear hfd hdd hb8 hop HDK HB7
  go_wp2_with fail
  refine HOP.out.mono ?_
  rintro e w9 ⟨g2, F9, rfl, hf9, hl9, hb9⟩
  have HB9 : Hid (Below wa.heap.size wa w9) := Lib.hid (HB8.out.trans (hb9.mono HB8.out.size))
  simp only
  have HT : Hid (∀ W, Below w9.heap.size w9 W → W.cell? ⟨b, 0, none⟩ = some (.slice AL s cL) ∧ W.cell? ⟨b, 1, none⟩ = some (.slice none 0 0) ∧ W.cell? ⟨b, 2, none⟩ = some (.int .i64 0) ∧ W.cell? ⟨b, 3, none⟩ = some (.slice R rs.length cR) ∧ W.cell? ⟨b, 4, none⟩ = some (.int .i64 (rs.length : Int))) := Lib.hid fun W hb => by
    have hbk := HBK.out.below (HB9.out.trans (hb.mono HB9.out.size)) HBK.out.lt
    exact ⟨hbk.cell 0, hbk.cell 1, hbk.cell 2, hbk.cell 3, hbk.cell 4⟩
  have HS9 := Lib.hid fun (W : World) (hb : Below w9.heap.size w9 W) => HS7.out W g2 F9 (HB9.out.trans (hb.mono HB9.out.size)) (hl9.below hb)
  have HBY := Lib.hid fun (W : World) (hb : Below w9.heap.size w9 W) => bytes_any F2 y 0 bs ts W (HD5A.out.below (HB9.out.trans (hb.mono HB9.out.size)))
  rw [HX.out] at HBY
  have HSX : Hid (∀ W, Below w9.heap.size w9 W → ∀ (a : Option Addr) (c' : Nat), W.ownsRow 0 5 1 (.slice a X.length c') X.length (X.map byteV) → Calls Try.prog 21 #[.slice a X.length c', .slice A5 X.length c5] W fun e w' => e = .returned (.bool true) ∧ W = w') := Lib.hid fun W hb a c' ho =>
    same6_true W.heap.size W.heap.size c' c5 X.length X.length a A5 X W (Row.of_own ho) (Row.of_own (own_later HO5A.out (HB9.out.trans (hb.mono HB9.out.size)))) rfl rfl
  clear hf9 hl9 hb9 HOP HB8 HS7
  obtain ⟨t0, t1, t2, t3, t4⟩ := HT.out w9 (Below.refl _ _)
  go_wp2_with fail
  refine (HS9.out w9 (Below.refl _ _)).mono ?_
  rintro e wx ⟨rfl, hbx⟩
  have HBX := Lib.hid hbx
  clear hbx t0 t1 t2 t3 t4
  go_wp2_with fail
  refine (HBY.out wx HBX.out).mono ?_
  rintro e wy ⟨Ay, cy, rfl, hoy, hby⟩
  have HBW : Hid (Below w9.heap.size w9 wy) := Lib.hid (HBX.out.trans (hby.mono HBX.out.size))
  have HOY := Lib.hid (ownBase hoy (Nat.zero_le _))
  clear hoy hby
  go_wp2_with fail
  refine (HSX.out wy HBW.out Ay cy HOY.out).mono ?_
  rintro e wy2 ⟨rfl, rfl⟩
  go_wp2_with fail
  refine (known7_any _).mono ?_
  rintro e wz ⟨rfl, hbz⟩
  have HBZ : Hid (Below w.heap.size w wz) := Lib.hid (HB3.out.trans ((HBA.out.trans ((HB9.out.trans ((HBW.out.trans (hbz.mono HBW.out.size)).mono HB9.out.size)).mono HBA.out.size)).mono HB3.out.size))
  clear hbz
  go_wp2
  go_ret
  exact ⟨rfl, HBZ.out⟩
end Go.Proofs.Ytkagfjjocmjeoaa
