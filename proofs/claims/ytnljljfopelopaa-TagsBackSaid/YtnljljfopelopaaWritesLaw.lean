/- The laws TagsWrites and TagsReads, walked. -/
import Derived.Test.YtnljljfopelopaaValsLaw
namespace Go.Proofs.Ytnljljfopelopaa
open Go.RowKit Mem Be
set_option maxRecDepth 100000
set_option maxHeartbeats 8000000
/-- Both give the same bytes, or none, and the same error. -/
theorem bytes_both (key : ByteArray) (s u o : Int) (has : Bool) (A : Option Addr) (xs : List UInt8) (n c : Nat) (hn : n = xs.length) (hm : (n : Int) ≤ 1000000) (hk : (key.size : Int) ≤ 1000000) :
    ∃ (bs : List UInt8) (e : Int), bytesE (kb key) s u o has xs = (bs, e) ∧ bs.length ≤ 3000000 ∧ (∀ W, ValOk W has A xs c → Calls Try.prog 23 #[entV key s u o has A n c] W (Made2 W.heap.size bs e W)) ∧
      (∀ W, ValOk W has A xs c → Calls Try.prog 24 #[entV key s u o has A n c] W (Made2 W.heap.size bs e W)) := by
  have hkl := kb_len key
  rcases rightE_02 key.size n s u o has with hr | hr
  · refine ⟨entB (kb key) s u o has xs, 0, ?_, ?_, ?_, ?_⟩
    · unfold bytesE; rw [hkl, ← hn, hr]; rfl
    · have := entB_le (kb key) s u o has xs; omega
    · intro W hW; cases has
      · exact bytes_no key s u o A xs n c hn hr W hW
      · exact bytes_yes key s u o A xs n c hn hr W hW
    · intro W hW; cases has
      · exact refbytes_no key s u o A xs n c hn hr W hW
      · exact refbytes_yes key s u o A xs n c hn hr W hW
  · refine ⟨[], 2, ?_, by simp, ?_, ?_⟩
    · unfold bytesE; rw [hkl, ← hn, hr]; rfl
    · intro W _; exact bytes_err key s u o has A n c (by omega) (by omega) hr W
    · intro W _; exact refbytes_err key s u o has A n c (by omega) (by omega) hr W
theorem writes_walk (key : ByteArray) (s u o : Int) (has : Bool) (A : Option Addr) (xs : List UInt8) (n c : Nat) (hn : n = xs.length) (hc : n ≤ c) (w : World) (hr : Row w w.heap.size A (xs.map byteV)) :
    Calls Try.prog 5 #[entV key s u o has A n c] w fun e w' => e = .returned (.bool true) ∧ Below w.heap.size w w' := by
  have HB0 : Hid (Below w.heap.size w (w.alloc (entO key s u o has A n c))) := Lib.hid ((Below.refl _ _).alloc (Nat.le_refl _) _)
  have HK := Lib.hid (Blk.new w 43 #[.string key, .int .i64 s, .int .i64 u, .int .i64 o, .bool has, .slice A n c])
  cases hl : longE key.size n
  · obtain ⟨hk4, hn4⟩ := longE_no hl
    have HL := Lib.hid hl
    obtain ⟨bs, er, hbe, hbl, hb1, hb2⟩ := bytes_both key s u o has A xs n c hn (by omega) (by omega)
    have HV := Lib.hid ((⟨hr, by omega, by omega⟩ : ValOk w has A xs c).below HB0.out)
    have HB1 := Lib.hid hb1
    have HB2 := Lib.hid hb2
    obtain ⟨rr, hrr⟩ : ∃ r, rightE key.size n s u o has = r := ⟨_, rfl⟩
    have HRR := Lib.hid hrr
    have HN := Lib.hid hn
    have hki : (key.size : Int) ≤ 400 := by omega
    have hni : (n : Int) ≤ 1000 := by omega
    clear hl hbe hbl hb1 hb2 hrr hn hc hr hk4 hn4
    go_enter Try.func5, Try.ntmps5
    go_wp2_with fail
    refine (long_val _ _ _ _ _ _ _ _ _ HL _).mono ?_
    rintro e w1 ⟨rfl, hb⟩
    have HA1 : Hid (Below w.heap.size w w1) := Lib.hid (HB0.out.trans (hb.mono HB0.out.size))
    have HK1 := Lib.hid (HK.out.below hb HK.out.lt)
    have HV1 := Lib.hid (HV.out.below hb)
    have a0 : w1.cell? ⟨w.heap.size, 0, none⟩ = some (.string key) := HK1.out.cell 0
    have a1 : w1.cell? ⟨w.heap.size, 1, none⟩ = some (.int .i64 s) := HK1.out.cell 1
    have a2 : w1.cell? ⟨w.heap.size, 2, none⟩ = some (.int .i64 u) := HK1.out.cell 2
    have a3 : w1.cell? ⟨w.heap.size, 3, none⟩ = some (.int .i64 o) := HK1.out.cell 3
    have a4 : w1.cell? ⟨w.heap.size, 4, none⟩ = some (.bool has) := HK1.out.cell 4
    have a5 : w1.cell? ⟨w.heap.size, 5, none⟩ = some (.slice A n c) := HK1.out.cell 5
    clear hb
    go_wp2_with fail
    refine (HB1.out _ HV1.out).mono ?_
    rintro e w2 ⟨A2, c2, rfl, ho, hb⟩
    have HA2 : Hid (Below w.heap.size w w2) := Lib.hid (HA1.out.trans (hb.mono HA1.out.size))
    have HK2 := Lib.hid (HK1.out.below hb HK1.out.lt)
    have HV2 := Lib.hid (HV1.out.below hb)
    have HR2 := Lib.hid (Row.of_own ho)
    have b0 : w2.cell? ⟨w.heap.size, 0, none⟩ = some (.string key) := HK2.out.cell 0
    have b1 : w2.cell? ⟨w.heap.size, 1, none⟩ = some (.int .i64 s) := HK2.out.cell 1
    have b2 : w2.cell? ⟨w.heap.size, 2, none⟩ = some (.int .i64 u) := HK2.out.cell 2
    have b3 : w2.cell? ⟨w.heap.size, 3, none⟩ = some (.int .i64 o) := HK2.out.cell 3
    have b4 : w2.cell? ⟨w.heap.size, 4, none⟩ = some (.bool has) := HK2.out.cell 4
    have b5 : w2.cell? ⟨w.heap.size, 5, none⟩ = some (.slice A n c) := HK2.out.cell 5
    clear hb ho a0 a1 a2 a3 a4 a5
    go_wp2_with fail
    refine (HB2.out _ HV2.out).mono ?_
    rintro e w3 ⟨A3, c3, rfl, ho, hb⟩
    have HA3 : Hid (Below w.heap.size w w3) := Lib.hid (HA2.out.trans (hb.mono HA2.out.size))
    have HK3 := HK2.out.below hb HK2.out.lt
    have HR3 := Lib.hid (HR2.out.below hb)
    have HR4 := Lib.hid (Row.of_own ho)
    have HS3 := Lib.hid hb.size
    obtain ⟨p0, p1, p2, p3, p4, p5⟩ := later_ent HK3
    clear hb ho b0 b1 b2 b3 b4 b5 HK3
    go_wp2_with fail
    refine wp_region_later (by kernel_rfl) (by kernel_rfl) ?_
    repeat (go_big_quiet_step (first
      | (go_at_call 25; exact later_same (same_val _ _ _ _ _ _ _ _ bs bs true (by simp) _ (HR3.out.below ((Later.bel _).mono HS3.out)) (HR4.out.below (Later.bel _)) rfl rfl))
      | (go_at_call 26; exact later_isI HRR (right_any _ _ _ _ _ _ _ _ (by omega) (by omega) _))
      | (go_at_call 27; exact later_isI HRR (refright_any _ _ _ _ _ _ _ _ (by omega) (by omega) _))
      | (go_at_call 28; exact later_of (size_any _ _ _ _ _ _ _ _ (by omega) (by omega) _))
      | (go_at_call 19; exact later_of (known_any _))))
    refine wpQuiet_nil ?_
    intro w' hw'
    obtain ⟨p, rfl⟩ := hw'
    go_wp2
    go_ret
    exact ⟨rfl, HA3.out.trans (p.bel.mono HA3.out.size)⟩
  · have HL := Lib.hid hl
    clear hl hn hc hr
    go_enter Try.func5, Try.ntmps5
    go_wp2_with fail
    refine (long_val _ _ _ _ _ _ _ _ _ HL _).mono ?_
    rintro e w1 ⟨rfl, hb⟩
    have HA1 : Hid (Below w.heap.size w w1) := Lib.hid (HB0.out.trans (hb.mono HB0.out.size))
    clear hb
    go_wp2_with (go_at_call 19; refine (known_any _).mono ?_; rintro e w2 ⟨rfl, hb⟩; have HA2 := Lib.hid (HA1.out.trans (hb.mono HA1.out.size)); clear hb)
    go_ret
    exact ⟨rfl, HA2.out⟩
end Go.Proofs.Ytnljljfopelopaa
