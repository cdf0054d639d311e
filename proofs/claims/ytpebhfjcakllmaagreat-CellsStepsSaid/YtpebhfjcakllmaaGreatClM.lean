/- ClM: Package cells: makeRoom. -/
import Derived.Test.YtpebhfjcakllmaaGreatClP
namespace Go.Proofs.YtpebhfjcakllmaaGreat
open Go.RowKit Mem Be Word Rg Go.Maps
set_option maxRecDepth 10000
set_option maxHeartbeats 1000000
set_option linter.unusedVariables false
def RoomC (F : Nat → Prop) (g b tk : Nat) (r : Cl × Int) (w : World) (e : Ending) (w' : World) : Prop := e = .returned (.int .i64 r.2) ∧ ClAt w' F g b tk r.1 ∧ Touch (Own3 g b tk) w w'
theorem evs_trans {k : List UInt8} {S R T : Cl} (h : Evs k S R) : Evs k R T → Evs k S T := by
  induction h with
  | refl S => exact id
  | step hx hc hk h ih => exact fun h2 => .step hx hc hk (ih h2)
/-- Where the making of room stands. -/
structure RoomI (F : Nat → Prop) (g b tk : Nat) (S : Cl) (e : EntP) (w : World) (gk : Nat) (R : Cl) (wr : World) : Prop where
  is : roomF gk R e = roomS S e
  lt : R.T.length < gk
  ev : Evs e.k S R
  at_ : ClAt wr F g b tk R
  tou : Touch (Own3 g b tk) w wr
theorem later_isB2 {P : Program} {f : FuncId} {args : Array Value} {w : World} {p : Later w} {b b' : Bool} (e : Hid (b' = b)) (h : Calls P f args p.world (IsB b' p.world)) : Calls P f args p.world fun e w'' => e = .returned (.bool b) ∧ ∃ q : Later w, w'' = q.world := by
  rw [e.out] at h
  exact later_of h
theorem laterL {P : Program} {f : FuncId} {args : Array Value} {w : World} {p : Later w} {a m : Nat} (h : Calls P f args p.world (IsL a m p.world)) : Calls P f args p.world fun e w'' => e = .returned (.agg #[.int .i64 (a : Int), .int .i64 (m : Int)]) ∧ ∃ q : Later w, w'' = q.world := later_of h
theorem del_lens {S : Cl} (ok : OkC S) (k : List UInt8) : (sumC (delK kP k S.T)) ≤ 4194304 := by
  have h3 := del_le k S.T
  have h6 := ok.sum
  have h7 := ok.rb
  omega
theorem makeRoom_any {F : Nat → Prop} {g b tk : Nat} {S : Cl} (ok : OkC S) (e : EntP) (A : Option Addr) (ca : Nat) (he : okE e) (hM : ∀ t ∈ S.tok, t ≤ 4611686018427300000) (w : World) (h : ClAt w F g b tk S) :
    Calls Tryz.prog 45 #[.pointer (some ⟨g, 0, none⟩), entV ⟨e.k.toArray⟩ e.s e.u e.o e.has A e.v.length ca] w (RoomC F g b tk (roomS S e) w) := by
  obtain ⟨hs1, hs2, hs3, hs4⟩ := sizE_le he
  have HE := Lib.hid he
  have HOK := Lib.hid ok
  have HM := Lib.hid hM
  have HKL : Hid (e.k.length ≤ 250) := Lib.hid hs2
  have hal : ∀ ob, Below w.heap.size w (w.alloc ob) := fun ob => (Below.refl _ _).alloc (Nat.le_refl _) ob
  have HI : Hid (RoomI F g b tk S e w (S.T.length + 1) S (w.alloc (entO ⟨e.k.toArray⟩ e.s e.u e.o e.has A e.v.length ca))) := Lib.hid (by
    obtain ⟨V, c, h⟩ := h
    exact ⟨rfl, Nat.lt_succ_self _, .refl S, ⟨V, c, h.below (hal _)⟩, Touch.ofBelow (hal _)⟩)
  have HX : Hid (Blk (w.alloc (entO ⟨e.k.toArray⟩ e.s e.u e.o e.has A e.v.length ca)) w.heap.size 43 #[.string ⟨e.k.toArray⟩, .int .i64 e.s, .int .i64 e.u, .int .i64 e.o, .bool e.has, .slice A e.v.length ca]) := Lib.hid (Blk.new _ _ _)
  have HN3 : Hid (¬ Own3 g b tk w.heap.size) := Lib.hid fun hf => by
    obtain ⟨V, c, h⟩ := h
    rcases hf with hf | hf | hf
    · have := h.lt g h.fg; omega
    · have := h.lt b h.fb; omega
    · have := h.lt tk h.ft; omega
  clear h hs1 hs2 hs3 hs4 he ok hM hal
  go_enter Tryz.func45, Tryz.ntmps45
  go_wp2_with fail
  go_step3
  go_wp2_with fail
  go_step3
  go_wp2_with fail
  go_loopg [] (S.T.length + 1) (fun gk wr => ∃ R : Cl, Hid (RoomI F g b tk S e w gk R wr) ∧ Hid (Blk wr w.heap.size 43 #[.string ⟨e.k.toArray⟩, .int .i64 e.s, .int .i64 e.u, .int .i64 e.o, .bool e.has, .slice A e.v.length ca]))
  case atStart => exact ⟨S, HI, HX⟩
  case round =>
    obtain ⟨R, HR, HXR⟩ := hrel
    have HOR : Hid (OkC R) := Lib.hid (ok_evs HR.out.ev HOK.out)
    obtain ⟨V, c, hB⟩ := HR.out.at_
    have HBR := Lib.hid hB
    have hdl := del_lens HOR.out e.k
    have hsl := (stay_le HOR.out e.k).2
    have b0 := later_blk_cell HXR.out 0 _ rfl
    have b1 := later_blk_cell HXR.out 1 _ rfl
    have b2 := later_blk_cell HXR.out 2 _ rfl
    have b3 := later_blk_cell HXR.out 3 _ rfl
    have b4 := later_blk_cell HXR.out 4 _ rfl
    have b5 := later_blk_cell HXR.out 5 _ rfl
    have HOT : Hid (∀ p : Later wr, Calls Tryz.prog 66 #[.pointer (some ⟨g, 0, none⟩), .string ⟨e.k.toArray⟩] p.world (IsL (delK kP e.k R.T).length (sumC (delK kP e.k R.T)) p.world)) := Lib.hid fun p => others_any HOR.out e.k (by have := HKL.out; omega) p.world (hB.below p.bel)
    have HLV : Hid (∀ p : Later wr, Calls Tryz.prog 65 #[.pointer (some ⟨g, 0, none⟩), .agg #[.int .i64 ((delK kP e.k R.T).length : Int), .int .i64 (sumC (delK kP e.k R.T) : Int)], entV ⟨e.k.toArray⟩ e.s e.u e.o e.has A e.v.length ca] p.world (IsB (decide (fitsS R (delK kP e.k R.T) e)) p.world)) := Lib.hid fun p => leaves_any HOR.out _ _ e A ca HE.out hdl p.world (hB.below p.bel)
    clear hB hdl
    by_cases hf : fitsS R (delK kP e.k R.T) e
    · have HD : Hid (decide (fitsS R (delK kP e.k R.T) e) = true) := Lib.hid (decide_eq_true hf)
      have HRES : Hid (roomS S e = (R, 0)) := Lib.hid (by
        rw [← HR.out.is]
        have := HR.out.lt
        cases gk with
        | zero => omega
        | succ n => unfold roomF; rw [if_pos hf])
      clear hf hsl
      go_wp2_with fail
      refine wp_region_later (by kernel_rfl) (by kernel_rfl) ?_
      repeat (go_big_quiet_step (first | (go_at_call 66; with_reducible exact laterL (HOT.out _)) | (go_at_call 65; with_reducible exact later_isB2 HD (HLV.out _))))
      refine wpQuiet_nil ?_
      intro w' hw'
      obtain ⟨p, rfl⟩ := hw'
      go_wp2
      rw [Exit.noGoto_ret]
      go_ret
      rw [HRES.out]
      exact ⟨rfl, ⟨V, c, HBR.out.below p.bel⟩, HR.out.tou.thenBelow p.bel⟩
    · have HD : Hid (decide (fitsS R (delK kP e.k R.T) e) = false) := Lib.hid (decide_eq_false hf)
      have HNF := Lib.hid hf
      clear hf
      go_wp2_with fail
      refine wp_region_later (by kernel_rfl) (by kernel_rfl) ?_
      repeat (go_big_quiet_step (first | (go_at_call 66; with_reducible exact laterL (HOT.out _)) | (go_at_call 65; with_reducible exact later_isB2 HD (HLV.out _))))
      refine wpQuiet_nil ?_
      intro w' hw'
      obtain ⟨p, rfl⟩ := hw'
      have HB2 : Hid (Below wr.heap.size wr p.world) := Lib.hid p.bel
      obtain ⟨w2, hw2⟩ : ∃ w2, p.world = w2 := ⟨_, rfl⟩
      rw [hw2] at HB2 ⊢
      clear hw2 p b0 b1 b2 b3 b4 b5 HOT HLV HD
      have hB2 := HBR.out.below HB2.out
      have HX2 : Hid (Blk w2 w.heap.size 43 #[.string ⟨e.k.toArray⟩, .int .i64 e.s, .int .i64 e.u, .int .i64 e.o, .bool e.has, .slice A e.v.length ca]) := Lib.hid (HXR.out.below HB2.out HXR.out.lt)
      have b0 := later_blk_cell HX2.out 0 _ rfl
      have b1 := later_blk_cell HX2.out 1 _ rfl
      have b2 := later_blk_cell HX2.out 2 _ rfl
      have b3 := later_blk_cell HX2.out 3 _ rfl
      have b4 := later_blk_cell HX2.out 4 _ rfl
      have b5 := later_blk_cell HX2.out 5 _ rfl
      have HOT : Hid (∀ p : Later w2, Calls Tryz.prog 67 #[.pointer (some ⟨g, 0, none⟩), .string ⟨e.k.toArray⟩] p.world (IsL (stayC R.T e.k).length (sumC (stayC R.T e.k)) p.world)) := Lib.hid fun p => staying_any HOR.out e.k p.world (hB2.below p.bel)
      have HLV : Hid (∀ p : Later w2, Calls Tryz.prog 65 #[.pointer (some ⟨g, 0, none⟩), .agg #[.int .i64 ((stayC R.T e.k).length : Int), .int .i64 (sumC (stayC R.T e.k) : Int)], entV ⟨e.k.toArray⟩ e.s e.u e.o e.has A e.v.length ca] p.world (IsB (decide (fitsS R (stayC R.T e.k) e)) p.world)) := Lib.hid fun p => leaves_any HOR.out _ _ e A ca HE.out (by omega) p.world (hB2.below p.bel)
      clear hB2 hsl
      by_cases hf : fitsS R (stayC R.T e.k) e
      · have HD : Hid (decide (fitsS R (stayC R.T e.k) e) = true) := Lib.hid (decide_eq_true hf)
        have HFF := Lib.hid hf
        clear hf
        go_wp2_with fail
        refine wp_region_later (by kernel_rfl) (by kernel_rfl) ?_
        repeat (go_big_quiet_step (first | (go_at_call 67; with_reducible exact laterL (HOT.out _)) | (go_at_call 65; with_reducible exact later_isB2 HD (HLV.out _))))
        refine wpQuiet_nil ?_
        intro w' hw'
        obtain ⟨p, rfl⟩ := hw'
        have HB3 : Hid (Below w2.heap.size w2 p.world) := Lib.hid p.bel
        have q0 := b0 p
        obtain ⟨w3, hw3⟩ : ∃ w3, p.world = w3 := ⟨_, rfl⟩
        rw [hw3] at HB3 q0 ⊢
        clear hw3 p b0 b1 b2 b3 b4 b5 HOT HLV HD
        have HB4 : Hid (ClB w3 F g b tk R V c) := Lib.hid ((HBR.out.below HB2.out).below HB3.out)
        have HX3 : Hid (Blk w3 w.heap.size 43 #[.string ⟨e.k.toArray⟩, .int .i64 e.s, .int .i64 e.u, .int .i64 e.o, .bool e.has, .slice A e.v.length ca]) := Lib.hid (HX2.out.below HB3.out HX2.out.lt)
        have HT3 : Hid (Touch (Own3 g b tk) w w3) := Lib.hid ((HR.out.tou.thenBelow HB2.out).thenBelow HB3.out)
        go_wp2_with fail
        refine (oldest_any HOR.out e.k w3 HB4.out).mono ?_
        rintro e' w4 ⟨rfl, hb4⟩
        have HB5 : Hid (ClB w4 F g b tk R V c) := Lib.hid (HB4.out.below hb4)
        have HX4 : Hid (Blk w4 w.heap.size 43 #[.string ⟨e.k.toArray⟩, .int .i64 e.s, .int .i64 e.u, .int .i64 e.o, .bool e.has, .slice A e.v.length ca]) := Lib.hid (HX3.out.below hb4 HX3.out.lt)
        have HT4 : Hid (Touch (Own3 g b tk) w w4) := Lib.hid (HT3.out.thenBelow hb4)
        clear hb4
        have HOLD : Hid (∃ x ∈ R.T, x.cl = true ∧ x.e.k ≠ e.k ∧ oldK R.T e.k = x.e.k ∧ roomF (gk - 1) (goneS R x.e.k) e = roomS S e ∧ (goneS R x.e.k).T.length < gk - 1 ∧ gk - 1 < gk) := Lib.hid (by
          have hne : cleanC R.T e.k ≠ [] := fun h => HNF.out (by rw [← stay_all h]; exact HFF.out)
          obtain ⟨y, hy⟩ := List.exists_mem_of_ne_nil _ hne
          obtain ⟨y1, y2, y3⟩ := mem_clean.1 hy
          obtain ⟨x, hx⟩ := old_any y1 y2 y3
          obtain ⟨x1, x2, x3, _⟩ := old_some hx
          have hd := (del_cons HOR.out.srt x1).1
          have hlt := HR.out.lt
          refine ⟨x, x1, x3, x2, by unfold oldK; rw [hx], ?_, ?_, by omega⟩
          · rw [← HR.out.is]
            cases gk with
            | zero => omega
            | succ n =>
              rw [Nat.add_sub_cancel]
              conv => rhs; unfold roomF
              rw [if_neg HNF.out, if_pos HFF.out, hx]
          · show (delK kP x.e.k R.T).length < gk - 1
            omega)
        have HKK : Hid ((oldK R.T e.k).length ≤ 250 ∧ tokK R (oldK R.T e.k) ≤ 4611686018427387904) := Lib.hid (by
          obtain ⟨x, hx, _, _, hk, _⟩ := HOLD.out
          refine ⟨by rw [hk]; exact (sizE_le (HOR.out.ok x hx)).2.1, ?_⟩
          have h1 := (lim_evs HR.out.ev HOK.out.srt).2 _ HM.out _ (tokK_mem HOR.out (oldK R.T e.k))
          have h2 := HOK.out.len
          have h3 := HOK.out.rc
          omega)
        obtain ⟨k2, hk2⟩ : ∃ k2, oldK R.T e.k = k2 := ⟨_, rfl⟩
        rw [hk2] at HOLD HKK
        simp only [hk2]
        clear hk2
        go_wp2_with fail
        refine (evict_any HOR.out k2 (by have := HKK.out.1; omega) HKK.out.2 w4 HB5.out).mono ?_
        rintro e' w5 ⟨rfl, hat, htu⟩
        have HAT := Lib.hid hat
        have HTU := Lib.hid htu
        have HX5 : Hid (Blk w5 w.heap.size 43 #[.string ⟨e.k.toArray⟩, .int .i64 e.s, .int .i64 e.u, .int .i64 e.o, .bool e.has, .slice A e.v.length ca]) := Lib.hid ((htu.block _ HX4.out.lt HN3.out).trans HX4.out)
        have HFIN : Hid (gk - 1 < gk ∧ RoomI F g b tk S e w (gk - 1) (goneS R k2) w5) := Lib.hid (by
          obtain ⟨x, h1, h2, h3, h4, h5, h6, h7⟩ := HOLD.out
          subst h4
          exact ⟨h7, ⟨h5, h6, evs_trans HR.out.ev (.step h1 h2 h3 (.refl _)), HAT.out, HT4.out.trans HTU.out fun k hk => Or.inl hk⟩⟩)
        clear hat htu
        go_wp2
        go_roundg (gk - 1)
        case measure => exact HFIN.out.1
        case rel => exact ⟨_, Lib.hid HFIN.out.2, HX5⟩
      · have HD : Hid (decide (fitsS R (stayC R.T e.k) e) = false) := Lib.hid (decide_eq_false hf)
        have HRES : Hid (roomS S e = (R, 30)) := Lib.hid (by
          rw [← HR.out.is]
          have := HR.out.lt
          cases gk with
          | zero => omega
          | succ n => unfold roomF; rw [if_neg HNF.out, if_neg hf])
        clear hf
        go_wp2_with fail
        refine wp_region_later (by kernel_rfl) (by kernel_rfl) ?_
        repeat (go_big_quiet_step (first | (go_at_call 67; with_reducible exact laterL (HOT.out _)) | (go_at_call 65; with_reducible exact later_isB2 HD (HLV.out _))))
        refine wpQuiet_nil ?_
        intro w' hw'
        obtain ⟨p, rfl⟩ := hw'
        go_wp2
        rw [Exit.noGoto_ret]
        go_ret
        rw [HRES.out]
        exact ⟨rfl, ⟨V, c, (HBR.out.below HB2.out).below p.bel⟩, (HR.out.tou.thenBelow HB2.out).thenBelow p.bel⟩
end Go.Proofs.YtpebhfjcakllmaaGreat
