/- Tag: How two numbers, and two tags, stand; which tag may be; the program's calls on tags, and the document's, one contract each.
   Tag2: The document's calls on tags: how two stand, whether one may be; the next one, by both.
   NextT: The tag that comes next, by the program and by the document.
   Ent: Entries: which may be, how many bytes they have: by the program and by the document, one contract each.
   Ent2: Which entries may be, by the document; how many bytes one has.
   Val: Whether two values, and two entries, are the same, by the program and by the document.
   Same: Whether two entries are the same, by the program and by the document; a copy of one; the newer one of two.
   CopyE: A copy of an entry; the newer one of two: by the program and by the document.
   Newer: The newer one of two entries, by the program and by the document.
   BytesE: The bytes of an entry, by the program.
   RefBytes: The bytes of an entry, by the document.
   GetTV: A tag, and a value, read by a reader.
   GetE: An entry read by a reader: the fields.
   GetE2: An entry read by a reader: the fields, in whatever order memory is made.
   RefGetN: What the document reads of a number below a bound, of a truth.
   RefGetE: An entry at the begin of bytes, by the document.
   StepRef: What a reader reads of an entry, and what the document does: the same.
   ReadE: An entry read from bytes, by the program and by the document. -/
import Derived.Test.YtlecbhnopokmnaaCore
import Derived.Test.YtlecbhnopokmnaaPk
import Derived.Deep.RegionHeld3
import Derived.Laws.StructEq
import Derived.Deep.DeepCutAuto
namespace Go.Proofs.Ytlecbhnopokmnaa
open Go.RowKit Mem
set_option maxRecDepth 10000
set_option maxHeartbeats 1000000
def cmpI (a b : Int) : Int := if a < b then -1 else if b < a then 1 else 0
def cmpT (a b c x y z : Int) : Int := if cmpI a x ≠ 0 then cmpI a x else if cmpI b y ≠ 0 then cmpI b y else cmpI c z
abbrev tagV (s u o : Int) : Value := .agg #[.int .i64 s, .int .i64 u, .int .i64 o]
/-- A number, and nothing that was there is changed. -/
def IsI (n : Int) (w : World) (e : Ending) (w' : World) : Prop := e = .returned (.int .i64 n) ∧ Below w.heap.size w w'
def IsB (b : Bool) (w : World) (e : Ending) (w' : World) : Prop := e = .returned (.bool b) ∧ Below w.heap.size w w'
theorem isI_of {n m : Int} {w w' : World} (h : n = m) (hb : Below w.heap.size w w') : IsI m w (.returned (.int .i64 n)) w' := ⟨by rw [h], hb⟩
theorem isnan_any (a : Int) (w : World) : Calls Try.prog 84 #[.int .i64 a] w fun e w' => e = .returned (.bool false) ∧ w = w' := by
  go_enter Try.func84, Try.ntmps84
  go_wp2
  go_ret
  exact ⟨rfl, rfl⟩
theorem cmpint_any (a b : Int) (w : World) : Calls Try.prog 65 #[.int .i64 a, .int .i64 b] w fun e w' => e = .returned (.int .i64 (cmpI a b)) ∧ w = w' := by
  by_cases h : a < b
  · have e : cmpI a b = -1 := if_pos h
    rw [e]; clear e
    go_enter Try.func65, Try.ntmps65
    go_wp2_with (go_at_call 84; refine (isnan_any _ _).mono ?_; rintro e w' ⟨rfl, rfl⟩)
    go_ret
    exact ⟨rfl, rfl⟩
  by_cases h2 : b < a
  · have e : cmpI a b = 1 := (if_neg h).trans (if_pos h2)
    have h3 : b ≤ a := by omega
    rw [e]; clear e h
    go_enter Try.func65, Try.ntmps65
    go_wp2_with (go_at_call 84; refine (isnan_any _ _).mono ?_; rintro e w' ⟨rfl, rfl⟩)
    go_ret
    exact ⟨rfl, rfl⟩
  · have e : cmpI a b = 0 := (if_neg h).trans (if_neg h2)
    have hab : a = b := by omega
    subst hab
    rw [e]; clear e h h2
    go_enter Try.func65, Try.ntmps65
    go_wp2_with (go_at_call 84; refine (isnan_any _ _).mono ?_; rintro e w' ⟨rfl, rfl⟩)
    go_ret
    exact ⟨rfl, rfl⟩
def orI (a b c : Int) : Int := if a ≠ 0 then a else if b ≠ 0 then b else c
theorem or_cmp (a b c x y z : Int) : orI (cmpI a x) (cmpI b y) (cmpI c z) = cmpT a b c x y z := rfl
def inR (n m : Int) : Bool := decide (0 ≤ n ∧ n ≤ m)
theorem inR_yes {n m : Int} (h : inR n m = true) : 0 ≤ n ∧ n ≤ m := of_decide_eq_true h
theorem inR_no {n m : Int} (h : inR n m = false) : n < 0 ∨ m < n := by have := of_decide_eq_false h; omega
def eqT (a b c x y z : Int) : Bool := a == x && b == y && c == z
def okT (s u o : Int) : Bool := inR s 1099511627775 && inR u 1048575 && inR o 1048575 && (!(s == 0) || (u == 0 && o == 0))
def checkT (s u o : Int) : Int := if okT s u o = true then 0 else 2
theorem checkT_1 {s u o : Int} (h : inR s 1099511627775 = false) : checkT s u o = 2 := by unfold checkT okT; rw [h]; rfl
theorem checkT_2 {s u o : Int} (h : inR u 1048575 = false) : checkT s u o = 2 := by unfold checkT okT; rw [h, Bool.and_false]; rfl
theorem checkT_3 {s u o : Int} (h : inR o 1048575 = false) : checkT s u o = 2 := by unfold checkT okT; rw [h, Bool.and_false]; rfl
end Go.Proofs.Ytlecbhnopokmnaa
namespace Go.Proofs.Ytlecbhnopokmnaa
open Go.RowKit Mem
set_option maxRecDepth 10000
set_option maxHeartbeats 1000000
theorem cmpI_lt {a x : Int} (h : a < x) : cmpI a x = -1 := if_pos h
theorem cmpI_gt {a x : Int} (h : x < a) : cmpI a x = 1 := (if_neg (by omega)).trans (if_pos h)
theorem cmpI_eq (a : Int) : cmpI a a = 0 := (if_neg (by omega)).trans (if_neg (by omega))
theorem cmpI_cases (a x : Int) : (a < x ∧ cmpI a x = -1) ∨ (x < a ∧ cmpI a x = 1) ∨ (a = x ∧ cmpI a x = 0) := by
  rcases Int.lt_trichotomy a x with h | h | h
  · exact Or.inl ⟨h, cmpI_lt h⟩
  · subst h; exact Or.inr (Or.inr ⟨rfl, cmpI_eq a⟩)
  · exact Or.inr (Or.inl ⟨h, cmpI_gt h⟩)
theorem cmpT_1 {a b c x y z : Int} (h : a ≠ x) : cmpT a b c x y z = cmpI a x := by
  unfold cmpT; rcases cmpI_cases a x with ⟨_, h2⟩ | ⟨_, h2⟩ | ⟨h2, _⟩
  · rw [h2]; rfl
  · rw [h2]; rfl
  · exact absurd h2 h
theorem cmpT_2 {a b c x y z : Int} (h0 : a = x) (h : b ≠ y) : cmpT a b c x y z = cmpI b y := by
  subst h0
  unfold cmpT; rw [cmpI_eq, if_neg (by simp)]
  rcases cmpI_cases b y with ⟨_, h2⟩ | ⟨_, h2⟩ | ⟨h2, _⟩
  · rw [h2]; rfl
  · rw [h2]; rfl
  · exact absurd h2 h
theorem cmpT_3 {a b c x y z : Int} (h0 : a = x) (h1 : b = y) : cmpT a b c x y z = cmpI c z := by
  subst h0; subst h1
  unfold cmpT; rw [cmpI_eq, cmpI_eq, if_neg (by simp), if_neg (by simp)]
theorem below4 (w : World) (o1 o2 o3 o4 : Obj) (q : Nat) : Below w.heap.size w (((((w.alloc o1).alloc o2).alloc o3).alloc o4).drewN q) :=
  (((((Below.refl _ _).alloc (Nat.le_refl _) _).alloc (by simp) _).alloc (by simp; omega) _).alloc (by simp; omega) _).trans ⟨rfl, rfl, rfl, Nat.le_refl _, fun _ _ => rfl⟩
end Go.Proofs.Ytlecbhnopokmnaa
namespace Go.Proofs.Ytlecbhnopokmnaa
open Go.RowKit Mem
set_option maxRecDepth 10000
set_option maxHeartbeats 1000000
/-- The next tag, and the error. -/
def nextT (s u o who op : Int) : Int × Int × Int × Int :=
  if checkT s u o ≠ 0 then (0, 0, 0, 2) else if inR who 1048575 = false ∨ inR op 1048575 = false then (0, 0, 0, 2) else if s = 1099511627775 then (0, 0, 0, 3) else (s + 1, who, op, 0)
def IsTE (r : Int × Int × Int × Int) (w : World) (e : Ending) (w' : World) : Prop := e = .returned (.tuple #[tagV r.1 r.2.1 r.2.2.1, .int .i64 r.2.2.2]) ∧ Below w.heap.size w w'
theorem isTE_of {r : Int × Int × Int × Int} {a b c e : Int} (h : r = (a, b, c, e)) {w w' : World} (hb : Below w.heap.size w w') : IsTE r w (.returned (.tuple #[tagV a b c, .int .i64 e])) w' := ⟨by rw [h], hb⟩
theorem checkT_02 (s u o : Int) : checkT s u o = 0 ∨ checkT s u o = 2 := by unfold checkT; split <;> simp
theorem check_seq {s u o : Int} (h : checkT s u o = 0) : 0 ≤ s ∧ s ≤ 1099511627775 := by
  cases h1 : inR s 1099511627775
  · rw [checkT_1 h1] at h; exact absurd h (by decide)
  · exact inR_yes h1
end Go.Proofs.Ytlecbhnopokmnaa
namespace Go.Proofs.Ytlecbhnopokmnaa
open Go.RowKit Mem
set_option maxRecDepth 10000
set_option maxHeartbeats 2000000
abbrev entV (key : ByteArray) (s u o : Int) (has : Bool) (A : Option Addr) (m c : Nat) : Value := .agg #[.string key, .int .i64 s, .int .i64 u, .int .i64 o, .bool has, .slice A m c]
abbrev valV (has : Bool) (A : Option Addr) (m c : Nat) : Value := .agg #[.bool has, .slice A m c]
def rightE (k m : Nat) (s u o : Int) (has : Bool) : Int := if 0 < k ∧ k ≤ 250 ∧ m ≤ 60000 ∧ (has = true ∨ m = 0) ∧ checkT s u o = 0 ∧ ¬ (s = 0 ∧ has = true) then 0 else 2
theorem rightE_02 (k m : Nat) (s u o : Int) (has : Bool) : rightE k m s u o has = 0 ∨ rightE k m s u o has = 2 := by unfold rightE; split <;> simp
theorem rightE_no {k m : Nat} {s u o : Int} {has : Bool} (h : ¬ (0 < k ∧ k ≤ 250 ∧ m ≤ 60000 ∧ (has = true ∨ m = 0) ∧ checkT s u o = 0 ∧ ¬ (s = 0 ∧ has = true))) : rightE k m s u o has = 2 := if_neg h
theorem rightE_yes {k m : Nat} {s u o : Int} {has : Bool} (h : rightE k m s u o has = 0) : 0 < k ∧ k ≤ 250 ∧ m ≤ 60000 ∧ (has = true ∨ m = 0) ∧ checkT s u o = 0 ∧ ¬ (s = 0 ∧ has = true) := by
  unfold rightE at h; split at h
  · assumption
  · exact absurd h (by decide)
theorem rightE_check {k m : Nat} {s u o : Int} {has : Bool} (h : 0 < k ∧ k ≤ 250 ∧ m ≤ 60000 ∧ (has = true ∨ m = 0) ∧ ¬ (s = 0 ∧ has = true)) : rightE k m s u o has = checkT s u o := by
  obtain ⟨h1, h2, h3, h4, h5⟩ := h
  rcases checkT_02 s u o with h0 | h0
  · rw [h0]; exact if_pos ⟨h1, h2, h3, h4, h0, h5⟩
  · rw [h0]; exact rightE_no (by rintro ⟨_, _, _, _, h, _⟩; omega)
theorem isI_ret {n m : Int} {w w' : World} {e : Ending} (he : e = .returned (.int .i64 n)) (h : n = m) (hb : Below w.heap.size w w') : IsI m w e w' := ⟨by rw [he, h], hb⟩
/-- The ways to be parted: the key's length, the value's, whether there is one, whether the tag is nothing. -/
theorem ways (k m : Nat) (has : Bool) : ((k : Int) ≤ 0 ∨ (250 : Int) < (k : Int) ∨ ((0 : Int) < (k : Int) ∧ (k : Int) ≤ 250)) ∧
    ((60000 : Int) < (m : Int) ∨ ((m : Int) ≤ 60000 ∧ has = true) ∨ ((m : Int) ≤ 0 ∧ m = 0 ∧ has = false) ∨ ((m : Int) ≤ 60000 ∧ (0 : Int) < (m : Int) ∧ has = false)) := by
  refine ⟨by omega, ?_⟩
  cases has
  · by_cases h : 60000 < m
    · left; omega
    · by_cases h2 : m = 0
      · right; right; left; exact ⟨by omega, h2, rfl⟩
      · right; right; right; exact ⟨by omega, by omega, rfl⟩
  · by_cases h : 60000 < m
    · left; omega
    · right; left; exact ⟨by omega, rfl⟩
theorem none_ways (s : Int) : Hid ((s == 0) = true) ∨ Hid ((s == 0) = false) := by
  cases h : (s == 0)
  · exact Or.inr (Lib.hid rfl)
  · exact Or.inl (Lib.hid rfl)
theorem hid_nought {s : Int} (h : Hid ((s == 0) = true)) : s = 0 := by have := h.out; simpa using this
theorem hid_some {s : Int} (h : Hid ((s == 0) = false)) : s ≠ 0 := by have := h.out; simpa using this
end Go.Proofs.Ytlecbhnopokmnaa
namespace Go.Proofs.Ytlecbhnopokmnaa
open Go.RowKit Mem
set_option maxRecDepth 10000
set_option maxHeartbeats 2000000
def longE (k m : Nat) : Bool := decide (400 < k ∨ 1000 < m)
theorem longE_no {k m : Nat} (h : longE k m = false) : k ≤ 400 ∧ m ≤ 1000 := by have := of_decide_eq_false h; omega
theorem isB_of {a b : Bool} {w w' : World} (h : a = b) (hb : Below w.heap.size w w') : IsB b w (.returned (.bool a)) w' := ⟨by rw [h], hb⟩
end Go.Proofs.Ytlecbhnopokmnaa
namespace Go.Proofs.Ytlecbhnopokmnaa
open Go.RowKit Mem
set_option maxRecDepth 10000
set_option maxHeartbeats 2000000
theorem equal_any (B B' c c' n n' : Nat) (A A' : Option Addr) (xs ys : List UInt8) (w : World) (h : Row w B A (xs.map byteV)) (h' : Row w B' A' (ys.map byteV)) (hn : n = xs.length) (hn' : n' = ys.length) :
    Calls Try.prog 68 #[.slice A n c, .slice A' n' c'] w fun e w' => e = .returned (.bool (xs == ys)) ∧ w = w' := by
  subst hn; subst hn'
  have h1 := conv_row (P := Try.prog) c 43 9 5 Try.underlying43 Try.underlying5 Try.underlying9 h
  have h2 := conv_row (P := Try.prog) c' 43 9 5 Try.underlying43 Try.underlying5 Try.underlying9 h'
  clear h h'
  go_enter Try.func68, Try.ntmps68
  go_wp2
  go_ret
  exact ⟨rfl, rfl⟩
theorem equal_val (b : Bool) {B B' c c' n n' : Nat} {A A' : Option Addr} {xs ys : List UInt8} {w : World} (hb : Hid ((xs == ys) = b)) (h : Row w B A (xs.map byteV)) (h' : Row w B' A' (ys.map byteV)) (hn : n = xs.length) (hn' : n' = ys.length) :
    Calls Try.prog 68 #[.slice A n c, .slice A' n' c'] w fun e w' => e = .returned (.bool b) ∧ w = w' := by
  have := equal_any B B' c c' n n' A A' xs ys w h h' hn hn'
  rw [hb.out] at this; exact this
/-- A value: whether there is one, its bytes, where they are and with how much room. -/
structure ValOk (w : World) (has : Bool) (A : Option Addr) (xs : List UInt8) (c : Nat) : Prop where
  row : Row w w.heap.size A (xs.map byteV)
  len : (xs.length : Int) ≤ 1073741824
  cap : xs.length ≤ c
theorem ValOk.below {w w' : World} {has : Bool} {A : Option Addr} {xs : List UInt8} {c : Nat} (h : ValOk w has A xs c) (hb : Below w.heap.size w w') : ValOk w' has A xs c :=
  ⟨(h.row.below hb).more hb.size, h.len, h.cap⟩
def sameV (h1 h2 : Bool) (xs ys : List UInt8) : Bool := h1 == h2 && (!h1 || xs == ys)
theorem sameV_ne {h1 h2 : Bool} {xs ys : List UInt8} (h : (h1 == h2) = false) : sameV h1 h2 xs ys = false := by unfold sameV; rw [h]; rfl
theorem sameval_any (h1 h2 : Bool) (A A' : Option Addr) (xs ys : List UInt8) (c c' n n' : Nat) (hn : n = xs.length) (hn' : n' = ys.length) (w : World) (h : ValOk w h1 A xs c) (h' : ValOk w h2 A' ys c') :
    Calls Try.prog 46 #[valV h1 A n c, valV h2 A' n' c'] w (IsB (sameV h1 h2 xs ys) w) := by
  subst hn; subst hn'
  have HB : Hid (Below w.heap.size w ((w.alloc (.cells #[.bool h1, .slice A xs.length c] 45)).alloc (.cells #[.bool h2, .slice A' ys.length c'] 45))) := Lib.hid (((Below.refl _ _).alloc (Nat.le_refl _) _).alloc (by simp) _)
  have HR := Lib.hid (h.row.below HB.out)
  have HR' := Lib.hid (h'.row.below HB.out)
  clear h h'
  cases h1 <;> cases h2
  · go_enter Try.func46, Try.ntmps46
    go_wp2
    go_ret
    exact isB_of rfl HB.out
  · go_enter Try.func46, Try.ntmps46
    go_wp2
    go_ret
    exact isB_of rfl HB.out
  · go_enter Try.func46, Try.ntmps46
    go_wp2
    go_ret
    exact isB_of rfl HB.out
  · obtain ⟨b, hb⟩ : ∃ b, (xs == ys) = b := ⟨_, rfl⟩
    have HE := Lib.hid hb
    have HV : Hid (sameV true true xs ys = b) := Lib.hid (by rw [← hb]; rfl)
    clear hb
    cases b
    all_goals
      go_enter Try.func46, Try.ntmps46
      go_wp2_with (go_at_call 68; refine (equal_val _ HE HR.out HR'.out rfl rfl).mono ?_; rintro e w' ⟨rfl, rfl⟩)
      go_ret
      exact isB_of HV.out.symm HB.out
theorem sameV_len {xs ys : List UInt8} (h : xs.length ≠ ys.length) : sameV true true xs ys = false := by
  unfold sameV
  have : (xs == ys) = false := by simp; rintro rfl; exact h rfl
  rw [this]; rfl
theorem sameV_at {xs ys : List UInt8} (k : Nat) (h1 : k < xs.length) (h2 : k < ys.length) (h : (xs[k].toNat : Int) ≠ (ys[k].toNat : Int)) : sameV true true xs ys = false := by
  unfold sameV
  have : (xs == ys) = false := by simp; rintro rfl; exact h rfl
  rw [this]; rfl
theorem take_next {xs ys : List UInt8} {k : Nat} (h1 : k < xs.length) (h2 : k < ys.length) (ht : xs.take k = ys.take k) (h : (xs[k].toNat : Int) = (ys[k].toNat : Int)) : xs.take (k + 1) = ys.take (k + 1) := by
  rw [List.take_succ_eq_append_getElem h1, List.take_succ_eq_append_getElem h2, ht]
  have : xs[k] = ys[k] := UInt8.toNat_inj.1 (by omega)
  rw [this]
theorem refsameval_any (h1 h2 : Bool) (A A' : Option Addr) (xs ys : List UInt8) (c c' n n' : Nat) (hn : n = xs.length) (hn' : n' = ys.length) (w : World) (h : ValOk w h1 A xs c) (h' : ValOk w h2 A' ys c') :
    Calls Try.prog 39 #[valV h1 A n c, valV h2 A' n' c'] w (IsB (sameV h1 h2 xs ys) w) := by
  have hl := h.len
  have hl' := h'.len
  have HB : Hid (Below w.heap.size w ((w.alloc (.cells #[.bool h1, .slice A n c] 45)).alloc (.cells #[.bool h2, .slice A' n' c'] 45))) := Lib.hid (((Below.refl _ _).alloc (Nat.le_refl _) _).alloc (by simp) _)
  have HR := Lib.hid (h.row.below HB.out)
  have HR' := Lib.hid (h'.row.below HB.out)
  clear h h'
  have hnl : (n : Int) ≤ 1073741824 := by omega
  have HN := Lib.hid hn
  have HN' := Lib.hid hn'
  clear hn hn' hl hl'
  cases h1 <;> cases h2
  · go_enter Try.func39, Try.ntmps39
    go_wp2
    go_ret
    exact isB_of rfl HB.out
  · go_enter Try.func39, Try.ntmps39
    go_wp2
    go_ret
    exact isB_of rfl HB.out
  · go_enter Try.func39, Try.ntmps39
    go_wp2
    go_ret
    exact isB_of rfl HB.out
  · by_cases hlen : n = n'
    · subst hlen
      go_enter Try.func39, Try.ntmps39
      go_wp2
      go_loopw [5] (fun i wr => ∃ k : Nat, k ≤ n ∧ i = .int .i64 k ∧ Hid (xs.take k = ys.take k) ∧ Hid (∃ q, wr = ((w.alloc (.cells #[.bool true, .slice A n c] 45)).alloc (.cells #[.bool true, .slice A' n c'] 45)).drewN q)) (fun i _ => n - (intOf i).toNat)
      case atStart => exact ⟨0, by omega, rfl, Lib.hid (by simp), Lib.hid ⟨0, rfl⟩⟩
      case round =>
        obtain ⟨k, hk, rfl, HT, HQ⟩ := hrel
        have HW : Hid (Below w.heap.size w wr) := Lib.hid (by obtain ⟨q, rfl⟩ := HQ.out; exact HB.out.trans ⟨rfl, rfl, rfl, Nat.le_refl _, fun _ _ => rfl⟩)
        have c0 : wr.cell? ⟨w.heap.size, 1, none⟩ = some (.slice A n c) := by obtain ⟨q, rfl⟩ := HQ.out; go_simp
        have c1 : wr.cell? ⟨w.heap.size + 1, 1, none⟩ = some (.slice A' n c') := by obtain ⟨q, rfl⟩ := HQ.out; go_simp
        by_cases hlt : k < n
        · have hk1 : k < xs.length := by rw [← HN.out]; exact hlt
          have hk2 : k < ys.length := by rw [← HN'.out]; exact hlt
          have hrx : Row wr w.heap.size A (xs.map byteV) := by obtain ⟨q, rfl⟩ := HQ.out; exact HR.out.drewN q
          have hry : Row wr w.heap.size A' (ys.map byteV) := by obtain ⟨q, rfl⟩ := HQ.out; exact HR'.out.drewN q
          obtain ⟨b, o, rfl, _, hc⟩ := hrx.open_ (by simp; omega)
          obtain ⟨b', o', rfl, _, hc'⟩ := hry.open_ (by simp; omega)
          have hcell : wr.cell? ⟨b, o + k, none⟩ = some (.int .u8 (xs[k].toNat : Int)) := (hc k (by simpa using hk1)).trans (congrArg some (by rw [List.getElem_map]; rfl))
          have hcell' : wr.cell? ⟨b', o' + k, none⟩ = some (.int .u8 (ys[k].toNat : Int)) := (hc' k (by simpa using hk2)).trans (congrArg some (by rw [List.getElem_map]; rfl))
          have hki : (0 : Int) ≤ (k : Int) := by omega
          have hki2 : (k : Int) < (n : Int) := by omega
          clear hc hc' hrx hry
          obtain ⟨p, hp⟩ : ∃ p : Int, (xs[k].toNat : Int) = p := ⟨_, rfl⟩
          obtain ⟨q, hq⟩ : ∃ q : Int, (ys[k].toNat : Int) = q := ⟨_, rfl⟩
          rw [hp] at hcell
          rw [hq] at hcell'
          have HP := Lib.hid hp
          have HQ2 := Lib.hid hq
          clear hp hq
          by_cases heq : p = q
          · subst heq
            have HT2 : Hid (xs.take (k + 1) = ys.take (k + 1)) := Lib.hid (take_next hk1 hk2 HT.out (by rw [HP.out, HQ2.out]))
            have hb : (p != p) = false := by simp
            go_wp2
            go_quiet (fail)
            go_wp2
            go_roundw
            case rel => exact ⟨k + 1, by omega, by go_num, HT2, Lib.hid (by obtain ⟨q, rfl⟩ := HQ.out; exact ⟨_, by rw [World.drewN_drewN]⟩)⟩
            case measure => simp [intOf]; omega
          · have hb : (p != q) = true := by simpa using heq
            have HV : Hid (sameV true true xs ys = false) := Lib.hid (sameV_at k hk1 hk2 (by rw [HP.out, HQ2.out]; exact heq))
            clear heq
            go_wp2
            go_quiet (fail)
            go_wp2
            go_ret
            exact isB_of HV.out.symm (HW.out.trans ⟨rfl, rfl, rfl, Nat.le_refl _, fun _ _ => rfl⟩)
        · obtain rfl : k = n := by omega
          have HV : Hid (sameV true true xs ys = true) := Lib.hid (by
            have := HT.out
            rw [List.take_of_length_le (by rw [← HN.out]; omega), List.take_of_length_le (by rw [← HN'.out]; omega)] at this
            rw [this]; simp [sameV])
          go_wp2
          go_ret
          exact isB_of HV.out.symm HW.out
    · have HV : Hid (sameV true true xs ys = false) := Lib.hid (sameV_len (by rw [← HN.out, ← HN'.out]; exact hlen))
      have hb : (n != n') = true := by simpa using hlen
      have hb' : ((n : Int) != (n' : Int)) = true := by simp; omega
      clear hlen
      go_enter Try.func39, Try.ntmps39
      go_wp2
      go_ret
      exact isB_of HV.out.symm HB.out
end Go.Proofs.Ytlecbhnopokmnaa
namespace Go.Proofs.Ytlecbhnopokmnaa
open Go.RowKit Mem
set_option maxRecDepth 10000
set_option maxHeartbeats 2000000
def sameE (k1 k2 : ByteArray) (s u o s' u' o' : Int) (h1 h2 : Bool) (xs ys : List UInt8) : Bool := decide (k1 = k2) && (eqT s u o s' u' o' && sameV h1 h2 xs ys)
theorem list_ne {a b : ByteArray} (h : a ≠ b) : (a.toList == b.toList) = false := by
  rw [beq_eq_false_iff_ne]
  intro e
  rw [ByteArray.toList_eq, ByteArray.toList_eq] at e
  apply h
  obtain ⟨⟨x⟩⟩ := a
  obtain ⟨⟨y⟩⟩ := b
  simp at e
  rw [e]
end Go.Proofs.Ytlecbhnopokmnaa
namespace Go.Proofs.Ytlecbhnopokmnaa
open Go.RowKit Mem
set_option maxRecDepth 10000
set_option maxHeartbeats 2000000
theorem own_base {w : World} {B B' : Nat} {e : TypeId} {v : Value} {n : Nat} {xs : List Value} (h : w.ownsRow B e 1 v n xs) (hB : B' ≤ B) : w.ownsRow B' e 1 v n xs := by
  obtain ⟨h1, h2⟩ := h
  refine ⟨h1, ?_⟩
  rcases h2 with h2 | ⟨g, cap, cur, hv, hg, r⟩
  · exact Or.inl h2
  · exact Or.inr ⟨g, cap, cur, hv, by omega, r⟩
theorem own_put {w : World} {B g : Nat} {e : TypeId} {v : Value} {n : Nat} {xs : List Value} (h : w.ownsRow B e 1 v n xs) (hg : g < B) (i : Nat) (u : Value) : (w.setCell ⟨g, i, none⟩ u).ownsRow B e 1 v n xs :=
  ownsRow_setCell_below h (a := ⟨g, i, none⟩) hg u
/-- An entry whose bytes are in new memory. -/
def MadeE (B : Nat) (key : ByteArray) (s u o : Int) (has : Bool) (xs : List UInt8) (w : World) (e : Ending) (w' : World) : Prop :=
  ∃ A c, e = .returned (entV key s u o has A xs.length c) ∧ w'.ownsRow B 5 1 (.slice A xs.length c) xs.length (xs.map byteV) ∧ Below B w w'
end Go.Proofs.Ytlecbhnopokmnaa
namespace Go.Proofs.Ytlecbhnopokmnaa
open Go.RowKit Mem
set_option maxRecDepth 10000
set_option maxHeartbeats 2000000
theorem cmpT_range (a b c x y z : Int) : cmpT a b c x y z = -1 ∨ cmpT a b c x y z = 0 ∨ cmpT a b c x y z = 1 := by
  unfold cmpT
  rcases cmpI_cases a x with ⟨_, h⟩ | ⟨_, h⟩ | ⟨_, h⟩ <;> rcases cmpI_cases b y with ⟨_, h'⟩ | ⟨_, h'⟩ | ⟨_, h'⟩ <;> rcases cmpI_cases c z with ⟨_, h''⟩ | ⟨_, h''⟩ | ⟨_, h''⟩ <;> rw [h, h', h''] <;> simp
theorem newer_res {w w1 w2 : World} {key : ByteArray} {s u o : Int} {has : Bool} {xs : List UInt8} {A : Option Addr} {c g : Nat} {v0 v1 v2 v3 v4 v5 : Value}
    (hb : Below w.heap.size w w1) (ho : w2.ownsRow w1.heap.size 5 1 (.slice A xs.length c) xs.length (xs.map byteV)) (hb2 : Below w1.heap.size w1 w2) (hg : w.heap.size ≤ g) (hg1 : g < w1.heap.size) :
    MadeE w.heap.size key s u o has xs w (.returned (entV key s u o has A xs.length c)) ((((((w2.setCell ⟨g, 0, none⟩ v0).setCell ⟨g, 1, none⟩ v1).setCell ⟨g, 2, none⟩ v2).setCell ⟨g, 3, none⟩ v3).setCell ⟨g, 4, none⟩ v4).setCell ⟨g, 5, none⟩ v5) :=
  ⟨A, c, rfl, own_base (own_put (own_put (own_put (own_put (own_put (own_put ho hg1 _ _) hg1 _ _) hg1 _ _) hg1 _ _) hg1 _ _) hg1 _ _) hb.size,
    below_set (below_set (below_set (below_set (below_set (below_set (hb.trans (hb2.mono hb.size)) hg _ _) hg _ _) hg _ _) hg _ _) hg _ _) hg _ _⟩
end Go.Proofs.Ytlecbhnopokmnaa
namespace Go.Proofs.Ytlecbhnopokmnaa
open Go.RowKit Mem Be
set_option maxRecDepth 10000
set_option maxHeartbeats 4000000
def tagB (s u o : Int) : List UInt8 := numB s ++ (numB u ++ numB o)
theorem tagB_le (s u o : Int) : (tagB s u o).length ≤ 27 := by
  have := numB_le s; have := numB_le u; have := numB_le o
  unfold tagB; rw [List.length_append, List.length_append]; omega
def entB (k : List UInt8) (s u o : Int) (has : Bool) (xs : List UInt8) : List UInt8 := rowB k ++ (tagB s u o ++ (truthB has ++ (if has = true then rowB xs else [])))
theorem entB_le (k : List UInt8) (s u o : Int) (has : Bool) (xs : List UInt8) : (entB k s u o has xs).length ≤ k.length + xs.length + 46 := by
  have h1 := numB_le (k.length : Int); have h2 := numB_le (xs.length : Int); have h3 := tagB_le s u o
  unfold entB rowB truthB
  cases has <;> simp only [List.length_append, List.length_cons, List.length_nil, if_true, Bool.false_eq_true, if_false] <;> omega
def bytesE (k : List UInt8) (s u o : Int) (has : Bool) (xs : List UInt8) : List UInt8 × Int := if rightE k.length xs.length s u o has = 0 then (entB k s u o has xs, 0) else ([], 2)
end Go.Proofs.Ytlecbhnopokmnaa
namespace Go.Proofs.Ytlecbhnopokmnaa
open Go.RowKit Mem Be
set_option maxRecDepth 10000
set_option maxHeartbeats 4000000
theorem blk_ownE {w w' : World} {g : Nat} {t : TypeId} {cs : Array Value} {B : Nat} {v : Value} {n : Nat} {e : TypeId} {xs : List Value} (hk : Blk w g t cs) (hg : w.grownBy w' v.ownBlock) (ho : w.ownsRow B e 1 v n xs) (hB : g < B) : Blk w' g t cs :=
  hk.grown hg (fun e => by have := (ho.lt g e.symm).1; omega)
theorem below_own {w0 w w' : World} {B C : Nat} {v : Value} {n : Nat} {e : TypeId} {xs : List Value} (hb : Below C w0 w) (hg : w.grownBy w' v.ownBlock) (ho : w.ownsRow B e 1 v n xs) (hC : C ≤ w0.heap.size) (hB : C ≤ B) : Below C w0 w' :=
  hb.grown hg (Nat.le_trans hC hb.size) (fun k hk => Nat.le_trans hB (ho.lt k hk).1)
theorem own_other {w w' : World} {B n : Nat} {e : TypeId} {u v : Value} {xs : List Value} (h : w.ownsRow B e 1 v n xs) (hg : w.grownBy w' u.ownBlock) (hu : ∀ k, u.ownBlock = some k → k < B) : w'.ownsRow B e 1 v n xs := by
  refine h.kept hg ?_
  cases hv : v.ownBlock with
  | none => exact Or.inl rfl
  | some k => exact Or.inr (fun e => by have := (h.lt k hv).1; have := hu k e.symm; omega)
end Go.Proofs.Ytlecbhnopokmnaa
namespace Go.Proofs.Ytlecbhnopokmnaa
open Go.RowKit Mem Be
set_option maxRecDepth 10000
set_option maxHeartbeats 4000000
def stepTag (bs : List UInt8) (e : Int) : (Int × Int × Int) × List UInt8 × Int :=
  (((stepB 1099511627776 bs e).1, (stepB 1048576 (stepB 1099511627776 bs e).2.1 (stepB 1099511627776 bs e).2.2).1,
    (stepB 1048576 (stepB 1048576 (stepB 1099511627776 bs e).2.1 (stepB 1099511627776 bs e).2.2).2.1 (stepB 1048576 (stepB 1099511627776 bs e).2.1 (stepB 1099511627776 bs e).2.2).2.2).1),
   (stepB 1048576 (stepB 1048576 (stepB 1099511627776 bs e).2.1 (stepB 1099511627776 bs e).2.2).2.1 (stepB 1048576 (stepB 1099511627776 bs e).2.1 (stepB 1099511627776 bs e).2.2).2.2).2)
/-- Nothing that was there is changed but block g, where what is written lies behind what was there. -/
theorem grown_put {w w' : World} {g L : Nat} (h : w.grownBy w' (some g)) (hL : w.heap.size ≤ L) (i : Nat) (u : Value) : w.grownBy (w'.setCell ⟨L, i, none⟩ u) (some g) :=
  ⟨h.os, h.tape, h.output, by simpa [World.setCell] using h.size, fun k hk hne => (Below.heap_setCell w' _ u k (by show k ≠ L; omega)).trans (h.block k hk hne)⟩
theorem grown_alloc1 {w w' : World} {o : Obj} {g : Nat} (h : (w.alloc o).grownBy w' (some g)) : w.grownBy w' (some g) := grown_trans (World.grownBy_alloc w o (some g)) h
def stepV (bs : List UInt8) (e : Int) : (Bool × List UInt8) × List UInt8 × Int :=
  if (stepT bs e).1 = true then ((true, (stepR (stepT bs e).2.1 (stepT bs e).2.2).1), (stepR (stepT bs e).2.1 (stepT bs e).2.2).2) else ((false, []), (stepT bs e).2)
end Go.Proofs.Ytlecbhnopokmnaa
namespace Go.Proofs.Ytlecbhnopokmnaa
open Go.RowKit Mem Be
set_option maxRecDepth 10000
set_option maxHeartbeats 4000000
structure EntP where
  k : List UInt8
  s : Int
  u : Int
  o : Int
  has : Bool
  v : List UInt8
def entP0 : EntP := ⟨[], 0, 0, 0, false, []⟩
abbrev zeroC : Array Value := #[.string ⟨#[]⟩, .int .i64 0, .int .i64 0, .int .i64 0, .bool false, .slice none 0 0]
theorem getR_len (bs : List UInt8) : (getR bs).1.length ≤ 65536 := by
  unfold getR
  split
  · simp
  split
  · simp
  split
  · simp
  · rename_i h1 h2 h3
    simp only [List.length_take]
    omega
theorem stepR_len (bs : List UInt8) (e : Int) : (stepR bs e).1.length ≤ 65536 := by
  unfold stepR; split
  · exact getR_len bs
  · simp
theorem stepV_len (bs : List UInt8) (e : Int) : (stepV bs e).1.2.length ≤ 65536 := by
  unfold stepV; split
  · exact stepR_len _ _
  · simp
theorem gcell {w w' : World} {g : Nat} (h : w.grownBy w' (some g)) : (∀ b o, b < w.heap.size → b ≠ g → w'.cell? ⟨b, o, none⟩ = w.cell? ⟨b, o, none⟩) ∧ (∀ b o, b < w.heap.size → b ≠ g → w'.frozen? ⟨b, o, none⟩ = w.frozen? ⟨b, o, none⟩) :=
  ⟨fun b o hb hne => World.cell?_of_block (w := w) (a := ⟨b, o, none⟩) (h.block b hb (fun e => hne (by injection e))), fun b o hb hne => World.frozen?_of_block (w := w) (a := ⟨b, o, none⟩) (h.block b hb (fun e => hne (by injection e)))⟩
def stepE1 (bs : List UInt8) (e : Int) : EntP × List UInt8 × Int :=
  (⟨(stepR bs e).1, (stepTag (stepR bs e).2.1 (stepR bs e).2.2).1.1, (stepTag (stepR bs e).2.1 (stepR bs e).2.2).1.2.1, (stepTag (stepR bs e).2.1 (stepR bs e).2.2).1.2.2,
    (stepV (stepTag (stepR bs e).2.1 (stepR bs e).2.2).2.1 (stepTag (stepR bs e).2.1 (stepR bs e).2.2).2.2).1.1, (stepV (stepTag (stepR bs e).2.1 (stepR bs e).2.2).2.1 (stepTag (stepR bs e).2.1 (stepR bs e).2.2).2.2).1.2⟩,
   (stepV (stepTag (stepR bs e).2.1 (stepR bs e).2.2).2.1 (stepTag (stepR bs e).2.1 (stepR bs e).2.2).2.2).2)
theorem own_keep {w w' : World} {B g n : Nat} {e : TypeId} {v : Value} {xs : List Value} (h : w.ownsRow B e 1 v n xs) (hg : w.grownBy w' (some g)) (hB : g < B) : w'.ownsRow B e 1 v n xs := by
  refine h.kept hg ?_
  cases hv : v.ownBlock with
  | none => exact Or.inl rfl
  | some k => exact Or.inr (fun e => by injection e with e; have := (h.lt k hv).1; omega)
theorem conv_own {w : World} {B c : Nat} {A : Option Addr} {xs : List UInt8} (h : w.ownsRow B 5 1 (.slice A xs.length c) xs.length (xs.map byteV)) : (convert 43 9 (.slice A xs.length c)).run Try.prog w = .ok (.string ⟨xs.toArray⟩) w :=
  conv_row c 43 9 5 Try.underlying43 Try.underlying5 Try.underlying9 (Row.of_own h)
end Go.Proofs.Ytlecbhnopokmnaa
namespace Go.Proofs.Ytlecbhnopokmnaa
open Go.RowKit Mem Be
set_option maxRecDepth 10000
set_option maxHeartbeats 8000000
theorem blk_up {w w' : World} {L g : Nat} {t : TypeId} {cs : Array Value} (h : Blk w L t cs) (hb : w.grownBy w' (some g)) (hg : g < L) : Blk w' L t cs := h.grown hb (fun e => by injection e with e; omega)
def errE (x : EntP) (e : Int) : Int := if rightE x.k.length x.v.length x.s x.u x.o x.has = 0 then e else if e = 0 then 11 else e
def endE (r : EntP × List UInt8 × Int) : EntP × List UInt8 × Int := if errE r.1 r.2.2 = 0 then (r.1, r.2.1, 0) else (entP0, r.2.1, errE r.1 r.2.2)
def stepE (bs : List UInt8) (e : Int) : EntP × List UInt8 × Int := endE (stepE1 bs e)
end Go.Proofs.Ytlecbhnopokmnaa
namespace Go.Proofs.Ytlecbhnopokmnaa
open Go.RowKit Mem Be
set_option maxRecDepth 10000
set_option maxHeartbeats 4000000
theorem getB_of {m : Int} {bs : List UInt8} {x : Int} {k : Nat} {e : Int} (hg : getN bs = (x, k, e)) : getB m bs = if e = 0 ∧ (x < 0 ∨ m ≤ x) then (0, 0, 11) else (x, k, e) := by unfold getB; rw [hg]
/-- A truth at a place. -/
def AtT (r : Bool × Nat × Int) (at_ : Nat) (w : World) (e : Ending) (w' : World) : Prop := e = .returned (.tuple #[.bool r.1, .int .i64 ((at_ + r.2.1 : Nat) : Int), .int .i64 r.2.2]) ∧ w = w'
theorem att_end {r : Bool × Nat × Int} {b : Bool} {k : Nat} {e : Int} (hr : r = (b, k, e)) {at_ : Nat} {b' : Bool} {k' : Int} (h1 : b' = b) (h2 : k' = ((at_ + k : Nat) : Int)) (w : World) : AtT r at_ w (.returned (.tuple #[.bool b', .int .i64 k', .int .i64 e])) w := by
  subst hr; subst h1; subst h2; exact ⟨rfl, rfl⟩
end Go.Proofs.Ytlecbhnopokmnaa
namespace Go.Proofs.Ytlecbhnopokmnaa
open Go.RowKit Mem Be
set_option maxRecDepth 100000
set_option maxHeartbeats 8000000
/-- What the document reads: the entry, the place behind, what is wrong. -/
def refE (bs : List UInt8) : EntP × Nat × Int :=
  let r := getR bs
  if r.2.2 ≠ 0 then (entP0, 0, r.2.2) else
  let a := getB 1099511627776 (bs.drop r.2.1)
  if a.2.2 ≠ 0 then (entP0, 0, a.2.2) else
  let b := getB 1048576 (bs.drop (r.2.1 + a.2.1))
  if b.2.2 ≠ 0 then (entP0, 0, b.2.2) else
  let c := getB 1048576 (bs.drop (r.2.1 + a.2.1 + b.2.1))
  if c.2.2 ≠ 0 then (entP0, 0, c.2.2) else
  let t := getT (bs.drop (r.2.1 + a.2.1 + b.2.1 + c.2.1))
  if t.2.2 ≠ 0 then (entP0, 0, t.2.2) else
  if t.1 = true then
    let v := getR (bs.drop (r.2.1 + a.2.1 + b.2.1 + c.2.1 + t.2.1))
    if v.2.2 ≠ 0 then (entP0, 0, v.2.2) else
    if rightE r.1.length v.1.length a.1 b.1 c.1 true ≠ 0 then (entP0, 0, 11) else (⟨r.1, a.1, b.1, c.1, true, v.1⟩, r.2.1 + a.2.1 + b.2.1 + c.2.1 + t.2.1 + v.2.1, 0)
  else
    if rightE r.1.length 0 a.1 b.1 c.1 false ≠ 0 then (entP0, 0, 11) else (⟨r.1, a.1, b.1, c.1, false, []⟩, r.2.1 + a.2.1 + b.2.1 + c.2.1 + t.2.1, 0)
def RefGot (r : EntP × Nat × Int) (w : World) (E : Ending) (w' : World) : Prop :=
  ∃ A c, E = .returned (.tuple #[entV ⟨r.1.k.toArray⟩ r.1.s r.1.u r.1.o r.1.has A r.1.v.length c, .int .i64 (r.2.1 : Int), .int .i64 r.2.2]) ∧ w'.ownsRow w.heap.size 5 1 (.slice A r.1.v.length c) r.1.v.length (r.1.v.map byteV) ∧ Below w.heap.size w w'
theorem refgot_err {r : EntP × Nat × Int} {e : Int} (hr : r = (entP0, 0, e)) {w w' : World} (hb : Below w.heap.size w w') : RefGot r w (.returned (.tuple #[entV ⟨#[]⟩ 0 0 0 false none 0 0, .int .i64 0, .int .i64 e])) w' := by
  subst hr; exact ⟨none, 0, rfl, World.ownsRow_nil _ _ _ _, hb⟩
theorem below_res (w : World) (o1 o2 : Obj) (v0 v1 v2 v3 v4 v5 : Value) : Below w.heap.size w ((((((((w.alloc o1).alloc o2).setCell ⟨w.heap.size, 0, none⟩ v0).setCell ⟨w.heap.size, 1, none⟩ v1).setCell ⟨w.heap.size, 2, none⟩ v2).setCell ⟨w.heap.size, 3, none⟩ v3).setCell ⟨w.heap.size, 4, none⟩ v4).setCell ⟨w.heap.size, 5, none⟩ v5) :=
  below_set (below_set (below_set (below_set (below_set (below_set (((Below.refl _ _).alloc (Nat.le_refl _) _).alloc (by simp) _) (Nat.le_refl _) _ _) (Nat.le_refl _) _ _) (Nat.le_refl _) _ _) (Nat.le_refl _) _ _) (Nat.le_refl _) _ _) (Nat.le_refl _) _ _
theorem blk_at {w : World} {g g' : Nat} {t : TypeId} {cs : Array Value} (e : g = g') (h : Blk w g t cs) : Blk w g' t cs := by subst e; exact h
theorem below_res5 {w w5 : World} {v0 v1 v2 v3 v4 v5 : Value} (hb : Below w.heap.size w w5) : Below w.heap.size w ((((((w5.setCell ⟨w.heap.size, 0, none⟩ v0).setCell ⟨w.heap.size, 1, none⟩ v1).setCell ⟨w.heap.size, 2, none⟩ v2).setCell ⟨w.heap.size, 3, none⟩ v3).setCell ⟨w.heap.size, 4, none⟩ v4).setCell ⟨w.heap.size, 5, none⟩ v5) :=
  below_set (below_set (below_set (below_set (below_set (below_set hb (Nat.le_refl _) _ _) (Nat.le_refl _) _ _) (Nat.le_refl _) _ _) (Nat.le_refl _) _ _) (Nat.le_refl _) _ _) (Nat.le_refl _) _ _
theorem refgot_ok {r : EntP × Nat × Int} {ks xs : List UInt8} {s u o : Int} {has : Bool} {q : Nat} (hr : r = (⟨ks, s, u, o, has, xs⟩, q, 0)) {w w5 : World} {A : Option Addr} {c n : Nat} {v0 v1 v2 v3 v4 v5 : Value} (hn : n = xs.length) (ho : w5.ownsRow (w.heap.size + 1) 5 1 (.slice A n c) n (xs.map byteV)) (hb : Below w.heap.size w w5) :
    RefGot r w (.returned (.tuple #[entV ⟨ks.toArray⟩ s u o has A n c, .int .i64 q, .int .i64 0])) ((((((w5.setCell ⟨w.heap.size, 0, none⟩ v0).setCell ⟨w.heap.size, 1, none⟩ v1).setCell ⟨w.heap.size, 2, none⟩ v2).setCell ⟨w.heap.size, 3, none⟩ v3).setCell ⟨w.heap.size, 4, none⟩ v4).setCell ⟨w.heap.size, 5, none⟩ v5) := by
  subst hr; subst hn
  exact ⟨A, c, rfl, own_base (own_put (own_put (own_put (own_put (own_put (own_put ho (by omega) _ _) (by omega) _ _) (by omega) _ _) (by omega) _ _) (by omega) _ _) (by omega) _ _) (by omega), below_res5 hb⟩
def RowAt (B : Nat) (x : List UInt8) (q : Nat) (e : Int) (w : World) (E : Ending) (w' : World) : Prop := ∃ A c, E = .returned (.tuple #[.slice A x.length c, .int .i64 (q : Int), .int .i64 e]) ∧ Row w B A (x.map byteV) ∧ w = w'
end Go.Proofs.Ytlecbhnopokmnaa
namespace Go.Proofs.Ytlecbhnopokmnaa
open Go.RowKit Mem Be
set_option maxRecDepth 10000
set_option maxHeartbeats 2000000
theorem stepTag_no (b : List UInt8) (e : Int) (he : e ≠ 0) : stepTag b e = ((0, 0, 0), b, e) := by
  unfold stepTag; simp only [step_below_no _ _ e he]
theorem stepV_no (b : List UInt8) (e : Int) (he : e ≠ 0) : stepV b e = ((false, []), b, e) := by
  unfold stepV; simp only [step_truth_no _ e he]; simp
theorem endE_bad {r : EntP × List UInt8 × Int} (he : r.2.2 ≠ 0) : endE r = (entP0, r.2.1, r.2.2) := by
  have h : errE r.1 r.2.2 = r.2.2 := by simp [errE, he]
  unfold endE; rw [h, if_neg he]
theorem stepB0 (m : Int) (b : List UInt8) : stepB m b 0 = ((getB m b).1, b.drop (getB m b).2.1, (getB m b).2.2) := if_pos rfl
theorem stepR0 (b : List UInt8) : stepR b 0 = ((getR b).1, b.drop (getR b).2.1, (getR b).2.2) := if_pos rfl
theorem stepT0 (b : List UInt8) : stepT b 0 = ((getT b).1, b.drop (getT b).2.1, (getT b).2.2) := if_pos rfl
def StepRef (bs : List UInt8) : Prop := (stepE bs 0).1 = (refE bs).1 ∧ (stepE bs 0).2.2 = (refE bs).2.2 ∧ ((refE bs).2.2 = 0 → (stepE bs 0).2.1 = bs.drop (refE bs).2.1)
theorem bad_ref {bs b : List UInt8} {e : Int} {x : EntP} (he : e ≠ 0) (h1 : stepE1 bs 0 = (x, b, e)) (h2 : refE bs = (entP0, 0, e)) : StepRef bs := by
  have h3 : stepE bs 0 = (entP0, b, e) := by unfold stepE; rw [h1]; exact endE_bad he
  unfold StepRef
  rw [h3, h2]
  exact ⟨rfl, rfl, fun h => absurd h he⟩
theorem step_ref (bs : List UInt8) : StepRef bs := by
  obtain ⟨⟨ks, k1, e1⟩, h1⟩ : ∃ y, getR bs = y := ⟨_, rfl⟩
  have r1 : stepR bs 0 = (ks, bs.drop k1, e1) := by rw [stepR0, h1]
  by_cases hx1 : e1 = 0
  case neg =>
    refine bad_ref (x := ⟨ks, 0, 0, 0, false, []⟩) (b := bs.drop k1) hx1 ?_ ?_
    · unfold stepE1; simp only [r1, stepTag_no _ e1 hx1, stepV_no _ e1 hx1]
    · unfold refE; simp only [h1]; exact if_pos hx1
  subst hx1
  obtain ⟨⟨s, k2, e2⟩, h2⟩ : ∃ y, getB 1099511627776 (bs.drop k1) = y := ⟨_, rfl⟩
  have r2 : stepB 1099511627776 (bs.drop k1) 0 = (s, bs.drop (k1 + k2), e2) := by rw [stepB0, h2, List.drop_drop]
  by_cases hx2 : e2 = 0
  case neg =>
    have ht : stepTag (bs.drop k1) 0 = ((s, 0, 0), bs.drop (k1 + k2), e2) := by unfold stepTag; simp only [r2, step_below_no _ _ e2 hx2]
    refine bad_ref (x := ⟨ks, s, 0, 0, false, []⟩) (b := bs.drop (k1 + k2)) hx2 ?_ ?_
    · unfold stepE1; simp only [r1, ht, stepV_no _ e2 hx2]
    · unfold refE; simp only [h1, h2]; exact (if_neg (by simp)).trans (if_pos hx2)
  subst hx2
  obtain ⟨⟨u, k3, e3⟩, h3⟩ : ∃ y, getB 1048576 (bs.drop (k1 + k2)) = y := ⟨_, rfl⟩
  have r3 : stepB 1048576 (bs.drop (k1 + k2)) 0 = (u, bs.drop (k1 + k2 + k3), e3) := by rw [stepB0, h3, List.drop_drop]
  by_cases hx3 : e3 = 0
  case neg =>
    have ht : stepTag (bs.drop k1) 0 = ((s, u, 0), bs.drop (k1 + k2 + k3), e3) := by unfold stepTag; simp only [r2, r3, step_below_no _ _ e3 hx3]
    refine bad_ref (x := ⟨ks, s, u, 0, false, []⟩) (b := bs.drop (k1 + k2 + k3)) hx3 ?_ ?_
    · unfold stepE1; simp only [r1, ht, stepV_no _ e3 hx3]
    · unfold refE; simp only [h1, h2, h3]; exact (if_neg (by simp)).trans ((if_neg (by simp)).trans (if_pos hx3))
  subst hx3
  obtain ⟨⟨o, k4, e4⟩, h4⟩ : ∃ y, getB 1048576 (bs.drop (k1 + k2 + k3)) = y := ⟨_, rfl⟩
  have r4 : stepB 1048576 (bs.drop (k1 + k2 + k3)) 0 = (o, bs.drop (k1 + k2 + k3 + k4), e4) := by rw [stepB0, h4, List.drop_drop]
  have ht : stepTag (bs.drop k1) 0 = ((s, u, o), bs.drop (k1 + k2 + k3 + k4), e4) := by unfold stepTag; simp only [r2, r3, r4]
  by_cases hx4 : e4 = 0
  case neg =>
    refine bad_ref (x := ⟨ks, s, u, o, false, []⟩) (b := bs.drop (k1 + k2 + k3 + k4)) hx4 ?_ ?_
    · unfold stepE1; simp only [r1, ht, stepV_no _ e4 hx4]
    · unfold refE; simp only [h1, h2, h3, h4]; exact (if_neg (by simp)).trans ((if_neg (by simp)).trans ((if_neg (by simp)).trans (if_pos hx4)))
  subst hx4
  obtain ⟨⟨has, k5, e5⟩, h5⟩ : ∃ y, getT (bs.drop (k1 + k2 + k3 + k4)) = y := ⟨_, rfl⟩
  have r5 : stepT (bs.drop (k1 + k2 + k3 + k4)) 0 = (has, bs.drop (k1 + k2 + k3 + k4 + k5), e5) := by rw [stepT0, h5, List.drop_drop]
  have l5 := getT_err (bs.drop (k1 + k2 + k3 + k4))
  rw [h5] at l5
  simp only at l5
  by_cases hx5 : e5 = 0
  case neg =>
    have hf : has = false := by rcases l5 with ⟨h, _⟩ | ⟨h, _⟩; exact absurd h hx5; exact h
    subst hf
    have hv : stepV (bs.drop (k1 + k2 + k3 + k4)) 0 = ((false, []), bs.drop (k1 + k2 + k3 + k4 + k5), e5) := by unfold stepV; simp only [r5]; rfl
    refine bad_ref (x := ⟨ks, s, u, o, false, []⟩) (b := bs.drop (k1 + k2 + k3 + k4 + k5)) hx5 ?_ ?_
    · unfold stepE1; simp only [r1, ht, hv]
    · unfold refE; simp only [h1, h2, h3, h4, h5]; exact (if_neg (by simp)).trans ((if_neg (by simp)).trans ((if_neg (by simp)).trans ((if_neg (by simp)).trans (if_pos hx5))))
  subst hx5
  cases has
  · have hv : stepV (bs.drop (k1 + k2 + k3 + k4)) 0 = ((false, []), bs.drop (k1 + k2 + k3 + k4 + k5), 0) := by unfold stepV; simp only [r5]; rfl
    have hs : stepE1 bs 0 = (⟨ks, s, u, o, false, []⟩, bs.drop (k1 + k2 + k3 + k4 + k5), 0) := by unfold stepE1; simp only [r1, ht, hv]
    have hr : refE bs = if rightE ks.length 0 s u o false ≠ 0 then (entP0, 0, 11) else (⟨ks, s, u, o, false, []⟩, k1 + k2 + k3 + k4 + k5, 0) := by
      unfold refE; simp only [h1, h2, h3, h4, h5]
      exact (if_neg (by simp)).trans ((if_neg (by simp)).trans ((if_neg (by simp)).trans ((if_neg (by simp)).trans ((if_neg (by simp)).trans (if_neg (by simp))))))
    by_cases hq : rightE ks.length 0 s u o false = 0
    · rw [if_neg (by rw [hq]; simp)] at hr
      have he : errE ⟨ks, s, u, o, false, []⟩ 0 = 0 := if_pos hq
      have h : stepE bs 0 = (⟨ks, s, u, o, false, []⟩, bs.drop (k1 + k2 + k3 + k4 + k5), 0) := by unfold stepE; rw [hs]; exact if_pos he
      unfold StepRef; rw [h, hr]; exact ⟨rfl, rfl, fun _ => rfl⟩
    · rw [if_pos hq] at hr
      have he : errE ⟨ks, s, u, o, false, []⟩ 0 = 11 := (if_neg hq).trans (if_pos rfl)
      have h : stepE bs 0 = (entP0, bs.drop (k1 + k2 + k3 + k4 + k5), 11) := by unfold stepE; rw [hs]; unfold endE; rw [he]; exact if_neg (by decide)
      unfold StepRef; rw [h, hr]; exact ⟨rfl, rfl, fun h => absurd h (by decide)⟩
  · obtain ⟨⟨xs, k6, e6⟩, h6⟩ : ∃ y, getR (bs.drop (k1 + k2 + k3 + k4 + k5)) = y := ⟨_, rfl⟩
    have r6 : stepR (bs.drop (k1 + k2 + k3 + k4 + k5)) 0 = (xs, bs.drop (k1 + k2 + k3 + k4 + k5 + k6), e6) := by rw [stepR0, h6, List.drop_drop]
    have hv : stepV (bs.drop (k1 + k2 + k3 + k4)) 0 = ((true, xs), bs.drop (k1 + k2 + k3 + k4 + k5 + k6), e6) := by unfold stepV; simp only [r5, if_true, r6]
    have hs : stepE1 bs 0 = (⟨ks, s, u, o, true, xs⟩, bs.drop (k1 + k2 + k3 + k4 + k5 + k6), e6) := by unfold stepE1; simp only [r1, ht, hv]
    have hr : refE bs = if e6 ≠ 0 then (entP0, 0, e6) else if rightE ks.length xs.length s u o true ≠ 0 then (entP0, 0, 11) else (⟨ks, s, u, o, true, xs⟩, k1 + k2 + k3 + k4 + k5 + k6, 0) := by
      unfold refE; simp only [h1, h2, h3, h4, h5, h6]
      exact (if_neg (by simp)).trans ((if_neg (by simp)).trans ((if_neg (by simp)).trans ((if_neg (by simp)).trans ((if_neg (by simp)).trans (if_pos (by simp))))))
    by_cases hx6 : e6 = 0
    case neg =>
      rw [if_pos hx6] at hr
      exact bad_ref hx6 hs hr
    subst hx6
    rw [if_neg (by simp)] at hr
    by_cases hq : rightE ks.length xs.length s u o true = 0
    · rw [if_neg (by rw [hq]; simp)] at hr
      have he : errE ⟨ks, s, u, o, true, xs⟩ 0 = 0 := if_pos hq
      have h : stepE bs 0 = (⟨ks, s, u, o, true, xs⟩, bs.drop (k1 + k2 + k3 + k4 + k5 + k6), 0) := by unfold stepE; rw [hs]; exact if_pos he
      unfold StepRef; rw [h, hr]; exact ⟨rfl, rfl, fun _ => rfl⟩
    · rw [if_pos hq] at hr
      have he : errE ⟨ks, s, u, o, true, xs⟩ 0 = 11 := (if_neg hq).trans (if_pos rfl)
      have h : stepE bs 0 = (entP0, bs.drop (k1 + k2 + k3 + k4 + k5 + k6), 11) := by unfold stepE; rw [hs]; unfold endE; rw [he]; exact if_neg (by decide)
      unfold StepRef; rw [h, hr]; exact ⟨rfl, rfl, fun h => absurd h (by decide)⟩
/-- What Read answers. -/
def readP (bs : List UInt8) : EntP × Int := if endZ (stepE bs 0).2.1 (stepE bs 0).2.2 = 0 then ((stepE bs 0).1, 0) else (entP0, endZ (stepE bs 0).2.1 (stepE bs 0).2.2)
def refReadP (bs : List UInt8) : EntP × Int := if (refE bs).2.2 ≠ 0 then (entP0, (refE bs).2.2) else if (refE bs).2.1 < bs.length then (entP0, 11) else ((refE bs).1, 0)
theorem read_ref (bs : List UInt8) : readP bs = refReadP bs := by
  obtain ⟨h1, h2, h3⟩ := step_ref bs
  unfold readP refReadP endZ
  rw [h2, h1]
  by_cases h0 : (refE bs).2.2 = 0
  · rw [h0, h3 h0]
    simp only [if_true, List.length_drop]
    by_cases hl : (refE bs).2.1 < bs.length
    · have hz : ¬ (bs.length - (refE bs).2.1 = 0) := by omega
      simp [hz, hl]
    · have hz : bs.length - (refE bs).2.1 = 0 := by omega
      simp [hz, hl]
  · rw [if_neg h0, if_neg h0, if_pos h0]
end Go.Proofs.Ytlecbhnopokmnaa
namespace Go.Proofs.Ytlecbhnopokmnaa
open Go.RowKit Mem Be
set_option maxRecDepth 10000
set_option maxHeartbeats 4000000
def ReadGot (r : EntP × Int) (w : World) (E : Ending) (w' : World) : Prop :=
  ∃ A c, E = .returned (.tuple #[entV ⟨r.1.k.toArray⟩ r.1.s r.1.u r.1.o r.1.has A r.1.v.length c, .int .i64 r.2]) ∧ w'.ownsRow w.heap.size 5 1 (.slice A r.1.v.length c) r.1.v.length (r.1.v.map byteV) ∧ Below w.heap.size w w'
theorem readgot_err {r : EntP × Int} {e : Int} (hr : r = (entP0, e)) {w w5 : World} {v0 v1 v2 v3 v4 v5 : Value} {o5 : Obj} (hb : Below w.heap.size w w5) : ReadGot r w (.returned (.tuple #[entV ⟨#[]⟩ 0 0 0 false none 0 0, .int .i64 e])) (((((((w5.setCell ⟨w.heap.size, 0, none⟩ v0).setCell ⟨w.heap.size, 1, none⟩ v1).setCell ⟨w.heap.size, 2, none⟩ v2).setCell ⟨w.heap.size, 3, none⟩ v3).setCell ⟨w.heap.size, 4, none⟩ v4).setCell ⟨w.heap.size, 5, none⟩ v5).alloc o5) := by
  subst hr; exact ⟨none, 0, rfl, World.ownsRow_nil _ _ _ _, (below_res5 hb).alloc (below_res5 hb).size _⟩
theorem readgot_ok {r : EntP × Int} {x : EntP} (hr : r = (x, 0)) {w w5 : World} {A : Option Addr} {c : Nat} {v0 v1 v2 v3 v4 v5 : Value} {o5 : Obj} (ho : w5.ownsRow (w.heap.size + 1) 5 1 (.slice A x.v.length c) x.v.length (x.v.map byteV)) (hb : Below w.heap.size w w5) :
    ReadGot r w (.returned (.tuple #[entV ⟨x.k.toArray⟩ x.s x.u x.o x.has A x.v.length c, .int .i64 0])) (((((((w5.setCell ⟨w.heap.size, 0, none⟩ v0).setCell ⟨w.heap.size, 1, none⟩ v1).setCell ⟨w.heap.size, 2, none⟩ v2).setCell ⟨w.heap.size, 3, none⟩ v3).setCell ⟨w.heap.size, 4, none⟩ v4).setCell ⟨w.heap.size, 5, none⟩ v5).alloc o5) := by
  subst hr
  exact ⟨A, c, rfl, (own_base (own_put (own_put (own_put (own_put (own_put (own_put ho (by omega) _ _) (by omega) _ _) (by omega) _ _) (by omega) _ _) (by omega) _ _) (by omega) _ _) (by omega)).alloc _, (below_res5 hb).alloc (below_res5 hb).size _⟩
end Go.Proofs.Ytlecbhnopokmnaa
