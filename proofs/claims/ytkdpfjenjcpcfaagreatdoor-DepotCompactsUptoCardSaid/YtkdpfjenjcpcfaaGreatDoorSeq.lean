/- Bytes that are read one thing behind the other till nothing is left. No dump is imported here. -/
import Derived.Test.YtkdpfjenjcpcfaaGreatDoorCore
namespace Go.Proofs.YtkdpfjenjcpcfaaGreatDoor
namespace Be
section
variable {α : Type} (get : List UInt8 → α × Nat × Int)
def cons1 (x : α) (r : List α × Int) : List α × Int := if r.2 = 0 then (x :: r.1, 0) else ([], r.2)
def allF : Nat → List UInt8 → List α × Int
  | 0, _ => ([], 0)
  | f + 1, bs => if bs.length = 0 then ([], 0) else if (get bs).2.2 = 0 then cons1 (get bs).1 (allF f (bs.drop (get bs).2.1)) else ([], (get bs).2.2)
def allA (bs : List UInt8) : List α × Int := allF get bs.length bs
def Good : Prop := ∀ bs, (get bs).2.2 = 0 → 1 ≤ (get bs).2.1 ∧ (get bs).2.1 ≤ bs.length
def join (acc : List α) (r : List α × Int) : List α × Int := if r.2 = 0 then (acc ++ r.1, 0) else ([], r.2)
variable {get}
theorem all_fuel (hg : Good get) : ∀ (f g : Nat) (bs : List UInt8), bs.length ≤ f → bs.length ≤ g → allF get f bs = allF get g bs := by
  intro f
  induction f with
  | zero =>
    intro g bs h _
    have : bs.length = 0 := by omega
    cases g with
    | zero => rfl
    | succ g => simp [allF, this]
  | succ f ih =>
    intro g bs h h'
    cases g with
    | zero => have : bs.length = 0 := by omega
              simp [allF, this]
    | succ g =>
      unfold allF
      by_cases h0 : bs.length = 0
      · rw [if_pos h0, if_pos h0]
      · rw [if_neg h0, if_neg h0]
        by_cases he : (get bs).2.2 = 0
        · rw [if_pos he, if_pos he]
          have := hg bs he
          rw [ih g _ (by rw [List.length_drop]; omega) (by rw [List.length_drop]; omega)]
        · rw [if_neg he, if_neg he]
theorem all_nil : allA get [] = ([], 0) := rfl
theorem all_step (hg : Good get) (bs : List UInt8) (h : bs.length ≠ 0) (he : (get bs).2.2 = 0) : allA get bs = cons1 (get bs).1 (allA get (bs.drop (get bs).2.1)) := by
  have := hg bs he
  unfold allA
  obtain ⟨n, hn⟩ : ∃ n, bs.length = n + 1 := ⟨bs.length - 1, by omega⟩
  rw [hn, allF, if_neg h, if_pos he]
  rw [all_fuel hg n (bs.drop (get bs).2.1).length _ (by rw [List.length_drop]; omega) (Nat.le_refl _)]
theorem all_err (bs : List UInt8) (h : bs.length ≠ 0) (he : (get bs).2.2 ≠ 0) : allA get bs = ([], (get bs).2.2) := by
  unfold allA
  obtain ⟨n, hn⟩ : ∃ n, bs.length = n + 1 := ⟨bs.length - 1, by omega⟩
  rw [hn, allF, if_neg h, if_neg he]
theorem join_nil (r : List α × Int) (h : r.2 ≠ 0 → r.1 = []) : join [] r = r := by
  unfold join
  by_cases h0 : r.2 = 0
  · rw [if_pos h0, List.nil_append]; exact Prod.ext rfl h0.symm
  · rw [if_neg h0]; exact Prod.ext (h h0).symm rfl
theorem all_bare (hg : Good get) (bs : List UInt8) : (allA get bs).2 ≠ 0 → (allA get bs).1 = [] := by
  intro h
  by_cases h0 : bs.length = 0
  · rw [List.length_eq_zero_iff.1 h0] at h; exact absurd rfl h
  · by_cases he : (get bs).2.2 = 0
    · rw [all_step hg bs h0 he] at h ⊢
      unfold cons1 at h ⊢
      by_cases h2 : (allA get (bs.drop (get bs).2.1)).2 = 0
      · rw [if_pos h2] at h; exact absurd rfl h
      · rw [if_neg h2]
    · rw [all_err bs h0 he]
theorem join_start (hg : Good get) (bs : List UInt8) : allA get bs = join [] (allA get bs) := (join_nil _ (all_bare hg bs)).symm
theorem join_step (hg : Good get) (acc : List α) (bs : List UInt8) (h : bs.length ≠ 0) (he : (get bs).2.2 = 0) : join acc (allA get bs) = join (acc ++ [(get bs).1]) (allA get (bs.drop (get bs).2.1)) := by
  rw [all_step hg bs h he]
  unfold join cons1
  by_cases h2 : (allA get (bs.drop (get bs).2.1)).2 = 0
  · rw [if_pos h2, if_pos rfl, if_pos h2]; simp
  · rw [if_neg h2, if_neg h2, if_neg h2]
theorem join_err (acc : List α) (bs : List UInt8) (h : bs.length ≠ 0) (he : (get bs).2.2 ≠ 0) : join acc (allA get bs) = ([], (get bs).2.2) := by
  rw [all_err bs h he]; unfold join; rw [if_neg he]
theorem join_end (acc : List α) (bs : List UInt8) (h : bs.length = 0) : join acc (allA get bs) = (acc, 0) := by
  rw [List.length_eq_zero_iff.1 h, all_nil]; unfold join; simp
/-- What is laid one behind the other is read so. -/
theorem all_laid (hg : Good get) (put : α → List UInt8) (ok : α → Prop) (hput : ∀ x more, ok x → get (put x ++ more) = (x, (put x).length, 0)) (hpos : ∀ x, put x ≠ []) :
    ∀ l : List α, (∀ x ∈ l, ok x) → allA get (l.flatMap put) = (l, 0)
  | [], _ => rfl
  | x :: l, h => by
    have hx := hput x (l.flatMap put) (h x (by simp))
    have ih := all_laid hg put ok hput hpos l (fun y hy => h y (by simp [hy]))
    have hlen : (put x ++ l.flatMap put).length ≠ 0 := by
      have := List.length_pos_iff.2 (hpos x)
      rw [List.length_append]; omega
    rw [List.flatMap_cons, all_step hg _ hlen (by rw [hx]), hx]
    simp only
    rw [List.drop_left, ih]
    rfl
/-- What is read well is laid as it lies. -/
theorem all_back (hg : Good get) (put : α → List UInt8) (hback : ∀ bs, (get bs).2.2 = 0 → bs.take (get bs).2.1 = put (get bs).1) :
    ∀ (n : Nat) (bs : List UInt8), bs.length ≤ n → (allA get bs).2 = 0 → (allA get bs).1.flatMap put = bs := by
  intro n
  induction n with
  | zero => intro bs h _; rw [List.length_eq_zero_iff.1 (by omega : bs.length = 0)]; rfl
  | succ n ih =>
    intro bs h h2
    by_cases h0 : bs.length = 0
    · rw [List.length_eq_zero_iff.1 h0]; rfl
    · by_cases he : (get bs).2.2 = 0
      · rw [all_step hg bs h0 he] at h2 ⊢
        have hk := hg bs he
        unfold cons1 at h2 ⊢
        by_cases h3 : (allA get (bs.drop (get bs).2.1)).2 = 0
        · rw [if_pos h3]
          simp only [List.flatMap_cons]
          rw [ih _ (by rw [List.length_drop]; omega) h3, ← hback bs he, List.take_append_drop]
        · rw [if_neg h3] at h2; exact absurd h2 h3
      · rw [all_err bs h0 he] at h2; exact absurd h2 he
/-- Cut short, either fewer are read well, or something is missing. -/
theorem all_cut (hg : Good get) (put : α → List UInt8) (ok : α → Prop) (hput : ∀ x more, ok x → get (put x ++ more) = (x, (put x).length, 0)) (hcut : ∀ x k, ok x → 0 < k → k < (put x).length → (get ((put x).take k)).2.2 = 12) (hpos : ∀ x, put x ≠ []) :
    ∀ (l : List α) (c : Nat), (∀ x ∈ l, ok x) → c < (l.flatMap put).length → (allA get ((l.flatMap put).take c)).2 = 12 ∨ ((allA get ((l.flatMap put).take c)).2 = 0 ∧ (allA get ((l.flatMap put).take c)).1.length < l.length)
  | [], c, _, h => absurd h (by simp)
  | x :: l, c, hok, h => by
    have hx := List.length_pos_iff.2 (hpos x)
    rw [List.flatMap_cons] at h ⊢
    rcases Nat.eq_zero_or_pos c with h0 | h0
    · subst h0
      right
      rw [List.take_zero, all_nil]
      simp
    rcases Nat.lt_or_ge c (put x).length with hc | hc
    · left
      rw [List.take_append_of_le_length (Nat.le_of_lt hc)]
      have e := hcut x c (hok x (by simp)) h0 hc
      rw [all_err _ (by rw [List.length_take]; omega) (by rw [e]; decide), e]
    · obtain ⟨d, rfl⟩ := Nat.exists_eq_add_of_le hc
      rw [List.take_length_add_append]
      have hx1 := hput x ((l.flatMap put).take d) (hok x (by simp))
      have ih := all_cut hg put ok hput hcut hpos l d (fun y hy => hok y (by simp [hy])) (by rw [List.length_append] at h; omega)
      rw [all_step hg _ (by rw [List.length_append]; omega) (by rw [hx1]), hx1]
      simp only
      rw [List.drop_left]
      rcases ih with ih | ⟨ih1, ih2⟩
      · left; unfold cons1; rw [if_neg (by rw [ih]; decide)]; exact ih
      · right; unfold cons1; rw [if_pos ih1]; exact ⟨rfl, by simp only [List.length_cons]; omega⟩
end
theorem good_num : Good getN := fun bs he => by
  rcases getN_err bs with ⟨_, h1, h2⟩ | ⟨_, _, h⟩
  · exact ⟨h1, h2⟩
  · omega
theorem num_cut (n : Int) (k : Nat) (h0 : 0 < k) (h1 : k < (numB n).length) : (getN ((numB n).take k)).2.2 = 12 := by
  have hl := numB_len n
  obtain ⟨j, rfl⟩ : ∃ j, k = j + 1 := ⟨k - 1, by omega⟩
  have hs := size_le (uZ n)
  unfold numB numU
  rw [List.take_succ_cons]
  unfold getN
  simp only [List.headD_cons, List.length_cons, size_byte]
  rw [if_neg (by omega), if_neg (by omega), if_pos (by rw [List.length_take, be_len]; omega)]
end Be
end Go.Proofs.YtkdpfjenjcpcfaaGreatDoor
