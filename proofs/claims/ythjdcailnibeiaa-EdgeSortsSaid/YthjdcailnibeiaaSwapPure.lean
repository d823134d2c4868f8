/-
  Pure facts on arrays: two ranges exchanged, a range rotated, two sorted ranges merged in place.
-/
import Derived.Test.YthjdcailnibeiaaSortKit
namespace Go.Proofs.Ythjdcailnibeiaa
open Go.Sort

/-- The first n of two ranges, exchanged. -/
def swapUp (a b : Nat) : Nat → Array UInt64 → Array UInt64
  | 0, d => d
  | n + 1, d => swp (swapUp a b n d) (a + n) (b + n)
theorem swapUp_size (a b n : Nat) (d : Array UInt64) : (swapUp a b n d).size = d.size := by
  induction n with
  | zero => rfl
  | succ n ih => show (swp _ _ _).size = _; rw [size_swp, ih]
theorem swapUp_perm {lo hi a b : Nat} {d : Array UInt64} (n : Nat) (h1 : lo ≤ a) (h2 : a + n ≤ b) (h3 : b + n ≤ hi) (h4 : hi ≤ d.size) : PermIn lo hi d (swapUp a b n d) := by
  induction n with
  | zero => exact permIn_refl _ _ _
  | succ n ih =>
    refine permIn_trans _ _ _ _ _ (ih (by omega) (by omega)) ?_
    exact swp_permIn _ lo hi (a + n) (b + n) (by omega) (by omega) (by omega) (by omega) (by rw [swapUp_size]; exact h4)
/-- Where an element comes from. -/
def swIx (a b n x : Nat) : Nat := if a ≤ x ∧ x < a + n then x + (b - a) else if b ≤ x ∧ x < b + n then x - (b - a) else x
theorem swapUp_get {a b : Nat} {d : Array UInt64} (n : Nat) (h2 : a + n ≤ b) (h3 : b + n ≤ d.size) (x : Nat) : (swapUp a b n d)[x]! = d[swIx a b n x]! := by
  induction n generalizing x with
  | zero =>
    show d[x]! = _
    unfold swIx
    rw [if_neg (by omega), if_neg (by omega)]
  | succ n ih =>
    show (swp _ _ _)[x]! = _
    have hz := swapUp_size a b n d
    have ih' := ih (by omega) (by omega)
    by_cases e1 : x = a + n
    · subst e1
      rw [swp_left _ _ _ (by omega) (by omega), ih']
      congr 1
      unfold swIx
      rw [if_neg (by omega), if_neg (by omega), if_pos (by omega)]; omega
    · by_cases e2 : x = b + n
      · subst e2
        rw [swp_right _ _ _ (by omega), ih']
        congr 1
        unfold swIx
        rw [if_neg (by omega), if_neg (by omega), if_neg (by omega), if_pos (by omega)]; omega
      · rw [swp_other _ _ _ _ e1 e2, ih']
        congr 1
        unfold swIx
        repeat' split
        all_goals omega

/-- Where an element of a rotated range comes from. -/
def rotIx (a m b x : Nat) : Nat := if a ≤ x ∧ x < a + (b - m) then x + (m - a) else if a + (b - m) ≤ x ∧ x < b then x - (b - m) else x

theorem rot_more {i j m x : Nat} (hj : 0 < j) (hij : j < i) (him : i ≤ m) : swIx (m - i) m j (rotIx (m - (i - j)) m (m + j) x) = rotIx (m - i) m (m + j) x := by
  unfold swIx rotIx
  repeat' split
  all_goals omega
theorem rot_less {i j m x : Nat} (hi : 0 < i) (hij : i < j) (him : i ≤ m) : swIx (m - i) (m + j - i) i (rotIx (m - i) m (m + (j - i)) x) = rotIx (m - i) m (m + j) x := by
  unfold swIx rotIx
  repeat' split
  all_goals omega
theorem rot_end {i m x : Nat} (hi : 0 < i) (him : i ≤ m) : swIx (m - i) m i x = rotIx (m - i) m (m + i) x := by
  unfold swIx rotIx
  repeat' split
  all_goals omega
/-- d' is d with the range from a to b rotated: what began at m begins at a. -/
def Rot (a m b : Nat) (d d' : Array UInt64) : Prop := PermIn a b d d' ∧ ∀ x, d'[x]! = d[rotIx a m b x]!
end Go.Proofs.Ythjdcailnibeiaa
