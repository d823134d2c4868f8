/-
  Layer 22 (backoff), the pure part: the wait behind so many failures, less a jitter.
-/
import Derived.Test.YtkomhdlblhhdgaaKit
namespace Go.Proofs.Ytkomhdlblhhdgaa
set_option linter.unusedVariables false

/-- What may be. -/
structure GoodB (b l : Int) : Prop where
  b1 : 1 ≤ b
  bl : b ≤ l
  l1 : l ≤ 1000000
/-- The base, doubled so often, at most the cap. -/
def bwZ (b l : Int) : Nat → Int
  | 0 => b
  | n + 1 => min (bwZ b l n * 2) l
section
variable {b l : Int}
theorem bw_bd (g : GoodB b l) : ∀ n, b ≤ bwZ b l n ∧ bwZ b l n ≤ l
  | 0 => ⟨Int.le_refl _, g.bl⟩
  | n + 1 => by
    have := bw_bd g n
    have := g.b1
    have := g.bl
    unfold bwZ
    omega
theorem bw_up (g : GoodB b l) (n : Nat) : bwZ b l n ≤ bwZ b l (n + 1) := by
  have := bw_bd g n
  have := g.b1
  show bwZ b l n ≤ min (bwZ b l n * 2) l
  omega
theorem bw_top (g : GoodB b l) {k : Nat} (h : bwZ b l k = l) : ∀ m, bwZ b l (k + m) = l
  | 0 => h
  | m + 1 => by
    have := bw_top g h m
    have := g.b1
    have := g.bl
    show min (bwZ b l (k + m) * 2) l = l
    omega
theorem bw_big (g : GoodB b l) : ∀ n, bwZ b l n = l ∨ ((2 ^ n : Nat) : Int) ≤ bwZ b l n
  | 0 => .inr g.b1
  | n + 1 => by
    have h := bw_bd g n
    have := g.b1
    have e : bwZ b l (n + 1) = min (bwZ b l n * 2) l := rfl
    rcases bw_big g n with x | x
    · exact .inl (bw_top g x 1)
    · rw [e, Nat.pow_succ]
      omega
theorem bw_40 (g : GoodB b l) {n : Nat} (h : 40 ≤ n) : bwZ b l n = l := by
  have e : bwZ b l 40 = l := by
    rcases bw_big g 40 with x | x
    · exact x
    · have := (bw_bd g 40).2
      have := g.l1
      omega
  have := bw_top g e (n - 40)
  rwa [show 40 + (n - 40) = n by omega] at this
/-- What the program's doubling has come to, i times doubled. -/
structure Dbl (b l : Int) (i : Nat) (v : Int) : Prop where
  e : min v l = bwZ b l i
  v1 : 1 ≤ v
  v2 : v ≤ 2 * l
theorem Dbl.start (g : GoodB b l) : Dbl b l 0 b := ⟨by have := g.bl; show min b l = b; omega, g.b1, by have := g.b1; have := g.bl; omega⟩
theorem Dbl.next {i : Nat} {v : Int} (g : GoodB b l) (h : Dbl b l i v) (hv : v < l) : Dbl b l (i + 1) (v * 2) := by
  have := g.b1
  have := h.e
  have := h.v1
  exact ⟨by show min (v * 2) l = min (bwZ b l i * 2) l; omega, by omega, by omega⟩
theorem Dbl.top {i n : Nat} {v : Int} (g : GoodB b l) (h : Dbl b l i v) (hv : ¬ v < l) (hi : i ≤ n) : min v l = bwZ b l n := by
  have e : bwZ b l i = l := by have := h.e; omega
  have := bw_top g e (n - i)
  rw [show i + (n - i) = n by omega] at this
  omega
/-- A wait less a jitter. -/
def jitZ (j w : Int) : Int := w - (max j 0) % (w / 2 + 1)
theorem jit_zero {w : Int} (h : 1 ≤ w) : jitZ 0 w = w := by
  have e : (max (0 : Int) 0) = 0 := rfl
  unfold jitZ
  rw [e, Int.zero_emod]
  omega
theorem jit_bd {w : Int} (h : 1 ≤ w) (j : Int) : 1 ≤ jitZ j w ∧ jitZ j w ≤ w ∧ w ≤ 2 * jitZ j w := by
  have h1 := Int.emod_nonneg (max j 0) (show w / 2 + 1 ≠ 0 by omega)
  have h2 := Int.emod_lt_of_pos (max j 0) (show 0 < w / 2 + 1 by omega)
  unfold jitZ
  omega
end
end Go.Proofs.Ytkomhdlblhhdgaa
