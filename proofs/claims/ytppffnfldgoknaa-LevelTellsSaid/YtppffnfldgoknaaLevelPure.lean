/-
  Layer 16 (level): a gauge of load as a step.
-/
import Derived.Test.YtppffnfldgoknaaKit
namespace Go.Proofs.Ytppffnfldgoknaa
open Go.ChangeShapes Go.WideShapes Go.ChangeAt Go.RowKit
set_option linter.unusedVariables false

/-- May a gauge be? -/
structure GoodL (N low high hold : Int) : Prop where
  n1 : 1 ≤ N
  n8 : N ≤ 8
  l0 : 0 ≤ low
  lh : low ≤ high
  h1 : high ≤ 1000
  o1 : 1 ≤ hold
  o2 : hold ≤ 1000
/-- What turns of a gauge: its level, and for how long it has held. -/
structure Ls where
  is : Int
  held : Int
structure LsOk (N hold : Int) (s : Ls) : Prop where
  i0 : 0 ≤ s.is
  i1 : s.is < N
  h0 : 0 ≤ s.held
  h1 : s.held < hold
/-- It is told how much waits. -/
def tellL (N low high hold : Int) (s : Ls) (d : Int) : Ls :=
  if high < d then ⟨if s.is + 1 < N then s.is + 1 else s.is, 0⟩
  else if low ≤ d then ⟨s.is, 0⟩
  else if s.held + 1 < hold then ⟨s.is, s.held + 1⟩
  else ⟨if 0 < s.is then s.is - 1 else s.is, 0⟩
section
variable {N low high hold d b : Int} {s : Ls}
theorem LsOk.calm (g : GoodL N low high hold) : LsOk N hold ⟨0, 0⟩ := ⟨by simp, by have := g.n1; simp; omega, by simp, by have := g.o1; simp; omega⟩
theorem LsOk.tell (g : GoodL N low high hold) (h : LsOk N hold s) (d : Int) : LsOk N hold (tellL N low high hold s d) := by
  obtain ⟨i0, i1, h0, h1⟩ := h
  have o1 := g.o1
  unfold tellL
  split
  · split <;> exact ⟨by simp only; omega, by simp only; omega, by simp only; omega, by simp only; omega⟩
  · split
    · exact ⟨i0, i1, by simp only; omega, by simp only; omega⟩
    · split
      · exact ⟨i0, i1, by simp only; omega, by simp only; omega⟩
      · split <;> exact ⟨by simp only; omega, by simp only; omega, by simp only; omega, by simp only; omega⟩
theorem tell_up (h : high < d) : tellL N low high hold s d = ⟨if s.is + 1 < N then s.is + 1 else s.is, 0⟩ := if_pos h
theorem tell_mid (h : ¬ high < d) (h2 : low ≤ d) : tellL N low high hold s d = ⟨s.is, 0⟩ := by unfold tellL; rw [if_neg h, if_pos h2]
theorem tell_hold (h : ¬ high < d) (h2 : ¬ low ≤ d) (h3 : s.held + 1 < hold) : tellL N low high hold s d = ⟨s.is, s.held + 1⟩ := by unfold tellL; rw [if_neg h, if_neg h2, if_pos h3]
theorem tell_down (h : ¬ high < d) (h2 : ¬ low ≤ d) (h3 : ¬ s.held + 1 < hold) : tellL N low high hold s d = ⟨if 0 < s.is then s.is - 1 else s.is, 0⟩ := by unfold tellL; rw [if_neg h, if_neg h2, if_neg h3]
/-- What the law asks of a step, `b` counted by itself. -/
structure StepL (N low high hold last d n b : Int) : Prop where
  n0 : 0 ≤ n
  n1 : n < N
  up : n ≤ last + 1
  dn : last - 1 ≤ n
  hi : last < n → high < d
  lo : n < last → hold ≤ b
theorem step_tell (g : GoodL N low high hold) (h : LsOk N hold s) (hb : s.held ≤ b) (d : Int) :
    StepL N low high hold s.is d (tellL N low high hold s d).is (if d < low then b + 1 else 0) ∧ (tellL N low high hold s d).held ≤ (if d < low then b + 1 else 0) := by
  have k := h.tell g d
  obtain ⟨i0, i1, h0, h1⟩ := h
  have lh := g.lh
  have ni := k.i0
  have nj := k.i1
  have o1 := g.o1
  by_cases c1 : high < d
  · rw [if_neg (by omega : ¬ d < low)]
    rw [tell_up c1] at *
    simp only at *
    refine ⟨⟨ni, nj, ?_, ?_, fun _ => c1, ?_⟩, by omega⟩
    · split <;> omega
    · split <;> omega
    · split <;> omega
  · by_cases c2 : low ≤ d
    · rw [if_neg (by omega : ¬ d < low)]
      rw [tell_mid c1 c2] at *
      simp only at *
      exact ⟨⟨ni, nj, by omega, by omega, by omega, by omega⟩, by omega⟩
    · rw [if_pos (by omega : d < low)]
      by_cases c3 : s.held + 1 < hold
      · rw [tell_hold c1 c2 c3] at *
        simp only at *
        exact ⟨⟨ni, nj, by omega, by omega, by omega, by omega⟩, by omega⟩
      · rw [tell_down c1 c2 c3] at *
        simp only at *
        refine ⟨⟨ni, nj, ?_, ?_, ?_, fun _ => by omega⟩, by omega⟩
        · split <;> omega
        · split <;> omega
        · split <;> omega
end
end Go.Proofs.Ytppffnfldgoknaa
