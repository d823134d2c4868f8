/-
  Layer 19 (mark): a mark as a step.
-/
import Derived.Test.YtkmgifmfobopoaaKit
namespace Go.Proofs.Ytkmgifmfobopoaa
open Go.ChangeShapes Go.WideShapes Go.ChangeAt Go.RowKit
set_option linter.unusedVariables false

/-- Is it a tick, a time, or a span of them? -/
structure WiM (n : Int) : Prop where
  n0 : 0 ≤ n
  n1 : n ≤ 1099511627776
instance (n : Int) : Decidable (WiM n) := if h : 0 ≤ n ∧ n ≤ 1099511627776 then .isTrue ⟨h.1, h.2⟩ else .isFalse (fun k => h ⟨k.n0, k.n1⟩)
/-- May a mark be? -/
structure GoodM (L I : Int) : Prop where
  l : WiM L
  i : WiM I
  o : 1 ≤ I
instance (L I : Int) : Decidable (GoodM L I) := if h : WiM L ∧ WiM I ∧ 1 ≤ I then .isTrue ⟨h.1, h.2.1, h.2.2⟩ else .isFalse (fun k => h ⟨k.l, k.i, k.o⟩)
/-- What turns of a mark. -/
structure Mk where
  saw : Bool
  most : Int
  at' : Int
  last : Int
def Mk.new : Mk := ⟨false, 0, 0, 0⟩
structure MkOk (s : Mk) : Prop where
  m0 : 0 ≤ s.most
  m1 : s.most ≤ 1099511627776
  a0 : 0 ≤ s.at'
  al : s.at' ≤ s.last
  l1 : s.last ≤ 1099511627776
  ns : s.saw = false → s.most = 0
/-- May it be told that tick? -/
structure FairM (s : Mk) (now : Int) : Prop where
  w : WiM now
  b : s.last ≤ now
instance (s : Mk) (n : Int) : Decidable (FairM s n) := if h : WiM n ∧ s.last ≤ n then .isTrue ⟨h.1, h.2⟩ else .isFalse (fun k => h ⟨k.w, k.b⟩)
structure SeesM (s : Mk) (now time : Int) : Prop where
  f : FairM s now
  t : WiM time
instance (s : Mk) (n t : Int) : Decidable (SeesM s n t) := if h : FairM s n ∧ WiM t then .isTrue ⟨h.1, h.2⟩ else .isFalse (fun k => h ⟨k.f, k.t⟩)
structure IdleM (I : Int) (s : Mk) (now : Int) : Prop where
  y : s.saw = true
  i : s.at' + I ≤ now
instance (I : Int) (s : Mk) (n : Int) : Decidable (IdleM I s n) := if h : s.saw = true ∧ s.at' + I ≤ n then .isTrue ⟨h.1, h.2⟩ else .isFalse (fun k => h ⟨k.y, k.i⟩)
/-- By how much it grew, where it was idle. -/
def growM (s : Mk) (now : Int) : Int := if s.most + now - s.last ≤ 1099511627776 then s.most + now - s.last else 1099511627776
/-- It sees; it ticks; it stands. -/
def seeM (s : Mk) (now time : Int) : Mk := if SeesM s now time then ⟨true, if s.most < time then time else s.most, now, now⟩ else s
def tickM (I : Int) (s : Mk) (now : Int) : Mk := if FairM s now then ⟨s.saw, if IdleM I s now then growM s now else s.most, s.at', now⟩ else s
def standM (L : Int) (s : Mk) : Int := if s.most < L then 0 else s.most - L
section
variable {L I now time : Int} {s : Mk}
theorem MkOk.new : MkOk Mk.new := ⟨by decide, by decide, by decide, by decide, by decide, fun _ => rfl⟩
theorem see_yes (h : SeesM s now time) : seeM s now time = ⟨true, if s.most < time then time else s.most, now, now⟩ := if_pos h
theorem see_no (h : ¬ SeesM s now time) : seeM s now time = s := if_neg h
theorem tick_no (h : ¬ FairM s now) : tickM I s now = s := if_neg h
theorem tick_idle (h : FairM s now) (k : IdleM I s now) : tickM I s now = ⟨s.saw, growM s now, s.at', now⟩ := by unfold tickM; rw [if_pos h, if_pos k]
theorem tick_on (h : FairM s now) (k : ¬ IdleM I s now) : tickM I s now = ⟨s.saw, s.most, s.at', now⟩ := by unfold tickM; rw [if_pos h, if_neg k]
theorem grow_le (ok : MkOk s) (h : FairM s now) : s.most ≤ growM s now ∧ growM s now ≤ 1099511627776 := by
  have := ok.m1
  have := h.b
  unfold growM
  split <;> omega
theorem MkOk.see (ok : MkOk s) (now time : Int) : MkOk (seeM s now time) := by
  by_cases h : SeesM s now time
  · rw [see_yes h]
    have m0 := ok.m0
    have m1 := ok.m1
    have t0 := h.t.n0
    have t1 := h.t.n1
    have n0 := h.f.w.n0
    have n1 := h.f.w.n1
    refine ⟨?_, ?_, n0, Int.le_refl _, n1, fun e => by cases e⟩
    · simp only; split <;> omega
    · simp only; split <;> omega
  · rw [see_no h]; exact ok
theorem MkOk.tick (ok : MkOk s) (I now : Int) : MkOk (tickM I s now) := by
  by_cases h : FairM s now
  · have a0 := ok.a0
    have al := ok.al
    have m0 := ok.m0
    have b := h.b
    by_cases k : IdleM I s now
    · rw [tick_idle h k]
      have g := grow_le ok h
      exact ⟨by simp only; omega, g.2, a0, by simp only; omega, h.w.n1, fun e => by have := k.y; simp only at e; rw [e] at this; cases this⟩
    · rw [tick_on h k]
      exact ⟨m0, ok.m1, a0, by simp only; omega, h.w.n1, ok.ns⟩
  · rw [tick_no h]; exact ok
theorem stand_mono {s s' : Mk} (h : s.most ≤ s'.most) : standM L s ≤ standM L s' := by
  unfold standM
  split <;> split <;> omega
theorem see_most (s : Mk) (now time : Int) : s.most ≤ (seeM s now time).most := by
  by_cases h : SeesM s now time
  · rw [see_yes h]; simp only; split <;> omega
  · rw [see_no h]; exact Int.le_refl _
theorem tick_most (ok : MkOk s) (I now : Int) : s.most ≤ (tickM I s now).most := by
  by_cases h : FairM s now
  · by_cases k : IdleM I s now
    · rw [tick_idle h k]; exact (grow_le ok h).1
    · rw [tick_on h k]; exact Int.le_refl _
  · rw [tick_no h]; exact Int.le_refl _
theorem stand_bd (ok : MkOk s) (g : GoodM L I) : 0 ≤ standM L s ∧ standM L s ≤ 1099511627776 := by
  have := ok.m1
  have := g.l.n0
  unfold standM
  split <;> omega
theorem not_wi {n : Int} (h : ¬ WiM n) : n < 0 ∨ (0 ≤ n ∧ 1099511627776 < n) := by
  by_cases a : n < 0
  · exact .inl a
  by_cases b : 1099511627776 < n
  · exact .inr ⟨by omega, b⟩
  exact absurd ⟨by omega, by omega⟩ h
theorem not_good (h : ¬ GoodM L I) : ¬ WiM L ∨ (WiM L ∧ ¬ WiM I) ∨ (WiM L ∧ WiM I ∧ I < 1) := by
  by_cases a : WiM L
  · by_cases b : WiM I
    · exact .inr (.inr ⟨a, b, by by_cases c : I < 1; exact c; exact absurd ⟨a, b, by omega⟩ h⟩)
    · exact .inr (.inl ⟨a, b⟩)
  · exact .inl a
theorem not_fair (h : ¬ FairM s now) : ¬ WiM now ∨ (WiM now ∧ now < s.last) := by
  by_cases a : WiM now
  · exact .inr ⟨a, by by_cases c : now < s.last; exact c; exact absurd ⟨a, by omega⟩ h⟩
  · exact .inl a
theorem not_sees (h : ¬ SeesM s now time) : ¬ FairM s now ∨ (FairM s now ∧ ¬ WiM time) := by
  by_cases a : FairM s now
  · exact .inr ⟨a, fun c => h ⟨a, c⟩⟩
  · exact .inl a
theorem not_idle (h : ¬ IdleM I s now) : s.saw = false ∨ (s.saw = true ∧ now < s.at' + I) := by
  cases e : s.saw with
  | false => exact .inl rfl
  | true => exact .inr ⟨rfl, by by_cases c : now < s.at' + I; exact c; exact absurd ⟨e, by omega⟩ h⟩
end
end Go.Proofs.Ytkmgifmfobopoaa
