/-
  Layer 23 (fuse), the pure part: a fuse as a step.
-/
import Derived.Test.YtihloamiibelgaaKit
namespace Go.Proofs.Ytihloamiibelgaa
set_option linter.unusedVariables false

/-- What may be. -/
structure GoodF (b p : Int) : Prop where
  b1 : 1 ≤ b
  b2 : b ≤ 1000
  p1 : 1 ≤ p
  p2 : p ≤ 1000000
/-- A tick that there is. -/
def WiF (n : Int) : Prop := 0 ≤ n ∧ n ≤ 1099511627776
instance (n : Int) : Decidable (WiF n) := inferInstanceAs (Decidable (_ ∧ _))
/-- A fuse: what it is (0 whole, 1 blown, 2 on trial), how many failures, and when it was blown. -/
structure Fz where
  st : Nat
  fl : Nat
  bl : Int
def Fz.new : Fz := ⟨0, 0, 0⟩
structure FzOk (b : Int) (s : Fz) : Prop where
  st : s.st ≤ 2
  fl : s.fl ≤ 1000
  wh : s.st = 0 → (s.fl : Int) < b
  bl : WiF s.bl
/-- Is one let through? -/
def YesF (p : Int) (s : Fz) (n : Int) : Prop := WiF n ∧ (s.st = 0 ∨ (s.st = 1 ∧ s.bl + p ≤ n))
instance (p : Int) (s : Fz) (n : Int) : Decidable (YesF p s n) := inferInstanceAs (Decidable (_ ∧ _))
def askF (p : Int) (s : Fz) (n : Int) : Fz := if YesF p s n ∧ s.st = 1 then ⟨2, s.fl, s.bl⟩ else s
def goodF (s : Fz) : Fz := ⟨0, 0, s.bl⟩
def badF (b : Int) (s : Fz) (n : Int) : Fz :=
  if ¬ WiF n ∨ s.st = 1 then s
  else if s.st = 2 then ⟨1, s.fl, n⟩
  else if (s.fl : Int) + 1 < b then ⟨0, s.fl + 1, s.bl⟩
  else ⟨1, s.fl + 1, n⟩
section
variable {b p n : Int} {s : Fz}
theorem FzOk.new (g : GoodF b p) : FzOk b Fz.new := ⟨Nat.zero_le _, Nat.zero_le _, fun _ => by have := g.b1; show (0 : Int) < b; omega, by show WiF 0; unfold WiF; decide⟩
theorem FzOk.ask (h : FzOk b s) (p n : Int) : FzOk b (askF p s n) := by
  unfold askF
  split
  · exact ⟨Nat.le_refl _, h.fl, (fun e => by cases e), h.bl⟩
  · exact h
theorem FzOk.good (g : GoodF b p) (h : FzOk b s) : FzOk b (goodF s) := ⟨Nat.zero_le _, Nat.zero_le _, fun _ => by have := g.b1; show (0 : Int) < b; omega, h.bl⟩
theorem FzOk.bad (g : GoodF b p) (h : FzOk b s) (n : Int) : FzOk b (badF b s n) := by
  unfold badF
  split
  · exact h
  · rename_i h1
    have hn : WiF n := Decidable.byContradiction (fun x => h1 (.inl x))
    split
    · exact ⟨Nat.le_succ 1, h.fl, (fun e => by cases e), hn⟩
    · rename_i h2
      have h0 : s.st = 0 := by have := h.st; omega
      have hw := h.wh h0
      have := g.b2
      split
      · rename_i h3
        exact ⟨Nat.zero_le _, by show s.fl + 1 ≤ 1000; omega, fun _ => by show ((s.fl + 1 : Nat) : Int) < b; omega, h.bl⟩
      · exact ⟨Nat.le_succ 1, by show s.fl + 1 ≤ 1000; omega, (fun e => by cases e), hn⟩
theorem wif_out (h : ¬ WiF n) : n < 0 ∨ (¬ n < 0 ∧ 1099511627776 < n) := by
  unfold WiF at h
  omega
/-- The five ways of an Ask. -/
theorem ask_ways (h : FzOk b s) (p n : Int) :
    (¬ WiF n ∧ ¬ YesF p s n ∧ askF p s n = s) ∨
    (WiF n ∧ s.st = 0 ∧ YesF p s n ∧ askF p s n = s) ∨
    (WiF n ∧ s.st = 1 ∧ s.bl + p ≤ n ∧ YesF p s n ∧ askF p s n = ⟨2, s.fl, s.bl⟩) ∨
    (WiF n ∧ s.st = 1 ∧ n < s.bl + p ∧ ¬ YesF p s n ∧ askF p s n = s) ∨
    (WiF n ∧ s.st = 2 ∧ ¬ YesF p s n ∧ askF p s n = s) := by
  have h2 := h.st
  by_cases hn : WiF n
  · by_cases h0 : s.st = 0
    · refine .inr (.inl ⟨hn, h0, ⟨hn, .inl h0⟩, ?_⟩)
      unfold askF; rw [if_neg (by omega)]
    · by_cases h1 : s.st = 1
      · by_cases hp : s.bl + p ≤ n
        · refine .inr (.inr (.inl ⟨hn, h1, hp, ⟨hn, .inr ⟨h1, hp⟩⟩, ?_⟩))
          unfold askF; rw [if_pos ⟨⟨hn, .inr ⟨h1, hp⟩⟩, h1⟩]
        · have : ¬ YesF p s n := fun y => by have := y.2; omega
          refine .inr (.inr (.inr (.inl ⟨hn, h1, by omega, this, ?_⟩)))
          unfold askF; rw [if_neg (fun y => this y.1)]
      · have : ¬ YesF p s n := fun y => by have := y.2; omega
        refine .inr (.inr (.inr (.inr ⟨hn, by omega, this, ?_⟩)))
        unfold askF; rw [if_neg (fun y => this y.1)]
  · have : ¬ YesF p s n := fun y => hn y.1
    refine .inl ⟨hn, this, ?_⟩
    unfold askF; rw [if_neg (fun y => this y.1)]
/-- The five ways of a Bad. -/
theorem bad_ways (h : FzOk b s) (n : Int) :
    (¬ WiF n ∧ badF b s n = s) ∨
    (WiF n ∧ s.st = 1 ∧ badF b s n = s) ∨
    (WiF n ∧ s.st = 2 ∧ badF b s n = ⟨1, s.fl, n⟩) ∨
    (WiF n ∧ s.st = 0 ∧ (s.fl : Int) + 1 < b ∧ badF b s n = ⟨0, s.fl + 1, s.bl⟩) ∨
    (WiF n ∧ s.st = 0 ∧ ¬ (s.fl : Int) + 1 < b ∧ badF b s n = ⟨1, s.fl + 1, n⟩) := by
  have h2 := h.st
  by_cases hn : WiF n
  · by_cases h1 : s.st = 1
    · exact .inr (.inl ⟨hn, h1, by unfold badF; rw [if_pos (.inr h1)]⟩)
    · have e : ¬ (¬ WiF n ∨ s.st = 1) := fun y => y.elim (fun z => z hn) h1
      by_cases h3 : s.st = 2
      · exact .inr (.inr (.inl ⟨hn, h3, by unfold badF; rw [if_neg e, if_pos h3]⟩))
      · by_cases hb : (s.fl : Int) + 1 < b
        · exact .inr (.inr (.inr (.inl ⟨hn, by omega, hb, by unfold badF; rw [if_neg e, if_neg h3, if_pos hb]⟩)))
        · exact .inr (.inr (.inr (.inr ⟨hn, by omega, hb, by unfold badF; rw [if_neg e, if_neg h3, if_neg hb]⟩)))
  · exact .inl ⟨hn, by unfold badF; rw [if_pos (.inl hn)]⟩
end
end Go.Proofs.Ytihloamiibelgaa
