/-
  Layer 17 (ledger): what a ledger counts, as plain functions: of each class how many came, of each reason how many ended.
-/
import Derived.Test.YthadgficphkpkaaKit
namespace Go.Proofs.Ythadgficphkpkaa
set_option linter.unusedVariables false

/-- How many came of each class, and how many ended, of each reason; 0 where there is no such class, or reason. -/
structure Bk where
  cm : Int → Int
  en : Int → Int → Int
def Bk.new : Bk := ⟨fun _ => 0, fun _ _ => 0⟩
def Bk.come (s : Bk) (c : Int) : Bk := ⟨fun x => if x = c then s.cm x + 1 else s.cm x, s.en⟩
def Bk.ends (s : Bk) (c r : Int) : Bk := ⟨s.cm, fun x y => if x = c ∧ y = r then s.en x y + 1 else s.en x y⟩
/-- How many ended of a class, by any reason. -/
def Bk.tot (s : Bk) (c : Int) : Int := s.en c 1 + s.en c 2 + s.en c 3 + s.en c 4 + s.en c 5 + s.en c 6 + s.en c 7
/-- Is there such a class? (n: how many, the odd one among them.) -/
def HasC (n : Nat) (c : Int) : Prop := 0 ≤ c ∧ c < n
def HasR (r : Int) : Prop := 1 ≤ r ∧ r ≤ 7
instance (n : Nat) (c : Int) : Decidable (HasC n c) := inferInstanceAs (Decidable (0 ≤ c ∧ c < (n : Int)))
instance (r : Int) : Decidable (HasR r) := inferInstanceAs (Decidable (1 ≤ r ∧ r ≤ 7))
theorem not_c {n : Nat} {c : Int} (h : ¬ HasC n c) : c < 0 ∨ (¬ c < 0 ∧ 0 ≤ c ∧ ¬ c < n) := by unfold HasC at h; omega
theorem not_r {r : Int} (h : ¬ HasR r) : r < 1 ∨ (1 ≤ r ∧ 7 < r) := by unfold HasR at h; omega

/-- What holds of all that a ledger counts, behind at most i notes. -/
structure BkOk (n : Nat) (i : Int) (s : Bk) : Prop where
  c0 : ∀ c, 0 ≤ s.cm c
  c1 : ∀ c, s.cm c ≤ i
  e0 : ∀ c r, 0 ≤ s.en c r
  t1 : ∀ c, s.tot c ≤ i
  co : ∀ c, ¬ HasC n c → s.cm c = 0
  eo : ∀ c r, ¬ (HasC n c ∧ HasR r) → s.en c r = 0
section
variable {n : Nat} {i j : Int} {s : Bk}
theorem BkOk.new (n : Nat) : BkOk n 0 Bk.new := ⟨fun _ => Int.le_refl _, fun _ => Int.le_refl _, fun _ _ => Int.le_refl _, fun _ => Int.le_refl _, fun _ _ => rfl, fun _ _ _ => rfl⟩
theorem BkOk.more (h : BkOk n i s) (hij : i ≤ j) : BkOk n j s :=
  ⟨h.c0, fun c => Int.le_trans (h.c1 c) hij, h.e0, fun c => Int.le_trans (h.t1 c) hij, h.co, h.eo⟩
theorem BkOk.tot0 (h : BkOk n i s) (c : Int) : 0 ≤ s.tot c := by
  have e := h.e0 c
  have := e 1; have := e 2; have := e 3; have := e 4; have := e 5; have := e 6; have := e 7
  unfold Bk.tot; omega
theorem has_r {r : Int} (h : HasR r) : r = 1 ∨ r = 2 ∨ r = 3 ∨ r = 4 ∨ r = 5 ∨ r = 6 ∨ r = 7 := by unfold HasR at h; omega
theorem BkOk.e1 (h : BkOk n i s) (c r : Int) : s.en c r ≤ i := by
  have e := h.e0 c
  have a1 := e 1; have a2 := e 2; have a3 := e 3; have a4 := e 4; have a5 := e 5; have a6 := e 6; have a7 := e 7
  have t := h.t1 c
  unfold Bk.tot at t
  by_cases hr : HasR r
  · rcases has_r hr with rfl | rfl | rfl | rfl | rfl | rfl | rfl <;> omega
  · rw [h.eo c r (fun g => hr g.2)]; omega
theorem tot_out (h : BkOk n i s) {c : Int} (hc : ¬ HasC n c) : s.tot c = 0 := by
  have e := fun r => h.eo c r (fun g => hc g.1)
  unfold Bk.tot
  rw [e 1, e 2, e 3, e 4, e 5, e 6, e 7]; rfl
theorem BkOk.e_zero (h : BkOk n i s) (c : Int) : s.en c 0 = 0 := h.eo c 0 (fun g => by have := g.2.1; omega)
theorem cm_come (s : Bk) (c x : Int) : (s.come c).cm x = if x = c then s.cm x + 1 else s.cm x := rfl
theorem cm_ends (s : Bk) (c r x : Int) : (s.ends c r).cm x = s.cm x := rfl
theorem en_come (s : Bk) (c x y : Int) : (s.come c).en x y = s.en x y := rfl
theorem en_ends (s : Bk) (c r x y : Int) : (s.ends c r).en x y = if x = c ∧ y = r then s.en x y + 1 else s.en x y := rfl
theorem tot_come (s : Bk) (c x : Int) : (s.come c).tot x = s.tot x := rfl
theorem tot_ends (s : Bk) {c r : Int} (x : Int) (hr : HasR r) : (s.ends c r).tot x = if x = c then s.tot x + 1 else s.tot x := by
  unfold Bk.tot
  simp only [en_ends]
  by_cases hx : x = c
  · rcases has_r hr with rfl | rfl | rfl | rfl | rfl | rfl | rfl <;> simp [hx] <;> omega
  · simp [hx]
theorem BkOk.come (h : BkOk n i s) {c : Int} (hc : HasC n c) : BkOk n (i + 1) (s.come c) := by
  refine ⟨fun x => ?_, fun x => ?_, h.e0, fun x => ?_, fun x hx => ?_, h.eo⟩
  · rw [cm_come]; have := h.c0 x; split <;> omega
  · rw [cm_come]; have := h.c1 x; split <;> omega
  · rw [tot_come]; have := h.t1 x; omega
  · rw [cm_come, if_neg (fun e : x = c => hx (by rw [e]; exact hc))]; exact h.co x hx
theorem BkOk.ends (h : BkOk n i s) {c r : Int} (hc : HasC n c) (hr : HasR r) : BkOk n (i + 1) (s.ends c r) := by
  refine ⟨h.c0, fun x => ?_, fun x y => ?_, fun x => ?_, h.co, fun x y hx => ?_⟩
  · rw [cm_ends]; have := h.c1 x; omega
  · rw [en_ends]; have := h.e0 x y; split <;> omega
  · rw [tot_ends s x hr]; have := h.t1 x; split <;> omega
  · rw [en_ends, if_neg (fun e : x = c ∧ y = r => hx ⟨by rw [e.1]; exact hc, by rw [e.2]; exact hr⟩)]; exact h.eo x y hx
/-- No more have ended than came. -/
def Bk.Bal (s : Bk) : Prop := ∀ c, s.tot c ≤ s.cm c
theorem bal_new : Bk.new.Bal := fun _ => Int.le_refl _
theorem Bk.Bal.come (h : s.Bal) (c : Int) : (s.come c).Bal := fun x => by
  rw [cm_come, tot_come]; have := h x; split <;> omega
theorem Bk.Bal.ends (h : s.Bal) {c r : Int} (hr : HasR r) (hl : s.tot c < s.cm c) : (s.ends c r).Bal := fun x => by
  rw [cm_ends, tot_ends s x hr]
  by_cases e : x = c
  · subst e; rw [if_pos rfl]; omega
  · rw [if_neg e]; exact h x
end
end Go.Proofs.Ythadgficphkpkaa
