/-
  Layer 6 (wire): the document's own Reader: its End.
-/
import Derived.Test.YtcddgbllmobhdaaDoorWireRefRead
namespace Go.Proofs.YtcddgbllmobhdaaDoor
open Go.ChangeShapes Go.WideShapes Go.ChangeAt Go.RowKit
set_option linter.unusedVariables false

/-- Where it is amiss; below 0: it isn't. -/
def endZ (o : Option Nat) : Int := match o with | none => -1 | some p => p
def Endf (o : Option Nat) (w : World) (b : Nat) (e : Ending) (w' : World) : Prop := e = .returned (.int .i64 (endZ o)) ∧ w.grownBy w' (some b)
set_option maxRecDepth 100000 in
theorem refReadEnd (w : World) (b : Nat) (A : Option Addr) (cap : Nat) (l : List UInt8) (r : Rs) (k0 p : Nat) (h : Rfr w b A cap l k0 r.bad p) (ht : Tells r k0 r.bad p) (hl : l.length ≤ 100000) (hat : r.at_ ≤ l.length) :
    Calls Tryd.prog 22 #[.pointer (some ⟨b, 0, none⟩)] w (Endf (rsEnd l r) w b) := by
  have c0 := h.c0
  have c1 := h.c1
  have c2 := h.c2
  have c3 := h.c3
  have f2 := h.fz 2
  have f3 := h.fz 3
  obtain ⟨k, bad⟩ := r
  have hat : k ≤ l.length := hat
  clear h
  cases bad with
  | true =>
    have hE : rsEnd l ⟨k, true⟩ = some k := by unfold rsEnd; rw [if_neg (by simp)]
    obtain rfl : p = k := ht.amiss rfl
    rw [hE]
    clear hE ht
    go_enter Tryd.func22, Tryd.ntmps22
    go_wp2
    go_quiet (fail)
    all_goals go_wp2
    all_goals
      go_ret
      exact ⟨rfl, grown_drew (grown_refl _ _) _⟩
  | false =>
    obtain rfl : k0 = k := ht.good rfl
    clear ht
    by_cases hkl : k0 = l.length
    · have hE : rsEnd l ⟨k0, false⟩ = none := by unfold rsEnd; rw [if_pos ⟨rfl, hkl⟩]
      rw [hE]
      have hq : decide (k0 < l.length) = false := decide_eq_false (by omega)
      clear hE hkl
      go_enter Tryd.func22, Tryd.ntmps22
      go_wp2
      go_quiet (fail)
      all_goals go_wp2
      all_goals
        go_ret
        exact ⟨rfl, grown_drew (grown_refl _ _) _⟩
    · have hE : rsEnd l ⟨k0, false⟩ = some k0 := by unfold rsEnd; rw [if_neg (fun e => hkl e.2)]
      rw [hE]
      have hq : decide (k0 < l.length) = true := decide_eq_true (by omega)
      clear hE hkl
      go_enter Tryd.func22, Tryd.ntmps22
      go_wp2
      go_quiet (fail)
      all_goals go_wp2
      all_goals
        go_ret
        exact ⟨rfl, grown_set (grown_set (grown_drew (grown_refl _ _) _) _ _ (Or.inl rfl)) _ _ (Or.inl rfl)⟩
end Go.Proofs.YtcddgbllmobhdaaDoor
