/-
  Layer 20 (window): may the document's table be?
-/
import Derived.Test.YtedhciolnekpaaaGreatDoorQWindowDue
namespace Go.Proofs.YtedhciolnekpaaaGreatDoor
open Go.ChangeShapes Go.WideShapes Go.ChangeAt Go.RowKit
set_option linter.unusedVariables false

section
variable {base : Nat} {w : World} {b : Nat} {t : Tb} {A : Option Addr} {c : Nat} {l : List PtW}
set_option maxHeartbeats 1000000 in
set_option maxRecDepth 100000 in
theorem ref_good_yes (h : Tr base w b t A c l) (g : GoodT t) :
    Calls Tryz.prog 7 #[.pointer (some ⟨b, 0, none⟩)] w fun e w' => e = .returned (.bool true) ∧ w = w' := by
  have c0 := h.c0
  have c1 := h.c1
  have c2 := h.c2
  have c3 := h.c3
  obtain ⟨a1, a2, a3, a4, a5, a6, a7, a8⟩ := g
  clear h
  go_enter Tryz.func7, Tryz.ntmps7
  go_wp2_with fail
  go_ret
  exact ⟨rfl, rfl⟩
set_option maxHeartbeats 4000000 in
set_option maxRecDepth 100000 in
theorem ref_good_no (h : Tr base w b t A c l) (g : ¬ GoodT t) :
    Calls Tryz.prog 7 #[.pointer (some ⟨b, 0, none⟩)] w fun e w' => e = .returned (.bool false) ∧ w = w' := by
  have c0 := h.c0
  have c1 := h.c1
  have c2 := h.c2
  have c3 := h.c3
  have g := not_goodT g
  clear h
  rcases g with x1 | ⟨x1, x2⟩ | ⟨x1, x2, x3⟩ | ⟨x1, x2, x3, x4⟩ | ⟨x1, x2, x3, x4, x5⟩ | ⟨x1, x2, x3, x4, x5, x6⟩ | ⟨x1, x2, x3, x4, x5, x6, x7⟩ | ⟨x1, x2, x3, x4, x5, x6, x7, x8⟩
  all_goals
    go_enter Tryz.func7, Tryz.ntmps7
    go_wp2_with fail
    go_ret
    exact ⟨by first | rfl | (refine congrArg (fun b => Ending.returned (.bool b)) ?_; first | (exact decide_eq_false (by omega))), rfl⟩
end
end Go.Proofs.YtedhciolnekpaaaGreatDoor
