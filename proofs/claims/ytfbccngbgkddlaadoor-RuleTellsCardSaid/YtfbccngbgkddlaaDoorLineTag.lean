/-
  Layer 4 (line): the reader's method tag: one tag, from its comma on.
-/
import Derived.Test.YtfbccngbgkddlaaDoorLineWordAt
namespace Go.Proofs.YtfbccngbgkddlaaDoor
open Go.ChangeShapes Go.WideShapes Go.ChangeAt Go.RowKit
set_option linter.unusedVariables false

/-- A pair of texts in a block of its own. -/
def Pr (w : World) (g : Nat) (x y : ByteArray) : Prop := w.heap[g]? = some (.cells #[.string x, .string y] 44 (0, 0))
section
variable {w w' : World} {g b : Nat} {x y : ByteArray}
theorem Pr.c0 (h : Pr w g x y) : w.cell? ⟨g, 0, none⟩ = some (.string x) := cell_of_block h
theorem Pr.c1 (h : Pr w g x y) : w.cell? ⟨g, 1, none⟩ = some (.string y) := cell_of_block h
theorem Pr.f0 (h : Pr w g x y) : w.frozen? ⟨g, 0, none⟩ = false := frozen_of_block h
theorem Pr.f1 (h : Pr w g x y) : w.frozen? ⟨g, 1, none⟩ = false := frozen_of_block h
theorem Pr.grown (h : Pr w g x y) (hg : w.grownBy w' (some b)) (hb : b ≠ g) : Pr w' g x y := by
  unfold Pr; rw [hg.block g (lt_of_block h) (fun e => hb (Option.some.inj e).symm)]; exact h
theorem Pr.set0 (h : Pr w g x y) (z : ByteArray) : Pr (w.setCell ⟨g, 0, none⟩ (.string z)) g z y := heap_set_same h
theorem Pr.set1 (h : Pr w g x y) (z : ByteArray) : Pr (w.setCell ⟨g, 1, none⟩ (.string z)) g x z := heap_set_same h
end

end Go.Proofs.YtfbccngbgkddlaaDoor
