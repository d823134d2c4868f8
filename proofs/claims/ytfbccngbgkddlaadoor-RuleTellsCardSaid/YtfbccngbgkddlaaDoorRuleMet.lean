/-
  From the row's condition on the library's package-level variables (three tables) to what the walks use.
-/
import Derived.Test.YtfbccngbgkddlaaDoorLineMet
namespace Go.Proofs.YtfbccngbgkddlaaDoor
open Go.RowKit Go.ChangeShapes Go.WideShapes
set_option linter.unusedVariables false

theorem laid_of_met {W : World} (h : laidMetH Tryd.prog laidAll W) : Laid W := by
  have h' : laidMet Tryd.prog [("math/bits.deBruijn32tab", Rows.laid_math_bits_deBruijn32tab), ("math/bits.deBruijn64tab", Rows.laid_math_bits_deBruijn64tab), ("internal/strconv.uint64pow10", Rows.laid_internal_strconv_uint64pow10)] W := h
  have t1 := h'.tail
  have t2 := t1.tail
  rw [tabEq] at t2
  refine ⟨Lib.tabIs_of_head gTab tTab Tryd.underlying101 Tryd.underlying80 cellsU64 cellsT20 t2, ?_⟩
  obtain ⟨ps, ⟨g, t, cs, fuel, p, q, hg, ht, hvar, hd, _, _⟩, _⟩ := t1
  obtain rfl := Option.some.inj (gD64.symm.trans hg)
  exact var_lt gD64 hvar
end Go.Proofs.YtfbccngbgkddlaaDoor
