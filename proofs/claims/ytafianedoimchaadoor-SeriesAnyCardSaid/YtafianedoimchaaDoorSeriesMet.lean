/-
  From the row's condition on the library's package-level variables (no handle among them) to what the walks use.
-/
import Derived.Test.YtafianedoimchaaDoorLineMet
namespace Go.Proofs.YtafianedoimchaaDoor
open Go.RowKit Go.ChangeShapes Go.WideShapes
set_option linter.unusedVariables false

theorem laid_of_met {W : World} (h : laidMetH Tryd.prog laidAll W) : Laid W := by
  have h' : laidMet Tryd.prog [("math/bits.deBruijn32tab", Rows.laid_math_bits_deBruijn32tab), ("math/bits.deBruijn64tab", Rows.laid_math_bits_deBruijn64tab), ("internal/strconv.uint64pow10", Rows.laid_internal_strconv_uint64pow10), ("strconv.ErrRange", Rows.laid_strconv_ErrRange), ("strconv.ErrSyntax", Rows.laid_strconv_ErrSyntax)] W := h
  have t1 := h'.tail
  have t2 := t1.tail
  have t3 := t2.tail
  have t4 := t3.tail
  rw [tabEq] at t2
  obtain ⟨a1, s1, v1, _, _, _⟩ := laid_sentinel t3 gER tER Tryd.underlying28 rowES Tryd.underlying122 Tryd.underlying124 rfl rfl Tryd.underlying9 cellsES cellsStr
  obtain ⟨a2, s2, v2, _, _, _⟩ := laid_sentinel t4 gES tES Tryd.underlying28 rowES Tryd.underlying122 Tryd.underlying124 rfl rfl Tryd.underlying9 cellsES cellsStr
  refine ⟨⟨_, _, v2⟩, ⟨_, _, v1⟩, Lib.tabIs_of_head gTab tTab Tryd.underlying107 Tryd.underlying79 cellsU64 cellsT20 t2, ?_⟩
  obtain ⟨ps, ⟨g, t, cs, fuel, p, q, hg, ht, hvar, hd, _, _⟩, _⟩ := t1
  obtain rfl := Option.some.inj (gD64.symm.trans hg)
  exact var_lt gD64 hvar
end Go.Proofs.YtafianedoimchaaDoor
