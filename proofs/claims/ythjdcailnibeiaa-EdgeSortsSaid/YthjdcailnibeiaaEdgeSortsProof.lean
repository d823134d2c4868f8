/-
  Proved: for any list of float64 the law EdgeSorts returns true: edge.Sort answers all of it in order, each as often as it was, and leaves what was handed in alone (lists of more than 100 are let go by the law itself). No condition.
-/
import Derived.Test.YthjdcailnibeiaaEdgeSorts
import Derived.Test.YthjdcailnibeiaaOpenF
namespace Go.Proofs.Ythjdcailnibeiaa
open Go.ChangeShapes Go.WideShapes Go.ChangeAt Go.RowKit
set_option linter.unusedVariables false
theorem cells_f64 : Try.prog.cellsOf 22 = 1 := by kernel_rfl

namespace edgeSorts
theorem shape {H : Type} (ds : List (DataW H)) (h : ds.length = Try.f5.params.size) :
    Rows.edgeSortsSpec.fn H ds = { results := [.lit (.bool true)], args := ds } := by
  have h : ds.length = 1 := h
  match ds, h with
  | [d0], _ => rfl

theorem walked (H : Type) (enc : TypeId × Value → H) (W : World) (base : Nat) (args : Array Value) (ds gs : List (DataW H)) (before : List MemPlace)
    (hval : ∀ (j : Nat) t v, Try.f5.params[j]? = some t → args[j]? = some v → Value.okWide Try.prog W .any base t v)
    (hW : DataW.Whole enc Try.prog Try.f5.params.toList Rows.edgeSortsSpec.vars false W args.toList ds gs before) :
    Calls Try.prog 5 args W (Holds W) := by
  obtain ⟨p, q, hA, hV, rfl, hfz, hnd⟩ := hW
  have hA : DataW.TrodAll enc Try.prog W 0 (fun _ => true) true Try.f5.params.toList args.toList ds p := hA
  rw [Try.params5] at hA hval
  obtain ⟨v0, vs0, d0, ds0, p0, q0, hargs, rfl, rfl, h0, r0⟩ := trodAll_cons hA
  obtain ⟨rfl, rfl, rfl⟩ := trodAll_nil r0
  obtain rfl : args = #[v0] := by cases args; simp_all
  obtain ⟨A, d, cap, rfl, hr, hm, hA⟩ := open_f64s Try.underlying25 Try.underlying22 cells_f64 (hval 0 25 v0 rfl rfl) h0
  unfold maxLen at hm
  exact edgeSorts_walk A d cap W (by omega) hr hA

set_option maxRecDepth 100000 in
theorem lifted (os : Os) (started : os.Started) (H : Type) (enc : TypeId × Value → H) :
    ReturnsInHanded {} Try.checked os 5 .any (Rows.edgeSortsSpec.pre6 enc Try.prog Try.f5 Rows.edgeSortsRow.domain false) (Rows.edgeSortsSpec.post enc Try.prog Try.f5 false true false false) := by
  refine returnsInHanded_of_change (C := Try.checked) own started (by kernel_rfl) Try.func5
    (ChangeSpec.witness6 (enc := enc) (C := Try.checked) false ⟨#[], #[.slice none 0 0], []⟩ 8 (by kernel_rfl) (by kernel_rfl) (by kernel_rfl) (by kernel_rfl)) ?_
  intro W base args ds gs before hval hW _ _
  exact law_contract (by kernel_rfl) rfl shape rfl Try.underlying4 hW (walked H enc W base args ds gs before hval hW)

theorem over : Rows.edgeSortsRow.holds Try.pinned (OpenSpec.ofChange Rows.edgeSortsSpec) :=
  OpenClaim.holds_of_wide 5 Try.f5 rfl rfl rfl rfl rfl rfl rfl ⟨rfl, rfl, rfl, rfl, rfl⟩ rfl rfl rfl rfl rfl (by kernel_rfl) Try.func5 (by kernel_rfl)
    (of_decide_eq_true (by kernel_rfl)) (by unfold Func.isWrapper; first | (rw [if_pos (by decide +kernel)]; kernel_rfl) | (rw [if_neg (by decide +kernel)]; exact ⟨rfl, rfl⟩))
    (fun os started H enc _ => lifted os started H enc)

theorem proved : Rows.EdgeSortsSaid :=
  over
end edgeSorts
end Go.Proofs.Ythjdcailnibeiaa
