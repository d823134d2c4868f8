/-
  Proved: for any lateness and idle time handed to mark.New and any deeds the law MarkOn returns true: where there is a mark it never stands below where it stood a deed before; one that only sees stands, at the end, at the greatest time that it let itself be told less the lateness, at least at 0; where there is none New tells an error (more than 300 deeds are let go by the law itself). No condition.
-/
import Derived.Test.YtkmgifmfobopoaaMarkOn
import Derived.Test.YtkmgifmfobopoaaDbls
namespace Go.Proofs.Ytkmgifmfobopoaa
open Go.ChangeShapes Go.WideShapes Go.ChangeAt Go.RowKit
set_option linter.unusedVariables false

namespace markOn
theorem shape {H : Type} (ds : List (DataW H)) (h : ds.length = Try.f4.params.size) :
    Rows.markOnSpec.fn H ds = { results := [.lit (.bool true)], args := ds } := by
  have h : ds.length = 3 := h
  match ds, h with
  | [d0, d1, d2], _ => rfl

set_option maxRecDepth 100000 in
theorem walked (H : Type) (enc : TypeId × Value → H) (W : World) (base : Nat) (args : Array Value) (ds gs : List (DataW H)) (before : List MemPlace)
    (hval : ∀ (j : Nat) t v, Try.f4.params[j]? = some t → args[j]? = some v → Value.okWide Try.prog W .any base t v)
    (hW : DataW.Whole enc Try.prog Try.f4.params.toList Rows.markOnSpec.vars false W args.toList ds gs before) :
    Calls Try.prog 4 args W (Holds W) := by
  obtain ⟨p, q, hA, hV, rfl, hfz, hnd⟩ := hW
  have hA : DataW.TrodAll enc Try.prog W 0 (fun _ => true) true Try.f4.params.toList args.toList ds p := hA
  rw [Try.params4] at hA hval
  obtain ⟨v0, vs0, d0, ds0, p0, q0, hargs, rfl, rfl, h0, r0⟩ := trodAll_cons hA
  obtain ⟨v1, vs1, d1, ds1, p1, q1, rfl, rfl, rfl, h1, r1⟩ := trodAll_cons r0
  obtain ⟨v2, vs2, d2, ds2, p2, q2, rfl, rfl, rfl, h2, r2⟩ := trodAll_cons r1
  obtain ⟨rfl, rfl, rfl⟩ := trodAll_nil r2
  obtain rfl : args = #[v0, v1, v2] := by cases args; simp_all
  obtain ⟨L, rfl, rfl, rfl, wL⟩ := open_int Try.underlying2 (hval 0 2 v0 rfl rfl) h0
  obtain ⟨I, rfl, rfl, rfl, wI⟩ := open_int Try.underlying2 (hval 1 2 v1 rfl rfl) h1
  obtain ⟨A, c, l, rfl, hRd, hLn, _⟩ := open_dbls Try.underlying22 Try.underlying34 (by kernel_rfl) rfl rfl rfl rfl rfl rfl (hval 2 22 v2 rfl rfl) h2
  by_cases hg : GoodM L I
  · rcases Nat.lt_or_ge 300 l.length with hm | hm
    · exact on_many L I A c l.length W hg hm
    · exact on_walk L I A c l W hg hRd hm
  · exact on_bad L I A c l.length W hg

set_option maxRecDepth 100000 in
theorem lifted (os : Os) (started : os.Started) (H : Type) (enc : TypeId × Value → H) :
    ReturnsInHanded {} Try.checked os 4 .any (Rows.markOnSpec.pre6 enc Try.prog Try.f4 Rows.markOnRow.domain false) (Rows.markOnSpec.post enc Try.prog Try.f4 false true false false) := by
  refine returnsInHanded_of_change (C := Try.checked) own started (by kernel_rfl) Try.func4
    (ChangeSpec.witness6 (enc := enc) (C := Try.checked) false ⟨#[], #[.int .i64 0, .int .i64 0, .slice none 0 0], []⟩ 8 (by kernel_rfl) (by kernel_rfl) (by kernel_rfl) (by kernel_rfl)) ?_
  intro W base args ds gs before hval hW _ _
  exact law_contract (by kernel_rfl) rfl shape rfl Try.underlying4 hW (walked H enc W base args ds gs before hval hW)

theorem over : Rows.markOnRow.holds Try.pinned (OpenSpec.ofChange Rows.markOnSpec) :=
  OpenClaim.holds_of_wide 4 Try.f4 rfl rfl rfl rfl rfl rfl rfl ⟨rfl, rfl, rfl, rfl, rfl⟩ rfl rfl rfl rfl rfl (by kernel_rfl) Try.func4 (by kernel_rfl)
    (of_decide_eq_true (by kernel_rfl)) (by unfold Func.isWrapper; first | (rw [if_pos (by decide +kernel)]; kernel_rfl) | (rw [if_neg (by decide +kernel)]; exact ⟨rfl, rfl⟩))
    (fun os started H enc _ => lifted os started H enc)

theorem proved : Rows.MarkOnSaid :=
  over
end markOn
end Go.Proofs.Ytkmgifmfobopoaa
