/-
  Proved: for any lists of thresholds, any class, any level and any keys the law SampleKeeps returns true: sample.May tells whether they are thresholds as the document says; sample.Keep tells ErrArg where they aren't, or there is no such class, or level, else whether the key's part is no less than that threshold; sample.Lost tells ErrArg likewise, else how many of the keys aren't kept (more than 20 lists, a list of more than 100 thresholds, more than 50 keys, or a key of more than 1000 bytes, are let go by the law itself). No condition.
-/
import Derived.Test.YtidpldnkpacobaaSampleKeeps
namespace Go.Proofs.Ytidpldnkpacobaa
open Go.ChangeShapes Go.WideShapes Go.ChangeAt Go.RowKit
set_option linter.unusedVariables false

namespace sampleKeeps
theorem shape {H : Type} (ds : List (DataW H)) (h : ds.length = Try.f3.params.size) :
    Rows.sampleKeepsSpec.fn H ds = { results := [.lit (.bool true)], args := ds } := by
  have h : ds.length = 4 := h
  match ds, h with
  | [d0, d1, d2, d3], _ => rfl

set_option maxRecDepth 100000 in
theorem walked (H : Type) (enc : TypeId × Value → H) (W : World) (base : Nat) (args : Array Value) (ds gs : List (DataW H)) (before : List MemPlace)
    (hval : ∀ (j : Nat) t v, Try.f3.params[j]? = some t → args[j]? = some v → Value.okWide Try.prog W .any base t v)
    (hW : DataW.Whole enc Try.prog Try.f3.params.toList Rows.sampleKeepsSpec.vars false W args.toList ds gs before) :
    Calls Try.prog 3 args W (Holds W) := by
  obtain ⟨p, q, hA, hV, rfl, hfz, hnd⟩ := hW
  have hA : DataW.TrodAll enc Try.prog W 0 (fun _ => true) true Try.f3.params.toList args.toList ds p := hA
  rw [Try.params3] at hA hval
  obtain ⟨v0, vs0, d0, ds0, p0, q0, hargs, rfl, rfl, h0, r0⟩ := trodAll_cons hA
  obtain ⟨v1, vs1, d1, ds1, p1, q1, rfl, rfl, rfl, h1, r1⟩ := trodAll_cons r0
  obtain ⟨v2, vs2, d2, ds2, p2, q2, rfl, rfl, rfl, h2, r2⟩ := trodAll_cons r1
  obtain ⟨v3, vs3, d3, ds3, p3, q3, rfl, rfl, rfl, h3, r3⟩ := trodAll_cons r2
  obtain ⟨rfl, rfl, rfl⟩ := trodAll_nil r3
  obtain rfl : args = #[v0, v1, v2, v3] := by cases args; simp_all
  obtain ⟨B, cb, ls, rfl, hl, hlm, hle⟩ := open_rows_q (hval 0 22 v0 rfl rfl) h0
  unfold maxLen at hlm hle
  obtain ⟨c, rfl, rfl, rfl, wc⟩ := open_int Try.underlying3 (hval 1 3 v1 rfl rfl) h1
  obtain ⟨v, rfl, rfl, rfl, wv⟩ := open_int Try.underlying3 (hval 2 3 v2 rfl rfl) h2
  obtain ⟨K, ck, keys, rfl, hK, hkl⟩ := open_texts (hval 3 23 v3 rfl rfl) h3
  unfold maxLen at hkl
  exact keeps_walk B cb ls c v K ck keys _ W hl (by omega) (fun l hl' => by have := hle l hl'; omega) hK (by omega)

set_option maxRecDepth 100000 in
theorem lifted (os : Os) (started : os.Started) (H : Type) (enc : TypeId × Value → H) :
    ReturnsInHanded {} Try.checked os 3 .any (Rows.sampleKeepsSpec.pre6 enc Try.prog Try.f3 Rows.sampleKeepsRow.domain false) (Rows.sampleKeepsSpec.post enc Try.prog Try.f3 false true false false) := by
  refine returnsInHanded_of_change (C := Try.checked) own started (by kernel_rfl) Try.func3
    (ChangeSpec.witness6 (enc := enc) (C := Try.checked) false ⟨#[], #[.slice none 0 0, .int .i64 0, .int .i64 0, .slice none 0 0], []⟩ 8 (by kernel_rfl) (by kernel_rfl) (by kernel_rfl) (by kernel_rfl)) ?_
  intro W base args ds gs before hval hW _ _
  exact law_contract (by kernel_rfl) rfl shape rfl Try.underlying4 hW (walked H enc W base args ds gs before hval hW)

theorem over : Rows.sampleKeepsRow.holds Try.pinned (OpenSpec.ofChange Rows.sampleKeepsSpec) :=
  OpenClaim.holds_of_wide 3 Try.f3 rfl rfl rfl rfl rfl rfl rfl ⟨rfl, rfl, rfl, rfl, rfl⟩ rfl rfl rfl rfl rfl (by kernel_rfl) Try.func3 (by kernel_rfl)
    (of_decide_eq_true (by kernel_rfl)) (by unfold Func.isWrapper; first | (rw [if_pos (by decide +kernel)]; kernel_rfl) | (rw [if_neg (by decide +kernel)]; exact ⟨rfl, rfl⟩))
    (fun os started H enc _ => lifted os started H enc)

theorem proved : Rows.SampleKeepsSaid :=
  over
end sampleKeeps
end Go.Proofs.Ytidpldnkpacobaa
