/-
  Proved: for any bytes and any one byte more the law MixOn returns true: the mix of these bytes and that one comes of the mix of these bytes (more than 5000 bytes are let go by the law itself). No condition.
-/
import Derived.Test.YtpgncpochlfcnaaMixOn
import Derived.Test.YtpgncpochlfcnaaOpenB
namespace Go.Proofs.Ytpgncpochlfcnaa
open Go.ChangeShapes Go.WideShapes Go.ChangeAt Go.RowKit
set_option linter.unusedVariables false

namespace mixOn
theorem shape {H : Type} (ds : List (DataW H)) (h : ds.length = Try.f5.params.size) :
    Rows.mixOnSpec.fn H ds = { results := [.lit (.bool true)], args := ds } := by
  have h : ds.length = 2 := h
  match ds, h with
  | [d0, d1], _ => rfl

theorem walked (H : Type) (enc : TypeId × Value → H) (W : World) (base : Nat) (args : Array Value) (ds gs : List (DataW H)) (before : List MemPlace)
    (hval : ∀ (j : Nat) t v, Try.f5.params[j]? = some t → args[j]? = some v → Value.okWide Try.prog W .any base t v)
    (hW : DataW.Whole enc Try.prog Try.f5.params.toList Rows.mixOnSpec.vars false W args.toList ds gs before) :
    Calls Try.prog 5 args W (Holds W) := by
  obtain ⟨p, q, hA, hV, rfl, hfz, hnd⟩ := hW
  have hA : DataW.TrodAll enc Try.prog W 0 (fun _ => true) true Try.f5.params.toList args.toList ds p := hA
  rw [Try.params5] at hA hval
  obtain ⟨v0, vs0, d0, ds0, p0, q0, hargs, rfl, rfl, h0, r0⟩ := trodAll_cons hA
  obtain ⟨v1, vs1, d1, ds1, p1, q1, rfl, rfl, rfl, h1, r1⟩ := trodAll_cons r0
  obtain ⟨rfl, rfl, rfl⟩ := trodAll_nil r1
  obtain rfl : args = #[v0, v1] := by cases args; simp_all
  obtain ⟨A, zs, cap, rfl, hr, hz, hm, hn⟩ := open_bytes (hval 0 22 v0 rfl rfl) h0
  unfold maxLen at hm
  obtain ⟨x, rfl, rfl, rfl, wx⟩ := open_int Try.underlying5 (hval 1 5 v1 rfl rfl) h1
  exact mixOn_walk A zs cap x W (by omega) hr hz hn (bounds_u8 wx).1 (bounds_u8 wx).2

set_option maxRecDepth 100000 in
theorem lifted (os : Os) (started : os.Started) (H : Type) (enc : TypeId × Value → H) :
    ReturnsInHanded {} Try.checked os 5 .any (Rows.mixOnSpec.pre6 enc Try.prog Try.f5 Rows.mixOnRow.domain false) (Rows.mixOnSpec.post enc Try.prog Try.f5 false true false false) := by
  refine returnsInHanded_of_change (C := Try.checked) own started (by kernel_rfl) Try.func5
    (ChangeSpec.witness6 (enc := enc) (C := Try.checked) false ⟨#[], #[.slice none 0 0, .int .u8 0], []⟩ 8 (by kernel_rfl) (by kernel_rfl) (by kernel_rfl) (by kernel_rfl)) ?_
  intro W base args ds gs before hval hW _ _
  exact law_contract (by kernel_rfl) rfl shape rfl Try.underlying4 hW (walked H enc W base args ds gs before hval hW)

theorem over : Rows.mixOnRow.holds Try.pinned (OpenSpec.ofChange Rows.mixOnSpec) :=
  OpenClaim.holds_of_wide 5 Try.f5 rfl rfl rfl rfl rfl rfl rfl ⟨rfl, rfl, rfl, rfl, rfl⟩ rfl rfl rfl rfl rfl (by kernel_rfl) Try.func5 (by kernel_rfl)
    (of_decide_eq_true (by kernel_rfl)) (by unfold Func.isWrapper; first | (rw [if_pos (by decide +kernel)]; kernel_rfl) | (rw [if_neg (by decide +kernel)]; exact ⟨rfl, rfl⟩))
    (fun os started H enc _ => lifted os started H enc)

theorem proved : Rows.MixOnSaid :=
  over
end mixOn
end Go.Proofs.Ytpgncpochlfcnaa
