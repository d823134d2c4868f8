/-
  Proved: for any number of failures and any pause handed to fuse.New, any tick at which it fails so often, any list of ticks at which it is asked then, and either way of telling it how that went, the law FuseShuts returns true: where there is no fuse New tells an error; else it is whole, and lets through, till it has failed as often as it bears; from then on none is let through ahead of the tick at which it blew and the pause, behind it just one, and behind being told so it is whole, or blown for a pause again (more than 300 ticks, and a tick beyond a thousand millions, are let go by the law itself). No condition.
-/
import Derived.Test.YtihloamiibelgaaFuseShuts
namespace Go.Proofs.Ytihloamiibelgaa
open Go.ChangeShapes Go.WideShapes Go.ChangeAt Go.RowKit
set_option linter.unusedVariables false

namespace fuseShuts
theorem shape {H : Type} (ds : List (DataW H)) (h : ds.length = Try.f4.params.size) :
    Rows.fuseShutsSpec.fn H ds = { results := [.lit (.bool true)], args := ds } := by
  have h : ds.length = 5 := h
  match ds, h with
  | [d0, d1, d2, d3, d4], _ => rfl

set_option maxRecDepth 100000 in
theorem walked (H : Type) (enc : TypeId × Value → H) (W : World) (base : Nat) (args : Array Value) (ds gs : List (DataW H)) (before : List MemPlace)
    (hval : ∀ (j : Nat) t v, Try.f4.params[j]? = some t → args[j]? = some v → Value.okWide Try.prog W .any base t v)
    (hW : DataW.Whole enc Try.prog Try.f4.params.toList Rows.fuseShutsSpec.vars false W args.toList ds gs before) :
    Calls Try.prog 4 args W (Holds W) := by
  obtain ⟨p, q, hA, hV, rfl, hfz, hnd⟩ := hW
  have hA : DataW.TrodAll enc Try.prog W 0 (fun _ => true) true Try.f4.params.toList args.toList ds p := hA
  rw [Try.params4] at hA hval
  obtain ⟨v0, vs0, d0, ds0, p0, q0, hargs, rfl, rfl, h0, r0⟩ := trodAll_cons hA
  obtain ⟨v1, vs1, d1, ds1, p1, q1, rfl, rfl, rfl, h1, r1⟩ := trodAll_cons r0
  obtain ⟨v2, vs2, d2, ds2, p2, q2, rfl, rfl, rfl, h2, r2⟩ := trodAll_cons r1
  obtain ⟨v3, vs3, d3, ds3, p3, q3, rfl, rfl, rfl, h3, r3⟩ := trodAll_cons r2
  obtain ⟨v4, vs4, d4, ds4, p4, q4, rfl, rfl, rfl, h4, r4⟩ := trodAll_cons r3
  obtain ⟨rfl, rfl, rfl⟩ := trodAll_nil r4
  obtain rfl : args = #[v0, v1, v2, v3, v4] := by cases args; simp_all
  obtain ⟨B, rfl, rfl, rfl, wB⟩ := open_int Try.underlying3 (hval 0 3 v0 rfl rfl) h0
  obtain ⟨P, rfl, rfl, rfl, wP⟩ := open_int Try.underlying3 (hval 1 3 v1 rfl rfl) h1
  obtain ⟨T, rfl, rfl, rfl, wT⟩ := open_int Try.underlying2 (hval 2 2 v2 rfl rfl) h2
  obtain ⟨A, c, l, rfl, hX, _, hF⟩ := open_vals (hval 3 41 v3 rfl rfl) h3
  obtain ⟨gd, rfl, rfl, rfl⟩ := open_bool Try.underlying4 (hval 4 4 v4 rfl rfl) h4
  by_cases hg : GoodF B P
  · by_cases t0 : T < 0
    · exact shuts_far B P T A c l.length gd W hg (.inl t0)
    by_cases t1 : 1000000000 < T
    · exact shuts_far B P T A c l.length gd W hg (.inr (.inl ⟨t0, t1⟩))
    rcases Nat.lt_or_ge 300 l.length with hm | hm
    · exact shuts_far B P T A c l.length gd W hg (.inr (.inr ⟨t0, t1, hm⟩))
    · obtain ⟨N, rfl⟩ : ∃ N : Nat, B = (N : Int) := ⟨B.toNat, by have := hg.b1; omega⟩
      exact shuts_walk N P T A c l gd W hg t0 t1 (vals_nums hX) hF hm
  · exact shuts_bad B P T A c l.length gd W hg

set_option maxRecDepth 100000 in
theorem lifted (os : Os) (started : os.Started) (H : Type) (enc : TypeId × Value → H) :
    ReturnsInHanded {} Try.checked os 4 .any (Rows.fuseShutsSpec.pre6 enc Try.prog Try.f4 Rows.fuseShutsRow.domain false) (Rows.fuseShutsSpec.post enc Try.prog Try.f4 false true false false) := by
  refine returnsInHanded_of_change (C := Try.checked) own started (by kernel_rfl) Try.func4
    (ChangeSpec.witness6 (enc := enc) (C := Try.checked) false ⟨#[], #[.int .i64 0, .int .i64 0, .int .i64 0, .slice none 0 0, .bool false], []⟩ 8 (by kernel_rfl) (by kernel_rfl) (by kernel_rfl) (by kernel_rfl)) ?_
  intro W base args ds gs before hval hW _ _
  exact law_contract (by kernel_rfl) rfl shape rfl Try.underlying4 hW (walked H enc W base args ds gs before hval hW)

theorem over : Rows.fuseShutsRow.holds Try.pinned (OpenSpec.ofChange Rows.fuseShutsSpec) :=
  OpenClaim.holds_of_wide 4 Try.f4 rfl rfl rfl rfl rfl rfl rfl ⟨rfl, rfl, rfl, rfl, rfl⟩ rfl rfl rfl rfl rfl (by kernel_rfl) Try.func4 (by kernel_rfl)
    (of_decide_eq_true (by kernel_rfl)) (by unfold Func.isWrapper; first | (rw [if_pos (by decide +kernel)]; kernel_rfl) | (rw [if_neg (by decide +kernel)]; exact ⟨rfl, rfl⟩))
    (fun os started H enc _ => lifted os started H enc)

theorem proved : Rows.FuseShutsSaid :=
  over
end fuseShuts
end Go.Proofs.Ytihloamiibelgaa
