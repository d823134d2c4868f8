/-
  Proved: for any number, any lists of bytes and any two numbers the law JournalKeeps returns true: a journal that records were appended to, of which some were synced, has, opened again behind a crash, the first records as they were, all that were synced among them, and numbers them from 0 on (more than 30 records, and records of no or more than 1000 bytes, are let go by the law itself). No condition.
-/
import Derived.Test.YtgohgmihoggcpaaJournalKeeps
namespace Go.Proofs.Ytgohgmihoggcpaa
open Go.ChangeShapes Go.WideShapes Go.ChangeAt Go.RowKit
set_option linter.unusedVariables false

namespace journalKeeps
theorem shape {H : Type} (ds : List (DataW H)) (h : ds.length = Try.f3.params.size) :
    Rows.journalKeepsSpec.fn H ds = { results := [.lit (.bool true)], args := ds } := by
  have h : ds.length = 4 := h
  match ds, h with
  | [d0, d1, d2, d3], _ => rfl

set_option maxRecDepth 100000 in
theorem walked (H : Type) (enc : TypeId × Value → H) (W : World) (base : Nat) (args : Array Value) (ds gs : List (DataW H)) (before : List MemPlace)
    (hval : ∀ (j : Nat) t v, Try.f3.params[j]? = some t → args[j]? = some v → Value.okWide Try.prog W .any base t v)
    (hW : DataW.Whole enc Try.prog Try.f3.params.toList Rows.journalKeepsSpec.vars false W args.toList ds gs before) :
    Calls Try.prog 3 args W (Holds W) := by
  obtain ⟨p, q, hA, hV, rfl, hfz, hnd⟩ := hW
  have hA : DataW.TrodAll enc Try.prog W 0 (fun _ => true) true Try.f3.params.toList args.toList ds p := hA
  rw [Try.params3] at hA hval
  obtain ⟨v0, vs0, d0, ds0, p0, q0, hargs, rfl, rfl, h0, r0⟩ := trodAll_cons hA
  obtain ⟨v1, vs1, d1, ds1, p1, q1, rfl, rfl, rfl, h1, r1⟩ := trodAll_cons r0
  obtain ⟨v2, vs2, d2, ds2, p2, q2, rfl, rfl, rfl, h2, r2⟩ := trodAll_cons r1
  obtain ⟨v3, vs3, d3, ds3, p3, q3, rfl, rfl, rfl, h3, r3⟩ := trodAll_cons r2
  obtain ⟨rfl, rfl, rfl⟩ := trodAll_nil r3
  obtain rfl : args = #[v0, v1, v2, v3] := by cases args; simp_all
  obtain ⟨mn, rfl, rfl, rfl, wmn⟩ := open_int Try.underlying3 (hval 0 3 v0 rfl rfl) h0
  obtain ⟨A, c, ls, rfl, hL, hm, hle⟩ := open_lists (hval 1 22 v1 rfl rfl) h1
  unfold maxLen at hm
  obtain ⟨sy, rfl, rfl, rfl, wsy⟩ := open_int Try.underlying3 (hval 2 3 v2 rfl rfl) h2
  obtain ⟨kp, rfl, rfl, rfl, wkp⟩ := open_int Try.underlying3 (hval 3 3 v3 rfl rfl) h3
  have b2 := bounds_i64 wsy
  have b3 := bounds_i64 wkp
  by_cases he : 30 < ls.length ∨ (¬ 30 < ls.length ∧ sy < 0) ∨ (¬ 30 < ls.length ∧ ¬ sy < 0 ∧ (ls.length : Int) < sy)
  · exact keeps_early mn A c ls.length sy kp W (by omega) b2.1 b2.2 he
  have h30 : ¬ 30 < ls.length := fun h => he (.inl h)
  have hs0 : ¬ sy < 0 := fun h => he (.inr (.inl ⟨h30, h⟩))
  have hs1 : ¬ (ls.length : Int) < sy := fun h => he (.inr (.inr ⟨h30, hs0, h⟩))
  by_cases hmn : mn < 1 ∨ 100 < mn
  · exact keeps_many mn A c ls.length sy kp W h30 hs0 hs1 hmn
  obtain ⟨s, rfl⟩ : ∃ s : Nat, sy = (s : Int) := ⟨sy.toNat, by omega⟩
  exact keeps_walk mn A c ls s kp W hL hle (by omega) (by omega) (by omega) b3.1 b3.2

set_option maxRecDepth 100000 in
theorem lifted (os : Os) (started : os.Started) (H : Type) (enc : TypeId × Value → H) :
    ReturnsInHanded {} Try.checked os 3 .any (Rows.journalKeepsSpec.pre6 enc Try.prog Try.f3 Rows.journalKeepsRow.domain false) (Rows.journalKeepsSpec.post enc Try.prog Try.f3 false true false false) := by
  refine returnsInHanded_of_change (C := Try.checked) own started (by kernel_rfl) Try.func3
    (ChangeSpec.witness6 (enc := enc) (C := Try.checked) false ⟨#[], #[.int .i64 0, .slice none 0 0, .int .i64 0, .int .i64 0], []⟩ 8 (by kernel_rfl) (by kernel_rfl) (by kernel_rfl) (by kernel_rfl)) ?_
  intro W base args ds gs before hval hW _ _
  exact law_contract (by kernel_rfl) rfl shape rfl Try.underlying4 hW (walked H enc W base args ds gs before hval hW)

theorem over : Rows.journalKeepsRow.holds Try.pinned (OpenSpec.ofChange Rows.journalKeepsSpec) :=
  OpenClaim.holds_of_wide 3 Try.f3 rfl rfl rfl rfl rfl rfl rfl ⟨rfl, rfl, rfl, rfl, rfl⟩ rfl rfl rfl rfl rfl (by kernel_rfl) Try.func3 (by kernel_rfl)
    (of_decide_eq_true (by kernel_rfl)) (by unfold Func.isWrapper; first | (rw [if_pos (by decide +kernel)]; kernel_rfl) | (rw [if_neg (by decide +kernel)]; exact ⟨rfl, rfl⟩))
    (fun os started H enc _ => lifted os started H enc)

theorem proved : Rows.JournalKeepsSaid :=
  over
end journalKeeps
end Go.Proofs.Ytgohgmihoggcpaa
