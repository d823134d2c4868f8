/-
  Layer 9, the document's journal: Open.
-/
import Derived.Test.YtgeahpfdaehjaaaGreatDoorQRefApp
import Derived.Deep.RegionLaw
namespace Go.Proofs.YtgeahpfdaehjaaaGreatDoor
open Go.ChangeShapes Go.WideShapes Go.ChangeAt Go.RowKit
set_option linter.unusedVariables false

section
variable {w : World} {H : Nat → Prop} {mj m rm : Nat} {dn : Bool} {many : Int} {G : List Sg}
/-- The number of the next record behind the first k parts. -/
def nextAt (G : List Sg) (k : Nat) : Int := match G[k - 1]? with | some g => if k = 0 then 0 else g.n + (g.rs.length : Nat) | none => 0
theorem nextAt_zero (G : List Sg) : nextAt G 0 = 0 := by unfold nextAt; split <;> simp
theorem nextAt_succ {k : Nat} {g : Sg} (h : G[k]? = some g) : nextAt G (k + 1) = g.n + (g.rs.length : Nat) := by unfold nextAt; rw [Nat.add_sub_cancel, h]; simp
theorem nextAt_chain {k : Nat} {g : Sg} (hc : ∃ n, Chain n G) (hk : 0 < k) (h : G[k]? = some g) : g.n = nextAt G k := by
  obtain ⟨n, hc⟩ := hc
  obtain ⟨j, rfl⟩ : ∃ j, k = j + 1 := ⟨k - 1, by omega⟩
  have hj : j < G.length := by have := (List.getElem?_eq_some_iff.1 h).1; omega
  have hf : G[j]? = some G[j] := List.getElem?_eq_getElem hj
  rw [nextAt_succ hf]
  have e1 : G = G.take j ++ G[j] :: G.drop (j + 1) := by rw [← List.drop_eq_getElem_cons hj, List.take_append_drop]
  have e2 : G.drop (j + 1) = g :: G.drop (j + 1 + 1) := by
    have hl := (List.getElem?_eq_some_iff.1 h).1
    rw [List.drop_eq_getElem_cons hl]
    congr 1
    exact (List.getElem?_eq_some_iff.1 h).2
  have h1 := hc
  rw [e1] at h1
  have a1 := chain_at _ n h1
  have h2 := hc
  rw [e1, e2, show G.take j ++ G[j] :: g :: G.drop (j + 1 + 1) = (G.take j ++ [G[j]]) ++ g :: G.drop (j + 1 + 1) by rw [List.append_assoc]; rfl] at h2
  have a2 := chain_at _ n h2
  rw [recs_snoc, List.length_append] at a2
  omega
theorem take_map_succ {α β : Type} (f : α → β) {l : List α} {k : Nat} {x : α} (h : l[k]? = some x) : (l.take (k + 1)).map f = (l.take k).map f ++ [f x] := by rw [List.take_add_one, h, Option.toList_some, List.map_append]; rfl
end
end Go.Proofs.YtgeahpfdaehjaaaGreatDoor
