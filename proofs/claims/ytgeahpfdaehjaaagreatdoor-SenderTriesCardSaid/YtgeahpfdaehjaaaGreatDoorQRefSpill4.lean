/-
  Layer 21, the document's spill: Open.
-/
import Derived.Test.YtgeahpfdaehjaaaGreatDoorQRefSpill3
namespace Go.Proofs.YtgeahpfdaehjaaaGreatDoor
open Go.ChangeShapes Go.WideShapes Go.ChangeAt Go.RowKit
set_option linter.unusedVariables false

section
variable {w w' : World} {K : Nat → Prop} {ms mj m rm : Nat} {dn : Bool} {many room head : Int} {G : List Sg}
theorem cut_fs (G : List Sg) : fsG (cutG G) = fsG G := by unfold fsG; rw [show (cutG G).map (·.n) = ns (cutG G) from rfl, cut_ns]
theorem cut_good (hs : Segs G) : ∀ g ∈ cutG G, g.Good := fun g hg => by
  unfold cutG at hg
  obtain ⟨f, hf, rfl⟩ := List.mem_map.1 hg
  exact ⟨(hs.good f hf).good, torn_nil⟩
theorem cut_used (hi : Inv rm (G.map Sg.pt)) : used (pts' (cutG G)) ≤ 65536 := by
  have h1 : used (pts' (cutG G)) ≤ used (G.map Sg.pt) := by
    rw [cut_pts]
    clear hi
    induction G with
    | nil => exact Nat.le_refl _
    | cons g G ih =>
      rw [List.map_cons, List.map_cons, used_cons, used_cons]
      have e : g.cut.b.length ≤ g.pt.b.length := by show (flat g.rs).length ≤ (flat g.rs ++ g.t).length; rw [List.length_append]; omega
      omega
  have := hi.fits
  have := hi.room
  omega
end
end Go.Proofs.YtgeahpfdaehjaaaGreatDoor
