/-
  Layer 5 (series): the library's SortFunc at tags in a row of their own: they lie in the order of their keys.
-/
import Derived.Test.YtahmcelkfbigkaaDoorSeriesCopy
namespace Go.Proofs.YtahmcelkfbigkaaDoor
open Go.ChangeShapes Go.WideShapes Go.ChangeAt Go.RowKit Go.Sort Go.Shelf
set_option linter.unusedVariables false

theorem tagsCell_at (ts : Tags) (j : Nat) (hj : j < ts.length * 2) : (tagCells ts)[j]? = some (flatK encTag 2 ts.toArray)[j]! := by
  rw [get_flatK encTag 2 ts.toArray j (by simpa using hj)]
  have hi : j / 2 < ts.length := by omega
  obtain ⟨x, y, h⟩ : ∃ x y, ts[j / 2]? = some (x, y) := ⟨_, _, List.getElem?_eq_getElem hi⟩
  have hxy := (List.getElem?_eq_some_iff.1 h).2
  have e : ts.toArray[j / 2]! = (x, y) := by rw [getElem!_pos ts.toArray (j / 2) (by simpa using hi)]; simpa using hxy
  rw [e]
  obtain ⟨h0, h1⟩ := tagCells_at ts (j / 2) x y h
  rcases (by omega : j % 2 = 0 ∨ j % 2 = 1) with hm | hm
  · rw [hm, show j = j / 2 * 2 by omega]
    exact h0
  · rw [hm, show j = j / 2 * 2 + 1 by omega]
    exact h1
theorem holds_own {w : World} {base g cap : Nat} {ts : Tags} (h : OwnT w base (some ⟨g, 0, none⟩) cap ts) : HoldsK encTag 2 w g 0 ts.toArray ∧ g < w.heap.size := by
  rcases h.2 with ⟨hv, _⟩ | ⟨g', cap', cur, hv, _, hg, _, _, hcs, htake⟩
  · cases hv
  · cases hv
    refine ⟨fun j hj => ?_, lt_of_block hg⟩
    rw [size_flatK] at hj
    have hj' : j < ts.length * 2 := by simpa using hj
    rw [Nat.zero_add]
    refine ⟨?_, frozen_of_block hg⟩
    show w.cell? ⟨g, j, none⟩ = some (flatK encTag 2 ts.toArray)[j]!
    rw [cell_of_block hg, ← tagsCell_at ts j hj', ← htake, List.getElem?_take, if_pos hj']
    simp
theorem rd_holds {w : World} {g : Nat} {ts : Tags} (h : HoldsK encTag 2 w g 0 ts.toArray) : RdT w (some ⟨g, 0, none⟩) ts := by
  refine .inr ⟨g, 0, rfl, fun i x y hi => ?_⟩
  obtain ⟨hl, e⟩ := List.getElem?_eq_some_iff.1 hi
  have e' : ts.toArray[i]! = (x, y) := by rw [getElem!_pos ts.toArray i (by simpa using hl)]; simpa using e
  have c0 := (HoldsK.cell h (i := i) (c := 0) (by simpa using hl) (by omega)).1
  have c1 := (HoldsK.cell h (i := i) (c := 1) (by simpa using hl) (by omega)).1
  rw [e'] at c0 c1
  exact ⟨c0, c1⟩
theorem grown_sorted (w : World) (g n : Nat) (d : Array (ByteArray × ByteArray)) (os : Array Obj) : w.grownBy (sortWorldK encTag 2 w g 0 n d os) (some g) := by
  refine ⟨rfl, rfl, rfl, ?_, fun k hk hr => ?_⟩
  · exact size_sortWorldK_c encTag 2 w g 0 n d os
  · unfold sortWorldK
    rw [heap_grow_old _ _ (by rw [show (putRowK encTag 2 (Go.Sort.ahead w n) g 0 d).heap.size = w.heap.size from size_putRow id _ g 0 _]; exact hk)]
    show ((w.heap.modify g _)[k]? : Option Obj) = _
    rw [Array.getElem?_modify, if_neg (fun e => hr (by rw [e]))]

def SortPost (w : World) (A : Option Addr) (cap : Nat) (ts : Tags) (e : Ending) (w' : World) : Prop :=
  e = .returned (.tuple #[]) ∧ RdT w' A (sortT ts) ∧ w.grownBy w' (Value.slice A ts.length cap).ownBlock
end Go.Proofs.YtahmcelkfbigkaaDoor
