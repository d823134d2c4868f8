/-
  Layer 5 (series): the library's SortFunc at tags in a row of their own: they lie in the order of their keys.
-/
import Derived.Test.YtfbccngbgkddlaaDoorSeriesCopy
namespace Go.Proofs.YtfbccngbgkddlaaDoor
open Go.ChangeShapes Go.WideShapes Go.ChangeAt Go.RowKit Go.Sort Go.Shelf
set_option linter.unusedVariables false

theorem tagsCell_at (ts : Tags) (j : Nat) (hj : j < ts.length * 2) : (tagCells ts)[j]? = some (flatK encTag 2 ts.toArray)[j]! := by
  rw [get_flatK encTag 2 ts.toArray j (by simpa using hj)]
  have hi : j / 2 < ts.length := by omega
  obtain ⟨x, y, h⟩ : ∃ x y, ts[j / 2]? = some (x, y) := ⟨_, _, List.getElem?_eq_getElem hi⟩
  have hxy := (List.getElem?_eq_some_iff.1 h).2
  have e : ts.toArray[j / 2]! = (x, y) := by rw [getElem!_pos ts.toArray (j / 2) (by simpa using hi)]; simpa using hxy
  rw [e]
  obtain ⟨h0, h1⟩ := tagCells_at ts (j / 2) x y h
  rcases (by omega : j % 2 = 0 ∨ j % 2 = 1) with hm | hm
  · rw [hm, show j = j / 2 * 2 by omega]
    exact h0
  · rw [hm, show j = j / 2 * 2 + 1 by omega]
    exact h1
theorem holds_own {w : World} {base g cap : Nat} {ts : Tags} (h : OwnT w base (some ⟨g, 0, none⟩) cap ts) : HoldsK encTag 2 w g 0 ts.toArray ∧ g < w.heap.size := by
  rcases h.2 with ⟨hv, _⟩ | ⟨g', cap', cur, hv, _, hg, _, _, hcs, htake⟩
  · cases hv
  · cases hv
    refine ⟨fun j hj => ?_, lt_of_block hg⟩
    rw [size_flatK] at hj
    have hj' : j < ts.length * 2 := by simpa using hj
    rw [Nat.zero_add]
    refine ⟨?_, frozen_of_block hg⟩
    show w.cell? ⟨g, j, none⟩ = some (flatK encTag 2 ts.toArray)[j]!
    rw [cell_of_block hg, ← tagsCell_at ts j hj', ← htake, List.getElem?_take, if_pos hj']
    simp
theorem rd_holds {w : World} {g : Nat} {ts : Tags} (h : HoldsK encTag 2 w g 0 ts.toArray) : RdT w (some ⟨g, 0, none⟩) ts := by
  refine .inr ⟨g, 0, rfl, fun i x y hi => ?_⟩
  obtain ⟨hl, e⟩ := List.getElem?_eq_some_iff.1 hi
  have e' : ts.toArray[i]! = (x, y) := by rw [getElem!_pos ts.toArray i (by simpa using hl)]; simpa using e
  have c0 := (HoldsK.cell h (i := i) (c := 0) (by simpa using hl) (by omega)).1
  have c1 := (HoldsK.cell h (i := i) (c := 1) (by simpa using hl) (by omega)).1
  rw [e'] at c0 c1
  exact ⟨c0, c1⟩
theorem grown_sorted (w : World) (g n : Nat) (d : Array (ByteArray × ByteArray)) (os : Array Obj) : w.grownBy (sortWorldK encTag 2 w g 0 n d os) (some g) := by
  refine ⟨rfl, rfl, rfl, ?_, fun k hk hr => ?_⟩
  · exact size_sortWorldK_c encTag 2 w g 0 n d os
  · unfold sortWorldK
    rw [heap_grow_old _ _ (by rw [show (putRowK encTag 2 (Go.Sort.ahead w n) g 0 d).heap.size = w.heap.size from size_putRow id _ g 0 _]; exact hk)]
    show ((w.heap.modify g _)[k]? : Option Obj) = _
    rw [Array.getElem?_modify, if_neg (fun e => hr (by rw [e]))]

def SortPost (w : World) (A : Option Addr) (cap : Nat) (ts : Tags) (e : Ending) (w' : World) : Prop :=
  e = .returned (.tuple #[]) ∧ RdT w' A (sortT ts) ∧ w.grownBy w' (Value.slice A ts.length cap).ownBlock
theorem enterKey : ∀ args w, (callFunc 27 args).run Tryd.prog w = .ok (.enter 27 args) w := enters_of Tryd.func27 (by kernel_rfl) rfl

set_option maxHeartbeats 1000000 in
theorem insertNone (fv : Value) (w : World) :
    Calls Tryd.prog 41 #[.slice none 0 0, .int .i64 0, .int .i64 0, fv] w fun e w' => e = .returned (.tuple #[]) ∧ w' = w := by
  go_enter Tryd.func41, Tryd.ntmps41
  go_wp2
  refine wp_loop_rounds 1 ?_
  rw [rounds_succ]
  go_wp2
  go_end0
  exact ⟨rfl, rfl⟩
set_option maxHeartbeats 1000000 in
theorem pdqNone (lim : Int) (fv : Value) (w : World) :
    Calls Tryd.prog 34 #[.slice none 0 0, .int .i64 0, .int .i64 0, .int .i64 lim, fv] w fun e w' => e = .returned (.tuple #[]) ∧ w' = w := by
  have hi := fun W => insertNone fv W
  go_enter Tryd.func34, Tryd.ntmps34
  go_wp2
  refine wp_loop_rounds 1 ?_
  rw [rounds_succ]
  go_wp2_with (go_at_call 41; refine (hi _).mono ?_; rintro e w' ⟨rfl, rfl⟩)
  (try simp only [Exit.inBlock, Exit.then]); refine bodyPost_ret (results_none rfl _ _ _) rfl ?_
  exact ⟨rfl, rfl⟩
theorem bitsLen (n : Nat) (W : World) (h : n ≤ 12) : Calls Tryd.prog 35 #[.int .u64 n] W fun e w' => (∃ l : Int, e = .returned (.int .i64 l)) ∧ w' = W :=
  (Tryd.bits_Len n W (by omega) (by omega)).mono fun _ _ ⟨he, hw⟩ => ⟨⟨_, he⟩, hw⟩
set_option maxHeartbeats 1000000 in
theorem sortNone (fv : Value) (w : World) :
    Calls Tryd.prog 26 #[.slice none 0 0, fv] w fun e w' => e = .returned (.tuple #[]) ∧ w' = w := by
  have hp := fun lim W => pdqNone lim fv W
  have hl := fun W => bitsLen 0 W (by omega)
  go_enter Tryd.func26, Tryd.ntmps26
  go_wp2_with (first | (go_at_call 35; refine (hl _).mono ?_; rintro e w' ⟨⟨l, rfl⟩, rfl⟩) | (go_at_call 34; refine (hp _ _).mono ?_; rintro e w' ⟨rfl, rfl⟩))
  go_end0
  exact ⟨rfl, rfl⟩

theorem sortTags (A : Option Addr) (cap : Nat) (ts : Tags) (w : World) (base : Nat) (h : OwnT w base A cap ts) (hl : ts.length ≤ 6) :
    Calls Tryd.prog 26 #[.slice A ts.length cap, .func (.func 27) #[] #[]] w (SortPost w A cap ts) := by
  rcases h.2 with ⟨hv, hn⟩ | ⟨g, cap', cur, hv, _⟩
  · have e : ts = [] := List.eq_nil_of_length_eq_zero hn
    subst e
    cases hv
    exact (sortNone _ w).mono fun e w' ⟨he, hw⟩ => ⟨he, .inl (List.eq_nil_of_length_eq_zero (sortT_len [])), by rw [hw]; exact grown_refl _ _⟩
  · cases hv
    obtain ⟨hH, hb⟩ := holds_own h
    have C := AnyQ.slices_SortFunc_small Tryd.sortTag 2 Tryd.isAgg44 Tryd.sizeOf44 encTag (fun _ => rfl) (fun x v hv => by simp [encTag] at hv; rcases hv with rfl | rfl <;> rfl) cmpKey 27 #[] g 0 cap ts.toArray w enterKey (cmpLays g 0 _ w) hH hb (by simp; omega) bitsLen
    have hs : (ts.toArray).size = ts.length := by simp
    rw [hs, ltOf_key] at C
    refine C.mono fun e w' ⟨he, n, os, hw⟩ => ⟨he, ?_, ?_⟩
    · have hsz : (Go.Sort.insertionSort ltK ts.toArray 0 ts.length).size = ts.toArray.size := (insertionSort_holds (lt := ltK) swo_key ts.toArray 0 ts.length (Nat.zero_le _) (by simp)).1.1
      have hH' := holdsK_sortWorldK_c encTag 2 w g 0 ts.toArray (Go.Sort.insertionSort ltK ts.toArray 0 ts.length) n os hH hb hsz
      rw [← hw] at hH'
      exact rd_holds (by unfold sortT; simpa using hH')
    · rw [hw]; exact grown_sorted w g n _ os
end Go.Proofs.YtfbccngbgkddlaaDoor
