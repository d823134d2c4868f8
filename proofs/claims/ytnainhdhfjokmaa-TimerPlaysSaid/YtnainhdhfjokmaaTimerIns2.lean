/-
  Layer 13 (timer): slices.Insert where there is no room.
-/
import Derived.Test.YtnainhdhfjokmaaTimerIns
import Derived.Deep.RegionHeldLaw
namespace Go.Proofs.Ytnainhdhfjokmaa
open Go.ChangeShapes Go.WideShapes Go.ChangeAt Go.RowKit Go.Shelf
set_option linter.unusedVariables false

section
variable {w w' : World} {base vb : Nat} {v : Value} {L : List Du} {x : Du} {k g cap n : Nat} {cur : Array Value}
/-- 'append(s[:k], make(S, n+1-k)...)'. -/
theorem zeros_run (hg : w.heap[g]? = some (.cells cur 35 (0, 0))) (ht : cur.toList.take (L.length * 2) = dueCells L) (hk : k < L.length) (hc : cap < L.length + 1) (hl : L.length ≤ 1000) :
    ∃ G w1 cur1 Z, (∀ ty, (Builtin.append_ #[26, 3] ty #[.slice (some ⟨g, 0, none⟩) k cap, .int .i64 ((L.length : Int) + 1 - (k : Int))]).run Try.prog w = .ok (.slice (some ⟨w.heap.size, 0, none⟩) (L.length + 1) G) w1) ∧
      w1.heap[w.heap.size]? = some (.cells cur1 35 (0, 0)) ∧ cur1.size = G * 2 ∧ L.length + 1 ≤ G ∧ G ≤ maxLen ∧ cur1.toList = dueCells (L.take k) ++ Z ∧ Below w.heap.size w w1 := by
  obtain ⟨i, hi, hz0, hz1, hz2⟩ := info_partsD
  have hkl : (L.take k).length = k := by rw [List.length_take]; omega
  have e : k + (L.length + 1 - k) = L.length + 1 := by omega
  have h := Lib.run_append_grow_zeros (P := Try.prog) w 26 3 3 35 i _ .i64 .i64 Try.underlying26 Try.underlying3 hi hz0 (some ⟨g, 0, none⟩) k cap (dueCells (L.take k))
    (by
      rw [hz1]
      refine run_firstCells_some (P := Try.prog) w.drew 2 k ⟨g, 0, none⟩ k cap _ (by rw [dueCells_length, hkl]) (fun j u hu => ?_)
      have hj := (List.getElem?_eq_some_iff.1 hu).1
      rw [dueCells_length, hkl] at hj
      have : (dueCells L)[j]? = some u := by rw [dueCells_split L k, List.getElem?_append_left (by rw [dueCells_length, hkl]; exact hj)]; exact hu
      rw [← ht, List.getElem?_take_of_lt (by omega), Array.getElem?_toList] at this
      rw [Addr.add_lit, Nat.zero_add]
      show w.cell? _ = _
      rw [cell_of_block hg]
      exact this)
    (L.length + 1 - k) (by omega) (by omega) (by omega) (by omega) (by rw [hz2]; omega) (by rw [hz2, e]; exact growslice_fits hc (by omega))
  rw [e] at h
  have hG := grownCap_ge w (L.length + 1) cap 35
  obtain ⟨z1, hz1'⟩ : ∃ z, z = Builtin.zeroCells (Value.agg #[.int .i64 0, .int .i64 0]).cells (L.length + 1 - k) := ⟨_, rfl⟩
  obtain ⟨z2, hz2'⟩ : ∃ z, z = Builtin.zeroCells (Value.agg #[.int .i64 0, .int .i64 0]).cells (grownCap w (L.length + 1) cap 35 - (L.length + 1)) := ⟨_, rfl⟩
  rw [← hz1', ← hz2'] at h
  refine ⟨grownCap w (L.length + 1) cap 35, w.drew.alloc (.cells ((dueCells (L.take k)).toArray ++ z1 ++ z2) 35), (dueCells (L.take k)).toArray ++ z1 ++ z2, z1.toList ++ z2.toList, fun ty => ?_, heap_alloc_new w.drew _, ?_, hG, grownCap_le_maxLen w _ _ _ (by unfold maxLen; omega), by simp, (below_drew w).trans ((Below.refl w.heap.size w.drew).alloc (Nat.le_refl _) _)⟩
  · have e2 : ((L.length : Int) + 1 - (k : Int)) = ((L.length + 1 - k : Nat) : Int) := by omega
    rw [e2]
    exact h
  · rw [hz1', hz2']
    simp only [Array.size_append, List.size_toArray, size_zeroCells, dueCells_length, hkl]
    have : (Value.agg #[.int .i64 0, .int .i64 0]).cells.size = 2 := rfl
    rw [this]
    omega
set_option maxRecDepth 100000 in
set_option maxHeartbeats 400000 in
theorem insert_grow (h : OwnD w base v L) (hx : One w vb x) (hl : L.length ≤ 1000) (hb : base ≤ w.heap.size) (hk : k < L.length) (hn : ∀ g cap, v = .slice (some ⟨g, 0, none⟩) L.length cap → cap < L.length + 1) :
    Calls Try.prog 13 #[v, .int .i64 (k : Nat), .slice (some ⟨vb, 0, none⟩) 1 1] w (Insd w base v L k x) := by
  rcases h.parts with ⟨_, e⟩ | ⟨g, cap, cur, rfl, hbg, hg, hlc, hcm, hcs, ht⟩
  · subst e; simp at hk
  have hc := hn g cap rfl
  have hkl : (L.take k).length = k := by rw [List.length_take]; omega
  have hdl : (L.drop k).length = L.length - k := by rw [List.length_drop]
  obtain ⟨G, w1, c0, Z, r1, h1, s1, hG, hGm, hZ, b1⟩ := zeros_run hg ht hk hc hl
  obtain ⟨gs, hgs⟩ : ∃ gs, w.heap.size = gs := ⟨_, rfl⟩
  rw [hgs] at r1 h1
  have hZl : Z.length + k * 2 = G * 2 := by
    have : c0.toList.length = G * 2 := by rw [Array.length_toList, s1]
    rw [hZ, List.length_append, dueCells_length, hkl] at this
    omega
  have hX : (dueOf x).length = 2 := rfl
  have x1 : One w1 vb x := by have := hx; unfold One at this ⊢; rw [b1.block vb (lt_of_block this)]; exact this
  have r2 := fun ty => run_copy_due w1 (o := k * 2) (dLen := L.length + 1 - k) (dCap := G - k) (a := ⟨vb, 0, none⟩) (sLen := 1) (sCap := 1) (m := 1) (cs := dueOf x) h1 (Nat.min_eq_left (by omega)) rfl
    (fun j u hu => x1.src.rd _ rfl j u (by simpa [dueCells] using hu)) (by rw [hX, s1]; omega) (fun u hu => due_one [x] u (by simpa [dueCells] using hu)) ty
  obtain ⟨c1, hc1⟩ : ∃ c1, c1 = (c0.toList.take (k * 2) ++ dueOf x ++ c0.toList.drop (k * 2 + (dueOf x).length)).toArray := ⟨_, rfl⟩
  rw [← hc1] at r2
  have h2 : (w1.setRow gs c1).heap[gs]? = some (.cells c1 35 (0, 0)) := setRow_heap w1 gs _ _ _ _ h1
  have b2 : Below w.heap.size w (w1.setRow gs c1) := b1.trans ⟨rfl, rfl, rfl, by simp [World.setRow], fun j hj => setRow_other w1 gs j c1 (by omega)⟩
  have s2 : c1.size = G * 2 := by
    rw [hc1]
    simp only [List.size_toArray, List.length_append, List.length_take, List.length_drop, Array.length_toList, hX, s1]
    omega
  have src2 : ∀ (j : Nat) (u : Value), (dueCells (L.drop k))[j]? = some u → (w1.setRow gs c1).drew.cell? ((⟨g, k * 2, none⟩ : Addr).add j) = some u := fun j u hu => by
    have hj := (List.getElem?_eq_some_iff.1 hu).1
    rw [dueCells_length, hdl] at hj
    have : (dueCells L)[k * 2 + j]? = some u := by
      rw [dueCells_split L k, List.getElem?_append_right (by rw [dueCells_length, hkl]; omega), dueCells_length, hkl, Nat.add_sub_cancel_left]
      exact hu
    rw [← ht, List.getElem?_take_of_lt (by omega), Array.getElem?_toList] at this
    rw [Addr.add_lit]
    show (w1.setRow gs c1).cell? _ = _
    rw [cell_of_block (by rw [b2.block g (lt_of_block hg)]; exact hg)]
    exact this
  have r3 := fun ty => run_copy_due (w1.setRow gs c1).drew (o := (k + 1) * 2) (dLen := L.length + 1 - (k + 1)) (dCap := G - (k + 1)) (a := ⟨g, k * 2, none⟩) (sLen := L.length - k) (sCap := cap - k) (m := L.length - k) (cs := dueCells (L.drop k)) h2
    (by rw [show L.length + 1 - (k + 1) = L.length - k by omega]; exact Nat.min_self _) (by rw [dueCells_length, hdl]) src2 (by rw [dueCells_length, hdl, s2]; omega) (due_one _) ty
  obtain ⟨c2, hc2⟩ : ∃ c2, c2 = (c1.toList.take ((k + 1) * 2) ++ dueCells (L.drop k) ++ c1.toList.drop ((k + 1) * 2 + (dueCells (L.drop k)).length)).toArray := ⟨_, rfl⟩
  rw [← hc2] at r3
  have hlist : c2.toList = dueCells (insD L k x) ++ Z.drop ((dueOf x).length + (dueCells (L.drop k)).length) := by
    have := grow_list c0.toList (dueCells (L.take k)) (dueCells (L.drop k)) Z (dueOf x) hZ (by rw [hX, dueCells_length, hdl]; omega) c1.toList (by rw [hc1, dueCells_length, hkl])
    rw [hc2]
    rw [dueCells_length, hkl, hX, show k * 2 + 2 = (k + 1) * 2 by omega] at this
    rw [this]
    unfold insD
    rw [dueCells_app, dueCells_cons]
    simp [hX]
  have s3 : c2.size = G * 2 := by
    rw [← Array.length_toList, hlist, List.length_append, List.length_drop, dueCells_length, insD_length (Nat.le_of_lt hk), dueCells_length, hdl, hX]
    omega
  have END : Hid (Insd w base (.slice (some ⟨g, 0, none⟩) L.length cap) L k x (.returned (.slice (some ⟨gs, 0, none⟩) (L.length + 1) G)) ((w1.setRow gs c1).drew.setRow gs c2)) := Lib.hid ⟨_, rfl,
    OwnD.mk' (cur := c2) (setRow_heap (w1.setRow gs c1).drew gs _ _ _ _ h2) s3 hGm (by rw [insD_length (Nat.le_of_lt hk)]; exact hG) (by omega) (insD_length (Nat.le_of_lt hk)) (by
      rw [hlist, ← insD_length (x := x) (Nat.le_of_lt hk), ← dueCells_length, List.take_append_of_le_length (Nat.le_refl _), List.take_length]),
    (Keeps.of_below b2 (Nat.le_refl _) _).drew.trans ((setRow_keeps (w1.setRow gs c1).drew gs c2)) (fun g' e => .inr (by omega)), fun g' e => .inr (by simp only [Value.ownBlock, Option.some.injEq] at e; omega)⟩
  have l1 := sliceD_from_in g L.length cap k (by omega) (by omega)
  have l2 := sliceD_to (some ⟨g, 0, none⟩) L.length cap k (by omega) (fun e => by cases e)
  have l3 := sliceD_from_in gs (L.length + 1) G k (by omega) (by omega)
  have l4 := sliceD_from_in gs (L.length + 1) G (k + 1) (by omega) (by omega)
  rw [show ((k + 1 : Nat) : Int) = (k : Int) + 1 by omega] at l4
  have hln : (L.length : Int) ≤ 1000 := by omega
  obtain ⟨W2, hW2⟩ : ∃ W2, w1.setRow gs c1 = W2 := ⟨_, rfl⟩
  rw [hW2] at r2 r3 END
  obtain ⟨W3, hW3⟩ : ∃ W3, W2.drew.setRow gs c2 = W3 := ⟨_, rfl⟩
  rw [hW3] at r3 END
  have z1 : IntKind.i64.wrap ((k : Int) + 1) = (k : Int) + 1 := by rw [IntKind.wrap_i64]; omega
  have z2 : ¬ ((k : Int) = (L.length : Int)) := by omega
  have z3 : (cap : Int) < (L.length : Int) + 1 := by omega
  have z4 : (k : Int) ≤ (L.length : Int) := by omega
  clear hn hg hlc hcm hcs ht h hkl hdl h1 s1 hGm hZ b1 hgs hZl hX x1 hc1 h2 b2 s2 src2 hc2 hlist s3 hW2 hW3 hx hl hb hk hc hG hbg
  generalize L.length + 1 - (k + 1) = n2 at *
  generalize L.length + 1 - k = n1 at *
  generalize L.length - k = n0 at *
  generalize (k + 1) * 2 = p2 at *
  generalize k * 2 = p1 at *
  generalize G - (k + 1) = G2 at *
  generalize G - k = G1 at *
  generalize cap - k = c4 at *
  generalize hNN : L.length + 1 = NN at *
  generalize L.length = n at *
  have R1 := Lib.hid r1
  have r2 := r2 3
  have R3 := Lib.hid r3
  clear r1 r3 hNN
  go_enter Try.func13, Try.ntmps13
  go_wp2_with (first
    | (at_builtin; refine wpList_append_two rfl (.tmp 34) (.tmp 39) 26 3 rfl _ _ _ rfl rfl (R1.out _) ?_)
    | fail)
  go_region_held_law (fun _ => True) (trivial) (first
    | ((with_reducible refine step_copy_due (R3.out 3) (s := .tmp 50) (x := .tmp 53) ?h1 ?h2 ?h3 ?h4 ?h5 ?_); (case h1 => rfl); (case h2 => rfl); (case h3 => rfl); (case h4 => rfl); (case h5 => rfl))
    | fail)
  all_goals go_wp2_with fail
  go_ret
  exact END.out
end
end Go.Proofs.Ytnainhdhfjokmaa
