/-
  Layer 13 (timer): slices.Insert in place; and anywhere.
-/
import Derived.Test.YtnainhdhfjokmaaTimerIns2
namespace Go.Proofs.Ytnainhdhfjokmaa
open Go.ChangeShapes Go.WideShapes Go.ChangeAt Go.RowKit Go.Shelf
set_option linter.unusedVariables false

section
variable {w w' : World} {base vb : Nat} {v : Value} {L : List Du} {x : Du} {k g cap n : Nat} {cur : Array Value}
set_option maxRecDepth 100000 in
set_option maxHeartbeats 400000 in
theorem insert_room (h : OwnD w base v L) (hx : One w vb x) (hl : L.length ≤ 1000) (hv : v.ownBlock ≠ some vb) (hk : k < L.length) (hn : ∀ g cap, v = .slice (some ⟨g, 0, none⟩) L.length cap → L.length + 1 ≤ cap) :
    Calls Try.prog 13 #[v, .int .i64 (k : Nat), .slice (some ⟨vb, 0, none⟩) 1 1] w (Insd w base v L k x) := by
  rcases h.parts with ⟨_, e⟩ | ⟨g, cap, cur, rfl, hbg, hg, hlc, hcm, hcs, ht⟩
  · subst e; simp at hk
  have hc := hn g cap rfl
  have hne : vb ≠ g := fun e => hv (by subst e; rfl)
  have hkl : (L.take k).length = k := by rw [List.length_take]; omega
  have hdl : (L.drop k).length = L.length - k := by rw [List.length_drop]
  have hX : (dueOf x).length = 2 := rfl
  have hcl : cur.toList.length = cap * 2 := by rw [Array.length_toList, hcs]
  have src1 : ∀ (j : Nat) (u : Value), (dueCells (L.drop k))[j]? = some u → w.drew.cell? ((⟨g, k * 2, none⟩ : Addr).add j) = some u := fun j u hu => by
    have hj := (List.getElem?_eq_some_iff.1 hu).1
    rw [dueCells_length, hdl] at hj
    have : (dueCells L)[k * 2 + j]? = some u := by
      rw [dueCells_split L k, List.getElem?_append_right (by rw [dueCells_length, hkl]; omega), dueCells_length, hkl, Nat.add_sub_cancel_left]
      exact hu
    rw [← ht, List.getElem?_take_of_lt (by omega), Array.getElem?_toList] at this
    rw [Addr.add_lit]
    show w.cell? _ = _
    rw [cell_of_block hg]
    exact this
  have r1 := fun ty => run_copy_due w.drew (o := (k + 1) * 2) (dLen := L.length + 1 - (k + 1)) (dCap := cap - (k + 1)) (a := ⟨g, k * 2, none⟩) (sLen := L.length + 1 - k) (sCap := cap - k) (m := L.length - k) (cs := dueCells (L.drop k)) hg
    (by rw [show L.length + 1 - (k + 1) = L.length - k by omega]; exact Nat.min_eq_right (by omega)) (by rw [dueCells_length, hdl]) src1 (by rw [dueCells_length, hdl, hcs]; omega) (due_one _) ty
  obtain ⟨c1, hc1⟩ : ∃ c1, c1 = (cur.toList.take ((k + 1) * 2) ++ dueCells (L.drop k) ++ cur.toList.drop ((k + 1) * 2 + (dueCells (L.drop k)).length)).toArray := ⟨_, rfl⟩
  rw [← hc1] at r1
  have h1 : (w.drew.setRow g c1).heap[g]? = some (.cells c1 35 (0, 0)) := setRow_heap w.drew g _ _ _ _ hg
  have s1 : c1.size = cap * 2 := by
    rw [hc1]
    simp only [List.size_toArray, List.length_append, List.length_take, List.length_drop, Array.length_toList, dueCells_length, hdl, hcs]
    omega
  have x1 : One (w.drew.setRow g c1) vb x := by have := hx; unfold One at this ⊢; rw [setRow_other w.drew g vb c1 hne]; exact this
  have r2 := fun ty => run_copy_due (w.drew.setRow g c1) (o := k * 2) (dLen := L.length + 1 - k) (dCap := cap - k) (a := ⟨vb, 0, none⟩) (sLen := 1) (sCap := 1) (m := 1) (cs := dueOf x) h1 (Nat.min_eq_left (by omega)) rfl
    (fun j u hu => x1.src.rd _ rfl j u (by simpa [dueCells] using hu)) (by rw [hX, s1]; omega) (fun u hu => due_one [x] u (by simpa [dueCells] using hu)) ty
  obtain ⟨c2, hc2⟩ : ∃ c2, c2 = (c1.toList.take (k * 2) ++ dueOf x ++ c1.toList.drop (k * 2 + (dueOf x).length)).toArray := ⟨_, rfl⟩
  rw [← hc2] at r2
  have hdec : ∃ R2 R', cur.toList = dueCells (L.take k) ++ (dueCells (L.drop k) ++ (R2 ++ R')) ∧ (dueOf x).length = R2.length ∧ R'.length + L.length * 2 + 2 = cap * 2 := by
    refine ⟨(cur.toList.drop (L.length * 2)).take 2, (cur.toList.drop (L.length * 2)).drop 2, ?_, by rw [hX, List.length_take, List.length_drop, hcl]; omega, by rw [List.length_drop, List.length_drop, hcl]; omega⟩
    rw [List.take_append_drop, ← List.append_assoc, ← dueCells_split, ← ht, List.take_append_drop]
  obtain ⟨R2, R', hdec, hR2, hR'⟩ := hdec
  have hlist : c2.toList = dueCells (insD L k x) ++ R' := by
    have := room_list cur.toList (dueCells (L.take k)) (dueCells (L.drop k)) R2 R' (dueOf x) hdec hR2 c1.toList (by rw [hc1, dueCells_length (L.take k), hkl, hX, show k * 2 + 2 = (k + 1) * 2 by omega])
    rw [dueCells_length (L.take k), hkl] at this
    rw [hc2]
    simp only
    rw [this]
    unfold insD
    rw [dueCells_app, dueCells_cons]
    simp
  have s2 : c2.size = cap * 2 := by
    rw [← Array.length_toList, hlist, List.length_append, dueCells_length, insD_length (Nat.le_of_lt hk)]
    omega
  have END : Hid (Insd w base (.slice (some ⟨g, 0, none⟩) L.length cap) L k x (.returned (.slice (some ⟨g, 0, none⟩) (L.length + 1) cap)) ((w.drew.setRow g c1).setRow g c2)) := Lib.hid ⟨_, rfl,
    OwnD.mk' (cur := c2) (setRow_heap (w.drew.setRow g c1) g _ _ _ _ h1) s2 hcm (by rw [insD_length (Nat.le_of_lt hk)]; exact hc) hbg (insD_length (Nat.le_of_lt hk)) (by
      rw [hlist, ← insD_length (x := x) (Nat.le_of_lt hk), ← dueCells_length, List.take_append_of_le_length (Nat.le_refl _), List.take_length]),
    (((Keeps.refl (fun k => k = g) w).drew.trans (setRow_keeps w.drew g c1) (fun g' e => .inl e)).trans (setRow_keeps _ g c2) (fun g' e => .inl e)).wide (fun g' e _ => by rw [e]; rfl), fun g' e => .inl e⟩
  have l0 := sliceD_from_in g L.length cap k (by omega) (by omega)
  have l1 := sliceD_to (some ⟨g, 0, none⟩) L.length cap (L.length + 1) hc (fun e => by cases e)
  rw [show ((L.length + 1 : Nat) : Int) = (L.length : Int) + 1 by omega] at l1
  have l2 := sliceD_from_in g (L.length + 1) cap (k + 1) (by omega) (by omega)
  rw [show ((k + 1 : Nat) : Int) = (k : Int) + 1 by omega] at l2
  have l3 := sliceD_from_in g (L.length + 1) cap k (by omega) (by omega)
  have hov : (callFunc 17 #[.slice (some ⟨vb, 0, none⟩) 1 1, .slice (some ⟨g, (k + 1) * 2, none⟩) (L.length + 1 - (k + 1)) (cap - (k + 1))]).run Try.prog w = .ok (.value (.bool false)) w := by
    rw [run_callFunc_extern Try.func17 (by kernel_rfl) (by kernel_rfl) (by kernel_rfl) (e := Extern.SlicesOverlaps.overlaps #[26, 26] #[4]) (by kernel_rfl),
      Lib.run_overlaps_apart (P := Try.prog) w 26 4 35 Try.underlying26 2 sizeDu ⟨vb, 0, none⟩ ⟨g, (k + 1) * 2, none⟩ 1 1 _ _ hne 35 35 2 (cap * 2) (by unfold World.shape?; rw [show w.heap[(⟨vb, 0, none⟩ : Addr).block]? = _ from hx]; rfl) (by unfold World.shape?; rw [show w.heap[(⟨g, (k + 1) * 2, none⟩ : Addr).block]? = _ from hg, ← hcs]) (by omega) (frozen_of_block hx) (frozen_of_block hx)]
    rfl
  have hln : (L.length : Int) ≤ 1000 := by omega
  obtain ⟨W1, hW1⟩ : ∃ W1, w.drew.setRow g c1 = W1 := ⟨_, rfl⟩
  rw [hW1] at r1 r2 END
  obtain ⟨W2, hW2⟩ : ∃ W2, W1.setRow g c2 = W2 := ⟨_, rfl⟩
  rw [hW2] at r2 END
  have z1 : IntKind.i64.wrap ((k : Int) + 1) = (k : Int) + 1 := by rw [IntKind.wrap_i64]; omega
  have z2 : ¬ ((k : Int) = (L.length : Int)) := by omega
  have z3 : ¬ ((cap : Int) < (L.length : Int) + 1) := by omega
  have z4 : (k : Int) ≤ (L.length : Int) := by omega
  clear hn hg hlc hcm hcs ht h hkl hdl hX hcl src1 hc1 h1 s1 x1 hc2 hdec hR2 hR' hlist s2 hW1 hW2 hx hl hk hc hbg hne hv
  generalize L.length + 1 - (k + 1) = n2 at *
  generalize L.length + 1 - k = n1 at *
  generalize L.length - k = n0 at *
  generalize (k + 1) * 2 = p2 at *
  generalize k * 2 = p1 at *
  generalize cap - (k + 1) = G2 at *
  generalize cap - k = G1 at *
  generalize hNN : L.length + 1 = NN at *
  generalize L.length = n at *
  have R1 := Lib.hid r1
  have r2 := r2 3
  clear r1 hNN
  go_enter Try.func13, Try.ntmps13
  go_wp2_with (simp only [hov])
  go_region_held_law (fun _ => True) (trivial) (first
    | ((with_reducible refine step_copy_due (R1.out 3) (s := .tmp 73) (x := .tmp 76) ?h1 ?h2 ?h3 ?h4 ?h5 ?_); (case h1 => rfl); (case h2 => rfl); (case h3 => rfl); (case h4 => rfl); (case h5 => rfl))
    | fail)
  all_goals go_wp2_with fail
  go_ret
  exact END.out
/-- slices.Insert, anywhere. -/
theorem insert_walk (h : OwnD w base v L) (hx : One w vb x) (hl : L.length ≤ 1000) (hb : base ≤ w.heap.size) (hv : v.ownBlock ≠ some vb) (hk : k ≤ L.length) :
    Calls Try.prog 13 #[v, .int .i64 (k : Nat), .slice (some ⟨vb, 0, none⟩) 1 1] w (Insd w base v L k x) := by
  by_cases he : k = L.length
  · subst he
    exact insert_end h hx hl hb
  · by_cases hr : ∃ g cap, v = .slice (some ⟨g, 0, none⟩) L.length cap ∧ L.length + 1 ≤ cap
    · obtain ⟨g, cap, rfl, hc⟩ := hr
      exact insert_room h hx hl hv (by omega) (fun g' cap' e => by cases e; exact hc)
    · exact insert_grow h hx hl hb (by omega) (fun g cap e => by
        rcases Nat.lt_or_ge cap (L.length + 1) with hlt | hge
        · exact hlt
        · exact absurd ⟨g, cap, e, hge⟩ hr)
end
end Go.Proofs.Ytnainhdhfjokmaa
