/-
  Layer 13 (timer): slices.Delete of the first ones, out of a row of one's own.
-/
import Derived.Test.YtnainhdhfjokmaaTimerIns
import Derived.Deep.RegionHeldLaw
namespace Go.Proofs.Ytnainhdhfjokmaa
open Go.ChangeShapes Go.WideShapes Go.ChangeAt Go.RowKit Go.Shelf
set_option linter.unusedVariables false

theorem step_append_due {P : Program} {ops : Array Oper} {o : Oper} {a : Act} {w w' : World} {K : Act → World → Prop} {Q : Exit → Act → World → Prop} {E : Prop} {s x : Operand} {t : TypeId} {vs vx v' : Value}
    (hrun : (Builtin.append_ #[t, t] t #[vs, vx]).run P w = .ok v' w') (hop : o.op = Op.call { callee := Callee.builtin Builtin.append, args := #[s, x], argTypes := #[t, t] })
    (hg : o.guard = none) (ht : o.type = t) (hs : a.eval s = vs) (hx : a.eval x = vx) (hK : K (a.put o.dst v') w') :
    if Region.wanted o (yielded ops a.tmps) = true then Oper.wp P o a w K Q else E := by
  have hw : Region.wanted o (yielded ops a.tmps) = true := by simp [Region.wanted, hg]
  rw [if_pos hw]
  subst ht
  unfold Oper.wp
  simp [execOp, hop, resolve, invoke, builtin, hs, hx, hrun, Result.andThen]
  exact hK
section
variable {w w' : World} {base vb : Nat} {v : Value} {L : List Du} {x : Du} {k g cap n : Nat} {cur : Array Value}
/-- What a deletion comes to. -/
def Deld (w : World) (base : Nat) (v : Value) (L : List Du) (j : Nat) (e : Ending) (w' : World) : Prop :=
  ∃ v', e = .returned v' ∧ OwnD w' base v' (L.drop j) ∧ Keeps (fun g => v.ownBlock = some g) w w' ∧ v'.ownBlock = v.ownBlock
/-- 's[0:j:len(s)]'. -/
theorem sliceD_three (A : Option Addr) (len cap j : Nat) (hA : ∀ ad, A = some ad → ad = ⟨ad.block, 0, none⟩) (hj : j ≤ len) (hc : len ≤ cap) (w : World) :
    (Instr.slice 26 (.slice A len cap) (some (.int .i64 0)) (some (.int .i64 (j : Int))) (some (.int .i64 (len : Int)))).run Try.prog w = .ok (.slice A j len) w := by
  rw [run_slice_lhm w 26 A len cap underD _ _ _ _ _ _ (by omega) (by omega) (by omega) (by omega), sizeD]
  cases A with
  | none => simp [Result.andThen, sliced]
  | some a => simp [Result.andThen, sliced, Addr.add]
/-- 's[i:n]'. -/
theorem sliceD_mid (g len cap i n : Nat) (hi : i < n) (hc : n ≤ cap) (w : World) :
    (Instr.slice 26 (.slice (some ⟨g, 0, none⟩) len cap) (some (.int .i64 (i : Int))) (some (.int .i64 (n : Int))) none).run Try.prog w = .ok (.slice (some ⟨g, i * 2, none⟩) (n - i) (cap - i)) w := by
  rw [run_slice_lh w 26 _ len cap underD _ _ _ _ (by omega) (by omega) (by omega), sizeD]
  simp [Result.andThen, sliced, Addr.add_lit]
  omega
/-- 's[k:]', of a row that is there. -/
theorem sliceD_from_some (g len cap k : Nat) (hk : k ≤ len) (hle : len ≤ cap) : ∃ o, (∀ w, (Instr.slice 26 (.slice (some ⟨g, 0, none⟩) len cap) (some (.int .i64 (k : Int))) none none).run Try.prog w = .ok (.slice (some ⟨g, o, none⟩) (len - k) (cap - k)) w) ∧ (k < cap → o = k * 2) := by
  by_cases h : k < cap
  · exact ⟨k * 2, fun w => sliceD_from_in g len cap k hk h w, fun _ => rfl⟩
  · refine ⟨0, fun w => ?_, fun h' => absurd h' h⟩
    obtain rfl : cap = k := by omega
    rw [run_slice_l w 26 _ len cap underD _ _ (by omega) (by omega), sizeD]
    simp [Result.andThen, sliced]
set_option maxRecDepth 100000 in
theorem delete_none (h : OwnD w base v L) :
    Calls Try.prog 16 #[v, .int .i64 0, .int .i64 (0 : Nat)] w (Deld w base v L 0) := by
  have END : Hid (Deld w base v L 0 (.returned v) w) := Lib.hid ⟨v, rfl, h, Keeps.refl _ w, rfl⟩
  obtain ⟨A, cap, rfl, hs, hA⟩ := h.src
  have l0 := sliceD_three A L.length cap 0 (fun ad ha => (hA ad ha).1) (Nat.zero_le _) hs.le
  have hle := hs.le
  obtain ⟨n, hn⟩ : ∃ n, L.length = n := ⟨_, rfl⟩
  rw [hn] at l0 END hle ⊢
  clear h hs hA hn
  go_enter Try.func16, Try.ntmps16
  go_wp2_with fail
  go_ret
  exact END.out
set_option maxRecDepth 100000 in
set_option maxHeartbeats 400000 in
theorem delete_some (h : OwnD w base v L) {j : Nat} (h0 : 0 < j) (hj : j ≤ L.length) (hl : L.length ≤ 1000) :
    Calls Try.prog 16 #[v, .int .i64 0, .int .i64 (j : Nat)] w (Deld w base v L j) := by
  rcases h.parts with ⟨_, e⟩ | ⟨g, cap, cur, rfl, hbg, hg, hlc, hcm, hcs, ht⟩
  · subst e; simp at hj; omega
  obtain ⟨i, hi, hz0, hz1, hz2⟩ := info_partsD
  have hdl : (L.drop j).length = L.length - j := by rw [List.length_drop]
  have hcl : cur.toList.length = cap * 2 := by rw [Array.length_toList, hcs]
  obtain ⟨o, l2, ho⟩ := sliceD_from_some g L.length cap j hj hlc
  have src2 : ∀ (t : Nat) (u : Value), (dueCells (L.drop j))[t]? = some u → w.drew.cell? ((⟨g, o, none⟩ : Addr).add t) = some u := fun t u hu => by
    have hjl := (List.getElem?_eq_some_iff.1 hu).1
    rw [dueCells_length, hdl] at hjl
    have hkl : (L.take j).length = j := by rw [List.length_take]; omega
    have : (dueCells L)[j * 2 + t]? = some u := by
      rw [dueCells_split L j, List.getElem?_append_right (by rw [dueCells_length, hkl]; omega), dueCells_length, hkl, Nat.add_sub_cancel_left]
      exact hu
    rw [← ht, List.getElem?_take_of_lt (by omega), Array.getElem?_toList] at this
    rw [Addr.add_lit, ho (by omega)]
    show w.cell? _ = _
    rw [cell_of_block hg]
    exact this
  have r1 := run_append_room (P := Try.prog) w.drew 26 26 35 i Try.underlying26 hi g 0 cap cur hg ⟨g, o, none⟩ (L.length - j) (cap - j) (dueCells (L.drop j)) (by rw [dueCells_length, hz1, hdl]) src2 (due_one _) (by omega) (by rw [dueCells_length, hcs, hdl]; omega)
  rw [Nat.zero_add, Nat.zero_mul, Nat.zero_add, List.take_zero, List.nil_append] at r1
  obtain ⟨c1, hc1⟩ : ∃ c1, c1 = (dueCells (L.drop j) ++ cur.toList.drop (dueCells (L.drop j)).length).toArray := ⟨_, rfl⟩
  rw [← hc1] at r1
  have hg1 : (w.drew.setRow g c1).heap[g]? = some (.cells c1 35 (0, 0)) := setRow_heap w.drew g _ _ _ _ hg
  have s1 : c1.size = cap * 2 := by
    rw [hc1]
    simp only [List.size_toArray, List.length_append, List.length_drop, Array.length_toList, dueCells_length, hdl, hcs]
    omega
  obtain ⟨cs, hcsl, r2⟩ := run_clear_due (w.drew.setRow g c1) (o := (L.length - j) * 2) (n := j) (c := cap - (L.length - j)) hg1 h0 (by rw [s1]; omega) 0
  obtain ⟨c2, hc2⟩ : ∃ c2, c2 = (c1.toList.take ((L.length - j) * 2) ++ cs ++ c1.toList.drop ((L.length - j) * 2 + cs.length)).toArray := ⟨_, rfl⟩
  rw [← hc2] at r2
  have hq : (dueCells (L.drop j)).length = (L.length - j) * 2 := by rw [dueCells_length, hdl]
  have t1 : c1.toList.take ((L.length - j) * 2) = dueCells (L.drop j) := by
    rw [hc1, ← hq]
    simp only
    rw [List.take_append_of_le_length (Nat.le_refl _), List.take_length]
  have s2 : c2.size = cap * 2 := by
    rw [hc2]
    simp only [List.size_toArray, List.length_append, List.length_take, List.length_drop, Array.length_toList, s1, hcsl]
    omega
  have t2 : c2.toList.take ((L.length - j) * 2) = dueCells (L.drop j) := by
    rw [hc2, t1]
    simp only
    rw [← hq, List.append_assoc, List.take_append_of_le_length (Nat.le_refl _), List.take_length]
  have END : Hid (Deld w base (.slice (some ⟨g, 0, none⟩) L.length cap) L j (.returned (.slice (some ⟨g, 0, none⟩) (L.length - j) cap)) ((w.drew.setRow g c1).setRow g c2)) := Lib.hid ⟨_, rfl,
    OwnD.mk' (cur := c2) (setRow_heap (w.drew.setRow g c1) g _ _ _ _ hg1) s2 hcm (by rw [hdl]; omega) hbg hdl t2,
    (((Keeps.refl (fun k => k = g) w).drew.trans (setRow_keeps w.drew g c1) (fun g' e => .inl e)).trans (setRow_keeps _ g c2) (fun g' e => .inl e)).wide (fun g' e _ => by rw [e]; rfl), rfl⟩
  have l0 := sliceD_three (some ⟨g, 0, none⟩) L.length cap j (fun ad ha => by cases ha; rfl) hj hlc
  have l1 := sliceD_to (some ⟨g, 0, none⟩) L.length cap 0 (Nat.zero_le _) (fun e => by cases e)
  have l3 := sliceD_mid g (L.length - j) cap (L.length - j) L.length (by omega) hlc
  rw [show L.length - (L.length - j) = j by omega] at l3
  have z1 : ¬ ((0 : Int) = (j : Int)) := by omega
  obtain ⟨W1, hW1⟩ : ∃ W1, w.drew.setRow g c1 = W1 := ⟨_, rfl⟩
  rw [hW1] at r1 r2 END
  obtain ⟨W2, hW2⟩ : ∃ W2, W1.setRow g c2 = W2 := ⟨_, rfl⟩
  rw [hW2] at r2 END
  clear hg hlc hcm hcs ht h hdl hcl src2 hc1 s1 hc2 hcsl hq t1 s2 t2 hW1 hW2 hl hbg hg1 hz0 hz1 hz2 ho
  generalize cap - (L.length - j) = G2 at *
  generalize (L.length - j) * 2 = p2 at *
  generalize hNN : L.length - j = NN at *
  generalize cap - j = G1 at *
  generalize L.length = n at *
  have R1 := Lib.hid r1
  clear r1 hNN
  go_enter Try.func16, Try.ntmps16
  go_wp2_with fail
  go_region_held_law (fun _ => True) (trivial) (first
    | ((with_reducible refine step_append_due R1.out (s := .tmp 22) (x := .tmp 25) ?h1 ?h2 ?h3 ?h4 ?h5 ?_); (case h1 => rfl); (case h2 => rfl); (case h3 => rfl); (case h4 => rfl); (case h5 => rfl))
    | fail)
  all_goals go_wp2_with fail
  go_ret
  exact END.out
theorem delete_walk (h : OwnD w base v L) {j : Nat} (hj : j ≤ L.length) (hl : L.length ≤ 1000) :
    Calls Try.prog 16 #[v, .int .i64 0, .int .i64 (j : Nat)] w (Deld w base v L j) := by
  rcases Nat.eq_zero_or_pos j with rfl | h0
  · exact delete_none h
  · exact delete_some h h0 hj hl
end
end Go.Proofs.Ytnainhdhfjokmaa
