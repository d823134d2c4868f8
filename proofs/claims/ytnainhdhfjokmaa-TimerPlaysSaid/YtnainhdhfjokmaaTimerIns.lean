/-
  Layer 13 (timer): slices.Insert of one that is due, into a row of one's own: at its end, where there is no room, and in place.
-/
import Derived.Test.YtnainhdhfjokmaaTimerBase
namespace Go.Proofs.Ytnainhdhfjokmaa
open Go.ChangeShapes Go.WideShapes Go.ChangeAt Go.RowKit Go.Shelf
set_option linter.unusedVariables false

theorem room_list {α : Type} (c P Q R2 R' X : List α) (hc : c = P ++ (Q ++ (R2 ++ R'))) (hX : X.length = R2.length) (c1 : List α) (h1 : c1 = c.take (P.length + X.length) ++ Q ++ c.drop (P.length + X.length + Q.length)) :
    c1.take P.length ++ X ++ c1.drop (P.length + X.length) = P ++ X ++ Q ++ R' := by
  have hl : c.length = P.length + Q.length + R2.length + R'.length := by rw [hc]; simp; omega
  have e1 : c.drop (P.length + X.length + Q.length) = R' := by
    rw [hc, ← List.append_assoc, ← List.append_assoc, List.drop_append, List.drop_eq_nil_of_le (by simp; omega), List.nil_append,
      show P.length + X.length + Q.length - ((P ++ Q) ++ R2).length = 0 by simp; omega]
    rfl
  have e2 : (c.take (P.length + X.length)).length = P.length + X.length := by rw [List.length_take]; omega
  have e3 : c1.take P.length = P := by
    rw [h1, List.append_assoc, List.take_append_of_le_length (by omega), List.take_take, Nat.min_eq_left (by omega), hc, List.take_append_of_le_length (Nat.le_refl _), List.take_length]
  have e4 : c1.drop (P.length + X.length) = Q ++ R' := by
    rw [h1, e1, List.append_assoc, List.drop_append, List.drop_eq_nil_of_le (by omega), e2, Nat.sub_self]
    rfl
  rw [e3, e4, List.append_assoc]
  simp
theorem grow_list {α : Type} (c P Q Z X : List α) (hc : c = P ++ Z) (hZ : X.length + Q.length ≤ Z.length) (c1 : List α) (h1 : c1 = c.take P.length ++ X ++ c.drop (P.length + X.length)) :
    c1.take (P.length + X.length) ++ Q ++ c1.drop (P.length + X.length + Q.length) = P ++ X ++ Q ++ Z.drop (X.length + Q.length) := by
  have e0 : c1 = P ++ X ++ Z.drop X.length := by
    rw [h1, hc, List.take_append_of_le_length (Nat.le_refl _), List.take_length, List.drop_append, List.drop_eq_nil_of_le (by omega), List.nil_append, Nat.add_sub_cancel_left]
  rw [e0, show P.length + X.length = (P ++ X).length by simp, List.take_append_of_le_length (Nat.le_refl _), List.take_length, List.drop_append, List.drop_eq_nil_of_le (by omega), List.nil_append, List.drop_drop, Nat.add_sub_cancel_left]
/-- A step of a region that draws: a copy by an equation on its run. -/
theorem step_copy_due {P : Program} {ops : Array Oper} {o : Oper} {a : Act} {w w' : World} {K : Act → World → Prop} {Q : Exit → Act → World → Prop} {E : Prop} {s x : Operand} {t ty : TypeId} {vs vx v' : Value}
    (hrun : (Builtin.copy_ #[t, t] ty #[vs, vx]).run P w = .ok v' w') (hop : o.op = Op.call { callee := Callee.builtin Builtin.copy, args := #[s, x], argTypes := #[t, t] })
    (hg : o.guard = none) (ht : o.type = ty) (hs : a.eval s = vs) (hx : a.eval x = vx) (hK : K (a.put o.dst v') w') :
    if Region.wanted o (yielded ops a.tmps) = true then Oper.wp P o a w K Q else E := by
  have hw : Region.wanted o (yielded ops a.tmps) = true := by simp [Region.wanted, hg]
  rw [if_pos hw]
  subst ht
  unfold Oper.wp
  simp [execOp, hop, resolve, invoke, builtin, hs, hx, hrun, Result.andThen]
  exact hK
theorem wpList_copy_due {P : Program} {w w' : World} {ops : Array Oper} {rest : List Oper} {o : Oper} {a : Act} {Q : Exit → Act → World → Prop} (hgd : Region.wanted o (yielded ops a.tmps) = true) (s x : Operand) (t ty : TypeId)
    (ho : o.op = .call { callee := .builtin .copy, args := #[s, x], argTypes := #[t, t] }) (hty : o.type = ty) (vs vx v' : Value) (hs : a.eval s = vs) (hx : a.eval x = vx)
    (hrun : (Builtin.copy_ #[t, t] ty #[vs, vx]).run P w = .ok v' w') (h : wpList P ops Q rest (a.put o.dst v') w') : wpList P ops Q (o :: rest) a w := by
  refine wpList_step fun K hK => ?_
  rw [if_pos hgd]
  subst hty
  unfold Oper.wp
  simp [execOp, ho, resolve, invoke, builtin, hs, hx, hrun, Result.andThen]
  exact hK _ _ h
/-- One that is due, laid in a block of its own. -/
def One (w : World) (vb : Nat) (x : Du) : Prop := w.heap[vb]? = some (.cells #[.int .i64 x.1, .int .i64 x.2] 35 (0, 0))
section
variable {w w' : World} {base vb : Nat} {v : Value} {L : List Du} {x : Du} {k g cap : Nat} {cur : Array Value}
theorem One.src (h : One w vb x) : SrcD w (some ⟨vb, 0, none⟩) 1 [x] :=
  ⟨Nat.le_refl _, (fun e => by cases e), fun ad ha j u hu => by
    cases ha
    rw [Addr.add_lit, Nat.zero_add, cell_of_block h]
    simpa [dueCells, dueOf] using hu⟩
theorem One.keeps {F : Nat → Prop} (h : One w vb x) (k : Keeps F w w') (hF : ¬ F vb) : One w' vb x := keeps_out k h hF
theorem setRow_keeps (w : World) (g : Nat) (cs : Array Value) : Keeps (fun k => k = g) w (w.setRow g cs) :=
  ⟨rfl, rfl, rfl, by simp [World.setRow], fun k _ hk => setRow_other w g k cs hk⟩
/-- What an insertion comes to. -/
def Insd (w : World) (base : Nat) (v : Value) (L : List Du) (k : Nat) (x : Du) (e : Ending) (w' : World) : Prop :=
  ∃ v', e = .returned v' ∧ OwnD w' base v' (insD L k x) ∧ Keeps (fun g => v.ownBlock = some g) w w' ∧ ∀ g, v'.ownBlock = some g → v.ownBlock = some g ∨ w.heap.size ≤ g
set_option maxRecDepth 100000 in
theorem insert_end (h : OwnD w base v L) (hx : One w vb x) (hl : L.length ≤ 1000) (hb : base ≤ w.heap.size) :
    Calls Try.prog 13 #[v, .int .i64 (L.length : Nat), .slice (some ⟨vb, 0, none⟩) 1 1] w (Insd w base v L L.length x) := by
  obtain ⟨v', w1, r1, o1, g1, hat⟩ := ownD_app h hx.src (by simp; omega) hb
  have END : Hid (Insd w base v L L.length x (.returned v') w1) := Lib.hid ⟨v', rfl, by
      unfold insD
      rw [List.take_length, List.drop_length]
      exact o1, Keeps.of_grown g1 (fun g e => e), fun g hg => by
      rcases hat with e | e
      · rw [e] at hg; exact .inl hg
      · rw [e] at hg; cases hg; exact .inr (Nat.le_refl _)⟩
  obtain ⟨A, cap, rfl, hs, _⟩ := h.src
  obtain ⟨A', sl, _, _⟩ := sliceD_from A cap L L.length (Nat.le_refl _) hs.le hs.nn
  have R1 := Lib.hid r1
  have hle := hs.le
  obtain ⟨q, hq⟩ : ∃ q, (L.drop L.length).length = q := ⟨_, rfl⟩
  rw [hq] at sl
  obtain ⟨n, hn⟩ : ∃ n, L.length = n := ⟨_, rfl⟩
  rw [hn] at sl R1 END hle ⊢
  clear h hx r1 o1 g1 hat hs hl hq hn
  go_enter Try.func13, Try.ntmps13
  go_wp2_with (first
    | (at_builtin; refine wpList_append_two rfl (.tmp 23) (.tmp 24) 26 26 rfl _ _ _ rfl rfl R1.out ?_)
    | fail)
  go_ret
  exact END.out
end
end Go.Proofs.Ytnainhdhfjokmaa
