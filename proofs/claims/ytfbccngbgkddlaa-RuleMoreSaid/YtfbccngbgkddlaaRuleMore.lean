/-
  Layer 14 (rule): the law RuleMore, walked.
-/
import Derived.Test.YtfbccngbgkddlaaRuleUp
import Derived.Test.YtfbccngbgkddlaaRuleRow
import Derived.Deep.RegionHeldLaw
namespace Go.Proofs.Ytfbccngbgkddlaa
open Go.ChangeShapes Go.WideShapes Go.ChangeAt Go.RowKit Go.Deep
set_option linter.unusedVariables false

theorem begB_iff {key p : ByteArray} : begB key p = true ↔ p.data.toList <+: key.data.toList := by
  unfold begB
  rw [Bool.and_eq_true, decide_eq_true_eq, beq_iff_eq, ByteArray.toList_eq, ByteArray.toList_eq, List.prefix_iff_eq_take]
  have hs : ∀ x : ByteArray, x.data.toList.length = x.size := fun x => by rw [Array.length_toList]; rfl
  have e : (key.extract 0 p.size).data.toList = key.data.toList.take p.size := by
    rw [ByteArray.data_extract, Array.toList_extract]; simp
  rw [e, hs]
  constructor
  · rintro ⟨_, h⟩; exact h.symm
  · intro h
    refine ⟨?_, h.symm⟩
    have := congrArg List.length h
    rw [List.length_take, hs, hs] at this
    omega
theorem begB_trans {key p q : ByteArray} (h1 : begB p q = true) (h2 : begB key p = true) : begB key q = true :=
  begB_iff.2 ((begB_iff.1 h1).trans (begB_iff.1 h2))
theorem class_front {l m : List Ru} {c : Int} {key : ByteArray} (h : (l.any fun q => begB key q.1) = true) : classOf (l ++ m) c key = classOf l c key := by
  induction l with
  | nil => simp at h
  | cons r l ih =>
    show (if begB key r.1 = true then r.2 else classOf (l ++ m) c key) = (if begB key r.1 = true then r.2 else classOf l c key)
    split
    · rfl
    · rename_i hn
      rw [List.any_cons, Bool.or_eq_true] at h
      exact ih (h.resolve_left hn)
theorem class_miss {l : List Ru} {p : ByteArray} {z c : Int} {key : ByteArray} (h : begB key p = false) : classOf (l ++ [(p, z)]) c key = classOf l c key := by
  induction l with
  | nil => show (if begB key p = true then z else c - 1) = c - 1; rw [h]; rfl
  | cons r l ih =>
    show (if begB key r.1 = true then r.2 else classOf (l ++ [(p, z)]) c key) = (if begB key r.1 = true then r.2 else classOf l c key)
    rw [ih]
/-- A rule behind one whose Prefix is a beginning of its own makes no difference; nor does one that the key doesn't begin with. -/
theorem class_more {l : List Ru} {p : ByteArray} {z c : Int} {key : ByteArray} (h : (l.any fun q => begB p q.1) = true ∨ begB key p = false) : classOf (l ++ [(p, z)]) c key = classOf l c key := by
  rcases hk : begB key p with _ | _
  · exact class_miss hk
  · rcases h with h | h
    · refine class_front ?_
      obtain ⟨q, hq, hb⟩ := List.any_eq_true.1 h
      exact List.any_eq_true.2 ⟨q, hq, begB_trans hb hk⟩
    · rw [hk] at h; cases h
/-- Is one of the first i met? -/
def metB (p : ByteArray) (l : List Ru) (i : Nat) : Bool := (l.take i).any fun q => begB p q.1
theorem met_next {p : ByteArray} {l : List Ru} {i : Nat} {q : ByteArray} {z : Int} (h : l[i]? = some (q, z)) : metB p l (i + 1) = (metB p l i || begB p q) := by
  unfold metB
  obtain ⟨hl, e⟩ := List.getElem?_eq_some_iff.1 h
  rw [List.take_succ_eq_append_getElem hl, List.any_append, e]
  simp
theorem met_all {p : ByteArray} {l : List Ru} : metB p l l.length = l.any fun q => begB p q.1 := by unfold metB; rw [List.take_length]
/-- The rule in its own block, and all that was there. -/
structure Ms (W : World) (p : ByteArray) (z : Int) (w : World) : Prop where
  bel : Below W.heap.size W w
  blk : w.heap[W.heap.size]? = some (.cells #[.string p, .int .i64 z] 24 (0, 0))
section
variable {W w w' : World} {p : ByteArray} {z : Int}
theorem Ms.still (h : Ms W p z w) (b : Below w.heap.size w w') : Ms W p z w' :=
  ⟨h.bel.trans (b.mono h.bel.size), by rw [b.block _ (lt_of_block h.blk)]; exact h.blk⟩
theorem Ms.start : Ms W p z (W.alloc (.cells #[.string p, .int .i64 z] 24)) := ⟨bel_newR _ _, heap_alloc_new _ _⟩
theorem Ms.c0 (h : Ms W p z w) : w.cell? ⟨W.heap.size, 0, none⟩ = some (.string p) := cell_of_block h.blk
theorem Ms.c1 (h : Ms W p z w) : w.cell? ⟨W.heap.size, 1, none⟩ = some (.int .i64 z) := cell_of_block h.blk
end
theorem step_append_ru {P : Program} {ops : Array Oper} {o : Oper} {a : Act} {w w' : World} {K : Act → World → Prop} {Q : Exit → Act → World → Prop} {E : Prop} {s x : Operand} {t : TypeId} {vs vx v' : Value}
    (hrun : (Builtin.append_ #[t, t] t #[vs, vx]).run P w = .ok v' w') (hop : o.op = Op.call { callee := Callee.builtin Builtin.append, args := #[s, x], argTypes := #[t, t] })
    (hg : o.guard = none) (ht : o.type = t) (hs : a.eval s = vs) (hx : a.eval x = vx) (hK : K (a.put o.dst v') w') :
    if Region.wanted o (yielded ops a.tmps) = true then Oper.wp P o a w K Q else E := by
  have hw : Region.wanted o (yielded ops a.tmps) = true := by simp [Region.wanted, hg]
  rw [if_pos hw]
  subst ht
  unfold Oper.wp
  simp [execOp, hop, resolve, invoke, builtin, hs, hx, hrun, Result.andThen]
  exact hK
theorem below_drewR (w : World) : Below w.heap.size w w.drew := ⟨rfl, rfl, rfl, Nat.le_refl _, fun _ _ => rfl⟩
theorem below_drewNR (w : World) (n : Nat) : Below w.heap.size w (w.drewN n) := ⟨rfl, rfl, rfl, Nat.le_refl _, fun _ _ => rfl⟩

set_option maxRecDepth 100000 in
set_option maxHeartbeats 400000 in
theorem more_head (A : Option Addr) (cap : Nat) (l : List Ru) (c : Int) (p : ByteArray) (z : Int) (key : ByteArray) (W : World) (hr : RdRu W A l) (hl : l.length ≤ 9223372036854775807) (hf : FitRu l) (hc : InZ c) (hz : InZ z)
    (hps : p.size ≤ 9223372036854775807) (hks : key.size ≤ 9223372036854775807) (h : fewU l = false ∨ 300 < p.size ∨ 3000 < key.size) :
    Calls Try.prog 3 #[.slice A l.length cap, .int .i64 c, .agg #[.string p, .int .i64 z], .string key] W (Holds W) := by
  have M0 := Lib.hid (Ms.start (W := W) (p := p) (z := z))
  have CU := Lib.hid (up_rule (W.alloc (.cells #[.string p, .int .i64 z] 24)))
  have CF := Lib.hid (fun wx (b : Below W.heap.size W wx) => few_walk A cap l wx (hr.below b) hl hf)
  obtain ⟨fw, hfw⟩ : ∃ fw, fewU l = fw := ⟨_, rfl⟩
  rw [hfw] at CF h
  clear hr hf hfw
  rcases fw with _ | _
  · clear h
    go_enter Try.func3, Try.ntmps3
    go_wp2_with fail
    refine CU.out.mono ?_
    rintro e w1 ⟨rfl, b1⟩
    have M1 := Lib.hid (M0.out.still b1)
    have C1 := Lib.hid (CF.out _ M1.out.bel)
    clear b1 CU CF M0
    go_wp2_with fail
    refine C1.out.mono ?_
    rintro e w2 ⟨rfl, rfl⟩
    go_wp2_with fail
    go_ret
    exact ⟨rfl, M1.out.bel⟩
  · by_cases h3 : 300 < p.size
    · have y1 : (300 : Int) < p.size := by omega
      clear h
      go_enter Try.func3, Try.ntmps3
      go_wp2_with fail
      refine CU.out.mono ?_
      rintro e w1 ⟨rfl, b1⟩
      have M1 := Lib.hid (M0.out.still b1)
      have C1 := Lib.hid (CF.out _ M1.out.bel)
      have c0 := M1.out.c0
      clear b1 CU CF M0
      go_wp2_with fail
      refine C1.out.mono ?_
      rintro e w2 ⟨rfl, rfl⟩
      go_wp2_with fail
      go_ret
      exact ⟨rfl, M1.out.bel⟩
    · have y1 : ¬ (300 : Int) < p.size := by omega
      have y2 : (3000 : Int) < key.size := by
        rcases h with h | h | h
        · cases h
        · omega
        · omega
      clear h
      go_enter Try.func3, Try.ntmps3
      go_wp2_with fail
      refine CU.out.mono ?_
      rintro e w1 ⟨rfl, b1⟩
      have M1 := Lib.hid (M0.out.still b1)
      have C1 := Lib.hid (CF.out _ M1.out.bel)
      have c0 := M1.out.c0
      clear b1 CU CF M0
      go_wp2_with fail
      refine C1.out.mono ?_
      rintro e w2 ⟨rfl, rfl⟩
      go_wp2_with fail
      go_ret
      exact ⟨rfl, M1.out.bel⟩
end Go.Proofs.Ytfbccngbgkddlaa
