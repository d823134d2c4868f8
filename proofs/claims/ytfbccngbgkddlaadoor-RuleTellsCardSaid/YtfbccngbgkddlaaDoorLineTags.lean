/-
  Layer 4 (line): the reader's method tags: all tags up to the space behind them.
-/
import Derived.Test.YtfbccngbgkddlaaDoorLineTag
import Derived.Deep.LoopGhost
import Derived.Laws.OwnMore
namespace Go.Proofs.YtfbccngbgkddlaaDoor
open Go.ChangeShapes Go.WideShapes Go.ChangeAt Go.RowKit
set_option linter.unusedVariables false

def tagCells (ts : Tags) : List Value := ts.flatMap fun t => [.string t.1, .string t.2]
theorem tagCells_length (ts : Tags) : (tagCells ts).length = ts.length * 2 := by
  induction ts with
  | nil => rfl
  | cons t r ih => simp only [tagCells, List.flatMap_cons, List.length_append, List.length_cons, List.length_nil] at ih ⊢; omega
theorem tagCells_snoc (ts : Tags) (x y : ByteArray) : tagCells (ts ++ [(x, y)]) = tagCells ts ++ [.string x, .string y] := by
  simp [tagCells]

/-- Tags in a row of one's own, behind so many blocks. -/
def OwnT (w : World) (base : Nat) (A : Option Addr) (cap : Nat) (ts : Tags) : Prop :=
  w.ownsRow base 44 2 (.slice A ts.length cap) ts.length (tagCells ts)
theorem OwnT.nil (w : World) (base : Nat) : OwnT w base none 0 [] := World.ownsRow_nil w base _ 2
theorem OwnT.kept {w w' : World} {base : Nat} {A : Option Addr} {cap : Nat} {ts : Tags} {b : Nat} (h : OwnT w base A cap ts) (hg : w.grownBy w' (some b)) (hb : b < base) : OwnT w' base A cap ts := by
  refine World.ownsRow.kept h hg ?_
  cases hv : (Value.slice A ts.length cap).ownBlock with
  | none => exact .inl rfl
  | some g =>
    have := (World.ownsRow.lt h g hv).1
    exact .inr (fun e => by cases e; omega)
theorem OwnT.alloc {w : World} {base : Nat} {A : Option Addr} {cap : Nat} {ts : Tags} (h : OwnT w base A cap ts) (o : Obj) : OwnT (w.alloc o) base A cap ts := World.ownsRow.alloc h o
theorem OwnT.mono {w : World} {base base' : Nat} {A : Option Addr} {cap : Nat} {ts : Tags} (h : OwnT w base A cap ts) (hb : base' ≤ base) : OwnT w base' A cap ts := by
  refine ⟨h.1, ?_⟩
  rcases h.2 with hn | ⟨g, cap, cur, hv, hg, r⟩
  · exact .inl hn
  · exact .inr ⟨g, cap, cur, hv, Nat.le_trans hb hg, r⟩

theorem infoT : (Tryd.prog.info? 44).map (fun i => (i.zero, i.size, i.bytes)) = some (some (.agg #[.string ⟨#[]⟩, .string ⟨#[]⟩]), 2, 32) := by kernel_rfl

theorem append_tag {w : World} {base : Nat} {A : Option Addr} {cap : Nat} {ts : Tags} (x y : ByteArray) (h : OwnT w base A cap ts) (hb : base ≤ w.heap.size) (hl : ts.length ≤ 100) :
    ∃ A' cap' w', (Builtin.append_ #[23, 23] 23 #[.slice A ts.length cap, .slice (some ⟨w.heap.size, 0, none⟩) 1 1]).run Tryd.prog (w.alloc (.cells #[.string x, .string y] 44)) = .ok (.slice A' (ts.length + 1) cap') w' ∧
      OwnT w' base A' cap' (ts ++ [(x, y)]) ∧ Below base w w' := by
  cases hi : Tryd.prog.info? 44 with
  | none => have := infoT; rw [hi] at this; cases this
  | some i =>
    have hI := infoT
    rw [hi] at hI
    simp only [Option.map_some, Option.some.injEq, Prod.mk.injEq] at hI
    obtain ⟨hz, hz1, hz2⟩ := hI
    obtain ⟨v', w', hrun, hown, hgr, hnil⟩ := run_append_own (P := Tryd.prog) (w.alloc (.cells #[.string x, .string y] 44)) base 23 23 44 i _ 2 32 Tryd.underlying23 hi hz hz1 hz2 rfl (by omega) _ _ _ (h.alloc _) ⟨w.heap.size, 0, none⟩ 1 1 [.string x, .string y] rfl
      (fun j u hu => by
        match j, hu with
        | 0, hu => cases hu; simp [Addr.add]
        | 1, hu => cases hu; simp [Addr.add])
      (fun u hu => by
        simp only [List.mem_cons, List.not_mem_nil, or_false] at hu
        rcases hu with rfl | rfl <;> rfl)
      (by unfold maxLen; omega) (by omega) (by simp; omega)
    have hb0 : Below base w (w.alloc (.cells #[.string x, .string y] 44)) := (Below.refl _ _).alloc hb _
    have hb1 : Below base w w' := hb0.trans ⟨hgr.os, hgr.tape, hgr.output, hgr.size, fun k hk => hgr.block k (by simp; omega) (fun e => by
      have := (World.ownsRow.lt h k e.symm).1
      omega)⟩
    rcases hown.2 with ⟨e, hn0⟩ | ⟨g', cap', cur, rfl, r⟩
    · omega
    · refine ⟨_, _, w', hrun, ?_, hb1⟩
      unfold OwnT
      rw [List.length_append, tagCells_snoc]
      exact hown

theorem wpList_append_if {P : Program} {w w' : World} {ops : Array Oper} {rest : List Oper} {o : Oper} {a : Act} {Q : Exit → Act → World → Prop} (hgd : Region.wanted o (yielded ops a.tmps) = true) (s x : Operand) (t : TypeId)
    (ho : o.op = .call { callee := .builtin .append, args := #[s, x], argTypes := #[t, t] }) (vs vx v' : Value) (hs : a.eval s = vs) (hx : a.eval x = vx)
    (hrun : (Builtin.append_ #[t, t] o.type #[vs, vx]).run P w = .ok v' w') (h : wpList P ops Q rest (a.put o.dst v') w') : wpList P ops Q (o :: rest) a w := by
  refine wpList_step fun K hK => ?_
  rw [if_pos hgd]
  unfold Oper.wp
  simp [execOp, ho, resolve, invoke, builtin, hs, hx, hrun, Result.andThen]
  exact hK _ _ h

theorem chr_ne {s : ByteArray} {k : Nat} {c : Nat} (h : chr s k ≠ c) (d : Int) (hd : d = (c : Int)) : ((chr s k : Int) == d) = false := by
  rw [beq_eq_false_iff_ne]; omega
theorem chr_eq {s : ByteArray} {k : Nat} {c : Nat} (h : chr s k = c) (d : Int) (hd : d = (c : Int)) : ((chr s k : Int) == d) = true := by
  rw [beq_iff_eq]; omega

end Go.Proofs.YtfbccngbgkddlaaDoor
