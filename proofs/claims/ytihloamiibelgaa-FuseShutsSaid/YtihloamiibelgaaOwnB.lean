/-
  Rows of bytes of one's own, appended to by strings, by bytes that are laid for it and by bytes that lie elsewhere; blocks of another kind stay.
-/
import Derived.Test.YtihloamiibelgaaLineMem
import Derived.Lib.AppendStr
import Derived.Lib.OthersKept
import Derived.Laws.AppendOwn
import Derived.Laws.OwnMore
import Derived.Laws.MakeOwn
import Derived.Laws.BytesArg
import Derived.Lib.ConvBytes
import Derived.DataElems
namespace Go.Proofs.Ytihloamiibelgaa
open Go.ChangeShapes Go.WideShapes Go.ChangeAt Go.RowKit
set_option linter.unusedVariables false

theorem infoB : (Try.prog.info? 5).map (fun i => (i.zero, i.size, i.bytes)) = some (some (.int .u8 0), 1, 1) := by kernel_rfl
theorem info_parts {e : TypeId} {z : Value} {b : Nat} (h : (Try.prog.info? e).map (fun i => (i.zero, i.size, i.bytes)) = some (some z, 1, b)) :
    ∃ i, Try.prog.info? e = some i ∧ i.zero = some z ∧ i.size = 1 ∧ i.bytes = b := by
  cases hi : Try.prog.info? e with
  | none => rw [hi] at h; cases h
  | some i =>
    rw [hi] at h
    simp at h
    exact ⟨i, rfl, h.1, h.2.1, h.2.2⟩
/-- v is a row of bytes of one's own (or nil), and holds l. -/
def OB (w : World) (B : Nat) (v : Value) (l : List UInt8) : Prop := w.ownsRow B 5 1 v l.length (Lib.byteCells l)
/-- What becomes of a world while such a row grows. -/
structure Gr (B : Nat) (w w' : World) : Prop where
  below : Below B w w'
  kept : Lib.OthersKept 5 none w w'
theorem Gr.refl (B : Nat) (w : World) : Gr B w w := ⟨Below.refl _ _, Lib.OthersKept.refl _ _ _⟩
theorem Gr.trans {B : Nat} {w w1 w2 : World} (h : Gr B w w1) (k : Gr B w1 w2) : Gr B w w2 := ⟨h.below.trans k.below, h.kept.trans k.kept⟩
theorem Gr.alloc {B : Nat} {w w1 : World} (h : Gr B w w1) (hB : B ≤ w1.heap.size) (o : Obj) : Gr B w (w1.alloc o) := ⟨h.below.alloc hB _, h.kept.alloc _⟩
theorem Gr.size {B : Nat} {w w1 : World} (h : Gr B w w1) : w.heap.size ≤ w1.heap.size := h.below.size
theorem OB.nil (w : World) (B : Nat) : OB w B (.slice none 0 0) [] := World.ownsRow_nil _ _ _ _
theorem OB.alloc {w : World} {B : Nat} {v : Value} {l : List UInt8} (h : OB w B v l) (o : Obj) : OB (w.alloc o) B v l := World.ownsRow.alloc h o
theorem OB.kind {w : World} {B : Nat} {v : Value} {l : List UInt8} (h : OB w B v l) : ∀ g, v.ownBlock = some g → ∃ c fz, w.heap[g]? = some (.cells c 5 fz) := by
  intro g hg
  rcases h.2 with ⟨rfl, _⟩ | ⟨g', cap, cur, rfl, _, hc, _⟩
  · cases hg
  · simp only [Value.ownBlock, Option.some.injEq] at hg
    subst hg
    exact ⟨_, _, hc⟩
theorem OB.grown {w w' : World} {B : Nat} {v : Value} {l : List UInt8} (h : OB w B v l) (hB : B ≤ w.heap.size) (g : w.grownBy w' v.ownBlock) : Gr B w w' :=
  ⟨⟨g.os, g.tape, g.output, g.size, fun k hk => g.block k (by omega) (fun e => by have := World.ownsRow.lt h k e.symm; omega)⟩,
   fun k o hk _ ho => by
      rw [g.block k (lt_of_block hk) (fun e => by obtain ⟨c, fz, hc⟩ := h.kind k e.symm; rw [hk] at hc; cases hc; exact ho _ _ rfl)]
      exact hk⟩
theorem byteCells_app (x y : List UInt8) : Lib.byteCells (x ++ y) = Lib.byteCells x ++ Lib.byteCells y := by unfold Lib.byteCells; rw [List.map_append]
theorem wpList_append_two {P : Program} {w w' : World} {ops : Array Oper} {rest : List Oper} {o : Oper} {a : Act} {Q : Exit → Act → World → Prop} (hgd : Region.wanted o (yielded ops a.tmps) = true) (s x : Operand) (t u : TypeId)
    (ho : o.op = .call { callee := .builtin .append, args := #[s, x], argTypes := #[t, u] }) (vs vx v' : Value) (hs : a.eval s = vs) (hx : a.eval x = vx)
    (hrun : (Builtin.append_ #[t, u] o.type #[vs, vx]).run P w = .ok v' w') (h : wpList P ops Q rest (a.put o.dst v') w') : wpList P ops Q (o :: rest) a w := by
  refine wpList_step fun K hK => ?_
  rw [if_pos hgd]
  unfold Oper.wp
  simp [execOp, ho, resolve, invoke, builtin, hs, hx, hrun, Result.andThen]
  exact hK _ _ h
theorem Gr.block {B : Nat} {w w' : World} (g : Gr B w w') {k : Nat} {o : Obj} (h : w.heap[k]? = some o) (ho : ∀ c fz, o ≠ .cells c 5 fz) : w'.heap[k]? = some o := g.kept k o h (by simp) ho
/-- A slice of bytes, nil or not, that reads as this list. -/
structure RdS (w : World) (A : Option Addr) (cap : Nat) (l : List UInt8) : Prop where
  le : l.length ≤ cap
  nn : A = none → cap = 0
  rd : ∀ ad, A = some ad → ∀ i c, l[i]? = some c → w.cell? (ad.add i) = some (.int .u8 c.toNat)
theorem RdS.nil (w : World) : RdS w none 0 [] := ⟨Nat.le_refl _, fun _ => rfl, fun _ h => by cases h⟩
theorem RdS.below {w w' : World} {B : Nat} {A : Option Addr} {cap : Nat} {l : List UInt8} (h : RdS w A cap l) (hb : Below B w w') (hB : w.heap.size ≤ B) : RdS w' A cap l :=
  ⟨h.le, h.nn, fun ad ha i c hc => by
    have h1 := h.rd ad ha i c hc
    have h2 := World.block_lt_of_cell? w _ h1
    rw [hb.cell (by omega)]; exact h1⟩
theorem RdS.drew {w : World} {A : Option Addr} {cap : Nat} {l : List UInt8} (h : RdS w A cap l) (n : Nat) : RdS (w.drewN n) A cap l := ⟨h.le, h.nn, h.rd⟩
theorem RdS.alloc {w : World} {A : Option Addr} {cap : Nat} {l : List UInt8} (h : RdS w A cap l) (o : Obj) : RdS (w.alloc o) A cap l :=
  h.below ((Below.refl w.heap.size w).alloc (Nat.le_refl _) o) (Nat.le_refl _)
theorem RdS.some_of {w : World} {A : Option Addr} {cap : Nat} {l : List UInt8} (h : RdS w A cap l) (hl : 0 < l.length) : ∃ ad, A = some ad := by
  cases A with
  | none => have := h.nn rfl; have := h.le; omega
  | some ad => exact ⟨ad, rfl⟩
theorem OB.rd {w : World} {B : Nat} {v : Value} {l : List UInt8} (h : OB w B v l) : ∃ A cap, v = .slice A l.length cap ∧ RdS w A cap l := by
  rcases h.2 with ⟨rfl, e⟩ | ⟨g, cap, cur, rfl, _, hc, hn, _, _, ht⟩
  · obtain rfl := List.length_eq_zero_iff.1 e
    exact ⟨none, 0, rfl, RdS.nil w⟩
  · refine ⟨some ⟨g, 0, none⟩, cap, rfl, hn, (fun e => by cases e), fun ad ha i c hi => ?_⟩
    cases ha
    exact World.ownsRow.cells h (g := g) rfl i _ (by unfold Lib.byteCells; rw [List.getElem?_map, hi]; rfl)
theorem OB.below {w w' : World} {B : Nat} {v : Value} {l : List UInt8} (h : OB w B v l) (hb : Below w.heap.size w w') : OB w' B v l :=
  World.ownsRow.kept (row := none) h (grown_of hb) (by cases hv : v.ownBlock <;> simp)
end Go.Proofs.Ytihloamiibelgaa
