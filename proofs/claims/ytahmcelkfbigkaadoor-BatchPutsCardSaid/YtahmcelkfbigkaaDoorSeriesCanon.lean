/-
  Layer 5 (series): series.Canon: an event with its tags rising, or the errors ErrArg and ErrTwice.
-/
import Derived.Test.YtahmcelkfbigkaaDoorSeriesSort
import Derived.Test.YtahmcelkfbigkaaDoorLineParse
namespace Go.Proofs.YtahmcelkfbigkaaDoor
open Go.ChangeShapes Go.WideShapes Go.ChangeAt Go.RowKit
set_option linter.unusedVariables false

/-- Where Canon stands: the event in a block of its own, and the result's block. -/
structure Cn (w : World) (n : ByteArray) (A : Option Addr) (l c : Nat) (k v t : Int) (wr : World) : Prop where
  below : Below w.heap.size w wr
  ev : EvB wr w.heap.size n A l c k v t
  res : EvB wr (w.heap.size + 1) ⟨#[]⟩ none 0 0 0 0 0
section
variable {w wr w' : World} {n : ByteArray} {A : Option Addr} {l c : Nat} {k v t : Int}
theorem Cn.size (h : Cn w n A l c k v t wr) : w.heap.size + 1 < wr.heap.size := lt_of_block h.res
theorem Cn.on (h : Cn w n A l c k v t wr) (b : Below wr.heap.size wr w') : Cn w n A l c k v t w' :=
  ⟨h.below.trans (b.mono h.below.size), by unfold EvB; rw [b.block _ (lt_of_block h.ev)]; exact h.ev, by unfold EvB; rw [b.block _ (lt_of_block h.res)]; exact h.res⟩
theorem Cn.grown (h : Cn w n A l c k v t wr) {r : Option Nat} (g : wr.grownBy w' r) (hr : ∀ b, r = some b → w.heap.size + 2 ≤ b) : Cn w n A l c k v t w' := by
  have n0 : some w.heap.size ≠ r := fun e => by have := hr _ e.symm; omega
  have n1 : some (w.heap.size + 1) ≠ r := fun e => by have := hr _ e.symm; omega
  refine ⟨⟨g.os.trans h.below.os, g.tape.trans h.below.tape, g.output.trans h.below.output, Nat.le_trans h.below.size g.size, fun b hb => ?_⟩, ?_, ?_⟩
  · rw [g.block b (by have := h.size; omega) (fun e => by have := hr b e.symm; omega)]
    exact h.below.block b hb
  · unfold EvB; rw [g.block _ (lt_of_block h.ev) n0]; exact h.ev
  · unfold EvB; rw [g.block _ (lt_of_block h.res) n1]; exact h.res
theorem Cn.put0 (h : Cn w n A l c k v t wr) (x : ByteArray) : Cn w x A l c k v t (wr.setCell ⟨w.heap.size, 0, none⟩ (.string x)) :=
  ⟨h.below.setCell (Nat.le_refl _) _, h.ev.set0 x, by unfold EvB; rw [heap_set_other (by show w.heap.size + 1 ≠ w.heap.size; omega)]; exact h.res⟩
theorem Cn.put1 (h : Cn w n A l c k v t wr) (A' : Option Addr) (l' c' : Nat) : Cn w n A' l' c' k v t (wr.setCell ⟨w.heap.size, 1, none⟩ (.slice A' l' c')) :=
  ⟨h.below.setCell (Nat.le_refl _) _, h.ev.set1 A' l' c', by unfold EvB; rw [heap_set_other (by show w.heap.size + 1 ≠ w.heap.size; omega)]; exact h.res⟩
theorem Cn.start (w : World) (n : ByteArray) (A : Option Addr) (l c : Nat) (k v t : Int) :
    Cn w n A l c k v t ((w.alloc (.cells #[.string n, .slice A l c, .int .i64 k, .int .i64 v, .int .i64 t] 71)).alloc (.cells #[.string ⟨#[]⟩, .slice none 0 0, .int .i64 0, .int .i64 0, .int .i64 0] 71)) := by
  refine ⟨((Below.refl _ _).alloc (Nat.le_refl _) _).alloc (by simp) _, ?_, ?_⟩
  · unfold EvB
    rw [(World.grownBy_alloc _ _ none).block w.heap.size (by simp) (by simp)]
    exact heap_alloc_new w _
  · have := heap_alloc_new (w.alloc (.cells #[.string n, .slice A l c, .int .i64 k, .int .i64 v, .int .i64 t] 71)) (.cells #[.string ⟨#[]⟩, .slice none 0 0, .int .i64 0, .int .i64 0, .int .i64 0] 71)
    rw [World.size_alloc] at this
    exact this
end

theorem RdT.set {w : World} {A : Option Addr} {ts : Tags} (h : RdT w A ts) (a : Addr) (x : Value) (hne : ∀ d, A = some d → d.block ≠ a.block) : RdT (w.setCell a x) A ts := by
  rcases h with h | ⟨b, o, e, hc⟩
  · exact .inl h
  · have hb : b ≠ a.block := hne _ e
    refine .inr ⟨b, o, e, fun i x y hi => ⟨?_, ?_⟩⟩
    · exact (World.cell?_of_block (heap_set_other hb)).trans (hc i x y hi).1
    · exact (World.cell?_of_block (heap_set_other hb)).trans (hc i x y hi).2
theorem RdT.set5 {w : World} {A : Option Addr} {ts : Tags} (h : RdT w A ts) {g : Nat} (hne : ∀ d, A = some d → d.block ≠ g) (v0 v1 v2 v3 v4 : Value) :
    RdT (((((w.setCell ⟨g, 0, none⟩ v0).setCell ⟨g, 1, none⟩ v1).setCell ⟨g, 2, none⟩ v2).setCell ⟨g, 3, none⟩ v3).setCell ⟨g, 4, none⟩ v4) A ts :=
  ((((h.set _ _ hne).set _ _ hne).set _ _ hne).set _ _ hne).set _ _ hne

def CanonBad (w : World) (code : Int) (e : Ending) (w' : World) : Prop := e = .returned (.tuple #[evZero, .iface 32 (.int .i64 code)]) ∧ Below w.heap.size w w'
def CanonGood (w : World) (n : ByteArray) (k v t : Int) (ts : Tags) (e : Ending) (w' : World) : Prop :=
  ∃ A c, e = .returned (.tuple #[evVal n A ts.length c k v t, .nilIface]) ∧ RdT w' A ts ∧ Below w.heap.size w w'

def CanonPost (w : World) (n : ByteArray) (k v t : Int) (ts : Tags) (r : Bool) (e : Ending) (w' : World) : Prop :=
  match r with
  | true => CanonGood w n k v t (sortT ts) e w'
  | false => CanonBad w 5 e w'

end Go.Proofs.YtahmcelkfbigkaaDoor
