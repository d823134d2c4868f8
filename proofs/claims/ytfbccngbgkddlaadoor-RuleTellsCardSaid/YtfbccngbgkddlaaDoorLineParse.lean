/-
  Layer 4 (line): line.Parse: the event of a text, or where it can't go on.
-/
import Derived.Test.YtfbccngbgkddlaaDoorLineEvent
import Derived.RegionTactic
namespace Go.Proofs.YtfbccngbgkddlaaDoor
open Go.ChangeShapes Go.WideShapes Go.ChangeAt Go.RowKit
set_option linter.unusedVariables false

def evZero : Value := evVal ⟨#[]⟩ none 0 0 0 0 0
def ParseGood (w : World) (ev : Ev) (e : Ending) (w' : World) : Prop :=
  ∃ A c, e = .returned (.tuple #[evVal ev.name A ev.tags.length c ev.kind ev.value ev.time, .nilIface]) ∧ OwnT w' w.heap.size A c ev.tags ∧ Below w.heap.size w w'
theorem below_of_some {w w' : World} {b : Nat} (g : w.grownBy w' (some b)) (hb : w.heap.size ≤ b) : Below w.heap.size w w' :=
  ⟨g.os, g.tape, g.output, g.size, fun k hk => g.block k hk (fun e => by cases e; omega)⟩
theorem grown_drew1 {w w1 : World} {r : Option Nat} (g : w.grownBy w1 r) : w.grownBy w1.drew r := ⟨g.os, g.tape, g.output, g.size, g.block⟩
theorem grown_set5 {w w1 : World} {r : Option Nat} (h : w.grownBy w1 r) {g : Nat} (hg : w.heap.size ≤ g) (v0 v1 v2 v3 v4 : Value) :
    w.grownBy (((((w1.setCell ⟨g, 0, none⟩ v0).setCell ⟨g, 1, none⟩ v1).setCell ⟨g, 2, none⟩ v2).setCell ⟨g, 3, none⟩ v3).setCell ⟨g, 4, none⟩ v4) r :=
  grown_set (grown_set (grown_set (grown_set (grown_set h _ _ (Or.inr hg)) _ _ (Or.inr hg)) _ _ (Or.inr hg)) _ _ (Or.inr hg)) _ _ (Or.inr hg)
theorem new_block {x : World} {N : Nat} (o : Obj) (h : x.heap.size = N) : (x.alloc o).drew.heap[N]? = some o := by
  subst h; exact heap_alloc_new x o

end Go.Proofs.YtfbccngbgkddlaaDoor
