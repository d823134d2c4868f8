/-
  The laws LinePrints and LineBack (layer 4), walked: they return true at every event, and every text.
-/
import Derived.Test.YtfbccngbgkddlaaDoorLineTrip
import Derived.Test.YtfbccngbgkddlaaDoorLineMay2
namespace Go.Proofs.YtfbccngbgkddlaaDoor
open Go.ChangeShapes Go.WideShapes Go.ChangeAt Go.RowKit
set_option linter.unusedVariables false

/-- Where a law on an event stands: its own block holds the event, the library's variables are as laid. -/
structure Ev5 (w : World) (n : ByteArray) (A : Option Addr) (c : Nat) (k v t : Int) (ts : Tags) (wr : World) : Prop where
  go : Go4 w w.heap.size n A c k v t ts wr
  laid : Laid wr
theorem Ev5.on {w : World} {n : ByteArray} {A : Option Addr} {c : Nat} {k v t : Int} {ts : Tags} {wr w' : World} (h : Ev5 w n A c k v t ts wr) (b : Below wr.heap.size wr w') : Ev5 w n A c k v t ts w' :=
  ⟨⟨h.go.below.trans (b.mono h.go.below.size), by unfold EvB; rw [b.block _ (lt_of_block h.go.ev)]; exact h.go.ev, h.go.rd.below b⟩, h.laid.below b⟩
theorem Ev5.start (w : World) (n : ByteArray) (A : Option Addr) (c : Nat) (k v t : Int) (ts : Tags) (hr : RdT w A ts) (hL : Laid w) :
    Ev5 w n A c k v t ts (w.alloc (.cells #[.string n, .slice A ts.length c, .int .i64 k, .int .i64 v, .int .i64 t] 25)) :=
  ⟨Go4.start w n A c k v t ts hr, hL.alloc _⟩
def Sized (n : ByteArray) (ts : Tags) : Prop := n.size ≤ 9223372036854775807 ∧ ts.length ≤ 9223372036854775807 ∧ ∀ x y, (x, y) ∈ ts → x.size ≤ 9223372036854775807 ∧ y.size ≤ 9223372036854775807

end Go.Proofs.YtfbccngbgkddlaaDoor
