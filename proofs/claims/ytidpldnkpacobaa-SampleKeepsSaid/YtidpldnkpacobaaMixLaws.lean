/-
  The laws MixTells and MixLess (layer 3), walked: both return true at every list of bytes.
-/
import Derived.Test.YtidpldnkpacobaaMixBase
namespace Go.Proofs.Ytidpldnkpacobaa
open Go.ChangeShapes Go.WideShapes Go.ChangeAt Go.RowKit
set_option linter.unusedVariables false

theorem add_block (a : Addr) (i : Nat) : (a.add i).block = a.block := by
  unfold Addr.add; split <;> rfl
theorem RdInts.below {k : IntKind} {w w' : World} {A : Option Addr} {zs : List Int} (h : RdInts k w A zs) (hb : Below w.heap.size w w') : RdInts k w' A zs := by
  intro i hi
  obtain ⟨ad, n, e, hz, hc⟩ := h i hi
  exact ⟨ad, n, e, hz, by rw [hb.cell (World.block_lt_of_cell? w _ hc), hc]⟩

def Bools (x : Bool) (w : World) (e : Ending) (w' : World) : Prop := e = .returned (.bool x) ∧ w = w'
theorem keep_is {A : Option Addr} {zs : List Int} {cap : Nat} {t : Int} {w : World} {b : Bool} (h : Calls Try.prog 14 #[.slice A zs.length cap, .int .i64 t] w (KeptM zs t w))
    (hb : decide (t ≤ mixOf zs % 65536) = b) : Calls Try.prog 14 #[.slice A zs.length cap, .int .i64 t] w (Bools b w) :=
  h.mono fun e w' ⟨he, hw⟩ => ⟨by rw [he]; exact ret_bool hb, hw⟩

end Go.Proofs.Ytidpldnkpacobaa
