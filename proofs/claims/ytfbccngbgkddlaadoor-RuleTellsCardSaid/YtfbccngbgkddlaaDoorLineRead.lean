/-
  Layer 4 (line): what the reader's small methods return: ends, next, pass, kind.
-/
import Derived.Test.YtfbccngbgkddlaaDoorLineBase
import Derived.Test.YtfbccngbgkddlaaDoorLineMem
import Derived.Test.YtfbccngbgkddlaaDoorShelf
namespace Go.Proofs.YtfbccngbgkddlaaDoor
open Go.ChangeShapes Go.WideShapes Go.ChangeAt Go.RowKit
set_option linter.unusedVariables false

def QBool (x : Bool) (w : World) (e : Ending) (w' : World) : Prop := e = .returned (.bool x) ∧ ∃ n, w' = w.drewN n
def QChr (c : Nat) (w : World) (e : Ending) (w' : World) : Prop := e = .returned (.int .u8 (c : Nat)) ∧ ∃ n, w' = w.drewN n
theorem ret_ib {x y : Int} {z : Bool} (h : x = y) : Ending.returned (.tuple #[.int .i64 x, .bool z]) = .returned (.tuple #[.int .i64 y, .bool z]) := by rw [h]
theorem index_cgh (c : Nat) (h : c < 256) : Lib.indexByte [99, 103, 104] (c : Int).toNat.toUInt8 = (match kindOf c with | some x => x - 1 | none => -1) := by
  have : ∀ c : Fin 256, Lib.indexByte [99, 103, 104] ((c.val : Nat) : Int).toNat.toUInt8 = (match kindOf c.val with | some x => x - 1 | none => -1) := by decide +kernel
  exact this ⟨c, h⟩
end Go.Proofs.YtfbccngbgkddlaaDoor
