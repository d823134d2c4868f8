/-
  Layer 6 (wire): the small functions on numbers, the program's and the document's own, and the laws' pick.
-/
import Derived.Test.YtmlpoeneopppaaaKit
import Derived.Test.YtmlpoeneopppaaaWirePure
import Derived.Test.YtmlpoeneopppaaaOwnB
import Derived.LoopTactic
import Derived.Deep.QuietTactic
import Derived.BigQuiet
import Derived.Lib.Hide
namespace Go.Proofs.Ytmlpoeneopppaaa
open Go.ChangeShapes Go.WideShapes Go.ChangeAt Go.RowKit
set_option linter.unusedVariables false

theorem ret_ik {k : IntKind} {a b : Int} (h : a = b) : Ending.returned (.int k a) = .returned (.int k b) := by rw [h]
def Int6 (n : Int) (w : World) (e : Ending) (w' : World) : Prop := e = .returned (.int .i64 n) ∧ w = w'
def Num6 (n : Nat) (w : World) (e : Ending) (w' : World) : Prop := e = .returned (.int .u64 (n : Nat)) ∧ w = w'

theorem fold_neg {n : Int} (h : n < 0) : ((foldN n : Nat) : Int) = (-1 - n) * 2 + 1 := by unfold foldN; rw [if_pos h]; omega
theorem fold_pos {n : Int} (h : ¬ n < 0) : ((foldN n : Nat) : Int) = n * 2 := by unfold foldN; rw [if_neg h]; omega
theorem unfold_odd {n : Nat} (h : n % 2 = 1) : unfoldN n = -1 - (n : Int) / 2 := by unfold unfoldN; rw [if_pos h]; omega
theorem unfold_even {n : Nat} (h : ¬ n % 2 = 1) : unfoldN n = (n : Int) / 2 := by unfold unfoldN; rw [if_neg h]; omega
theorem refWholeOf (n : Nat) : (if n % 2 = 1 then -1 - ((n / 2 : Nat) : Int) else ((n / 2 : Nat) : Int)) = unfoldN n := rfl
def pick3 (c : Int) : Int := (if c < 0 then -(c + 1) else c) % 3
theorem pick3_lt (c : Int) : 0 ≤ pick3 c ∧ pick3 c < 3 := by unfold pick3; omega
theorem pick_neg {c : Int} (h : c < 0) : pick3 c = -((c + 1).tmod 3) := by
  unfold pick3
  rw [if_pos h, ← Int.neg_tmod, Int.tmod_eq_emod_of_nonneg (by omega)]
theorem pick_pos {c : Int} (h : ¬ c < 0) : pick3 c = c % 3 := by unfold pick3; rw [if_neg h]
/-- A call that hands back a row of bytes of its own. -/
def Bytes (B : Nat) (l : List UInt8) (w : World) (e : Ending) (w' : World) : Prop := ∃ v', e = .returned v' ∧ OB w' B v' l ∧ Below B w w'
end Go.Proofs.Ytmlpoeneopppaaa
