/-
  Layer 6 (wire): the small functions on numbers, the program's and the document's own, and the laws' pick.
-/
import Derived.Test.YtgohgmihoggcpaaKit
import Derived.Test.YtgohgmihoggcpaaWirePure
import Derived.Test.YtgohgmihoggcpaaOwnB
import Derived.LoopTactic
import Derived.Deep.QuietTactic
import Derived.BigQuiet
import Derived.Lib.Hide
namespace Go.Proofs.Ytgohgmihoggcpaa
open Go.ChangeShapes Go.WideShapes Go.ChangeAt Go.RowKit
set_option linter.unusedVariables false

theorem ret_ik {k : IntKind} {a b : Int} (h : a = b) : Ending.returned (.int k a) = .returned (.int k b) := by rw [h]
def Int6 (n : Int) (w : World) (e : Ending) (w' : World) : Prop := e = .returned (.int .i64 n) ∧ w = w'
def Num6 (n : Nat) (w : World) (e : Ending) (w' : World) : Prop := e = .returned (.int .u64 (n : Nat)) ∧ w = w'

theorem fold_neg {n : Int} (h : n < 0) : ((foldN n : Nat) : Int) = (-1 - n) * 2 + 1 := by unfold foldN; rw [if_pos h]; omega
theorem fold_pos {n : Int} (h : ¬ n < 0) : ((foldN n : Nat) : Int) = n * 2 := by unfold foldN; rw [if_neg h]; omega
theorem unfold_odd {n : Nat} (h : n % 2 = 1) : unfoldN n = -1 - (n : Int) / 2 := by unfold unfoldN; rw [if_pos h]; omega
theorem unfold_even {n : Nat} (h : ¬ n % 2 = 1) : unfoldN n = (n : Int) / 2 := by unfold unfoldN; rw [if_neg h]; omega
theorem refWholeOf (n : Nat) : (if n % 2 = 1 then -1 - ((n / 2 : Nat) : Int) else ((n / 2 : Nat) : Int)) = unfoldN n := rfl
def pick3 (c : Int) : Int := (if c < 0 then -(c + 1) else c) % 3
theorem pick3_lt (c : Int) : 0 ≤ pick3 c ∧ pick3 c < 3 := by unfold pick3; omega
theorem pick_neg {c : Int} (h : c < 0) : pick3 c = -((c + 1).tmod 3) := by
  unfold pick3
  rw [if_pos h, ← Int.neg_tmod, Int.tmod_eq_emod_of_nonneg (by omega)]
theorem pick_pos {c : Int} (h : ¬ c < 0) : pick3 c = c % 3 := by unfold pick3; rw [if_neg h]
/-- A call that hands back a row of bytes of its own. -/
def Bytes (B : Nat) (l : List UInt8) (w : World) (e : Ending) (w' : World) : Prop := ∃ v', e = .returned v' ∧ OB w' B v' l ∧ Below B w w'
theorem wireCopy (A : Option Addr) (cap : Nat) (l : List UInt8) (r : Nat) (w : World) (hr : RdS w A cap l) (hl : l.length ≤ 5000) (h1 : r ≤ 5000) :
    Calls Try.prog 38 #[.slice A l.length cap, .int .i64 (r : Int)] w (Bytes w.heap.size l w) := by
  obtain ⟨v1, w1, r1, o1, g1⟩ := ob_make (w := w) (B := w.heap.size) (l.length + r) (by omega) (Nat.le_refl _)
  obtain ⟨v2, w2, r2, o2, g2⟩ := ob_row o1 (hr.below g1.below (Nat.le_refl _)) (by simp; omega) g1.below.size
  have R1 := Lib.hid r1
  have R2 := Lib.hid r2
  have O := Lib.hid o2
  have G := Lib.hid (g1.trans g2)
  rw [Int.natCast_add] at R1
  clear r1 r2 o1 o2 g1 g2 hr
  go_enter Try.func38, Try.ntmps38
  have r1 := R1.out
  go_wp2_with (at_builtin; refine wpList_append_two rfl (.tmp 9) (.tmp 10) 32 32 rfl _ _ _ rfl rfl R2.out ?_)
  go_ret
  exact ⟨_, rfl, O.out, G.out.below⟩
end Go.Proofs.Ytgohgmihoggcpaa
