/-
  Layer 4 (line): what the small functions on bytes and words return, the program's and the document's own.
-/
import Derived.Test.YtfbccngbgkddlaaDoorKit
import Derived.Test.YtfbccngbgkddlaaDoorLinePure
import Derived.LoopTactic
import Derived.Deep.QuietTactic
import Derived.BigQuiet
namespace Go.Proofs.YtfbccngbgkddlaaDoor
open Go.ChangeShapes Go.WideShapes Go.ChangeAt Go.RowKit
set_option linter.unusedVariables false

def Bools (x : Bool) (w : World) (e : Ending) (w' : World) : Prop := e = .returned (.bool x) ∧ w = w'
def Ints (n : Int) (w : World) (e : Ending) (w' : World) : Prop := e = .returned (.int .i64 n) ∧ w = w'
theorem ret_int {k : IntKind} {a b : Int} (h : a = b) : Ending.returned (.int k a) = .returned (.int k b) := by rw [h]

theorem inW_eq (c : UInt8) (b : Bool) (h : b = true ↔ (97 ≤ c.toNat ∧ c.toNat ≤ 122) ∨ (48 ≤ c.toNat ∧ c.toNat ≤ 57) ∨ c.toNat = 95 ∨ c.toNat = 46) : b = inW c := by
  rw [Bool.eq_iff_iff, h]
  unfold inW
  simp only [Bool.or_eq_true, decide_eq_true_eq, or_assoc]
theorem isD_eq (c : UInt8) (b : Bool) (h : b = true ↔ (48 ≤ c.toNat ∧ c.toNat ≤ 57)) : b = isD c := by
  rw [Bool.eq_iff_iff, h]
  unfold isD
  simp only [decide_eq_true_eq]

theorem refWithin (c : UInt8) (w : World) : Calls Tryd.prog 39 #[.int .u8 c.toNat] w (Bools (inW c) w) := by
  have hc := UInt8.toNat_lt c
  have HE := Lib.hid (inW_eq c)
  generalize c.toNat = n at hc HE ⊢
  go_enter Tryd.func39, Tryd.ntmps39
  go_wp2
  all_goals
    go_ret
    exact ⟨ret_bool (HE.out _ (by simp; omega)), rfl⟩
theorem lineIsDigit (c : UInt8) (w : World) : Calls Tryd.prog 57 #[.int .u8 c.toNat] w (Bools (isD c) w) := by
  have hc := UInt8.toNat_lt c
  have HE := Lib.hid (isD_eq c)
  generalize c.toNat = n at hc HE ⊢
  go_enter Tryd.func57, Tryd.ntmps57
  go_wp2
  all_goals
    go_ret
    exact ⟨ret_bool (HE.out _ (by simp; omega)), rfl⟩
theorem lineInWord (c : UInt8) (w : World) : Calls Tryd.prog 40 #[.int .u8 c.toNat] w (Bools (inW c) w) := by
  have hc := UInt8.toNat_lt c
  have HE := Lib.hid (inW_eq c)
  generalize c.toNat = n at hc HE ⊢
  go_enter Tryd.func40, Tryd.ntmps40
  go_wp2
  all_goals
    go_ret
    exact ⟨ret_bool (HE.out _ (by simp; omega)), rfl⟩
end Go.Proofs.YtfbccngbgkddlaaDoor
