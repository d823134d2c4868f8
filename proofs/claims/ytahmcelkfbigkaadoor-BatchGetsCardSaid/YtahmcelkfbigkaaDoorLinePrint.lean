/-
  Layer 4 (line): line.Print: the line of an event that may be, or the error ErrArg.
-/
import Derived.Test.YtahmcelkfbigkaaDoorLineOwn
import Derived.Test.YtahmcelkfbigkaaDoorLineLaid
namespace Go.Proofs.YtahmcelkfbigkaaDoor
open Go.ChangeShapes Go.WideShapes Go.ChangeAt Go.RowKit
set_option linter.unusedVariables false

def PrintBad (w : World) (e : Ending) (w' : World) : Prop := e = .returned (.tuple #[.string ⟨#[]⟩, .iface 32 (.int .i64 1)]) ∧ Below w.heap.size w w'
def PrintGood (l : List UInt8) (w : World) (e : Ending) (w' : World) : Prop := e = .returned (.tuple #[.string ⟨l.toArray⟩, .nilIface]) ∧ Below w.heap.size w w'

/-- Behind the loop: the kind's letter between spaces. -/
theorem ob_letter {w : World} {B : Nat} {v : Value} {l : List UInt8} (h : OB w B v l) (k : Int) (z : Int) (hk : (k = 1 ∧ z = 99) ∨ (k = 2 ∧ z = 103) ∨ (k = 3 ∧ z = 104)) (hl : l.length ≤ 5000) (hB : B ≤ w.heap.size) :
    ∃ v' w', (Builtin.append_ #[27, 27] 27 #[v, .slice (some ⟨w.heap.size, 0, none⟩) 3 3]).run Tryd.prog (w.alloc (.cells #[.int .u8 32, .int .u8 z, .int .u8 32] 5)) = .ok v' w' ∧ OB w' B v' (l ++ [32] ++ [letter k] ++ [32]) ∧ Gr B w w' := by
  obtain ⟨v', w', r, o, g⟩ := ob_lit h [32, letter k, 32] (by simp; omega) hB
  refine ⟨v', w', ?_, by simpa using o, g⟩
  have hz : Lib.byteCells [32, letter k, 32] = [.int .u8 32, .int .u8 z, .int .u8 32] := by
    rcases hk with ⟨rfl, rfl⟩ | ⟨rfl, rfl⟩ | ⟨rfl, rfl⟩ <;> rfl
  rw [hz] at r
  exact r
theorem ob_space {w : World} {B : Nat} {v : Value} {l : List UInt8} (h : OB w B v l) (hl : l.length ≤ 6000) (hB : B ≤ w.heap.size) :
    ∃ v' w', (Builtin.append_ #[27, 27] 27 #[v, .slice (some ⟨w.heap.size, 0, none⟩) 1 1]).run Tryd.prog (w.alloc (.cells #[.int .u8 32] 5)) = .ok v' w' ∧ OB w' B v' (l ++ [32]) ∧ Gr B w w' :=
  ob_lit h [32] (by simp; omega) hB
def Itoas (B : Nat) (l : List UInt8) (w : World) (e : Ending) (w' : World) : Prop := ∃ v', e = .returned v' ∧ OB w' B v' l ∧ Gr B w w'
def letterZ (k : Int) : Int := if k = 1 then 99 else if k = 2 then 103 else 104
theorem may_open {n : ByteArray} {ts : Tags} {k t : Int} (h : mayB n ts k t = true) : (k = 1 ∨ k = 2 ∨ k = 3) ∧ 0 ≤ t ∧ t ≤ 1099511627776 ∧ ts.length ≤ 6 := by
  unfold mayB restOk at h
  simp only [Bool.and_eq_true, decide_eq_true_eq] at h
  omega

end Go.Proofs.YtahmcelkfbigkaaDoor
