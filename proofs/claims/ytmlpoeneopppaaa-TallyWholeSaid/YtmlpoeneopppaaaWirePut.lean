/-
  Layer 6 (wire): put, Number, Whole, Text: rows of bytes of their own.
-/
import Derived.Test.YtmlpoeneopppaaaWireBase
import Derived.Deep.LoopGhost
import Derived.Laws.BitsAllLaws
namespace Go.Proofs.Ytmlpoeneopppaaa
open Go.ChangeShapes Go.WideShapes Go.ChangeAt Go.RowKit
set_option linter.unusedVariables false

theorem or_fin : ∀ x : Fin 256, x.val ||| 128 = x.val % 128 + 128 := by decide +kernel
theorem or_byte (m : Nat) : bits .or .u8 ((m : Int) % 256) 128 = ((m % 128 + 128 : Nat) : Int) := by
  rw [u8_or _ _ (by omega) (by omega) (by omega) (by omega)]
  have h := or_fin ⟨m % 256, by omega⟩
  simp only at h
  rw [show ((m : Int) % 256).toNat = m % 256 by omega, show (128 : Int).toNat = 128 from rfl, h]
  omega
theorem ob_byte {w : World} {B : Nat} {v : Value} {l : List UInt8} (h : OB w B v l) (x : UInt8) (c : Int) (hc : ((x.toNat : Nat) : Int) = c) (hl : l.length ≤ 100000) (hB : B ≤ w.heap.size) :
    ∃ v' w', (Builtin.append_ #[45, 45] 45 #[v, .slice (some ⟨w.heap.size, 0, none⟩) 1 1]).run Try.prog (w.alloc (.cells #[.int .u8 c] 5)) = .ok v' w' ∧ OB w' B v' (l ++ [x]) ∧ Gr B w w' := by
  subst hc
  exact ob_lit h [x] (by simp; omega) hB

structure PutAt (w : World) (B : Nat) (all : List UInt8) (acc : List UInt8) (n : Nat) (v : Value) (wr : World) : Prop where
  own : OB wr B v acc
  all : acc ++ enc n = all
  below : Below B w wr
end Go.Proofs.Ytmlpoeneopppaaa
