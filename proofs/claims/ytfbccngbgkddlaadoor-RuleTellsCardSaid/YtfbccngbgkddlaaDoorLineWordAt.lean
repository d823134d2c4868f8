/-
  Layer 4 (line): the reader's method word: a word into memory of its own, or none.
-/
import Derived.Test.YtfbccngbgkddlaaDoorLineRead
import Derived.Test.YtfbccngbgkddlaaDoorLineWord
namespace Go.Proofs.YtfbccngbgkddlaaDoor
open Go.ChangeShapes Go.WideShapes Go.ChangeAt Go.RowKit
set_option linter.unusedVariables false

theorem strClone (s : ByteArray) (w : World) (hs : s.size ≤ 281474976710656) : Calls Tryd.prog 24 #[.string s] w fun e w' => e = .returned (.string s) ∧ Below w.heap.size w w' := by
  have C := Lib.hid (Tryd.stringslite_Clone s w hs)
  go_enter Tryd.func24, Tryd.ntmps24
  go_wp2_with ((go_at_call 33; refine C.out.mono ?_); rintro e w' ⟨rfl, hb⟩)
  go_ret
  exact ⟨rfl, hb⟩

theorem extract_size (s : ByteArray) (a b : Nat) (h : b ≤ s.size) : (s.extract a b).size = b - a := by
  rw [ByteArray.size_extract]; omega

end Go.Proofs.YtfbccngbgkddlaaDoor
