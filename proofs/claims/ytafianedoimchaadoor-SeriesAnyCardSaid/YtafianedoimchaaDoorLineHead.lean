/-
  Layer 4: the document's own Head: the name and the tags of a line.
-/
import Derived.Test.YtafianedoimchaaDoorLineMay
import Derived.Test.YtafianedoimchaaDoorLineNumber
import Derived.Test.YtafianedoimchaaDoorLineNum
namespace Go.Proofs.YtafianedoimchaaDoor
open Go.ChangeShapes Go.WideShapes Go.ChangeAt Go.RowKit
set_option linter.unusedVariables false

def tagL (t : ByteArray × ByteArray) : List UInt8 := 44 :: t.1.data.toList ++ 61 :: t.2.data.toList
def headL (n : ByteArray) (ts : Tags) : List UInt8 := n.data.toList ++ ts.flatMap tagL
theorem headL_next {n : ByteArray} {ts : Tags} {i : Nat} {x y : ByteArray} (h : ts[i]? = some (x, y)) : headL n (ts.take (i + 1)) = headL n (ts.take i) ++ tagL (x, y) := by
  obtain ⟨hl, e⟩ := List.getElem?_eq_some_iff.1 h
  unfold headL
  rw [List.take_succ_eq_append_getElem hl, e, List.flatMap_append]
  simp
theorem ba_app (x y : ByteArray) : (x ++ y).data.toList = x.data.toList ++ y.data.toList := by rw [ByteArray.data_append, Array.toList_append]
/-- What is told so far. -/
structure HeadTo (n : ByteArray) (ts : Tags) (i : Nat) (H : ByteArray) : Prop where
  eq : H.data.toList = headL n (ts.take i)
  le : H.size ≤ 100 + i * 202
theorem HeadTo.next {n : ByteArray} {ts : Tags} {i : Nat} {H x y : ByteArray} (h : HeadTo n ts i H) (hi : ts[i]? = some (x, y)) (sx : x.size ≤ 100) (sy : y.size ≤ 100) : HeadTo n ts (i + 1) (H ++ ⟨#[44]⟩ ++ x ++ ⟨#[61]⟩ ++ y) := by
  refine ⟨?_, ?_⟩
  · rw [headL_next hi, ← h.eq, ba_app, ba_app, ba_app, ba_app]
    unfold tagL
    simp
  · have := h.le
    simp only [ByteArray.size_append]
    have e1 : (⟨#[44]⟩ : ByteArray).size = 1 := rfl
    have e2 : (⟨#[61]⟩ : ByteArray).size = 1 := rfl
    omega

end Go.Proofs.YtafianedoimchaaDoor
