/-
  Layer 4: the document's own Print.
-/
import Derived.Test.YtfbccngbgkddlaaDoorLineHead
import Derived.Deep.RegionHeld3
namespace Go.Proofs.YtfbccngbgkddlaaDoor
open Go.ChangeShapes Go.WideShapes Go.ChangeAt Go.RowKit
set_option linter.unusedVariables false

def letter (k : Int) : UInt8 := if k = 1 then 99 else if k = 2 then 103 else 104
def printL (n : ByteArray) (ts : Tags) (k v t : Int) : List UInt8 := headL n ts ++ [32] ++ [letter k] ++ [32] ++ Lib.itoa v ++ [32] ++ Lib.itoa t
theorem tagL_len (x y : ByteArray) : (tagL (x, y)).length = x.size + y.size + 2 := by
  have e1 : x.data.toList.length = x.size := by simp
  have e2 : y.data.toList.length = y.size := by simp
  unfold tagL
  simp only [List.cons_append, List.length_cons, List.length_append]
  rw [e1, e2]
  omega
theorem headL_le {n : ByteArray} {ts : Tags} (h : Small n ts) : (headL n ts).length ≤ 5000 := by
  obtain ⟨h0, h1, h2⟩ := h
  have key : ∀ l : Tags, (∀ x y, (x, y) ∈ l → x.size ≤ 100 ∧ y.size ≤ 100) → (l.flatMap tagL).length ≤ l.length * 202 := by
    intro l
    induction l with
    | nil => intro _; simp
    | cons a r ih =>
      intro hl
      have := ih (fun x y hxy => hl x y (by simp [hxy]))
      obtain ⟨x, y⟩ := a
      have hx := hl x y (by simp)
      have hx1 := hx.1
      have hx2 := hx.2
      rw [List.flatMap_cons, List.length_append, List.length_cons, tagL_len]
      omega
  have := key ts h2
  unfold headL
  rw [List.length_append]
  have e : n.data.toList.length = n.size := by simp
  omega
theorem itoa_le (v : Int) (h0 : -9223372036854775808 ≤ v) (h1 : v ≤ 9223372036854775807) : (Lib.itoa v).length ≤ 30 := by
  unfold Lib.itoa
  split
  · have := nDigits_le v.natAbs (by omega); simp only [List.length_cons]; omega
  · have := nDigits_le v.toNat (by omega); omega

end Go.Proofs.YtfbccngbgkddlaaDoor
