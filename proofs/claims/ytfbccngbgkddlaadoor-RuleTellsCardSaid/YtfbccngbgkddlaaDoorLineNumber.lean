/-
  Layer 4: the document's own numerals.
-/
import Derived.Test.YtfbccngbgkddlaaDoorLineVal
import Derived.Test.YtfbccngbgkddlaaDoorLineRead
import Derived.Laws.IdiomStrings
namespace Go.Proofs.YtfbccngbgkddlaaDoor
open Go.ChangeShapes Go.WideShapes Go.ChangeAt Go.RowKit
set_option linter.unusedVariables false

def SB (l : List UInt8) (w : World) (e : Ending) (w' : World) : Prop := e = .returned (.string ⟨l.toArray⟩) ∧ Below w.heap.size w w'
theorem conv_digit (w : World) (x : Int) (d : Nat) (hd : d < 10) (hx : x = ((48 + d : Nat) : Int)) :
    (convert 60 9 (.slice (some ⟨w.heap.size, 0, none⟩) 1 1)).run Tryd.prog (w.alloc (.cells #[.int .u8 x] 5)) = .ok (.string ⟨#[UInt8.ofNat (48 + d)]⟩) (w.alloc (.cells #[.int .u8 x] 5)) := by
  refine run_convert_bytes_back (P := Tryd.prog) (w.alloc (.cells #[.int .u8 x] 5)) 60 9 5 ⟨w.heap.size, 0, none⟩ 1 [UInt8.ofNat (48 + d)] Tryd.underlying60 Tryd.underlying5 Tryd.underlying9 (fun j hj => ?_)
  have hj : j < 1 := hj
  obtain rfl : j = 0 := by omega
  simp only [List.getElem_cons_zero]
  rw [digit_toNat d hd, ← hx]
  simp [Addr.add]
theorem str_app (x y : List UInt8) : (⟨x.toArray⟩ : ByteArray) ++ ⟨y.toArray⟩ = ⟨(x ++ y).toArray⟩ := by rw [ByteArray.mk_append_mk]
theorem nDigits_le (u : Nat) (hu : u < 18446744073709551616) : (Lib.decDigits u).length ≤ 20 := by
  rw [Lib.decDigits_length]
  rcases Nat.lt_or_ge 20 (Lib.nDigits u) with h | h
  · have := natOf_ge (c := 49) (l := []) (by decide) (by decide)
    have hl := Lib.decDigits_length u
    cases hd : Lib.decDigits u with
    | nil => exact absurd hd (dec_ne u)
    | cons c r =>
      rw [hd] at hl
      have hlead : c.toNat ≠ 48 := by
        rcases Nat.eq_zero_or_pos u with e | e
        · subst e; rw [Lib.decDigits_one (by omega)] at hd; cases hd; simp at hl; omega
        · exact dec_lead u e c (by rw [hd]; rfl)
      have h1 := natOf_ge (l := r) (dec_digits u c (by rw [hd]; simp)) hlead
      rw [← hd, natOf_dec] at h1
      have hp : 10 ^ 20 ≤ 10 ^ r.length := Nat.pow_le_pow_right (by omega) (by simp at hl; omega)
      have : (10 : Nat) ^ 20 = 100000000000000000000 := by decide
      omega
  · exact h

end Go.Proofs.YtfbccngbgkddlaaDoor
