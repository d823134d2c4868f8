/-
  Layer 4 (line): the reader's method number.
-/
import Derived.Test.YtfbccngbgkddlaaDoorLineWordAt
import Derived.Test.YtfbccngbgkddlaaDoorLineLaid
import Derived.Lib.AppendIntMem
import Derived.Lib.AtoiErrMem
namespace Go.Proofs.YtfbccngbgkddlaaDoor
open Go.ChangeShapes Go.WideShapes Go.ChangeAt Go.RowKit
set_option linter.unusedVariables false

theorem parseIntB_bd {l : List UInt8} {v : Int} (h : Lib.parseIntB 64 l = .ok v) : -9223372036854775808 ≤ v ∧ v ≤ 9223372036854775807 := by
  unfold Lib.parseIntB at h
  split at h
  · cases h
  · simp only at h
    split at h
    · cases h
    · cases h
    · rename_i u hu
      split at h
      · cases h
      · split at h
        · cases h
        · rename_i h1 h2
          injection h with h
          subst h
          split
          · rename_i hn
            simp only [hn, not_true_eq_false, false_and, not_false_eq_true, true_and, Nat.not_lt] at h1 h2
            have : (2 : Nat) ^ (64 - 1) = 9223372036854775808 := by decide
            omega
          · rename_i hn
            simp only [hn, not_false_eq_true, true_and, Nat.not_le] at h1 h2
            have : (2 : Nat) ^ (64 - 1) = 9223372036854775808 := by decide
            omega

def POk (v : Int) (w : World) (e : Ending) (w' : World) : Prop := e = .returned (.tuple #[.int .i64 v, .nilIface]) ∧ Below w.heap.size w w'
def Strs (t : ByteArray) (w : World) (e : Ending) (w' : World) : Prop := e = .returned (.string t) ∧ Below w.heap.size w w'
theorem ba_ext {x y : ByteArray} (h : x.data.toList = y.data.toList) : x = y := by
  cases x; cases y; simp only [ByteArray.mk.injEq]; exact Array.ext' h

theorem ba_ne {x y : ByteArray} (h : x ≠ y) : x.toList ≠ y.toList := fun e => h (ba_ext (by rw [← Lib.toList_data, ← Lib.toList_data]; exact e))

/-- What a text of digits comes to, by the library. -/
inductive NumIs (t : ByteArray) (lo hi : Int) : Option Int → Prop where
  | err : (∀ v, Lib.parseIntB 64 t.data.toList ≠ .ok v) → NumIs t lo hi none
  | low (v : Int) : Lib.parseIntB 64 t.data.toList = .ok v → v < lo → NumIs t lo hi none
  | high (v : Int) : Lib.parseIntB 64 t.data.toList = .ok v → lo ≤ v → hi < v → NumIs t lo hi none
  | odd (v : Int) : Lib.parseIntB 64 t.data.toList = .ok v → lo ≤ v → v ≤ hi → (⟨(Lib.itoa v).toArray⟩ : ByteArray) ≠ t → NumIs t lo hi none
  | ok (v : Int) : Lib.parseIntB 64 t.data.toList = .ok v → lo ≤ v → v ≤ hi → (⟨(Lib.itoa v).toArray⟩ : ByteArray) = t → NumIs t lo hi (some v)
theorem numIs (s : ByteArray) (k : Nat) (lo hi : Int) : NumIs (s.extract k (numEnd s k)) lo hi (numAt s k lo hi) := by
  generalize ht : s.extract k (numEnd s k) = t
  unfold numAt
  rw [ht]
  unfold valOf
  rcases hp : Lib.parseIntB 64 t.data.toList with v | _ | _
  rotate_left
  · exact .err (by rw [hp]; intro v h; cases h)
  · exact .err (by rw [hp]; intro v h; cases h)
  · simp only
    have hi' : (⟨(Lib.itoa v).toArray⟩ : ByteArray) = t ↔ Lib.itoa v = t.data.toList := ⟨fun h => by rw [← h], fun h => ba_ext (by simpa using h)⟩
    by_cases he : Lib.itoa v = t.data.toList
    · rw [if_pos he]
      simp only
      by_cases hr : lo ≤ v ∧ v ≤ hi
      · rw [if_pos hr]
        exact .ok v hp hr.1 hr.2 (hi'.2 he)
      · rw [if_neg hr]
        by_cases h1 : v < lo
        · exact .low v hp h1
        · exact .high v hp (by omega) (by omega)
    · rw [if_neg he]
      by_cases h1 : v < lo
      · exact .low v hp h1
      by_cases h2 : hi < v
      · exact .high v hp (by omega) h2
      · exact .odd v hp (by omega) (by omega) (fun h => he (hi'.1 h))

/-- What follows the loop: the digits from k to m. -/
theorem numEnd_le {s : ByteArray} {k : Nat} (h : k ≤ s.size) : k ≤ numEnd s k ∧ numEnd s k ≤ s.size := by
  unfold numEnd
  split
  · rename_i hc
    have := chr_lt_size (s := s) (k := k) (by omega)
    have := runEnd_ge isD s (k + 1)
    exact ⟨by omega, runEnd_le (by omega)⟩
  · exact ⟨runEnd_ge _ _ _, runEnd_le h⟩

end Go.Proofs.YtfbccngbgkddlaaDoor
