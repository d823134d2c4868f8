/-
  The four laws of layer 1 (sat), walked: each returns true at every input, and turns nothing.
-/
import Derived.Test.YtcgihokpgfplkaaSatBase
namespace Go.Proofs.Ytcgihokpgfplkaa
open Go.ChangeShapes Go.WideShapes Go.ChangeAt Go.RowKit

theorem satAdds_walk (a b : Int) (w : World) (a0 : -9223372036854775808 ≤ a) (a1 : a ≤ 9223372036854775807)
    (b0 : -9223372036854775808 ≤ b) (b1 : b ≤ 9223372036854775807) :
    Calls Try.prog 3 #[.int .i64 a, .int .i64 b] w (Holds w) := by
  go_enter Try.func3, Try.ntmps3
  go_wp2_with (first
    | (go_at_call 7; refine (up_any _).mono ?_; rintro e w' ⟨rfl, rfl⟩)
    | (go_at_call 8; refine (satAdd a b _ a0 a1 b0 b1).mono ?_; rintro e w' ⟨rfl, rfl⟩)
    | (go_at_call 9; refine (refAdd a b _ a0 a1 b0 b1).mono ?_; rintro e w' ⟨rfl, rfl⟩))
  go_ret
  exact ⟨rfl, Below.refl _ _⟩

theorem satCounts_walk (a b : Int) (w : World) (a0 : 0 ≤ a) (a1 : a ≤ 18446744073709551615)
    (b0 : 0 ≤ b) (b1 : b ≤ 18446744073709551615) :
    Calls Try.prog 5 #[.int .u64 a, .int .u64 b] w (Holds w) := by
  go_enter Try.func5, Try.ntmps5
  go_wp2_with (first
    | (go_at_call 7; refine (up_any _).mono ?_; rintro e w' ⟨rfl, rfl⟩)
    | (go_at_call 12; refine (satCount a b _ a0 a1 b0 b1).mono ?_; rintro e w' ⟨rfl, rfl⟩)
    | (go_at_call 13; refine (refCount a b _ a0 a1 b0 b1).mono ?_; rintro e w' ⟨rfl, rfl⟩))
  go_ret
  exact ⟨rfl, Below.refl _ _⟩

def Gives (n : Int) (o : Bool) (w : World) (e : Ending) (w' : World) : Prop :=
  e = .returned (.tuple #[.int .i64 n, .bool o]) ∧ w = w'
theorem satAdd_at (a b : Int) (w : World) (a0 : -9223372036854775808 ≤ a) (a1 : a ≤ 9223372036854775807)
    (b0 : -9223372036854775808 ≤ b) (b1 : b ≤ 9223372036854775807) {n : Int} {o : Bool} (h : addS a b = n ∧ addO a b = o) :
    Calls Try.prog 8 #[.int .i64 a, .int .i64 b] w (Gives n o w) :=
  (satAdd a b w a0 a1 b0 b1).mono fun _ _ ⟨he, hw⟩ => ⟨by rw [he, h.1, h.2], hw⟩

theorem satBack_up (a b : Int) (w : World) (a0 : -9223372036854775808 ≤ a) (a1 : a ≤ 9223372036854775807)
    (b0 : -9223372036854775808 ≤ b) (b1 : b ≤ 9223372036854775807) (h0 : 0 < b) (h1 : 9223372036854775807 - b < a) :
    Calls Try.prog 6 #[.int .i64 a, .int .i64 b] w (Holds w) := by
  have ha : 0 < a := by omega
  have c1 := fun w => Lib.hid (satAdd_at a b w a0 a1 b0 b1 (add_up h0 h1))
  have c2 := fun w => Lib.hid (satAdd_at b a w b0 b1 a0 a1 (add_up ha (by omega)))
  go_enter Try.func6, Try.ntmps6
  go_wp2_with (first
    | (go_at_call 7; refine (up_any _).mono ?_; rintro e w' ⟨rfl, rfl⟩)
    | ((go_at_call 8; with_reducible refine (c1 _).out.mono ?_); rintro e w' ⟨rfl, rfl⟩)
    | ((go_at_call 8; with_reducible refine (c2 _).out.mono ?_); rintro e w' ⟨rfl, rfl⟩))
  go_ret
  exact ⟨rfl, Below.refl _ _⟩

theorem satBack_down (a b : Int) (w : World) (a0 : -9223372036854775808 ≤ a) (a1 : a ≤ 9223372036854775807)
    (b0 : -9223372036854775808 ≤ b) (b1 : b ≤ 9223372036854775807) (h0 : b < 0) (h1 : a < -9223372036854775808 - b) :
    Calls Try.prog 6 #[.int .i64 a, .int .i64 b] w (Holds w) := by
  have ha : a < 0 := by omega
  have c1 := fun w => Lib.hid (satAdd_at a b w a0 a1 b0 b1 (add_down h0 h1))
  have c2 := fun w => Lib.hid (satAdd_at b a w b0 b1 a0 a1 (add_down ha (by omega)))
  go_enter Try.func6, Try.ntmps6
  go_wp2_with (first
    | (go_at_call 7; refine (up_any _).mono ?_; rintro e w' ⟨rfl, rfl⟩)
    | ((go_at_call 8; with_reducible refine (c1 _).out.mono ?_); rintro e w' ⟨rfl, rfl⟩)
    | ((go_at_call 8; with_reducible refine (c2 _).out.mono ?_); rintro e w' ⟨rfl, rfl⟩))
  go_ret
  exact ⟨rfl, Below.refl _ _⟩

theorem satBack_in (a b : Int) (w : World) (a0 : -9223372036854775808 ≤ a) (a1 : a ≤ 9223372036854775807)
    (b0 : -9223372036854775808 ≤ b) (b1 : b ≤ 9223372036854775807)
    (h0 : ¬ (0 < b ∧ 9223372036854775807 - b < a)) (h1 : ¬ (b < 0 ∧ a < -9223372036854775808 - b)) :
    Calls Try.prog 6 #[.int .i64 a, .int .i64 b] w (Holds w) := by
  have s0 : -9223372036854775808 ≤ a + b := by omega
  have s1 : a + b ≤ 9223372036854775807 := by omega
  have c1 := fun w => Lib.hid (satAdd_at a b w a0 a1 b0 b1 (add_in h0 h1))
  have c2 := fun w => Lib.hid (satAdd_at b a w b0 b1 a0 a1 (n := a + b) (o := false) (by have := add_in (a := b) (b := a) (by omega) (by omega); rw [this.1, this.2]; exact ⟨by omega, rfl⟩))
  by_cases hb : b = -9223372036854775808
  · subst hb
    have ha : 0 ≤ a := by omega
    go_enter Try.func6, Try.ntmps6
    go_wp2_with (first
      | (go_at_call 7; refine (up_any _).mono ?_; rintro e w' ⟨rfl, rfl⟩)
      | ((go_at_call 8; with_reducible refine (c1 _).out.mono ?_); rintro e w' ⟨rfl, rfl⟩)
      | ((go_at_call 8; with_reducible refine (c2 _).out.mono ?_); rintro e w' ⟨rfl, rfl⟩))
    go_ret
    exact ⟨ret_bool (decide_eq_true (by omega : a + -9223372036854775808 + 9223372036854775808 = a)), Below.refl _ _⟩
  · have n0 : -9223372036854775807 ≤ b := by omega
    have hb' : (b == -9223372036854775808) = false := by simpa using hb
    clear hb
    have c3 := fun w => Lib.hid (satAdd_at (a + b) (-b) w s0 s1 (by omega) (by omega) (n := a) (o := false) (by have := add_in (a := a + b) (b := -b) (by omega) (by omega); rw [this.1, this.2]; exact ⟨by omega, rfl⟩))
    clear h0 h1
    go_enter Try.func6, Try.ntmps6
    go_wp2_with (first
      | (go_at_call 7; refine (up_any _).mono ?_; rintro e w' ⟨rfl, rfl⟩)
      | ((go_at_call 8; with_reducible refine (c1 _).out.mono ?_); rintro e w' ⟨rfl, rfl⟩)
      | ((go_at_call 8; with_reducible refine (c2 _).out.mono ?_); rintro e w' ⟨rfl, rfl⟩)
      | ((go_at_call 8; with_reducible refine (c3 _).out.mono ?_); rintro e w' ⟨rfl, rfl⟩))
    go_ret
    exact ⟨rfl, Below.refl _ _⟩

theorem satBack_walk (a b : Int) (w : World) (a0 : -9223372036854775808 ≤ a) (a1 : a ≤ 9223372036854775807)
    (b0 : -9223372036854775808 ≤ b) (b1 : b ≤ 9223372036854775807) :
    Calls Try.prog 6 #[.int .i64 a, .int .i64 b] w (Holds w) := by
  by_cases h0 : 0 < b ∧ 9223372036854775807 - b < a
  · exact satBack_up a b w a0 a1 b0 b1 h0.1 h0.2
  · by_cases h1 : b < 0 ∧ a < -9223372036854775808 - b
    · exact satBack_down a b w a0 a1 b0 b1 h1.1 h1.2
    · exact satBack_in a b w a0 a1 b0 b1 h0 h1
end Go.Proofs.Ytcgihokpgfplkaa
