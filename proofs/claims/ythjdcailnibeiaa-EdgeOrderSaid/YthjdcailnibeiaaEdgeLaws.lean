/-
  Layer 2's laws on two and on three float64, walked: each is true at every bits, and turns nothing that was there.
-/
import Derived.Test.YthjdcailnibeiaaEdgeUp
namespace Go.Proofs.Ythjdcailnibeiaa
open Go.ChangeShapes Go.WideShapes Go.ChangeAt Go.RowKit
set_option linter.unusedVariables false

theorem edgeOrders_walk (a b : Nat) (w : World) (ha : a < 18446744073709551616) (hb : b < 18446744073709551616) :
    Calls Try.prog 3 #[.float .f64 a, .float .f64 b] w (Holds w) := by
  have c1 := fun w => Lib.hid (less_walk a b w ha hb)
  have c2 := fun w => Lib.hid (refLess_walk a b w ha hb)
  have c3 := fun w => Lib.hid (alike_walk a b w ha hb)
  have c4 := fun w => Lib.hid (refAlike_walk a b w ha hb)
  clear ha hb
  generalize ahead a b = x at c1 c2
  generalize alike a b = y at c3 c4
  cases x <;> cases y
  all_goals
    go_enter Try.func3, Try.ntmps3
    go_wp2_with (first
      | ((go_at_call 7; refine (up_any _).mono ?_); rintro e w' ⟨rfl, hB⟩)
      | ((go_at_call 8; with_reducible refine (c1 _).out.mono ?_); rintro e w' ⟨rfl, rfl⟩)
      | ((go_at_call 9; with_reducible refine (c2 _).out.mono ?_); rintro e w' ⟨rfl, rfl⟩)
      | ((go_at_call 10; with_reducible refine (c3 _).out.mono ?_); rintro e w' ⟨rfl, rfl⟩)
      | ((go_at_call 11; with_reducible refine (c4 _).out.mono ?_); rintro e w' ⟨rfl, rfl⟩))
    go_ret
    exact ⟨rfl, hB⟩

theorem edgeOrder_leaf (a b c : Nat) (w : World) (L1 L2 A1 L3 L4 N : Bool)
    (k1 : ∀ w, Hid (Calls Try.prog 8 #[.float .f64 a, .float .f64 b] w (Bools L1 w)))
    (k2 : ∀ w, Hid (Calls Try.prog 8 #[.float .f64 b, .float .f64 a] w (Bools L2 w)))
    (k3 : ∀ w, Hid (Calls Try.prog 8 #[.float .f64 b, .float .f64 c] w (Bools L3 w)))
    (k4 : ∀ w, Hid (Calls Try.prog 8 #[.float .f64 a, .float .f64 c] w (Bools L4 w)))
    (k5 : ∀ w, Hid (Calls Try.prog 8 #[.float .f64 a, .float .f64 a] w (Bools false w)))
    (k6 : ∀ w, Hid (Calls Try.prog 8 #[.float .f64 a, .float .f64 9221120237041090561] w (Bools (!N) w)))
    (k7 : ∀ w, Hid (Calls Try.prog 10 #[.float .f64 a, .float .f64 b] w (Bools A1 w)))
    (k8 : ∀ w, Hid (Calls Try.prog 15 #[.float .f64 a, .float .f64 b] w (Bools A1 w)))
    (k9 : ∀ w, Hid (Calls Try.prog 17 #[.float .f64 a] w (Bools N w)))
    (hone : (L1, L2, A1) = (true, false, false) ∨ (L1, L2, A1) = (false, true, false) ∨ (L1, L2, A1) = (false, false, true))
    (htr : L1 = true → L3 = true → L4 = true) :
    Calls Try.prog 6 #[.float .f64 a, .float .f64 b, .float .f64 c] w (Holds w) := by
  rcases hone with h | h | h <;> (simp only [Prod.mk.injEq] at h; obtain ⟨rfl, rfl, rfl⟩ := h)
  · cases L3
    all_goals
      first | obtain rfl := htr rfl rfl | skip
      clear htr
      cases N
      all_goals
        simp only [Bool.not_true, Bool.not_false] at k6
        go_enter Try.func6, Try.ntmps6
        go_wp2_with (first
          | ((go_at_call 7; refine (up_any _).mono ?_); rintro e w' ⟨rfl, hB⟩)
          | ((go_at_call 18; with_reducible refine (nan_walk _).mono ?_); rintro e w' ⟨rfl, rfl⟩)
          | ((go_at_call 8; with_reducible refine (k1 _).out.mono ?_); rintro e w' ⟨rfl, rfl⟩)
          | ((go_at_call 8; with_reducible refine (k2 _).out.mono ?_); rintro e w' ⟨rfl, rfl⟩)
          | ((go_at_call 8; with_reducible refine (k3 _).out.mono ?_); rintro e w' ⟨rfl, rfl⟩)
          | ((go_at_call 8; with_reducible refine (k4 _).out.mono ?_); rintro e w' ⟨rfl, rfl⟩)
          | ((go_at_call 8; with_reducible refine (k5 _).out.mono ?_); rintro e w' ⟨rfl, rfl⟩)
          | ((go_at_call 8; with_reducible refine (k6 _).out.mono ?_); rintro e w' ⟨rfl, rfl⟩)
          | ((go_at_call 10; with_reducible refine (k7 _).out.mono ?_); rintro e w' ⟨rfl, rfl⟩)
          | ((go_at_call 15; with_reducible refine (k8 _).out.mono ?_); rintro e w' ⟨rfl, rfl⟩)
          | ((go_at_call 17; with_reducible refine (k9 _).out.mono ?_); rintro e w' ⟨rfl, rfl⟩))
        go_ret
        exact ⟨rfl, hB⟩
  all_goals
    clear htr
    cases N
    all_goals
      simp only [Bool.not_true, Bool.not_false] at k6
      go_enter Try.func6, Try.ntmps6
      go_wp2_with (first
        | ((go_at_call 7; refine (up_any _).mono ?_); rintro e w' ⟨rfl, hB⟩)
        | ((go_at_call 18; with_reducible refine (nan_walk _).mono ?_); rintro e w' ⟨rfl, rfl⟩)
        | ((go_at_call 8; with_reducible refine (k1 _).out.mono ?_); rintro e w' ⟨rfl, rfl⟩)
        | ((go_at_call 8; with_reducible refine (k2 _).out.mono ?_); rintro e w' ⟨rfl, rfl⟩)
        | ((go_at_call 8; with_reducible refine (k5 _).out.mono ?_); rintro e w' ⟨rfl, rfl⟩)
        | ((go_at_call 8; with_reducible refine (k6 _).out.mono ?_); rintro e w' ⟨rfl, rfl⟩)
        | ((go_at_call 10; with_reducible refine (k7 _).out.mono ?_); rintro e w' ⟨rfl, rfl⟩)
        | ((go_at_call 15; with_reducible refine (k8 _).out.mono ?_); rintro e w' ⟨rfl, rfl⟩)
        | ((go_at_call 17; with_reducible refine (k9 _).out.mono ?_); rintro e w' ⟨rfl, rfl⟩))
      go_ret
      exact ⟨rfl, hB⟩

theorem ahead_self (a : Nat) : ahead a a = false := by unfold ahead; simp
theorem ahead_nan {a : Nat} (ha : a < 18446744073709551616) : ahead a 9221120237041090561 = !isNan a := by
  have e : place 9221120237041090561 = 18446744073709551615 := by decide +kernel
  unfold ahead
  rw [e]
  cases h : isNan a
  · exact decide_eq_true (place_lt_nan ha h)
  · rw [place_nan h]; rfl

theorem edgeOrder_walk (a b c : Nat) (w : World) (ha : a < 18446744073709551616) (hb : b < 18446744073709551616) (hc : c < 18446744073709551616) :
    Calls Try.prog 6 #[.float .f64 a, .float .f64 b, .float .f64 c] w (Holds w) := by
  refine edgeOrder_leaf a b c w (ahead a b) (ahead b a) (alike a b) (ahead b c) (ahead a c) (isNan a)
    (fun w => less_walk a b w ha hb) (fun w => less_walk b a w hb ha) (fun w => less_walk b c w hb hc) (fun w => less_walk a c w ha hc)
    (fun w => by have := less_walk a a w ha ha; rw [ahead_self] at this; exact this)
    (fun w => by have := less_walk a 9221120237041090561 w ha (by decide); rw [ahead_nan ha] at this; exact this)
    (fun w => alike_walk a b w ha hb) (fun w => same_walk a b w ha hb) (fun w => isNaN_walk a w ha) ?_ ?_
  · unfold ahead alike
    rcases Nat.lt_trichotomy (place a) (place b) with h | h | h
    · refine Or.inl ?_
      rw [decide_eq_true h, decide_eq_false (by omega), decide_eq_false (by omega)]
    · refine Or.inr (Or.inr ?_)
      rw [decide_eq_true h, decide_eq_false (by omega), decide_eq_false (by omega)]
    · refine Or.inr (Or.inl ?_)
      rw [decide_eq_true h, decide_eq_false (by omega), decide_eq_false (by omega)]
  · unfold ahead
    simp only [decide_eq_true_eq]
    omega
end Go.Proofs.Ythjdcailnibeiaa
