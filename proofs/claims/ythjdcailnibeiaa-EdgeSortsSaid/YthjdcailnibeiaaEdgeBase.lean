/-
  What the calls of layer 2 (edge) on one or two float64, package math's small ones, and the document's own answers return, at every bits.
-/
import Derived.Test.YthjdcailnibeiaaFloat
import Derived.Laws.Externs
import Derived.Laws.BitsAllLaws
import Derived.BigQuiet
import Derived.Deep.Light
namespace Go.Proofs.Ythjdcailnibeiaa
open Go.ChangeShapes Go.WideShapes Go.ChangeAt Go.RowKit

theorem bits_run (b : Nat) (w : World) : (callFunc 28 #[.float .f64 b]).run Try.prog w = .ok (.value (.int .u64 b)) w := by
  rw [run_callFunc_extern (e := Extern.MathFloatBits.float64bits) Try.func28 (by kernel_rfl) (by kernel_rfl) (by kernel_rfl) (by kernel_rfl)]
  rfl
theorem frombits_run (n : Int) (w : World) : (callFunc 31 #[.int .u64 n]).run Try.prog w = .ok (.value (.float .f64 n.toNat)) w := by
  rw [run_callFunc_extern (e := Extern.MathFloatBits.float64frombits) Try.func31 (by kernel_rfl) (by kernel_rfl) (by kernel_rfl) (by kernel_rfl)]
  rfl

def Bools (x : Bool) (w : World) (e : Ending) (w' : World) : Prop := e = .returned (.bool x) ∧ w = w'
def U64s (n : Int) (w : World) (e : Ending) (w' : World) : Prop := e = .returned (.int .u64 n) ∧ w = w'

theorem isNaN_walk (b : Nat) (w : World) (hb : b < 18446744073709551616) :
    Calls Try.prog 17 #[.float .f64 b] w (Bools (isNan b) w) := by
  have h := neq_self hb
  go_enter Try.func17, Try.ntmps17
  go_wp2
  go_ret
  exact ⟨rfl, rfl⟩
theorem none_walk (b : Nat) (w : World) (hb : b < 18446744073709551616) :
    Calls Try.prog 24 #[.float .f64 b] w (Bools (isNan b) w) := by
  have h := neq_self hb
  go_enter Try.func24, Try.ntmps24
  go_wp2
  go_ret
  exact ⟨rfl, rfl⟩

theorem and_top {b : Nat} (hb : b < 18446744073709551616) : bits .and .u64 (b : Int) 9223372036854775808 = if 9223372036854775808 ≤ b then 9223372036854775808 else 0 := by
  have h := u64_and_nat b 9223372036854775808 hb (by decide)
  have e : ((9223372036854775808 : Nat) : Int) = 9223372036854775808 := rfl
  rw [e] at h
  rw [h]
  have e2 : (9223372036854775808 : Nat) = 2 ^ 63 := by decide
  by_cases hs : 9223372036854775808 ≤ b
  · rw [if_pos hs]
    have h63 : b.testBit 63 = true := by
      rw [Nat.testBit_eq_decide_div_mod_eq, ← e2]
      exact decide_eq_true (by omega)
    have h2 : b &&& 9223372036854775808 = 9223372036854775808 := by
      apply Nat.eq_of_testBit_eq
      intro i
      rw [Nat.testBit_and, e2, Nat.testBit_two_pow]
      by_cases hi : 63 = i
      · subst hi; simp [h63]
      · simp [hi]
    rw [h2]; rfl
  · rw [if_neg hs]
    have h63 : b.testBit 63 = false := by
      rw [Nat.testBit_eq_decide_div_mod_eq, ← e2]
      exact decide_eq_false (by omega)
    have h2 : b &&& 9223372036854775808 = 0 := by
      apply Nat.eq_of_testBit_eq
      intro i
      rw [Nat.testBit_and, e2, Nat.testBit_two_pow]
      by_cases hi : 63 = i
      · subst hi; simp [h63]
      · simp [hi]
    rw [h2]; rfl
theorem or_top {b : Nat} (hb : b < 9223372036854775808) : bits .or .u64 (b : Int) 9223372036854775808 = ((b + 9223372036854775808 : Nat) : Int) := by
  have h := u64_or_nat b 9223372036854775808 (by omega) (by decide)
  have e : ((9223372036854775808 : Nat) : Int) = 9223372036854775808 := rfl
  rw [e] at h
  rw [h]
  have h2 := Nat.two_pow_add_eq_or_of_lt (i := 63) (b := b) (by omega) 1
  have e2 : (2 : Nat) ^ 63 * 1 = 9223372036854775808 := by decide
  rw [e2] at h2
  rw [Nat.or_comm, ← h2]
  congr 1
  omega
theorem xor_all {b : Nat} (hb : b < 18446744073709551616) : bits .xor .u64 18446744073709551615 (b : Int) = ((18446744073709551615 - b : Nat) : Int) := by
  have h := bits_xor_u64_nat 18446744073709551615 b (by decide) hb
  have e : ((18446744073709551615 : Nat) : Int) = 18446744073709551615 := rfl
  rw [e] at h
  rw [h]
  congr 1
  apply Nat.eq_of_testBit_eq
  intro i
  have e1 : (18446744073709551615 : Nat) = 2 ^ 64 - 1 := by decide
  have e2 : 18446744073709551615 - b = 2 ^ 64 - (b + 1) := by omega
  rw [Nat.testBit_xor, e2, Nat.testBit_two_pow_sub_succ (by omega), e1, Nat.testBit_two_pow_sub_one]
  by_cases hi : i < 64
  · simp [hi]
  · have : b.testBit i = false := Nat.testBit_lt_two_pow (Nat.lt_of_lt_of_le (show b < 2 ^ 64 by omega) (Nat.pow_le_pow_right (by decide) (by omega)))
    simp [hi, this]

theorem place_walk (b : Nat) (w : World) (hb : b < 18446744073709551616) :
    Calls Try.prog 23 #[.float .f64 b] w (U64s (place b) w) := by
  have c := fun w => Lib.hid (isNaN_walk b w hb)
  have hbits := bits_run b
  cases hn : isNan b
  · rw [hn] at c
    have hp := Lib.hid (place_key hn)
    by_cases hs : 9223372036854775808 ≤ b
    · have ha : bits .and .u64 (b : Int) 9223372036854775808 = 9223372036854775808 := by rw [and_top hb, if_pos hs]
      have hx := Lib.hid (xor_all hb)
      have hs' := Lib.hid hs
      clear hs
      go_enter Try.func23, Try.ntmps23
      go_wp2_with ((go_at_call 17; refine (c _).out.mono ?_); rintro e w' ⟨rfl, rfl⟩)
      go_ret
      refine ⟨?_, rfl⟩
      rw [hp.out, if_pos hs'.out]
      exact congrArg (fun n => Ending.returned (.int .u64 n)) hx.out
    · have ha : bits .and .u64 (b : Int) 9223372036854775808 = 0 := by rw [and_top hb, if_neg hs]
      have hx := Lib.hid (or_top (b := b) (by omega))
      have hs' := Lib.hid hs
      clear hs
      go_enter Try.func23, Try.ntmps23
      go_wp2_with ((go_at_call 17; refine (c _).out.mono ?_); rintro e w' ⟨rfl, rfl⟩)
      go_ret
      refine ⟨?_, rfl⟩
      rw [hp.out, if_neg hs'.out]
      exact congrArg (fun n => Ending.returned (.int .u64 n)) hx.out
  · rw [hn] at c
    have hp := Lib.hid (place_nan hn)
    go_enter Try.func23, Try.ntmps23
    go_wp2_with ((go_at_call 17; refine (c _).out.mono ?_); rintro e w' ⟨rfl, rfl⟩)
    go_ret
    exact ⟨by rw [hp.out]; rfl, rfl⟩

/-- Does a stand ahead of b? -/
def ahead (a b : Nat) : Bool := decide (place a < place b)
def alike (a b : Nat) : Bool := decide (place a = place b)

theorem less_walk (a b : Nat) (w : World) (ha : a < 18446744073709551616) (hb : b < 18446744073709551616) :
    Calls Try.prog 8 #[.float .f64 a, .float .f64 b] w (Bools (ahead a b) w) := by
  have c1 := fun w => Lib.hid (place_walk a w ha)
  have c2 := fun w => Lib.hid (place_walk b w hb)
  unfold ahead
  go_enter Try.func8, Try.ntmps8
  go_wp2_with (first
    | ((go_at_call 23; with_reducible refine (c1 _).out.mono ?_); rintro e w' ⟨rfl, rfl⟩)
    | ((go_at_call 23; with_reducible refine (c2 _).out.mono ?_); rintro e w' ⟨rfl, rfl⟩))
  go_ret
  exact ⟨ret_bool (by simp), rfl⟩
theorem eq_dec (a b : Nat) : ((a : Int) == (b : Int)) = decide (a = b) := by
  rw [Bool.eq_iff_iff]; simp; omega
theorem alike_walk (a b : Nat) (w : World) (ha : a < 18446744073709551616) (hb : b < 18446744073709551616) :
    Calls Try.prog 10 #[.float .f64 a, .float .f64 b] w (Bools (alike a b) w) := by
  have c1 := fun w => Lib.hid (place_walk a w ha)
  have c2 := fun w => Lib.hid (place_walk b w hb)
  unfold alike
  go_enter Try.func10, Try.ntmps10
  go_wp2_with (first
    | ((go_at_call 23; with_reducible refine (c1 _).out.mono ?_); rintro e w' ⟨rfl, rfl⟩)
    | ((go_at_call 23; with_reducible refine (c2 _).out.mono ?_); rintro e w' ⟨rfl, rfl⟩))
  go_ret
  exact ⟨ret_bool (eq_dec _ _), rfl⟩

def I64s (n : Int) (w : World) (e : Ending) (w' : World) : Prop := e = .returned (.int .i64 n) ∧ w = w'
/-- How two stand to each other: -1, 0 or 1. -/
def cmpN (a b : Nat) : Int := if a < b then -1 else if b < a then 1 else 0
def cmpOf (a b : Nat) : Int := cmpN (place a) (place b)

theorem cmpU_walk (a b : Nat) (w : World) :
    Calls Try.prog 34 #[.int .u64 (a : Nat), .int .u64 (b : Nat)] w (I64s (cmpN a b) w) := by
  unfold cmpN
  by_cases h1 : a < b
  · have h1' : (a : Int) < b := by omega
    rw [if_pos h1]
    clear h1
    go_enter Try.func34, Try.ntmps34
    go_wp2
    go_ret
    exact ⟨rfl, rfl⟩
  · have h1' : ¬ (a : Int) < b := by omega
    rw [if_neg h1]
    by_cases h2 : b < a
    · have h2' : (b : Int) < a := by omega
      rw [if_pos h2]
      clear h1 h2
      go_enter Try.func34, Try.ntmps34
      go_wp2
      go_ret
      exact ⟨rfl, rfl⟩
    · have h2' : ¬ (b : Int) < a := by omega
      rw [if_neg h2]
      clear h1 h2
      go_enter Try.func34, Try.ntmps34
      go_wp2
      go_ret
      exact ⟨rfl, rfl⟩

theorem compare_walk (a b : Nat) (w : World) (ha : a < 18446744073709551616) (hb : b < 18446744073709551616) :
    Calls Try.prog 30 #[.float .f64 a, .float .f64 b] w (I64s (cmpOf a b) w) := by
  have c1 := fun w => Lib.hid (place_walk a w ha)
  have c2 := fun w => Lib.hid (place_walk b w hb)
  have c3 := fun w => Lib.hid (cmpU_walk (place a) (place b) w)
  go_enter Try.func30, Try.ntmps30
  go_wp2_with (first
    | ((go_at_call 23; with_reducible refine (c1 _).out.mono ?_); rintro e w' ⟨rfl, rfl⟩)
    | ((go_at_call 23; with_reducible refine (c2 _).out.mono ?_); rintro e w' ⟨rfl, rfl⟩)
    | ((go_at_call 34; with_reducible refine (c3 _).out.mono ?_); rintro e w' ⟨rfl, rfl⟩))
  go_ret
  exact ⟨rfl, rfl⟩

/-- Is it -0? -/
theorem minus_walk (b : Nat) (w : World) (hb : b < 18446744073709551616) :
    Calls Try.prog 25 #[.float .f64 b] w (Bools (decide (b = 9223372036854775808)) w) := by
  have h0 := eql_zero hb
  by_cases hz : rung b = 0
  · rw [decide_eq_true hz] at h0
    have : b = 0 ∨ b = 9223372036854775808 := by unfold rung at hz; omega
    rcases this with rfl | rfl
    · clear h0 hz
      have e1 : ∀ w, (binOp .quo 22 (.float .f64 4607182418800017408) (.float .f64 0)).run Try.prog w = .ok (.float .f64 9218868437227405312) w := fun _ => by kernel_rfl
      have e2 : (FloatKind.f64.format.order 9218868437227405312 0 == some .lt) = false := by kernel_rfl
      have e3 : (FloatKind.f64.format.order 0 0 == some .eq) = true := by kernel_rfl
      go_enter Try.func25, Try.ntmps25
      go_wp2
      go_ret
      exact ⟨rfl, rfl⟩
    · clear h0 hz
      have e1 : ∀ w, (binOp .quo 22 (.float .f64 4607182418800017408) (.float .f64 9223372036854775808)).run Try.prog w = .ok (.float .f64 18442240474082181120) w := fun _ => by kernel_rfl
      have e2 : (FloatKind.f64.format.order 18442240474082181120 0 == some .lt) = true := by kernel_rfl
      have e3 : (FloatKind.f64.format.order 9223372036854775808 0 == some .eq) = true := by kernel_rfl
      go_enter Try.func25, Try.ntmps25
      go_wp2
      go_ret
      exact ⟨rfl, rfl⟩
  · rw [decide_eq_false hz] at h0
    have hne := Lib.hid (show ¬ b = 9223372036854775808 by intro e; subst e; exact hz rfl)
    clear hz
    go_enter Try.func25, Try.ntmps25
    go_wp2
    go_ret
    exact ⟨ret_bool (by simp [hne.out]), rfl⟩

/-- The document's own order is the places' order. -/
theorem refLess_walk (a b : Nat) (w : World) (ha : a < 18446744073709551616) (hb : b < 18446744073709551616) :
    Calls Try.prog 9 #[.float .f64 a, .float .f64 b] w (Bools (ahead a b) w) := by
  have c1 := fun w => Lib.hid (none_walk a w ha)
  have c2 := fun w => Lib.hid (none_walk b w hb)
  have c3 := fun w => Lib.hid (minus_walk a w ha)
  have c4 := fun w => Lib.hid (minus_walk b w hb)
  cases na : isNan a
  · rw [na] at c1
    cases nb : isNan b
    · rw [nb] at c2
      have za := eql_zero ha
      have zb := eql_zero hb
      have hl := lss_num ha hb na nb
      by_cases hz : rung a = 0 ∧ rung b = 0
      · have P : Hid (ahead a b = (decide (a = 9223372036854775808) && !decide (b = 9223372036854775808))) := Lib.hid (by
          unfold ahead
          rw [Bool.eq_iff_iff]
          simp only [decide_eq_true_eq, Bool.and_eq_true, Bool.not_eq_true', decide_eq_false_iff_not]
          rw [place_zero ha hb na nb hz]
          obtain ⟨h1, h2⟩ := hz
          unfold rung at h1 h2
          unfold neg
          simp only [decide_eq_true_eq, decide_eq_false_iff_not]
          omega)
        rw [decide_eq_true hz.1] at za
        rw [decide_eq_true hz.2] at zb
        clear hz hl na nb
        rw [P.out]
        clear P
        cases h1 : decide (a = 9223372036854775808)
        all_goals
          rw [h1] at c3
          go_enter Try.func9, Try.ntmps9
          go_wp2_with (first
            | ((go_at_call 24; with_reducible refine (c1 _).out.mono ?_); rintro e w' ⟨rfl, rfl⟩)
            | ((go_at_call 24; with_reducible refine (c2 _).out.mono ?_); rintro e w' ⟨rfl, rfl⟩)
            | ((go_at_call 25; with_reducible refine (c3 _).out.mono ?_); rintro e w' ⟨rfl, rfl⟩)
            | ((go_at_call 25; with_reducible refine (c4 _).out.mono ?_); rintro e w' ⟨rfl, rfl⟩))
          go_ret
          first | exact ⟨rfl, rfl⟩ | exact ⟨ret_bool (by simp), rfl⟩
      · have P : Hid (ahead a b = decide (key a < key b)) := Lib.hid (by
          unfold ahead
          rw [Bool.eq_iff_iff]
          simp only [decide_eq_true_eq]
          exact place_lt ha hb na nb hz)
        rw [P.out]
        clear P
        by_cases h1 : rung a = 0
        · have h2 : ¬ rung b = 0 := fun h => hz ⟨h1, h⟩
          rw [decide_eq_true h1] at za
          rw [decide_eq_false h2] at zb
          clear hz h1 h2 na nb
          go_enter Try.func9, Try.ntmps9
          go_wp2_with (first
            | ((go_at_call 24; with_reducible refine (c1 _).out.mono ?_); rintro e w' ⟨rfl, rfl⟩)
            | ((go_at_call 24; with_reducible refine (c2 _).out.mono ?_); rintro e w' ⟨rfl, rfl⟩))
          go_ret
          exact ⟨rfl, rfl⟩
        · rw [decide_eq_false h1] at za
          clear hz h1 zb na nb
          go_enter Try.func9, Try.ntmps9
          go_wp2_with (first
            | ((go_at_call 24; with_reducible refine (c1 _).out.mono ?_); rintro e w' ⟨rfl, rfl⟩)
            | ((go_at_call 24; with_reducible refine (c2 _).out.mono ?_); rintro e w' ⟨rfl, rfl⟩))
          go_ret
          exact ⟨rfl, rfl⟩
    · rw [nb] at c2
      have P : Hid (ahead a b = true) := Lib.hid (by
        unfold ahead
        have := place_lt_nan ha na
        rw [place_nan nb]
        exact decide_eq_true this)
      rw [P.out]
      clear P na nb
      go_enter Try.func9, Try.ntmps9
      go_wp2_with (first
        | ((go_at_call 24; with_reducible refine (c1 _).out.mono ?_); rintro e w' ⟨rfl, rfl⟩)
        | ((go_at_call 24; with_reducible refine (c2 _).out.mono ?_); rintro e w' ⟨rfl, rfl⟩))
      go_ret
      exact ⟨rfl, rfl⟩
  · rw [na] at c1
    have P : Hid (ahead a b = false) := Lib.hid (by
      unfold ahead
      have := place_le hb
      rw [place_nan na]
      exact decide_eq_false (by omega))
    rw [P.out]
    clear P na
    go_enter Try.func9, Try.ntmps9
    go_wp2_with (((go_at_call 24; with_reducible refine (c1 _).out.mono ?_); rintro e w' ⟨rfl, rfl⟩))
    go_ret
    exact ⟨rfl, rfl⟩

theorem refAlike_walk (a b : Nat) (w : World) (ha : a < 18446744073709551616) (hb : b < 18446744073709551616) :
    Calls Try.prog 11 #[.float .f64 a, .float .f64 b] w (Bools (alike a b) w) := by
  have c1 := fun w => Lib.hid (refLess_walk a b w ha hb)
  have c2 := fun w => Lib.hid (refLess_walk b a w hb ha)
  have P : Hid (alike a b = (!ahead a b && !ahead b a)) := Lib.hid (by
    unfold alike ahead
    rw [Bool.eq_iff_iff]
    simp only [decide_eq_true_eq, Bool.and_eq_true, Bool.not_eq_true', decide_eq_false_iff_not]
    omega)
  rw [P.out]
  clear P
  cases h1 : ahead a b
  all_goals
    rw [h1] at c1
    go_enter Try.func11, Try.ntmps11
    go_wp2_with (first
      | ((go_at_call 9; with_reducible refine (c1 _).out.mono ?_); rintro e w' ⟨rfl, rfl⟩)
      | ((go_at_call 9; with_reducible refine (c2 _).out.mono ?_); rintro e w' ⟨rfl, rfl⟩))
    go_ret
    first | exact ⟨rfl, rfl⟩ | exact ⟨ret_bool (by simp), rfl⟩

theorem same_walk (a b : Nat) (w : World) (ha : a < 18446744073709551616) (hb : b < 18446744073709551616) :
    Calls Try.prog 15 #[.float .f64 a, .float .f64 b] w (Bools (alike a b) w) := by
  have c1 := fun w => Lib.hid (isNaN_walk a w ha)
  have c2 := fun w => Lib.hid (isNaN_walk b w hb)
  have hb1 := bits_run a
  have hb2 := bits_run b
  have P : Hid (alike a b = (isNan a && isNan b || ((a : Int) == (b : Int)))) := Lib.hid (by
    unfold alike
    rw [eq_dec, Bool.eq_iff_iff]
    simp only [decide_eq_true_eq, Bool.and_eq_true, Bool.or_eq_true]
    exact place_eq ha hb)
  rw [P.out]
  clear P
  cases h1 : isNan a
  all_goals
    rw [h1] at c1
    cases h2 : isNan b
    all_goals
      rw [h2] at c2
      go_enter Try.func15, Try.ntmps15
      go_wp2_with (first
        | ((go_at_call 17; with_reducible refine (c1 _).out.mono ?_); rintro e w' ⟨rfl, rfl⟩)
        | ((go_at_call 17; with_reducible refine (c2 _).out.mono ?_); rintro e w' ⟨rfl, rfl⟩))
      go_ret
      first | exact ⟨rfl, rfl⟩ | exact ⟨ret_bool (by simp), rfl⟩

theorem most1_walk (a b : Nat) (w : World) (ha : a < 18446744073709551616) (hb : b < 18446744073709551616) :
    Calls Try.prog 27 #[.float .f64 a, .float .f64 b] w (Bools (ahead b a) w) := by
  have c1 := fun w => Lib.hid (less_walk b a w hb ha)
  go_enter Try.func27, Try.ntmps27
  go_wp2_with ((go_at_call 8; with_reducible refine (c1 _).out.mono ?_); rintro e w' ⟨rfl, rfl⟩)
  go_ret
  exact ⟨rfl, rfl⟩
end Go.Proofs.Ythjdcailnibeiaa
