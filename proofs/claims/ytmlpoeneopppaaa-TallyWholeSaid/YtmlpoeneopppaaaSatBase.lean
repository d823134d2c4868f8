/-
  What the calls of layer 1 (sat) and the document's own answers return, at every two whole numbers that fit their kind.
-/
import Derived.Test.YtmlpoeneopppaaaKit
namespace Go.Proofs.Ytmlpoeneopppaaa
open Go.ChangeShapes Go.WideShapes Go.ChangeAt Go.RowKit

/-- The sum of two, or the nearer end. -/
def addS (a b : Int) : Int :=
  if 0 < b ∧ 9223372036854775807 - b < a then 9223372036854775807
  else if b < 0 ∧ a < -9223372036854775808 - b then -9223372036854775808 else a + b
/-- Whether that sum lies beyond. -/
def addO (a b : Int) : Bool :=
  if 0 < b ∧ 9223372036854775807 - b < a then true
  else if b < 0 ∧ a < -9223372036854775808 - b then true else false

theorem add_up {a b : Int} (h0 : 0 < b) (h : 9223372036854775807 - b < a) :
    addS a b = 9223372036854775807 ∧ addO a b = true := by
  unfold addS addO; rw [if_pos ⟨h0, h⟩, if_pos ⟨h0, h⟩]; exact ⟨rfl, rfl⟩
theorem add_down {a b : Int} (h0 : b < 0) (h : a < -9223372036854775808 - b) :
    addS a b = -9223372036854775808 ∧ addO a b = true := by
  have h1 : ¬ (0 < b ∧ 9223372036854775807 - b < a) := by omega
  unfold addS addO
  rw [if_neg h1, if_neg h1, if_pos ⟨h0, h⟩, if_pos ⟨h0, h⟩]; exact ⟨rfl, rfl⟩
theorem add_in {a b : Int} (h0 : ¬ (0 < b ∧ 9223372036854775807 - b < a))
    (h1 : ¬ (b < 0 ∧ a < -9223372036854775808 - b)) : addS a b = a + b ∧ addO a b = false := by
  unfold addS addO
  rw [if_neg h0, if_neg h0, if_neg h1, if_neg h1]; exact ⟨rfl, rfl⟩

theorem ret_pair {k : IntKind} {a b : Int} {x y : Bool} (h : a = b) (g : x = y) :
    Ending.returned (.tuple #[.int k a, .bool x]) = .returned (.tuple #[.int k b, .bool y]) := by rw [h, g]

def Adds (a b : Int) (w : World) (e : Ending) (w' : World) : Prop :=
  e = .returned (.tuple #[.int .i64 (addS a b), .bool (addO a b)]) ∧ w = w'

theorem satAdd (a b : Int) (w : World) (a0 : -9223372036854775808 ≤ a) (a1 : a ≤ 9223372036854775807)
    (b0 : -9223372036854775808 ≤ b) (b1 : b ≤ 9223372036854775807) :
    Calls Try.prog 17 #[.int .i64 a, .int .i64 b] w (Adds a b w) := by
  by_cases p : 0 < b
  · by_cases q : 9223372036854775807 - b < a
    · go_enter Try.func17, Try.ntmps17
      go_wp2
      go_ret2
      exact ⟨ret_pair (add_up p q).1.symm (add_up p q).2.symm, rfl⟩
    · have h := add_in (a := a) (b := b) (by omega) (by omega)
      have H := Lib.hid h; clear h
      go_enter Try.func17, Try.ntmps17
      go_wp2
      go_ret2
      exact ⟨ret_pair H.out.1.symm H.out.2.symm, rfl⟩
  · by_cases p' : b < 0
    · by_cases q : a < -9223372036854775808 - b
      · go_enter Try.func17, Try.ntmps17
        go_wp2
        go_ret2
        exact ⟨ret_pair (add_down p' q).1.symm (add_down p' q).2.symm, rfl⟩
      · have h := add_in (a := a) (b := b) (by omega) (by omega)
        have H := Lib.hid h; clear h
        go_enter Try.func17, Try.ntmps17
        go_wp2
        go_ret2
        exact ⟨ret_pair H.out.1.symm H.out.2.symm, rfl⟩
    · have h := add_in (a := a) (b := b) (by omega) (by omega)
      have H := Lib.hid h; clear h
      go_enter Try.func17, Try.ntmps17
      go_wp2
      go_ret2
      exact ⟨ret_pair H.out.1.symm H.out.2.symm, rfl⟩
theorem refAdd (a b : Int) (w : World) (a0 : -9223372036854775808 ≤ a) (a1 : a ≤ 9223372036854775807)
    (b0 : -9223372036854775808 ≤ b) (b1 : b ≤ 9223372036854775807) :
    Calls Try.prog 19 #[.int .i64 a, .int .i64 b] w (Adds a b w) := by
  by_cases p : 0 < b
  · by_cases q : 9223372036854775807 - b < a
    · go_enter Try.func19, Try.ntmps19
      go_wp2
      go_ret2
      exact ⟨ret_pair (add_up p q).1.symm (add_up p q).2.symm, rfl⟩
    · have h := add_in (a := a) (b := b) (by omega) (by omega)
      have H := Lib.hid h; clear h
      go_enter Try.func19, Try.ntmps19
      go_wp2
      go_ret2
      exact ⟨ret_pair H.out.1.symm H.out.2.symm, rfl⟩
  · by_cases p' : b < 0
    · by_cases q : a < -9223372036854775808 - b
      · go_enter Try.func19, Try.ntmps19
        go_wp2
        go_ret2
        exact ⟨ret_pair (add_down p' q).1.symm (add_down p' q).2.symm, rfl⟩
      · have h := add_in (a := a) (b := b) (by omega) (by omega)
        have H := Lib.hid h; clear h
        go_enter Try.func19, Try.ntmps19
        go_wp2
        go_ret2
        exact ⟨ret_pair H.out.1.symm H.out.2.symm, rfl⟩
    · have h := add_in (a := a) (b := b) (by omega) (by omega)
      have H := Lib.hid h; clear h
      go_enter Try.func19, Try.ntmps19
      go_wp2
      go_ret2
      exact ⟨ret_pair H.out.1.symm H.out.2.symm, rfl⟩

theorem addS_bd (a b : Int) (a0 : -9223372036854775808 ≤ a) (a1 : a ≤ 9223372036854775807)
    (b0 : -9223372036854775808 ≤ b) (b1 : b ≤ 9223372036854775807) :
    -9223372036854775808 ≤ addS a b ∧ addS a b ≤ 9223372036854775807 := by
  unfold addS
  split
  · omega
  · split <;> omega

/-- The sum of two counts, or the top. -/
def cntS (a b : Int) : Int := if 18446744073709551615 - b < a then 18446744073709551615 else a + b
def cntO (a b : Int) : Bool := decide (18446744073709551615 - b < a)
def Cnts (a b : Int) (w : World) (e : Ending) (w' : World) : Prop :=
  e = .returned (.tuple #[.int .u64 (cntS a b), .bool (cntO a b)]) ∧ w = w'

theorem cnt_up {a b : Int} (h : 18446744073709551615 - b < a) : cntS a b = 18446744073709551615 ∧ cntO a b = true := by
  unfold cntS cntO; rw [if_pos h]; exact ⟨rfl, by simpa using h⟩
theorem cnt_in {a b : Int} (h : ¬ 18446744073709551615 - b < a) : cntS a b = a + b ∧ cntO a b = false := by
  unfold cntS cntO; rw [if_neg h]; exact ⟨rfl, by simpa using h⟩

theorem satCount (a b : Int) (w : World) (a0 : 0 ≤ a) (a1 : a ≤ 18446744073709551615)
    (b0 : 0 ≤ b) (b1 : b ≤ 18446744073709551615) :
    Calls Try.prog 22 #[.int .u64 a, .int .u64 b] w (Cnts a b w) := by
  by_cases p : 18446744073709551615 - b < a
  · have h := Lib.hid (cnt_up p)
    go_enter Try.func22, Try.ntmps22
    go_wp2
    go_ret2
    exact ⟨ret_pair h.out.1.symm h.out.2.symm, rfl⟩
  · have h := Lib.hid (cnt_in p)
    go_enter Try.func22, Try.ntmps22
    go_wp2
    go_ret2
    exact ⟨ret_pair h.out.1.symm h.out.2.symm, rfl⟩

theorem refCount (a b : Int) (w : World) (a0 : 0 ≤ a) (a1 : a ≤ 18446744073709551615)
    (b0 : 0 ≤ b) (b1 : b ≤ 18446744073709551615) :
    Calls Try.prog 18 #[.int .u64 a, .int .u64 b] w (Cnts a b w) := by
  by_cases p : 18446744073709551615 - b < a
  · have h := Lib.hid (cnt_up p)
    have p' : 18446744073709551615 - a < b := by omega
    go_enter Try.func18, Try.ntmps18
    go_wp2
    go_ret2
    exact ⟨ret_pair h.out.1.symm h.out.2.symm, rfl⟩
  · have h := Lib.hid (cnt_in p)
    have p' : ¬ 18446744073709551615 - a < b := by omega
    go_enter Try.func18, Try.ntmps18
    go_wp2
    go_ret2
    exact ⟨ret_pair h.out.1.symm h.out.2.symm, rfl⟩

def Ups (w : World) (e : Ending) (w' : World) : Prop := e = .returned (.bool true) ∧ w = w'
end Go.Proofs.Ytmlpoeneopppaaa
