/-
  Layer 21: the law SpillPlays where it lets go at once; which deed it is; a code's number.
-/
import Derived.Test.YtgnkkcnmepafpaaGreatDoorQSpillLay
import Derived.Test.YtgnkkcnmepafpaaGreatDoorGrpL
namespace Go.Proofs.YtgnkkcnmepafpaaGreatDoor
open Go.ChangeShapes Go.WideShapes Go.ChangeAt Go.RowKit
set_option linter.unusedVariables false

set_option maxRecDepth 100000 in
theorem plays_nil (size many room : Int) (N LL ca cb : Nat) (A B : Option Addr) (W : World) (hL : Laid W) (h : size < 1 ∨ 65536 < size) :
    Calls Tryz.prog 3 #[.int .i64 size, .int .i64 many, .int .i64 room, .slice A N ca, .slice B LL cb] W (Holds W) := by
  have CU := Lib.hid (up_spill W hL)
  have CN := fun w => new_bad w size h
  unfold errV at CN
  have CN := Lib.hid CN
  clear hL h
  go_enter Tryz.func3, Tryz.ntmps3
  go_wp2_with fail
  refine CU.out.mono ?_
  rintro e w1 ⟨rfl, b1⟩
  have B1 := Lib.hid b1
  clear b1
  go_wp2_with fail
  refine (CN.out _).mono ?_
  rintro e w2 ⟨rfl, rfl⟩
  clear CN
  go_wp2_with fail
  go_ret
  exact ⟨rfl, B1.out⟩
set_option maxHeartbeats 2000000 in
set_option maxRecDepth 100000 in
theorem plays_far (rm : Nat) (many room : Int) (N LL ca cb : Nat) (A B : Option Addr) (W : World) (hL : Laid W) (h0 : 1 ≤ rm) (h1 : rm ≤ 65536)
    (h : 20000 < (rm : Int) ∨ (¬ 20000 < (rm : Int) ∧ 2000 < (N : Int)) ∨ (¬ 20000 < (rm : Int) ∧ ¬ 2000 < (N : Int) ∧ 30 < (LL : Int)) ∨ (¬ 20000 < (rm : Int) ∧ ¬ 2000 < (N : Int) ∧ ¬ 30 < (LL : Int) ∧ room < 1) ∨ (¬ 20000 < (rm : Int) ∧ ¬ 2000 < (N : Int) ∧ ¬ 30 < (LL : Int) ∧ ¬ room < 1 ∧ 1000 < room) ∨ (¬ 20000 < (rm : Int) ∧ ¬ 2000 < (N : Int) ∧ ¬ 30 < (LL : Int) ∧ ¬ room < 1 ∧ ¬ 1000 < room ∧ many < 1) ∨ (¬ 20000 < (rm : Int) ∧ ¬ 2000 < (N : Int) ∧ ¬ 30 < (LL : Int) ∧ ¬ room < 1 ∧ ¬ 1000 < room ∧ ¬ many < 1 ∧ 100 < many)) :
    Calls Tryz.prog 3 #[.int .i64 (rm : Nat), .int .i64 many, .int .i64 room, .slice A N ca, .slice B LL cb] W (Holds W) := by
  have CU := Lib.hid (up_spill W hL)
  clear hL
  rcases h with h | ⟨h, h2⟩ | ⟨h, h2, h3⟩ | ⟨h, h2, h3, h4⟩ | ⟨h, h2, h3, h4, h5⟩ | ⟨h, h2, h3, h4, h5, h6⟩ | ⟨h, h2, h3, h4, h5, h6, h7⟩
  all_goals
    go_enter Tryz.func3, Tryz.ntmps3
    go_wp2_with fail
    refine CU.out.mono ?_
    rintro e w1 ⟨rfl, b1⟩
    have C1 := Lib.hid (new_good w1 rm h0 h1)
    have B1 := Lib.hid b1
    clear b1
    go_wp2_with fail
    refine C1.out.mono ?_
    rintro e w2 ⟨ad, F, rfl, _, b2, _⟩
    have B2 := Lib.hid (B1.out.trans (b2.mono B1.out.size))
    clear C1 b2
    go_wp2_with fail
    go_ret
    exact ⟨rfl, B2.out⟩
/-- Which deed it is. -/
def pickS (c : Int) : Nat := (if c < 0 then (-(c + 1)) % 4 else c % 4).toNat
theorem pickS_lt (c : Int) : pickS c < 4 := by
  unfold pickS
  split <;> omega
theorem ret_S {a b : Int} (h : a = b) : Ending.returned (.int .i64 a) = .returned (.int .i64 b) := by rw [h]
theorem pickS_walk (w : World) (c : Int) (h0 : -9223372036854775808 ≤ c) (h1 : c ≤ 9223372036854775807) :
    Calls Tryz.prog 12 #[.int .i64 c, .int .i64 4] w fun e w' => e = .returned (.int .i64 (pickS c : Nat)) ∧ w' = w := by
  by_cases hc : c < 0
  · have e : ((pickS c : Nat) : Int) = (-(c + 1)) % 4 := by unfold pickS; rw [if_pos hc]; omega
    rw [e]
    go_enter Tryz.func12, Tryz.ntmps12
    go_wp2_with fail
    go_ret
    exact ⟨ret_S (by have t := Int.tmod_eq_emod_of_nonneg (a := -(c + 1)) (b := 4) (by omega); rw [Int.neg_tmod] at t; omega), rfl⟩
  · have e : ((pickS c : Nat) : Int) = c % 4 := by unfold pickS; rw [if_neg hc]; omega
    rw [e]
    go_enter Tryz.func12, Tryz.ntmps12
    go_wp2_with fail
    go_ret
    exact ⟨ret_S (by omega), rfl⟩
theorem codeS_walk (w : World) (c : Nat) (hc : c ≤ 10) :
    Calls Tryz.prog 13 #[ErrV c] w fun e w' => e = .returned (.int .i64 (c : Nat)) ∧ w' = w := by
  by_cases h0 : c = 0
  · subst h0
    rw [ErrV_0]
    go_enter Tryz.func13, Tryz.ntmps13
    go_wp2_with fail
    go_ret
    exact ⟨rfl, rfl⟩
  · rw [ErrV_code c h0]
    have eqc := eql_codes
    go_enter Tryz.func13, Tryz.ntmps13
    go_wp2_with fail
    go_loop [3] (fun s => ∃ k : Nat, 1 ≤ k ∧ k ≤ c ∧ s = .int .i64 k) (fun s => c - (intOf s).toNat)
    case atStart => exact ⟨1, by omega, by omega, rfl⟩
    case round =>
      obtain ⟨k, hk1, hk, rfl⟩ := hrel
      have x1 : decide ((k : Int) ≤ 10) = true := decide_eq_true (by omega)
      by_cases e : k = c
      · subst e
        have x2 : ((k : Int) == (k : Int)) = true := by simp
        go_wp2_with fail
        go_ret
        exact ⟨rfl, rfl⟩
      · have x2 : ((c : Int) == (k : Int)) = false := beq_eq_false_iff_ne.2 (by omega)
        go_wp2_with fail
        go_round
        case rel => exact ⟨k + 1, by omega, by omega, by go_num⟩
        case measure => simp [intOf]; omega
end Go.Proofs.YtgnkkcnmepafpaaGreatDoor
