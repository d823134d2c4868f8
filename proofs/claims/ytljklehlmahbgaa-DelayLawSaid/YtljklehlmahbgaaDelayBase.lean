/-
  Layer 11 (delay): what may be, a root, a pause.
-/
import Derived.Test.YtljklehlmahbgaaDelayPure
import Derived.LoopTactic
import Derived.Deep.LoopGhost
import Derived.IntWalk
namespace Go.Proofs.Ytljklehlmahbgaa
open Go.ChangeShapes Go.WideShapes Go.ChangeAt Go.RowKit
set_option linter.unusedVariables false

theorem may_walk (w : World) (n : Int) : Calls Try.prog 10 #[.int .i64 n] w fun e w' => e = .returned (.bool (decide (mayB n))) ∧ w = w' := by
  by_cases h1 : 1 ≤ n
  · go_enter Try.func10, Try.ntmps10
    go_wp2
    go_ret
    exact ⟨ret_bool (by unfold mayB; simp [h1]), rfl⟩
  · go_enter Try.func10, Try.ntmps10
    go_wp2
    go_ret
    exact ⟨ret_bool (decide_eq_false (by unfold mayB; omega)).symm, rfl⟩
theorem ret_u64 {a b : Int} (h : a = b) : Ending.returned (.int .u64 a) = .returned (.int .u64 b) := by rw [h]
theorem root_walk (w : World) (n : Nat) (hn : n < 18446744073709551616) :
    Calls Try.prog 5 #[.int .u64 (n : Nat)] w fun e w' => e = .returned (.int .u64 (rootN n : Nat)) ∧ w = w' := by
  have R0 := Lib.hid (Rt.start hn)
  go_enter Try.func5, Try.ntmps5
  go_wp2
  go_loopg [3, 4] 32 (fun g s3 s4 wx => ∃ (r b : Nat), s3 = .int .u64 (r : Nat) ∧ s4 = .int .u64 (b : Nat) ∧ Hid (Rt n g r ∧ b = 2 ^ g / 2) ∧ Hid (w = wx))
  case atStart => exact ⟨0, 2147483648, rfl, rfl, Lib.hid ⟨R0.out, by decide⟩, Lib.hid rfl⟩
  case round =>
    obtain ⟨r, b, rfl, rfl, HR, HW⟩ := hrel
    obtain rfl := HW.out
    clear R0
    cases gk with
    | zero =>
      obtain rfl : b = 0 := HR.out.2
      have e := Lib.hid (root_eq HR.out.1.end_)
      go_wp2
      go_ret
      exact ⟨ret_u64 (by rw [e.out]), rfl⟩
    | succ k =>
      have hb : b = 2 ^ k := by rw [HR.out.2, Nat.pow_succ]; omega
      obtain ⟨q1, q2, q3⟩ := HR.out.1.bound
      have hor := HR.out.1.or
      rw [← hb] at q1 q2 q3 hor
      have OR : bits .or .u64 (r : Int) (b : Int) = ((r + b : Nat) : Int) := by rw [u64_or_nat _ _ (by omega) (by omega), hor]
      have HB := Lib.hid hb
      obtain ⟨m, hm⟩ : ∃ m, r + b = m := ⟨_, rfl⟩
      rw [hm] at OR q1
      have sq := sq_mono q1
      obtain ⟨s, hs⟩ : ∃ s, m * m = s := ⟨_, rfl⟩
      have MUL : (m : Int) * (m : Int) = (s : Int) := by rw [← Int.natCast_mul, hs]
      have HM := Lib.hid hm
      have HS := Lib.hid hs
      have s1 : s < 18446744073709551616 := by rw [← hs]; omega
      clear hb hm hs sq hor
      have y0 : 0 < b := q3
      by_cases hle : s ≤ n
      · go_wp2
        go_roundg k
        case rel =>
          refine ⟨m, b / 2, rfl, by go_num, Lib.hid ⟨?_, by rw [HB.out]⟩, Lib.hid rfl⟩
          have h := HR.out.1
          have e1 := HM.out
          have e2 := HS.out
          rw [← e1, HB.out] at e2 ⊢
          exact h.yes (by omega)
        case measure => omega
      · go_wp2
        go_roundg k
        case rel =>
          refine ⟨r, b / 2, rfl, by go_num, Lib.hid ⟨?_, by rw [HB.out]⟩, Lib.hid rfl⟩
          have h := HR.out.1
          have e1 := HM.out
          have e2 := HS.out
          rw [← e1, HB.out] at e2
          exact h.no (by omega)
        case measure => omega
theorem pause_walk (w : World) (I c : Int) (i0 : -9223372036854775808 ≤ I) (i1 : I ≤ 9223372036854775807) (c0 : -9223372036854775808 ≤ c) (c1 : c ≤ 9223372036854775807) :
    Calls Try.prog 6 #[.int .i64 I, .int .i64 c] w fun e w' => e = .returned (.int .i64 (pauseZ I c)) ∧ w = w' := by
  have CM := Lib.hid (fun x => may_walk w x)
  by_cases hI : mayB I
  · by_cases hc : mayB c
    · obtain ⟨n, rfl⟩ : ∃ n : Nat, I = (n : Int) := ⟨I.toNat, by have := hI.1; omega⟩
      obtain ⟨m, rfl⟩ : ∃ m : Nat, c = (m : Int) := ⟨c.toNat, by have := hc.1; omega⟩
      have eI : decide (mayB (n : Int)) = true := decide_eq_true hI
      have ec : decide (mayB (m : Int)) = true := decide_eq_true hc
      obtain ⟨n1, n2⟩ := hI
      obtain ⟨m1, m2⟩ := hc
      have CR := Lib.hid (root_walk w (1048576 * m) (by omega))
      have e0 : pauseZ (n : Int) (m : Int) = (((n * 1024) / rootN (1048576 * m) : Nat) : Int) := pauseZ_in ⟨n1, n2⟩ ⟨m1, m2⟩
      rw [e0]
      have r0 := root_million (c := m) (by omega)
      have r1 := root_lt (n := 1048576 * m) (by omega)
      obtain ⟨k, hk⟩ : ∃ k, 1048576 * m = k := ⟨_, rfl⟩
      have k1 : (1048576 : Int) * (m : Int) = (k : Int) := by omega
      have k2 : k < 18446744073709551616 := by omega
      rw [hk] at CR r0 r1 ⊢
      clear hk e0
      generalize rootN k = r at *
      have z0 : ¬ (r : Int) = 0 := by omega
      have z1 : ((n : Int) * 1024).tdiv (r : Int) = (((n * 1024) / r : Nat) : Int) := by
        rw [Int.tdiv_eq_ediv_of_nonneg (by omega), Int.natCast_ediv, Int.natCast_mul]; rfl
      have q1 : n * 1024 / r ≤ 1024000000 := Nat.le_trans (Nat.div_le_self _ _) (by omega)
      generalize (n * 1024) / r = q at *
      go_enter Try.func6, Try.ntmps6
      go_wp2_with fail
      refine (CM.out _).mono ?_
      rintro e w' ⟨rfl, rfl⟩
      rw [eI]
      go_wp2_with fail
      refine (CM.out _).mono ?_
      rintro e w' ⟨rfl, rfl⟩
      rw [ec]
      go_wp2_with fail
      refine CR.out.mono ?_
      rintro e w' ⟨rfl, rfl⟩
      go_wp2_with fail
      go_ret
      exact ⟨rfl, rfl⟩
    · have e0 : pauseZ I c = 0 := if_neg (fun h => hc h.2)
      rw [e0]
      have eI : decide (mayB I) = true := decide_eq_true hI
      have ec : decide (mayB c) = false := decide_eq_false hc
      go_enter Try.func6, Try.ntmps6
      go_wp2_with fail
      refine (CM.out _).mono ?_
      rintro e w' ⟨rfl, rfl⟩
      rw [eI]
      go_wp2_with fail
      refine (CM.out _).mono ?_
      rintro e w' ⟨rfl, rfl⟩
      rw [ec]
      go_wp2_with fail
      go_ret
      exact ⟨rfl, rfl⟩
  · have e0 : pauseZ I c = 0 := if_neg (fun h => hI h.1)
    rw [e0]
    have eI : decide (mayB I) = false := decide_eq_false hI
    go_enter Try.func6, Try.ntmps6
    go_wp2_with fail
    refine (CM.out _).mono ?_
    rintro e w' ⟨rfl, rfl⟩
    rw [eI]
    go_wp2_with fail
    go_ret
    exact ⟨rfl, rfl⟩
end Go.Proofs.Ytljklehlmahbgaa
