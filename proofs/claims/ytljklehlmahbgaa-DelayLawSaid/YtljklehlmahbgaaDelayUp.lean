/-
  Layer 11 (delay): the head of its laws.
-/
import Derived.Test.YtljklehlmahbgaaDelayAsk
import Derived.Test.YtljklehlmahbgaaEqlCode
namespace Go.Proofs.Ytljklehlmahbgaa
open Go.ChangeShapes Go.WideShapes Go.ChangeAt Go.RowKit
set_option linter.unusedVariables false

theorem ask_first : askP 5 100 Cs.calm 0 9 = (false, ⟨1, 0, 100, 0, 0⟩) := rfl
theorem ask_second : ∃ s, askP 5 100 ⟨1, 0, 100, 0, 0⟩ 100 9 = (true, s) ∧ s.count = 1 := by
  refine ⟨⟨2, 100, 100, 100 + pauseZ 100 1, 1⟩, ?_, rfl⟩
  · unfold askP
    rw [if_neg (by decide), if_neg (by decide), if_neg (by decide), if_pos (by decide)]
    unfold beginP
    rw [if_neg (by decide)]
    have e : beginC 100 ({ is := 1, last := 100, till := 100, next := 0, count := 0 } : Cs) 100 = 1 := by decide
    show (true, ({ is := 2, last := 100, till := 100, next := 100 + pauseZ 100 (beginC 100 { is := 1, last := 100, till := 100, next := 0, count := 0 } 100), count := beginC 100 { is := 1, last := 100, till := 100, next := 0, count := 0 } 100 } : Cs)) = _
    rw [e]
theorem root_ten : rootN 10 = 3 := by decide
set_option maxRecDepth 100000 in
set_option maxHeartbeats 1000000 in
theorem up_delay (w : World) : Calls Try.prog 4 #[] w (Holds w) := by
  have CN := Lib.hid (fun w => new_good w 5 100 (by decide) (by decide))
  have CB := Lib.hid (fun w => new_bad w 0 1 (.inl (by decide)))
  have CP := Lib.hid (fun w => pause_walk w 100 4 (by decide) (by decide) (by decide) (by decide))
  rw [pauseZ_four] at CP
  have CR := Lib.hid (fun w => root_walk w 10 (by decide))
  rw [root_ten] at CR
  unfold errD at CB
  have eqc := eql_codes
  go_enter Try.func4, Try.ntmps4
  go_wp2_with fail
  refine (CN.out _).mono ?_
  rintro e w1 ⟨rfl, h1, b1⟩
  have B1 := Lib.hid (And.intro b1 (Nat.le_trans (Nat.le_refl _) b1.size))
  have A1 := Lib.hid (ask_walk h1 (by decide) CsOk.calm 0 9 (by decide) (by decide) (by decide) (by decide))
  rw [ask_first] at A1
  obtain ⟨N, hN⟩ : ∃ N, w.heap.size = N := ⟨_, rfl⟩
  have HN := Lib.hid hN
  rw [hN] at B1 A1 ⊢
  clear hN
  clear CN h1 b1
  go_wp2_with fail
  refine (CB.out _).mono ?_
  rintro e w2 ⟨rfl, rfl⟩
  clear CB
  go_wp2_with fail
  refine A1.out.mono ?_
  rintro e w2 ⟨rfl, m2⟩
  have A2 := Lib.hid (ask_walk m2.ct (by decide) (by constructor <;> decide) 100 9 (by decide) (by decide) (by decide) (by decide))
  obtain ⟨s3, e3, hc3⟩ := ask_second
  rw [e3] at A2
  have B2 := Lib.hid m2.kp
  have E3 := Lib.hid hc3
  clear A1 m2 e3 hc3
  go_wp2_with fail
  refine A2.out.mono ?_
  rintro e w3 ⟨rfl, m3⟩
  have C3 := Lib.hid (count_walk m3.ct)
  rw [E3.out] at C3
  have B3 := Lib.hid m3.kp
  clear A2 m3 E3
  go_wp2_with fail
  refine (CP.out _).mono ?_
  rintro e w4 ⟨rfl, rfl⟩
  go_wp2_with fail
  refine (CR.out _).mono ?_
  rintro e w4 ⟨rfl, rfl⟩
  go_wp2_with fail
  refine C3.out.mono ?_
  rintro e w4 ⟨rfl, rfl⟩
  go_wp2_with fail
  go_ret
  exact ⟨rfl, HN.out.symm ▸ B1.out.1.trans ((B2.out.trans B3.out (fun g e => .inl e)).below (fun g e => by subst e; exact Nat.le_refl _) B1.out.2)⟩
end Go.Proofs.Ytljklehlmahbgaa
