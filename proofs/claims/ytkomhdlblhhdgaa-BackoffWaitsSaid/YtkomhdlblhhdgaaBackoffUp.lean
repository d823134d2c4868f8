/-
  Layer 22 (backoff): the head of its laws.
-/
import Derived.Test.YtkomhdlblhhdgaaBackoffMem
import Derived.Test.YtkomhdlblhhdgaaEqlCode
namespace Go.Proofs.Ytkomhdlblhhdgaa
open Go.ChangeShapes Go.WideShapes Go.ChangeAt Go.RowKit
set_option linter.unusedVariables false

theorem good_first : GoodB 2 10 := ⟨by decide, by decide, by decide⟩
theorem bad_first : ¬ GoodB 3 2 := fun h => by have := h.bl; omega
set_option maxRecDepth 100000 in
set_option maxHeartbeats 1000000 in
theorem up_backoff (w : World) : Calls Try.prog 5 #[] w (Holds w) := by
  have CN := Lib.hid (fun w => newB_good w 2 10 good_first)
  have CB := Lib.hid (fun w => newB_bad w 3 2 bad_first)
  unfold errB at CB
  have eqc := eql_codes
  have CF : Hid (∀ (w : World) (a : Nat) (n : Nat) (v : Int), Wp w a 2 10 n → n ≤ 1000 → jitZ 0 (bwZ 2 10 n) = v → Calls Try.prog 9 #[.pointer (some ⟨a, 0, none⟩), .int .i64 0] w fun e w' => e = .returned (.int .i64 v) ∧ Mwp w w' a 2 10 (n + 1)) :=
    Lib.hid (fun w a n v h hn e => by have := fail_walk h good_first hn 0 (by decide) (by decide); rwa [e] at this)
  go_enter Try.func5, Try.ntmps5
  go_wp2_with fail
  refine (CN.out _).mono ?_
  rintro e w1 ⟨rfl, h1, b1⟩
  have H1 := Lib.hid h1
  have B1 := Lib.hid b1
  obtain ⟨N, hN⟩ : ∃ N, w.heap.size = N := ⟨_, rfl⟩
  have HN := Lib.hid hN
  rw [hN] at H1 B1 ⊢
  clear hN CN h1 b1
  go_wp2_with fail
  refine (CB.out _).mono ?_
  rintro e w2 ⟨rfl, rfl⟩
  clear CB
  go_wp2_with fail
  refine (CF.out _ _ 0 2 H1.out (by decide) rfl).mono ?_
  rintro e w2 ⟨rfl, m2⟩
  have M2 := Lib.hid m2
  clear m2
  go_wp2_with fail
  refine (CF.out _ _ 1 4 M2.out.p (by decide) rfl).mono ?_
  rintro e w3 ⟨rfl, m3⟩
  have M3 := Lib.hid m3
  clear m3
  go_wp2_with fail
  refine (CF.out _ _ 2 8 M3.out.p (by decide) rfl).mono ?_
  rintro e w4 ⟨rfl, m4⟩
  have M4 := Lib.hid m4
  clear m4
  go_wp2_with fail
  refine (CF.out _ _ 3 10 M4.out.p (by decide) rfl).mono ?_
  rintro e w5 ⟨rfl, m5⟩
  have M5 := Lib.hid m5
  clear m5
  go_wp2_with fail
  refine (fails_walk M5.out.p).mono ?_
  rintro e w6 ⟨rfl, rfl⟩
  go_wp2_with fail
  go_ret
  exact ⟨rfl, HN.out.symm ▸ B1.out.trans (((M2.out.kp.trans M3.out.kp (fun g e => .inl e)).trans (M4.out.kp.trans M5.out.kp (fun g e => .inl e)) (fun g e => .inl e)).below (fun g e => by subst e; exact Nat.le_refl _) (Nat.le_trans (Nat.le_of_eq HN.out.symm) B1.out.size))⟩
end Go.Proofs.Ytkomhdlblhhdgaa
