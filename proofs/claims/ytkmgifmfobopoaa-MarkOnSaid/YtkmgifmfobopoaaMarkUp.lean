/-
  Layer 19 (mark): the head of its laws.
-/
import Derived.Test.YtkmgifmfobopoaaMarkDo
import Derived.Test.YtkmgifmfobopoaaEqlCode
namespace Go.Proofs.Ytkmgifmfobopoaa
open Go.ChangeShapes Go.WideShapes Go.ChangeAt Go.RowKit
set_option linter.unusedVariables false

theorem good_first : GoodM 5 10 := ⟨⟨by decide, by decide⟩, ⟨by decide, by decide⟩, by decide⟩
theorem bad_first : ¬ GoodM (-1) 10 := fun h => by have := h.l.n0; omega
theorem see_first : seeM Mk.new 0 20 = ⟨true, 20, 0, 0⟩ := rfl
theorem sees_first : decide (SeesM Mk.new 0 20) = true := rfl
theorem ok_first : MkOk ⟨true, 20, 0, 0⟩ := see_first ▸ MkOk.new.see 0 20
theorem tick_first : tickM 10 ⟨true, 20, 0, 0⟩ 10 = ⟨true, 30, 0, 10⟩ := rfl
theorem fair_first : decide (FairM ⟨true, 20, 0, 0⟩ 10) = true := rfl
theorem ok_second : MkOk ⟨true, 30, 0, 10⟩ := tick_first ▸ ok_first.tick 10 10
theorem stand_first : standM 5 ⟨true, 20, 0, 0⟩ = 15 := rfl
theorem stand_second : standM 5 ⟨true, 30, 0, 10⟩ = 25 := rfl
set_option maxRecDepth 100000 in
set_option maxHeartbeats 1000000 in
theorem up_mark (w : World) : Calls Try.prog 5 #[] w (Holds w) := by
  have CN := Lib.hid (fun w => new_good w good_first)
  have CB := Lib.hid (fun w => new_bad w bad_first)
  unfold errM at CB
  have eqc := eql_codes
  go_enter Try.func5, Try.ntmps5
  go_wp2_with fail
  refine (CN.out _).mono ?_
  rintro e w1 ⟨rfl, h1, b1⟩
  have B1 := Lib.hid (And.intro b1 (Nat.le_trans (Nat.le_refl _) b1.size))
  have A1 := Lib.hid (see_walk h1 0 20)
  unfold Said at A1
  rw [sees_first, see_first] at A1
  obtain ⟨N, hN⟩ : ∃ N, w.heap.size = N := ⟨_, rfl⟩
  have HN := Lib.hid hN
  rw [hN] at B1 A1 ⊢
  clear hN
  clear CN h1 b1
  go_wp2_with fail
  refine (CB.out _).mono ?_
  rintro e w2 ⟨rfl, rfl⟩
  clear CB
  go_wp2_with fail
  refine A1.out.mono ?_
  rintro e w2 ⟨rfl, m2⟩
  have C2 := Lib.hid (at_walk m2.gp ok_first good_first)
  rw [stand_first] at C2
  have A2 := Lib.hid (fun n => tick_walk (m2.gp.drewN n) ok_first good_first 10)
  unfold Said at A2
  rw [fair_first, tick_first] at A2
  have B2 := Lib.hid m2.kp
  clear A1 m2
  go_wp2_with fail
  refine C2.out.mono ?_
  rintro e w3 ⟨rfl, n, rfl⟩
  go_wp2_with fail
  refine (A2.out n).mono ?_
  rintro e w3 ⟨rfl, m3⟩
  have C3 := Lib.hid (at_walk m3.gp ok_second good_first)
  rw [stand_second] at C3
  have B3 := Lib.hid m3.kp
  clear A2 m3
  go_wp2_with fail
  refine C3.out.mono ?_
  rintro e w4 ⟨rfl, k, rfl⟩
  go_wp2_with fail
  go_ret
  exact ⟨rfl, HN.out.symm ▸ B1.out.1.trans (((B2.out.drewN n).trans (B3.out.drewN k) (fun g e => .inl e)).below (fun g e => by subst e; exact Nat.le_refl _) B1.out.2)⟩
end Go.Proofs.Ytkmgifmfobopoaa
