/-
  Layer 16 (level): the head of its laws.
-/
import Derived.Test.YtppffnfldgoknaaLevelTell
import Derived.Test.YtppffnfldgoknaaEqlCode
namespace Go.Proofs.Ytppffnfldgoknaa
open Go.ChangeShapes Go.WideShapes Go.ChangeAt Go.RowKit
set_option linter.unusedVariables false

theorem good_first : GoodL 2 1 3 1 := ⟨by decide, by decide, by decide, by decide, by decide, by decide, by decide⟩
theorem bad_first : ¬ GoodL 0 1 3 1 := fun h => by have := h.n1; omega
theorem tell_first : tellL 2 1 3 1 ⟨0, 0⟩ 4 = ⟨1, 0⟩ := rfl
theorem tell_second : tellL 2 1 3 1 ⟨1, 0⟩ 0 = ⟨0, 0⟩ := rfl
set_option maxRecDepth 100000 in
set_option maxHeartbeats 1000000 in
theorem up_level (w : World) : Calls Try.prog 5 #[] w (Holds w) := by
  have CN := Lib.hid (fun w => new_good w 2 1 3 1 1 good_first (by decide))
  have CB := Lib.hid (fun w => new_bad w 0 1 3 1 bad_first)
  unfold errL at CB
  have eqc := eql_codes
  go_enter Try.func5, Try.ntmps5
  go_wp2_with fail
  refine (CN.out _).mono ?_
  rintro e w1 ⟨rfl, h1, b1⟩
  have B1 := Lib.hid (And.intro b1 (Nat.le_trans (Nat.le_refl _) b1.size))
  have A1 := Lib.hid (tell_walk h1 good_first (LsOk.calm good_first) (by decide) 4)
  rw [tell_first] at A1
  obtain ⟨N, hN⟩ : ∃ N, w.heap.size = N := ⟨_, rfl⟩
  have HN := Lib.hid hN
  rw [hN] at B1 A1 ⊢
  clear hN
  clear CN h1 b1
  go_wp2_with fail
  refine (CB.out _).mono ?_
  rintro e w2 ⟨rfl, rfl⟩
  clear CB
  go_wp2_with fail
  refine A1.out.mono ?_
  rintro e w2 ⟨rfl, m2⟩
  have A2 := Lib.hid (tell_walk m2.gp good_first (N := 2) ⟨by decide, by decide, by decide, by decide⟩ (by decide) 0)
  rw [tell_second] at A2
  have B2 := Lib.hid m2.kp
  clear A1 m2
  go_wp2_with fail
  refine A2.out.mono ?_
  rintro e w3 ⟨rfl, m3⟩
  have C3 := Lib.hid (level_walk m3.gp)
  have B3 := Lib.hid m3.kp
  clear A2 m3
  dsimp only at C3
  go_wp2_with fail
  refine C3.out.mono ?_
  rintro e w4 ⟨rfl, rfl⟩
  go_wp2_with fail
  go_ret
  exact ⟨rfl, HN.out.symm ▸ B1.out.1.trans ((B2.out.trans B3.out (fun g e => .inl e)).below (fun g e => by subst e; exact Nat.le_refl _) B1.out.2)⟩
end Go.Proofs.Ytppffnfldgoknaa
