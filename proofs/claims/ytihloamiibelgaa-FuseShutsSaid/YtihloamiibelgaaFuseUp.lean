/-
  Layer 23 (fuse): the head of its laws.
-/
import Derived.Test.YtihloamiibelgaaFuseAsk
import Derived.Test.YtihloamiibelgaaEqlCode
namespace Go.Proofs.Ytihloamiibelgaa
open Go.ChangeShapes Go.WideShapes Go.ChangeAt Go.RowKit
set_option linter.unusedVariables false

theorem good_fuse : GoodF 1 5 := ⟨by decide, by decide, by decide, by decide⟩
theorem bad_fuse : ¬ GoodF 0 5 := fun h => by have := h.b1; omega
set_option maxRecDepth 100000 in
set_option maxHeartbeats 1000000 in
theorem up_fuse (w : World) : Calls Try.prog 5 #[] w (Holds w) := by
  have CN := Lib.hid (fun w => newF_good w 1 5 good_fuse)
  have CB := Lib.hid (fun w => newF_bad w 0 5 bad_fuse)
  unfold errF at CB
  have eqc := eql_codes
  have CD : Hid (∀ (w : World) (a : Nat), Fb 44 w a 1 5 Fz.new → Calls Try.prog 13 #[.pointer (some ⟨a, 0, none⟩), .int .i64 0] w fun e w' => e = .returned (.tuple #[]) ∧ Mf 44 w w' a 1 5 ⟨1, 1, 0⟩) :=
    Lib.hid (fun w a h => bad_walk h good_fuse (FzOk.new good_fuse) 0 (by decide) (by decide))
  have K1 : FzOk 1 ⟨1, 1, 0⟩ := ⟨by decide, by decide, (fun e => by cases e), by show WiF 0; unfold WiF; decide⟩
  have K2 : FzOk 1 ⟨2, 1, 0⟩ := ⟨by decide, by decide, (fun e => by cases e), by show WiF 0; unfold WiF; decide⟩
  have CA : Hid (∀ (w : World) (a : Nat), Fb 44 w a 1 5 ⟨1, 1, 0⟩ → Calls Try.prog 9 #[.pointer (some ⟨a, 0, none⟩), .int .i64 4] w fun e w' => e = .returned (.iface 32 (.int .i64 9)) ∧ Mf 44 w w' a 1 5 ⟨1, 1, 0⟩) :=
    Lib.hid (fun w a h => by have := ask_walk h good_fuse K1 4 (by decide) (by decide); rwa [askV_no (by decide)] at this)
  have CY : Hid (∀ (w : World) (a : Nat), Fb 44 w a 1 5 ⟨1, 1, 0⟩ → Calls Try.prog 9 #[.pointer (some ⟨a, 0, none⟩), .int .i64 5] w fun e w' => e = .returned .nilIface ∧ Mf 44 w w' a 1 5 ⟨2, 1, 0⟩) :=
    Lib.hid (fun w a h => by have := ask_walk h good_fuse K1 5 (by decide) (by decide); rwa [askV_yes (by decide)] at this)
  have CZ : Hid (∀ (w : World) (a : Nat), Fb 44 w a 1 5 ⟨2, 1, 0⟩ → Calls Try.prog 9 #[.pointer (some ⟨a, 0, none⟩), .int .i64 5] w fun e w' => e = .returned (.iface 32 (.int .i64 9)) ∧ Mf 44 w w' a 1 5 ⟨2, 1, 0⟩) :=
    Lib.hid (fun w a h => by have := ask_walk h good_fuse K2 5 (by decide) (by decide); rwa [askV_no (by decide)] at this)
  clear K1 K2
  go_enter Try.func5, Try.ntmps5
  go_wp2_with fail
  refine (CN.out _).mono ?_
  rintro e w1 ⟨rfl, h1, b1⟩
  have H1 := Lib.hid h1
  have B1 := Lib.hid b1
  obtain ⟨N, hN⟩ : ∃ N, w.heap.size = N := ⟨_, rfl⟩
  have HN := Lib.hid hN
  rw [hN] at H1 B1 ⊢
  clear hN CN h1 b1
  go_wp2_with fail
  refine (CB.out _).mono ?_
  rintro e w2 ⟨rfl, rfl⟩
  clear CB
  go_wp2_with fail
  refine (CD.out _ _ H1.out).mono ?_
  rintro e w2 ⟨rfl, m2⟩
  have M2 := Lib.hid m2
  clear m2
  go_wp2_with fail
  refine (CA.out _ _ M2.out.f).mono ?_
  rintro e w3 ⟨rfl, m3⟩
  have M3 := Lib.hid m3
  clear m3
  go_wp2_with fail
  refine (CY.out _ _ M3.out.f).mono ?_
  rintro e w4 ⟨rfl, m4⟩
  have M4 := Lib.hid m4
  clear m4
  go_wp2_with fail
  refine (CZ.out _ _ M4.out.f).mono ?_
  rintro e w5 ⟨rfl, m5⟩
  have M5 := Lib.hid m5
  clear m5
  go_wp2_with fail
  refine (state_walk M5.out.f).mono ?_
  rintro e w6 ⟨rfl, rfl⟩
  go_wp2_with fail
  go_ret
  exact ⟨rfl, HN.out.symm ▸ B1.out.trans (((M2.out.kp.trans M3.out.kp (fun g e => .inl e)).trans (M4.out.kp.trans M5.out.kp (fun g e => .inl e)) (fun g e => .inl e)).below (fun g e => by subst e; exact Nat.le_refl _) (Nat.le_trans (Nat.le_of_eq HN.out.symm) B1.out.size))⟩
end Go.Proofs.Ytihloamiibelgaa
