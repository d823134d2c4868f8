/-
  Layer 17 (ledger): the head of its laws.
-/
import Derived.Test.YthadgficphkpkaaLedgerOpen
import Derived.Test.YthadgficphkpkaaEqlCode
namespace Go.Proofs.Ythadgficphkpkaa
open Go.ChangeShapes Go.WideShapes Go.ChangeAt Go.RowKit
set_option linter.unusedVariables false

theorem one_cm : (Bk.new.come 1).cm 1 = 1 := rfl
theorem one_tot : (Bk.new.come 1).tot 1 = 0 := rfl
theorem one_en (r : Int) : (Bk.new.come 1).en 1 r = 0 := rfl
theorem has_one : HasC 2 1 := ⟨by decide, by decide⟩
theorem has_two : ¬ HasC 2 2 := fun h => by have := h.2; omega
set_option maxRecDepth 100000 in
set_option maxHeartbeats 1000000 in
theorem up_ledger (w : World) : Calls Try.prog 5 #[] w (Holds w) := by
  have CN := Lib.hid (fun w => new_good w 1 2 (by decide) (by decide) (by decide))
  unfold Newed at CN
  have CB := Lib.hid (fun w => new_bad w 0 (by decide))
  unfold errD at CB
  have eqc := eql_codes
  go_enter Try.func5, Try.ntmps5
  go_wp2_with fail
  refine (CN.out _).mono ?_
  rintro e w1 ⟨a, g, rfl, h1, ha, hg, b1⟩
  have B1 := Lib.hid b1
  have HG := Lib.hid hg
  have C1 := Lib.hid (come_good h1 has_one (by decide) (by decide))
  unfold NoteGood at C1
  clear CN h1 b1 ha hg
  go_wp2_with fail
  refine (CB.out _).mono ?_
  rintro e w2 ⟨rfl, rfl⟩
  clear CB
  go_wp2_with fail
  refine C1.out.mono ?_
  rintro e w2 ⟨rfl, m2⟩
  have C2 := Lib.hid (come_bad m2.lg has_two)
  unfold NoteBad errD at C2
  have C3 := Lib.hid (open_walk m2.lg has_one (one_en 0) (fun r => by rw [one_en]; decide) (by decide) (by decide))
  unfold Opens at C3
  rw [one_cm, one_tot, if_pos (by decide), decide_eq_true (by decide)] at C3
  have C4 := Lib.hid (received_walk m2.lg 1 (fun e => absurd has_one e))
  rw [one_cm] at C4
  have B2 : Hid (Below w.heap.size w w2) := Lib.hid (B1.out.trans (m2.kp.below (fun k e => by subst e; exact HG.out) B1.out.size))
  clear C1 m2 B1
  go_wp2_with fail
  refine C2.out.mono ?_
  rintro e w3 ⟨rfl, rfl⟩
  go_wp2_with fail
  refine C3.out.mono ?_
  rintro e w3 ⟨rfl, rfl⟩
  go_wp2_with fail
  refine C4.out.mono ?_
  rintro e w4 ⟨rfl, rfl⟩
  go_wp2_with fail
  go_ret
  exact ⟨rfl, B2.out⟩
end Go.Proofs.Ythadgficphkpkaa
