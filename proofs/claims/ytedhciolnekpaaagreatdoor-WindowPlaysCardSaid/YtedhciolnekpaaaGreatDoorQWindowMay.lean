/-
  Layer 20 (window), the program's: whether a value may be added.
-/
import Derived.Test.YtedhciolnekpaaaGreatDoorGrpB
import Derived.Test.YtedhciolnekpaaaGreatDoorGrpG
namespace Go.Proofs.YtedhciolnekpaaaGreatDoor
open Go.ChangeShapes Go.WideShapes Go.ChangeAt Go.RowKit
set_option linter.unusedVariables false

theorem ask_cases {ok : Bool} {kd time : Int} (h : ¬ AskT ok kd time) : kd < 1 ∨ (¬ kd < 1 ∧ 3 < kd) ∨ (¬ kd < 1 ∧ ¬ 3 < kd ∧ time < 0) ∨ (¬ kd < 1 ∧ ¬ 3 < kd ∧ ¬ time < 0 ∧ 1099511627776 < time) ∨ (¬ kd < 1 ∧ ¬ 3 < kd ∧ ¬ time < 0 ∧ ¬ 1099511627776 < time ∧ ok = false) := by
  by_cases a : kd < 1
  · exact .inl a
  by_cases b : 3 < kd
  · exact .inr (.inl ⟨a, b⟩)
  by_cases c : time < 0
  · exact .inr (.inr (.inl ⟨a, b, c⟩))
  by_cases d : 1099511627776 < time
  · exact .inr (.inr (.inr (.inl ⟨a, b, c, d⟩)))
  cases ok with
  | false => exact .inr (.inr (.inr (.inr ⟨a, b, c, d, rfl⟩)))
  | true => exact absurd ⟨rfl, by omega, by omega, by omega, by omega⟩ h
def MayP (w : World) (b : Bool) (e : Ending) (w' : World) : Prop := e = .returned (.bool b) ∧ Below w.heap.size w w'
set_option maxHeartbeats 1000000 in
set_option maxRecDepth 100000 in
theorem may_yes (w : World) (key : ByteArray) (kd time : Int) (hL : Laid w) (h : AskT (keyOk key) kd time) :
    Calls Tryz.prog 28 #[.string key, .int .i64 kd, .int .i64 time] w (MayP w true) := by
  have CG := Lib.hid (seriesOfGood key w hL h.o)
  unfold OfGood at CG
  unfold MayP
  have y1 : ¬ kd < 1 := by have := h.k1; omega
  have y2 : ¬ 3 < kd := by have := h.k3; omega
  have y3 : ¬ time < 0 := by have := h.t0; omega
  have y4 : ¬ 1099511627776 < time := by have := h.t1; omega
  clear h hL
  go_enter Tryz.func28, Tryz.ntmps28
  go_wp2_with fail
  refine CG.out.mono ?_
  rintro e w1 ⟨n, A, ln, c, rfl, b1⟩
  have B1 := Lib.hid b1
  unfold evVal
  clear b1 CG
  go_wp2_with fail
  go_ret
  exact ⟨rfl, B1.out.trans (((Below.refl _ w1).alloc (Nat.le_refl _) _).mono B1.out.size)⟩
set_option maxHeartbeats 1000000 in
set_option maxRecDepth 100000 in
theorem may_no (w : World) (key : ByteArray) (kd time : Int) (hL : Laid w) (hs : key.size ≤ 9223372036854775807) (h : ¬ AskT (keyOk key) kd time) :
    Calls Tryz.prog 28 #[.string key, .int .i64 kd, .int .i64 time] w (MayP w false) := by
  unfold MayP
  rcases ask_cases h with y1 | ⟨y1, y2⟩ | ⟨y1, y2, y3⟩ | ⟨y1, y2, y3, y4⟩ | ⟨y1, y2, y3, y4, y5⟩
  case inr.inr.inr.inr =>
    have CG := Lib.hid (seriesOfBad key w hL hs y5)
    unfold OfBad at CG
    clear h hL hs y5
    go_enter Tryz.func28, Tryz.ntmps28
    go_wp2_with fail
    refine CG.out.mono ?_
    rintro e w1 ⟨rfl, b1⟩
    have B1 := Lib.hid b1
    unfold evZero evVal
    clear b1 CG
    go_wp2_with fail

    go_ret
    exact ⟨rfl, B1.out.trans (((Below.refl _ w1).alloc (Nat.le_refl _) _).mono B1.out.size)⟩
  all_goals
    clear h hL hs
    go_enter Tryz.func28, Tryz.ntmps28
    go_wp2_with fail
    go_ret
    exact ⟨rfl, Below.refl _ _⟩
end Go.Proofs.YtedhciolnekpaaaGreatDoor
